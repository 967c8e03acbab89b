/- The law LinkSends walked. -/
import Derived.Test.YtacpejoablcffaaEi
namespace Go.Proofs.Ytacpejoablcffaa
open Go.RowKit Go.Lib

/-- What Send's results are. -/
def outS (r : Except Int (Lk × List Fc × List Int)) : Lk × List Fc × List Int × Int := match r with
  | .error er => (⟨0, 0, 0, false, 0, 0⟩, [], [], er)
  | .ok (s, l, ch) => (s, l, ch, 0)
theorem ints_nil (w : World) : Ints w (.slice none 0 0) [] := ⟨fun x hx => (by cases hx), nilOk_nil, arr_nil _ _⟩
theorem send_out {w w' : World} {r : Except Int (Lk × List Fc × List Int)} {e : Ending} (h : SendQ w r e w') (h64 : ∀ x ∈ (outS r).2.2.1, R64 x) :
    ∃ (fv cv : Value) (vs : List Fl), e = .returned (.tuple #[vLk (outS r).1 fv, cv, .int .i64 (outS r).2.2.2]) ∧ FL w' fv vs ∧ vs.map core = (outS r).2.1 ∧ Ints w' cv (outS r).2.2.1 ∧ Below w.heap.size w w' := by
  obtain ⟨hb, ⟨er, rfl, _, rfl⟩ | ⟨s, l, ch, v, cv, rfl, rfl, ⟨fv, vs, rfl, h3, h4, h5⟩, h6⟩⟩ := h
  · exact ⟨_, _, [], rfl, fl_none0 _, rfl, ints_nil _, hb⟩
  · exact ⟨_, _, vs, rfl, fl_of_own h3 rfl h5, h4, ints_of_own h6 h64, hb⟩
theorem rsend_out {w w' : World} {r : Except Int (Lk × List Fc × List Int)} {e : Ending} (h : RSendQ w r e w') :
    ∃ (fv cv : Value) (vs : List Fl), e = .returned (.tuple #[vLk (outS r).1 fv, cv, .int .i64 (outS r).2.2.2]) ∧ FL w' fv vs ∧ vs.map core = (outS r).2.1 ∧ Ints w' cv (outS r).2.2.1 ∧ Below w.heap.size w w' := by
  obtain ⟨hb, ⟨er, rfl, _, rfl⟩ | ⟨s, l, ch, fv, cv, vs, rfl, rfl, h3, h4, h5⟩⟩ := h
  · exact ⟨_, _, [], rfl, fl_none0 _, rfl, ints_nil _, hb⟩
  · exact ⟨_, _, vs, rfl, h3, h4, h5, hb⟩
theorem out_mem {s : Lk} {l : List Fc} {now : Int} {p : List Nat} {ch : List Int} : ∀ x ∈ (outS (sendS s l now p ch)).2.2.1, x ∈ ch := by
  intro x hx
  unfold sendS at hx
  split at hx
  · cases hx
  · split at hx
    · cases hx
    · split at hx
      · cases hx
      · split at hx
        · exact hx
        · split at hx
          · cases hx
          · split at hx
            · cases hx
            · exact List.mem_of_mem_drop hx
theorem out_len {s : Lk} {l : List Fc} {now : Int} {p : List Nat} {ch : List Int} : (outS (sendS s l now p ch)).2.1.length ≤ l.length + 2 ∧ (outS (sendS s l now p ch)).2.2.1.length ≤ ch.length := by
  have ha := arr_le ch
  unfold sendS
  split
  · exact ⟨Nat.zero_le _, Nat.zero_le _⟩
  · split
    · exact ⟨Nat.zero_le _, Nat.zero_le _⟩
    · split
      · exact ⟨Nat.zero_le _, Nat.zero_le _⟩
      · split
        · exact ⟨Nat.le_add_right _ _, Nat.le_refl _⟩
        · split
          · exact ⟨Nat.zero_le _, Nat.zero_le _⟩
          · split
            · exact ⟨Nat.zero_le _, Nat.zero_le _⟩
            · refine ⟨?_, ?_⟩
              · show (lau _ _ _ _ _).length ≤ _
                rw [lau_len, dls_len]
                omega
              · show (ch.drop _).length ≤ _
                rw [List.length_drop]
                omega
theorem map_cores' {l : List Fl} {r : List Fc} (h : l.map core = r) : l.length = r.length := by rw [← h, List.length_map]
theorem few_len2 {l : List Fl} (h : fewP l) : l.length ≤ 40 ∧ ∀ x ∈ l, x.p.length ≤ 100 := by
  refine ⟨h.2, fun x hx => ?_⟩
  obtain ⟨i, hi⟩ := List.getElem?_of_mem hx
  have h1 := (List.getElem?_eq_some_iff.1 hi).1
  exact h.1 i x (by have := h.2; omega) hi
set_option maxHeartbeats 8000000 in
set_option maxRecDepth 100000 in
theorem sends_walk (s : Lk) (u : Value) (l : List Fl) (now : Int) (pv : Value) (p : List Nat) (ch : List Int) (cv : Value) (w : World) (hv : FL w u l) (hr : ∀ x ∈ l, R64 x.n) (hp : Byt w pv p) (hpn : NilOk pv) (hc : Ints w cv ch) :
    Calls Try.prog 4 #[vLk s u, .agg #[.int .i64 now, pv], cv] w (TrueQ w) := by
  obtain ⟨A, c, rfl⟩ := fl_form hv
  obtain ⟨pA, pc, rfl⟩ := byt_form hp
  obtain ⟨cA, cc, rfl⟩ := ints_form hc
  obtain ⟨N, hN⟩ : ∃ N, l.length = N := ⟨_, rfl⟩
  obtain ⟨M, hM⟩ : ∃ M, p.length = M := ⟨_, rfl⟩
  obtain ⟨C, hC⟩ : ∃ C, ch.length = C := ⟨_, rfl⟩
  rw [hN] at hv ⊢
  rw [hM] at hp hpn ⊢
  rw [hC] at hc ⊢
  obtain ⟨mn, mx, rt, dn, idle, next⟩ := s
  obtain ⟨g, hg⟩ : ∃ g, w.heap.size = g := ⟨_, rfl⟩
  obtain ⟨W1, hW1⟩ : ∃ X, (w.alloc (.cells #[.int .i64 mn, .int .i64 mx, .int .i64 rt, .bool dn, .int .i64 idle, .int .i64 next, .slice A N c] 26)).alloc (.cells #[.int .i64 now, .slice pA M pc] 39) = X := ⟨_, rfl⟩
  have hb1 : Below w.heap.size w W1 := by rw [← hW1]; exact ((Below.refl _ w).alloc (Nat.le_refl _) _).alloc (by simp) _
  have hx1 : W1.heap[g]? = some (.cells #[.int .i64 mn, .int .i64 mx, .int .i64 rt, .bool dn, .int .i64 idle, .int .i64 next, .slice A N c] 26) := by rw [← hW1, ← hg]; exact (Below.heap_alloc _ _ _ (by simp)).trans (heap_alloc_new w _)
  have hy1 : W1.heap[g + 1]? = some (.cells #[.int .i64 now, .slice pA M pc] 39) := by rw [← hW1, ← hg]; simpa using heap_alloc_new (w.alloc (.cells #[.int .i64 mn, .int .i64 mx, .int .i64 rt, .bool dn, .int .i64 idle, .int .i64 next, .slice A N c] 26)) (.cells #[.int .i64 now, .slice pA M pc] 39)
  have HFW := hid (few_dec ⟨mn, mx, rt, dn, idle, next⟩ l _ W1 (hv.below hb1))
  unfold vLk at HFW
  unfold vLk
  dsimp only
  have HV := hid hv
  have HP := hid hp
  have HPN := hid hpn
  have HC := hid hc
  have HN := hid hN
  have HM := hid hM
  have HCC := hid hC
  have HRR := hid hr
  have HB1 := hid hb1
  have HX1 := hid hx1
  have HY1 := hid hy1
  have HW1 := hid hW1
  have HG := hid hg
  have x0 := cell_of_row _ _ 0 _ _ _ HX1.out
  have x1 := cell_of_row _ _ 1 _ _ _ HX1.out
  have x2 := cell_of_row _ _ 2 _ _ _ HX1.out
  have x3 := cell_of_row _ _ 3 _ _ _ HX1.out
  have x4 := cell_of_row _ _ 4 _ _ _ HX1.out
  have x5 := cell_of_row _ _ 5 _ _ _ HX1.out
  have x6 := cell_of_row _ _ 6 _ _ _ HX1.out
  clear hv hp hpn hc hN hM hC hb1 hx1 hy1 hW1 hg hr
  go_enter Try.func4, Try.ntmps4
  go_upto_region 1 with fail
  rw [HW1.out, HG.out]
  go_wp2_with fail
  refine HFW.out.mono ?_
  rintro e w2 ⟨he, hb2⟩
  have HX2 := hid ((hb2.block _ (box_lt HX1.out)).trans HX1.out)
  have HY2 := hid ((hb2.block _ (box_lt HY1.out)).trans HY1.out)
  have HB2 := hid (HB1.out.trans (hb2.mono HB1.out.size))
  clear hb2 HFW x0 x1 x2 x3 x4 x5 x6
  have y1 := cell_of_row _ _ 1 _ _ _ HY2.out
  rcases he with ⟨rfl, hfp⟩ | ⟨rfl, _⟩
  rotate_left
  · have HAW := hid (awake_any w2)
    go_wp2_with fail
    refine HAW.out.mono ?_
    rintro e w3 ⟨rfl, hb3⟩
    go_wp2_with fail
    go_ret
    exact ⟨rfl, HB2.out.trans (hb3.mono HB2.out.size)⟩
  by_cases hM1 : 100 < M
  · have dM : decide ((100 : Int) < (M : Int)) = true := decide_eq_true (by omega)
    have HAW := hid (awake_any w2)
    clear hM1
    go_wp2_with fail
    refine HAW.out.mono ?_
    rintro e w3 ⟨rfl, hb3⟩
    go_wp2_with fail
    go_ret
    exact ⟨rfl, HB2.out.trans (hb3.mono HB2.out.size)⟩
  have dM : decide ((100 : Int) < (M : Int)) = false := decide_eq_false (by omega)
  by_cases hC1 : 20 < C
  · have dC : decide ((20 : Int) < (C : Int)) = true := decide_eq_true (by omega)
    have HAW := hid (awake_any w2)
    clear hM1 hC1
    go_wp2_with fail
    refine HAW.out.mono ?_
    rintro e w3 ⟨rfl, hb3⟩
    go_wp2_with fail
    go_ret
    exact ⟨rfl, HB2.out.trans (hb3.mono HB2.out.size)⟩
  have dC : decide ((20 : Int) < (C : Int)) = false := decide_eq_false (by omega)
  obtain ⟨hl40, hp100⟩ := few_len2 hfp
  obtain ⟨R0, hR0⟩ : ∃ R, sendS ⟨mn, mx, rt, dn, idle, next⟩ (l.map core) now p ch = R := ⟨_, rfl⟩
  have HMEM : Hid (∀ x ∈ (outS R0).2.2.1, R64 x) := hid (fun x hx => HC.out.1 x (by rw [← hR0] at hx; exact out_mem x hx))
  have HLEN : Hid ((outS R0).2.1.length ≤ 42 ∧ (outS R0).2.2.1.length ≤ 20) := hid (by
    have h := @out_len ⟨mn, mx, rt, dn, idle, next⟩ (l.map core) now p ch
    rw [hR0, List.length_map, HCC.out] at h
    omega)
  have HSD := hid (fun (X : World) (hX : Below w.heap.size w X) => send_any ⟨mn, mx, rt, dn, idle, next⟩ l _ now p _ ch _ X (HV.out.below hX) HRR.out (HP.out.below hX) HPN.out (HC.out.below hX) (by rw [HCC.out]; omega))
  have HRS := hid (fun (X : World) (hX : Below w.heap.size w X) => refSend_any ⟨mn, mx, rt, dn, idle, next⟩ l _ now p _ ch _ X (HV.out.below hX) (by omega) (fun x hx => by have := hp100 x hx; omega) (HP.out.below hX) HPN.out (HC.out.below hX) (by rw [HCC.out]; omega))
  rw [hR0] at HSD HRS
  have HSO := hid (fun (w w' : World) (e : Ending) (h : SendQ w R0 e w') => send_out h HMEM.out)
  have HRO := hid (fun (w w' : World) (e : Ending) (h : RSendQ w R0 e w') => rsend_out h)
  obtain ⟨⟨⟨a0, a1, a2, ad, ai, an⟩, al, ac, er⟩, ho⟩ : ∃ o, outS R0 = o := ⟨_, rfl⟩
  rw [ho] at HSO HRO HLEN
  dsimp only at HSO HRO HLEN
  unfold vLk at HSD HRS HSO HRO
  dsimp only at HSD HRS HSO HRO
  clear hl40 hp100 hfp hR0 ho HMEM hM1 hC1
  have x0 := cell_of_row _ _ 0 _ _ _ HX2.out
  have x1 := cell_of_row _ _ 1 _ _ _ HX2.out
  have x2 := cell_of_row _ _ 2 _ _ _ HX2.out
  have x3 := cell_of_row _ _ 3 _ _ _ HX2.out
  have x4 := cell_of_row _ _ 4 _ _ _ HX2.out
  have x5 := cell_of_row _ _ 5 _ _ _ HX2.out
  have x6 := cell_of_row _ _ 6 _ _ _ HX2.out
  have y0 := cell_of_row _ _ 0 _ _ _ HY2.out
  have HD2 := hid (HSD.out w2 HB2.out)
  go_upto_region 3 with fail
  go_wp2_with fail
  refine HD2.out.mono ?_
  rintro e w3 hs3
  obtain ⟨fv3, cv3, vs3, rfl, hf3, hc3, hi3, hb3⟩ := HSO.out _ _ _ hs3
  obtain ⟨f3, c3, rfl⟩ := fl_form hf3
  obtain ⟨iA3, ic3, rfl⟩ := ints_form hi3
  obtain ⟨q3, hq3⟩ : ∃ q, vs3.length = q := ⟨_, rfl⟩
  obtain ⟨i3, hi3'⟩ : ∃ q, ac.length = q := ⟨_, rfl⟩
  rw [hq3, hi3']
  rw [hq3] at hf3
  rw [hi3'] at hi3
  obtain ⟨p3, hp3⟩ : ∃ p, w3.heap.size = p := ⟨_, rfl⟩
  obtain ⟨W3, hW3⟩ : ∃ X, w3.alloc (.cells #[.int .i64 a0, .int .i64 a1, .int .i64 a2, .bool ad, .int .i64 ai, .int .i64 an, .slice f3 q3 c3] 26) = X := ⟨_, rfl⟩
  have hz3 : Below w3.heap.size w3 W3 := by rw [← hW3]; exact al1 _ _
  have HP3 : Hid (W3.heap[p3]? = some (.cells #[.int .i64 a0, .int .i64 a1, .int .i64 a2, .bool ad, .int .i64 ai, .int .i64 an, .slice f3 q3 c3] 26)) := hid (by rw [← hW3, ← hp3]; exact heap_alloc_new _ _)
  have hb3' := hb3.trans (hz3.mono hb3.size)
  have HX3 := hid ((hb3'.block _ (box_lt HX2.out)).trans HX2.out)
  have HY3 := hid ((hb3'.block _ (box_lt HY2.out)).trans HY2.out)
  have HB3 := hid (HB2.out.trans (hb3'.mono HB2.out.size))
  have HF3 := hid (hf3.below hz3)
  have HI3 := hid (hi3.below hz3)
  have HC3 := hid hc3
  have HQ3 := hid hq3
  have HIL := hid hi3'
  have HW3 := hid hW3
  have HPP := hid hp3
  clear hp3 hW3 hz3 hb3 hb3' HD2 x0 x1 x2 x3 x4 x5 x6 y0 y1 hf3 hc3 hi3 hq3 hi3' hs3
  have x0 := cell_of_row _ _ 0 _ _ _ HX3.out
  have x1 := cell_of_row _ _ 1 _ _ _ HX3.out
  have x2 := cell_of_row _ _ 2 _ _ _ HX3.out
  have x3 := cell_of_row _ _ 3 _ _ _ HX3.out
  have x4 := cell_of_row _ _ 4 _ _ _ HX3.out
  have x5 := cell_of_row _ _ 5 _ _ _ HX3.out
  have x6 := cell_of_row _ _ 6 _ _ _ HX3.out
  have y0 := cell_of_row _ _ 0 _ _ _ HY3.out
  have y1 := cell_of_row _ _ 1 _ _ _ HY3.out
  have HD3 := hid (HRS.out W3 HB3.out)
  go_upto_region 4 with fail
  rw [HW3.out, HPP.out]
  go_wp2_with fail
  refine HD3.out.mono ?_
  rintro e w4 hs4
  obtain ⟨fv4, cv4, vs4, rfl, hf4, hc4, hi4, hb4⟩ := HRO.out _ _ _ hs4
  obtain ⟨f4, c4, rfl⟩ := fl_form hf4
  obtain ⟨iA4, ic4, rfl⟩ := ints_form hi4
  obtain ⟨q4, hq4⟩ : ∃ q, vs4.length = q := ⟨_, rfl⟩
  rw [hq4, HIL.out]
  rw [hq4] at hf4
  rw [HIL.out] at hi4
  obtain ⟨q, hq⟩ : ∃ q, w4.heap.size = q := ⟨_, rfl⟩
  obtain ⟨W4, hW4⟩ : ∃ X, w4.alloc (.cells #[.int .i64 a0, .int .i64 a1, .int .i64 a2, .bool ad, .int .i64 ai, .int .i64 an, .slice f4 q4 c4] 26) = X := ⟨_, rfl⟩
  have hz4 : Below w4.heap.size w4 W4 := by rw [← hW4]; exact al1 _ _
  have hb4' := hb4.trans (hz4.mono hb4.size)
  have hq4' : W4.heap[q]? = some (.cells #[.int .i64 a0, .int .i64 a1, .int .i64 a2, .bool ad, .int .i64 ai, .int .i64 an, .slice f4 q4 c4] 26) := by rw [← hW4, ← hq]; exact heap_alloc_new _ _
  have hp4 := (hb4'.block _ (box_lt HP3.out)).trans HP3.out
  have HB4 := hid (HB3.out.trans (hb4'.mono HB3.out.size))
  have HSM := hid (fun (X : World) (hX : Below W4.heap.size W4 X) => same_any ⟨a0, a1, a2, ad, ai, an⟩ vs3 vs4 _ _ X ((HF3.out.below hb4').below hX) ((hf4.below hz4).below hX) (by have h := map_cores' HC3.out; have := HLEN.out.1; omega) (HC3.out.trans hc4.symm))
  have HSI := hid (fun (X : World) (hX : Below W4.heap.size W4 X) => sameInts_any ac _ _ X ((HI3.out.below hb4').below hX) ((hi4.below hz4).below hX) (by have := HLEN.out.2; omega))
  unfold vLk at HSM
  dsimp only at HSM
  have HK := hid (fun (X : World) (hX : Below W4.heap.size W4 X) => (show X.cell? ⟨p3, 0, none⟩ = some (.int .i64 a0) ∧ X.cell? ⟨p3, 1, none⟩ = some (.int .i64 a1) ∧ X.cell? ⟨p3, 2, none⟩ = some (.int .i64 a2) ∧ X.cell? ⟨p3, 3, none⟩ = some (.bool ad) ∧ X.cell? ⟨p3, 4, none⟩ = some (.int .i64 ai) ∧ X.cell? ⟨p3, 5, none⟩ = some (.int .i64 an) ∧ X.cell? ⟨p3, 6, none⟩ = some (.slice f3 q3 c3) ∧ X.cell? ⟨q, 0, none⟩ = some (.int .i64 a0) ∧ X.cell? ⟨q, 1, none⟩ = some (.int .i64 a1) ∧ X.cell? ⟨q, 2, none⟩ = some (.int .i64 a2) ∧ X.cell? ⟨q, 3, none⟩ = some (.bool ad) ∧ X.cell? ⟨q, 4, none⟩ = some (.int .i64 ai) ∧ X.cell? ⟨q, 5, none⟩ = some (.int .i64 an) ∧ X.cell? ⟨q, 6, none⟩ = some (.slice f4 q4 c4) from (by
    have h1 := (hX.block _ (box_lt hp4)).trans hp4
    have h2 := (hX.block _ (box_lt hq4')).trans hq4'
    exact ⟨cell_of_row _ _ 0 _ _ _ h1, cell_of_row _ _ 1 _ _ _ h1, cell_of_row _ _ 2 _ _ _ h1, cell_of_row _ _ 3 _ _ _ h1, cell_of_row _ _ 4 _ _ _ h1, cell_of_row _ _ 5 _ _ _ h1, cell_of_row _ _ 6 _ _ _ h1, cell_of_row _ _ 0 _ _ _ h2, cell_of_row _ _ 1 _ _ _ h2, cell_of_row _ _ 2 _ _ _ h2, cell_of_row _ _ 3 _ _ _ h2, cell_of_row _ _ 4 _ _ _ h2, cell_of_row _ _ 5 _ _ _ h2, cell_of_row _ _ 6 _ _ _ h2⟩)))
  have dee : (er == er) = true := beq_self_eq_true er
  have HW4 := hid hW4
  have HQQ := hid hq
  clear hq hW4 hz4 hb4 hb4' HD3 x0 x1 x2 x3 x4 x5 x6 y0 y1 hf4 hc4 hi4 hq4 hs4 hp4 hq4'
  go_upto_region 5 with fail
  rw [HW4.out, HQQ.out]
  have HAW := hid (awake_any W4)
  go_wp2_with fail
  refine HAW.out.mono ?_
  rintro e X1 ⟨rfl, hB1⟩
  obtain ⟨y0, y1, y2, y3, y4, y5, y6, z0, z1, z2, z3, z4, z5, z6⟩ := HK.out X1 hB1
  have HS1 := hid (HSM.out X1 hB1)
  go_wp2_with fail
  refine HS1.out.mono ?_
  rintro e X2 ⟨rfl, hbc⟩
  have hB2 : Below W4.heap.size W4 X2 := hB1.trans (hbc.mono hB1.size)
  clear y0 y1 y2 y3 y4 y5 y6 z0 z1 z2 z3 z4 z5 z6 hbc HS1
  have HS2 := hid (HSI.out X2 hB2)
  go_wp2_with fail
  refine HS2.out.mono ?_
  rintro e X3 ⟨rfl, hbc⟩
  have hB3 : Below W4.heap.size W4 X3 := hB2.trans (hbc.mono hB2.size)
  have HBF := hid (HB4.out.trans (hB3.mono HB4.out.size))
  clear hbc HS2
  go_wp2_with fail
  go_ret
  exact ⟨rfl, HBF.out⟩
end Go.Proofs.Ytacpejoablcffaa

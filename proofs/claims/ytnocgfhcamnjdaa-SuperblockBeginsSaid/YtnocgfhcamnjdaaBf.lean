/- Superblock: small 20, step 22. -/
import Derived.Test.YtnocgfhcamnjdaaBe
namespace Go.Proofs.Ytnocgfhcamnjdaa
open Go.RowKit Go.Lib

/-- A step: a payload, how many operations, choices. -/
structure StT where
  pv : Value
  q : List Nat
  k : Nat
  cv : Value
  ch : List Int
def cSt (x : StT) : List Value := [x.pv, .int .u8 (x.k : Int), x.cv]
def StOk (w : World) (x : StT) : Prop := Byt w x.pv x.q ∧ x.k < 256 ∧ Ints w x.cv x.ch
theorem StOk.below {w w' : World} {x : StT} (h : StOk w x) (hb : Below w.heap.size w w') : StOk w' x := ⟨h.1.below hb, h.2.1, h.2.2.below hb⟩
def Few1 (x : StT) : Prop := x.q.length ≤ 31 ∧ x.ch.length ≤ 40
instance (x : StT) : Decidable (Few1 x) := inferInstanceAs (Decidable (_ ∧ _))
theorem hlm_ints {w : World} {A : Option Addr} {n c : Nat} {l : List Int} (_ : l.length = n) (h : Ints w (.slice A n c) l) : Ints w (.slice A n c) l := h
/-- Whether a step is completed. -/
def doneK (k : Nat) : Bool := decide (2 ≤ k)
set_option maxHeartbeats 4000000 in
set_option maxRecDepth 100000 in
theorem step_any (st : List Sect) (v : Value) (x : StT) (i : Nat) (p : List Nat) (g : Nat) (w : World) (hd : Dk w v st []) (hx : StOk w x) (hf : Few1 x) (hl : 21 ≤ st.length) (hl2 : st.length ≤ 4096) (hG : Good (supL st) i p g) (hgr : grt (supL st) < 4294967295) :
    Calls Try.prog 22 #[v, .agg (cSt x).toArray] w fun e w' => ∃ st' A c B d, e = .returned (.tuple #[.agg #[.slice A st'.length c, .slice B 0 d], .bool (doneK x.k), .bool true]) ∧ OwnG w' w.heap.size st' [] (.agg #[.slice A st'.length c, .slice B 0 d]) ∧ Left st (5 + 8 * (1 - i)) (secsN (grt (supL st) + 1) 8 (conL x.q)) st' (2 ≤ x.k) ∧ Below w.heap.size w w' := by
  obtain ⟨sv, cv, rfl, hs, hsn, hc⟩ := hd
  obtain ⟨A, c, rfl⟩ := sec_form hs
  obtain ⟨B, d, rfl⟩ := cas_form hc
  obtain ⟨pv, q, k, xv, ch⟩ := x
  obtain ⟨hb8, hk, hch⟩ := hx
  obtain ⟨hq, hchl⟩ := hf
  dsimp only at hb8 hk hch hq hchl ⊢
  obtain ⟨PA, pc, rfl⟩ := byt_form hb8
  obtain ⟨LA, lc, rfl⟩ := ints_form hch
  obtain ⟨pm, hpm⟩ : ∃ z, q.length = z := ⟨_, rfl⟩
  obtain ⟨lm, hlm⟩ : ∃ z, ch.length = z := ⟨_, rfl⟩
  obtain ⟨n, hn⟩ : ∃ n, st.length = n := ⟨_, rfl⟩
  obtain ⟨S, hS⟩ : ∃ z, secsN (grt (supL st) + 1) 8 (conL q) = z := ⟨_, rfl⟩
  obtain ⟨b, hb⟩ : ∃ z, 5 + 8 * (1 - i) = z := ⟨_, rfl⟩
  have hSS : Secs S := hS ▸ secsN_secs _ 8 _ (conL_b8 hq hb8.1) (by rw [conL_len hq])
  have hSl : S.length = 8 := by rw [← hS]; exact secsN_len _ 8 _
  have hbl : b + S.length ≤ st.length := by omega
  obtain ⟨hsE, hsC⟩ := store_good hl hl2 hG hq hgr
  rw [hS, hb] at hsC
  have hss := hs.1
  obtain ⟨g2, hg2⟩ : ∃ g, w.heap.size = g := ⟨_, rfl⟩
  obtain ⟨W1, hW1⟩ : ∃ X, w.alloc (.cells #[.slice A n c, .slice B 0 d] 35) = X := ⟨_, rfl⟩
  obtain ⟨W2, hW2⟩ : ∃ X, W1.alloc (.cells #[.slice PA pm pc, .int .u8 (k : Int), .slice LA lm lc] 54) = X := ⟨_, rfl⟩
  obtain ⟨g3, hg3⟩ : ∃ g, W1.heap.size = g := ⟨_, rfl⟩
  obtain ⟨W3, hW3⟩ : ∃ X, W2.alloc (.cells #[.slice none 0 0, .slice none 0 0] 35) = X := ⟨_, rfl⟩
  obtain ⟨g4, hg4⟩ : ∃ g, W2.heap.size = g := ⟨_, rfl⟩
  have hb1 : Below w.heap.size w W1 := by rw [← hW1]; exact al1 _ _
  have hb2 : Below W1.heap.size W1 W2 := by rw [← hW2]; exact al1 _ _
  have hb3 : Below W2.heap.size W2 W3 := by rw [← hW3]; exact al1 _ _
  have hb13 := below_both hb1 (below_both hb2 hb3)
  have hx2 : W3.heap[g2]? = some (.cells #[.slice A n c, .slice B 0 d] 35) := by
    have h : W1.heap[g2]? = some (.cells #[.slice A n c, .slice B 0 d] 35) := by rw [← hW1, ← hg2]; exact heap_alloc_new _ _
    exact ((below_both hb2 hb3).block _ (box_lt h)).trans h
  have hx3 : W3.heap[g3]? = some (.cells #[.slice PA pm pc, .int .u8 (k : Int), .slice LA lm lc] 54) := by
    have h : W2.heap[g3]? = some (.cells #[.slice PA pm pc, .int .u8 (k : Int), .slice LA lm lc] 54) := by rw [← hW2, ← hg3]; exact heap_alloc_new _ _
    exact (hb3.block _ (box_lt h)).trans h
  have hx4 : W3.heap[g4]? = some (.cells #[.slice none 0 0, .slice none 0 0] 35) := by rw [← hW3, ← hg4]; exact heap_alloc_new _ _
  have hg24 : g2 < g4 := by
    have := hb1.size
    have h : W1.heap[g2]? = some (.cells #[.slice A n c, .slice B 0 d] 35) := by rw [← hW1, ← hg2]; exact heap_alloc_new _ _
    have := box_lt h
    have := hb2.size
    omega
  have HST := hid (made_at 2 (store_any st [] _ _ _ 5 q W3 (hs.below hb13) hsn (hc.below hb13) ⟨by omega, by omega⟩ (by decide) (hb8.below hb13)) hsE hsC rfl)
  rw [hn, hpm] at HST
  have hd3 : Dk W3 (.agg #[.slice A n c, .slice B 0 d]) st [] := ⟨_, _, rfl, hn ▸ hs.below hb13, hn ▸ hsn, hc.below hb13⟩
  have HD3 := hid hd3
  have HIN := hid (hch.below hb13)
  rw [hlm] at HIN
  have HSS := hid hss
  have HSS2 := hid hSS
  have HBL := hid hbl
  have HL2 := hid hl2
  have HN := hid hn
  have HSL := hid hSl
  have HLM := hid hlm
  have HCH := hid hchl
  have HX2 := hid hx2
  have HX3 := hid hx3
  have HX4 := hid hx4
  have HB13 := hid hb13
  have HG24 := hid hg24
  have HG2 : Hid (w.heap.size ≤ g2) := hid (Nat.le_of_eq hg2)
  have HG4 : Hid (w.heap.size ≤ g4) := hid (by omega)
  have HW1 := hid hW1
  have HW2 := hid hW2
  have HW3 := hid hW3
  have HG2e := hid hg2
  have HG3e := hid hg3
  have HG4e := hid hg4
  have y0 := cell_of_row _ _ 0 _ _ _ hx2
  have y1 := cell_of_row _ _ 1 _ _ _ hx2
  have s0 := cell_of_row _ _ 0 _ _ _ hx3
  have s1 := cell_of_row _ _ 1 _ _ _ hx3
  have s2 := cell_of_row _ _ 2 _ _ _ hx3
  unfold cSt
  dsimp only
  rw [hn, hpm, hlm, hb, hS]
  clear hs hsn hc hb8 hch hq hchl hpm hlm hn hS hb hSS hSl hbl hsE hsC hss hg2 hW1 hW2 hg3 hW3 hg4 hb1 hb2 hb3 hb13 hx2 hx3 hx4 hg24 hG hgr hl hl2 hd3
  go_enter Try.func22, Try.ntmps22
  go_upto_region 1 with fail
  have e4 : w.heap.size + 1 + 1 = g4 := by rw [← HG4e.out, ← HW2.out, ← HW1.out]; simp
  have e3 : w.heap.size + 1 = g3 := by rw [← HG3e.out, ← HW1.out]; simp
  rw [e4, e3, HG2e.out, HW1.out, HW2.out, HW3.out]
  clear e4 e3
  have hg23 : g3 ≠ g4 := by
    have h1 := HG3e.out
    have h2 := HG4e.out
    have h3 : W2.heap.size = W1.heap.size + 1 := by rw [← HW2.out]; simp
    omega
  have hg34 := hg23.symm
  have hg24 : g2 ≠ g4 := by have := HG24.out; omega
  have hg42 := hg24.symm
  have hg32 : g3 ≠ g2 := by
    have h1 := HG3e.out
    have h2 := HG2e.out
    have h3 : W1.heap.size = w.heap.size + 1 := by rw [← HW1.out]; simp
    omega
  have hg22 := hg32.symm
  clear HW1 HW2 HW3 HG2e HG3e HG4e HG24
  go_upto_region 4 with (go_at_call 18; refine HST.out.mono ?_; rintro e X1 ⟨O7, o7, l7, rfl, ho, _, hl7, hb1⟩; have HBX1 := hid hb1; have HO := hid ho; have HLO := hid hl7; have HD1 := hid (HD3.out.below hb1); have hx2 := (hb1.block _ (box_lt HX2.out)).trans HX2.out; have hx3 := (hb1.block _ (box_lt HX3.out)).trans HX3.out; have t0 := cell_of_row _ _ 0 _ _ _ hx2; have t1 := cell_of_row _ _ 1 _ _ _ hx2; have r0 := cell_of_row _ _ 0 _ _ _ hx3; have r1 := cell_of_row _ _ 1 _ _ _ hx3; have r2 := cell_of_row _ _ 2 _ _ _ hx3; have HX2b := hid hx2; have HX3b := hid hx3; have HX4b := hid ((hb1.block _ (box_lt HX4.out)).trans HX4.out); have HINb := hid (HIN.out.below hb1); have HB1 := hid (HB13.out.trans (hb1.mono HB13.out.size)); clear ho hl7 hb1 hx2 hx3)
  clear y0 y1 s0 s1 s2 HST HX2 HX3 HX4
  by_cases hk2 : 2 < k
  · have d2 : decide (2 < (k : Int)) = true := decide_eq_true (by omega)
    have d2' : decide (2 < k) = true := decide_eq_true hk2
    have HRN := hid (run_dk HD1.out HO.out HLO.out (run_rep HL2.out HBL.out) (by show 0 + (S.length + (0 + 0)) ≤ 500000; rw [HSL.out]; decide))
    rw [show (newL st (putL (b : Int) S)).length = n from by rw [newL_len, HN.out]] at HRN
    go_upto_region 6 with (go_at_call 25; refine HRN.out.mono ?_; rintro e X2 ⟨A8, c8, B8', d8, rfl, hg8, hb2⟩; have HG8 := hid hg8; have HBX2 := hid hb2; have HB2 := hid (HB1.out.trans (hb2.mono HB1.out.size)); have HX4c := hid ((hb2.block _ (box_lt HX4b.out)).trans HX4b.out); clear hg8 hb2)
    obtain ⟨W9, hW9⟩ : ∃ X, X2.alloc (.cells #[.slice A8 n c8, .slice B8' 0 d8] 35) = X := ⟨_, rfl⟩
    obtain ⟨g9, hg9⟩ : ∃ q, X2.heap.size = q := ⟨_, rfl⟩
    have hb9 : Below X2.heap.size X2 W9 := by rw [← hW9]; exact al1 _ _
    have hx9 : W9.heap[g9]? = some (.cells #[.slice A8 n c8, .slice B8' 0 d8] 35) := by rw [← hW9, ← hg9]; exact heap_alloc_new _ _
    have hx4 := (hb9.block _ (box_lt HX4c.out)).trans HX4c.out
    have HX4d := hid hx4
    have HG9 := hid (HG8.out.keep (keep_below hb9) (keep_below hb9) (Nat.le_refl _))
    have HB9 := hid (HB2.out.trans (hb9.mono HB2.out.size))
    have u0 := cell_of_row _ _ 0 _ _ _ hx9
    have u1 := cell_of_row _ _ 1 _ _ _ hx9
    have v0 := cell_of_row _ _ 0 _ _ _ hx4
    have v1 := cell_of_row _ _ 1 _ _ _ hx4
    have f0 := box_fr hx4 0
    have f1 := box_fr hx4 1
    have h94 : g9 ≠ g4 := by
      have := box_lt HX4c.out
      omega
    have h49 := h94.symm
    rw [hW9, hg9]
    clear hW9 hg9 hb9 hx9 hx4 t0 t1 r0 r1 r2
    go_wp2_with fail
    refine bodyPost_ret (results_v2 rfl _ _ g4 _ rfl (disk_load (disk_set HX4d.out _ _)) _ rfl _ rfl) rfl ?_
    refine ⟨newL st (putL (b : Int) S), A8, c8, B8', d8, ?_, ?_, ?_, ?_⟩
    · rw [show (newL st (putL (b : Int) S)).length = n from by rw [newL_len, HN.out], show doneK k = true from decide_eq_true (by omega)]
      rfl
    · rw [show (newL st (putL (b : Int) S)).length = n from by rw [newL_len, HN.out]]
      exact HG9.out.keep (keep_two HX4d.out (by decide)) (keep_two HX4d.out (by decide)) (HB1.out.size)
    · exact left_new HSS.out HSS2.out HBL.out _
    · exact (HB9.out.setCell (p := ⟨g4, 0, none⟩) HG4.out _).setCell (p := ⟨g4, 1, none⟩) HG4.out _
  · have d2 : decide (2 < (k : Int)) = false := decide_eq_false (by omega)
    have d2' : decide (2 < k) = false := decide_eq_false hk2
    obtain ⟨st', ch', hin, hleft, hchl'⟩ := inter_rep HSS.out HSS2.out HL2.out HBL.out HLO.out k (by omega) ch
    have hst' : st'.length = n := by rw [hleft.len, HN.out]
    obtain ⟨sv1, cv1, e1, q1, q2, q3⟩ := HD1.out
    injection e1 with e1
    injection e1 with e1
    injection e1 with e1 e1'
    injection e1' with e1'
    subst e1 e1'
    have HIT := hid (interrupt_any st [] _ _ _ _ l7 (k : Int) ch X1 q1 q2 q3 HO.out (hlm_ints HLM.out HINb.out) (by have := HL2.out; omega) (by rw [tot_mk, HLO.out]; show 0 + (S.length + (0 + 0)) ≤ 500000; rw [HSL.out]; decide) (by have := HCH.out; omega) ⟨by omega, by omega⟩)
    rw [hin] at HIT
    have HIT2 : Hid (∀ e w', IntQ X1 (0, st', [], ch') e w' → ∃ A c B d u, e = .returned (.tuple #[.agg #[.slice A n c, .slice B 0 d], u, .int .i64 0]) ∧ OwnG w' X1.heap.size st' [] (.agg #[.slice A n c, .slice B 0 d]) ∧ Below X1.heap.size X1 w') := hid (fun e w' h => by
      obtain ⟨v', u', rfl, hg, _, hb⟩ := h
      obtain ⟨sv', cv', rfl, p1, p2, p3⟩ := hg.dk
      obtain ⟨A, c, rfl⟩ := sec_form p1
      obtain ⟨B, d, rfl⟩ := cas_form p3
      rw [hst'] at hg ⊢
      exact ⟨A, c, B, d, u', rfl, hg, hb⟩)
    have HLF := hid hleft
    have HST' := hid hst'
    clear q1 q2 q3 hin hleft hchl' hst'
    have cvk : IntKind.i64.wrap (k : Int) = (k : Int) := by rw [IntKind.wrap_i64]; omega
    go_upto_region 8 with (go_at_call 23; refine HIT.out.mono ?_; intro e X2 hQ; obtain ⟨A7, c7, B7, d7, u7, rfl, hg8, hb2⟩ := HIT2.out _ _ hQ; have HG8 := hid hg8; have HBX2 := hid hb2; have HB2 := hid (HB1.out.trans (hb2.mono HB1.out.size)); have hx2 := (hb2.block _ (box_lt HX2b.out)).trans HX2b.out; have HX2c := hid hx2; have HX3c := hid ((hb2.block _ (box_lt HX3b.out)).trans HX3b.out); have HX4c := hid ((hb2.block _ (box_lt HX4b.out)).trans HX4b.out); have v0 := cell_of_row _ _ 0 _ _ _ hx2; have v1 := cell_of_row _ _ 1 _ _ _ hx2; have f0 := box_fr hx2 0; have f1 := box_fr hx2 1; clear hQ hg8 hb2 hx2)
    clear v0 v1 f0 f1 t0 t1 r0 r1 r2
    obtain ⟨W5, hW5⟩ : ∃ X, (X2.setCell ⟨g2, 0, none⟩ (.slice A7 n c7)).setCell ⟨g2, 1, none⟩ (.slice B7 0 d7) = X := ⟨_, rfl⟩
    have HX25 : Hid (W5.heap[g2]? = some (.cells #[.slice A7 n c7, .slice B7 0 d7] 35)) := hid (by rw [← hW5]; exact disk_set HX2c.out _ _)
    have ho5 : ∀ k, k ≠ g2 → W5.heap[k]? = X2.heap[k]? := fun k hk => by rw [← hW5, Below.heap_setCell _ _ _ _ hk, Below.heap_setCell _ _ _ _ hk]
    have HX35 : Hid (W5.heap[g3]? = some (.cells #[.slice PA pm pc, .int .u8 (k : Int), .slice LA lm lc] 54)) := hid ((ho5 g3 hg32).trans HX3c.out)
    have HX45 : Hid (W5.heap[g4]? = some (.cells #[.slice none 0 0, .slice none 0 0] 35)) := hid ((ho5 g4 hg42).trans HX4c.out)
    have HG5 : Hid (OwnG W5 X1.heap.size st' [] (.agg #[.slice A7 n c7, .slice B7 0 d7])) := hid (by rw [← hW5]; exact HG8.out.keep (keep_two HX2c.out (by decide)) (keep_two HX2c.out (by decide)) (Nat.le_refl _))
    have HB5 : Hid (Below w.heap.size w W5) := hid (by rw [← hW5]; exact (HB2.out.setCell (p := ⟨g2, 0, none⟩) HG2.out _).setCell (p := ⟨g2, 1, none⟩) HG2.out _)
    rw [hW5]
    clear hW5 ho5
    refine region_tail 11 (fun X => X.cell? ⟨g2, 0, none⟩ = some (.slice A7 n c7) ∧ X.cell? ⟨g2, 1, none⟩ = some (.slice B7 0 d7) ∧ X.cell? ⟨g3, 1, none⟩ = some (.int .u8 (k : Int))) (by kernel_rfl) ?_
    obtain ⟨Y0, hY0⟩ : ∃ X, W5.drew = X := ⟨_, rfl⟩
    have hbY : Below W5.heap.size W5 Y0 := by rw [← hY0]; exact (Below.refl W5.heap.size W5).drew
    have HX4z := hid ((hbY.block _ (box_lt HX45.out)).trans HX45.out)
    have HGz : Hid (OwnG Y0 X1.heap.size st' [] (.agg #[.slice A7 n c7, .slice B7 0 d7])) := hid (HG5.out.keep (keep_below hbY) (keep_below hbY) (Nat.le_refl _))
    have HBz : Hid (Below w.heap.size w Y0) := hid (HB5.out.trans (hbY.mono HB5.out.size))
    have hx2z := (hbY.block _ (box_lt HX25.out)).trans HX25.out
    have hx3z := (hbY.block _ (box_lt HX35.out)).trans HX35.out
    have hHeld : Y0.cell? ⟨g2, 0, none⟩ = some (.slice A7 n c7) ∧ Y0.cell? ⟨g2, 1, none⟩ = some (.slice B7 0 d7) ∧ Y0.cell? ⟨g3, 1, none⟩ = some (.int .u8 (k : Int)) := ⟨cell_of_row _ _ 0 _ _ _ hx2z, cell_of_row _ _ 1 _ _ _ hx2z, cell_of_row _ _ 1 _ _ _ hx3z⟩
    have HHN : Hid (∀ Y, (Y0.setCell ⟨g4, 0, none⟩ (.slice A7 n c7)).setCell ⟨g4, 1, none⟩ (.slice B7 0 d7) = Y → Y.cell? ⟨g2, 0, none⟩ = some (.slice A7 n c7) ∧ Y.cell? ⟨g2, 1, none⟩ = some (.slice B7 0 d7) ∧ Y.cell? ⟨g3, 1, none⟩ = some (.int .u8 (k : Int))) := hid (fun Y hY => by
      have ho : ∀ k, k ≠ g4 → Y.heap[k]? = Y0.heap[k]? := fun k hk => by rw [← hY, Below.heap_setCell _ _ _ _ hk, Below.heap_setCell _ _ _ _ hk]
      exact ⟨cell_of_row _ _ 0 _ _ _ ((ho g2 hg24).trans hx2z), cell_of_row _ _ 1 _ _ _ ((ho g2 hg24).trans hx2z), cell_of_row _ _ 1 _ _ _ ((ho g3 hg23).trans hx3z)⟩)
    rw [hY0]
    clear hY0 hbY hx2z hx3z
    refine' wpAnyT_take (i := 0) (oi := ?oiy0) (v := ?vy0) ?hiy0 (by kernel_rfl) (by kernel_rfl) ?hqy0 ?hyy0 hHeld ?resty0
    case hiy0 => (simp only [List.getElem?_toArray, List.getElem?_cons_zero]; rfl)
    case hqy0 => exact fun _ _ _ h => h
    case hyy0 => (refine Or.inl ⟨by rfl, ?_⟩; intro w' hSw; (try dsimp only at hSw); go_simp; try with_reducible rfl)
    (try simp only [Act.put, List.setIfInBounds_toArray, List.set_cons_zero, List.set_cons_succ])
    refine' wpAnyT_take (i := 1) (oi := ?oiy1) (v := ?vy1) ?hiy1 (by kernel_rfl) (by kernel_rfl) ?hqy1 ?hyy1 hHeld ?resty1
    case hiy1 => (simp only [List.getElem?_toArray, List.getElem?_cons_zero, List.getElem?_cons_succ]; rfl)
    case hqy1 => exact fun _ _ _ h => h
    case hyy1 => (refine Or.inl ⟨by rfl, ?_⟩; intro w' hSw; (try dsimp only at hSw); go_simp; try with_reducible rfl)
    (try simp only [Act.put, List.setIfInBounds_toArray, List.set_cons_zero, List.set_cons_succ])
    refine' wpAnyT_take (i := 2) (oi := ?oiy2) (v := ?vy2) ?hiy2 (by kernel_rfl) (by kernel_rfl) ?hqy2 ?hyy2 hHeld ?resty2
    case hiy2 => (simp only [List.getElem?_toArray, List.getElem?_cons_zero, List.getElem?_cons_succ]; rfl)
    case hqy2 => exact fun _ _ _ h => h
    case hyy2 => (refine Or.inl ⟨by rfl, ?_⟩; intro w' hSw; (try dsimp only at hSw); go_simp; try with_reducible rfl)
    (try simp only [Act.put, List.setIfInBounds_toArray, List.set_cons_zero, List.set_cons_succ])
    refine' wpAnyT_take (i := 3) (oi := ?oiy3) (v := ?vy3) ?hiy3 (by kernel_rfl) (by kernel_rfl) ?hqy3 ?hyy3 hHeld ?resty3
    case hiy3 => (simp only [List.getElem?_toArray, List.getElem?_cons_zero, List.getElem?_cons_succ]; rfl)
    case hqy3 => exact fun _ _ _ h => h
    case hyy3 => (refine Or.inl ⟨by rfl, ?_⟩; intro w' hSw; (try dsimp only at hSw); go_simp; try with_reducible rfl)
    (try simp only [Act.put, List.setIfInBounds_toArray, List.set_cons_zero, List.set_cons_succ])
    refine' wpAnyT_take (i := 4) (oi := ?oiy4) (v := ?vy4) ?hiy4 (by kernel_rfl) (by kernel_rfl) ?hqy4 ?hyy4 hHeld ?resty4
    case hiy4 => (simp only [List.getElem?_toArray, List.getElem?_cons_zero, List.getElem?_cons_succ]; rfl)
    case hqy4 => exact fun _ _ _ h => h
    case hyy4 => (refine Or.inl ⟨by rfl, ?_⟩; intro w' hSw; (try dsimp only at hSw); go_simp; try with_reducible rfl)
    (try simp only [Act.put, List.setIfInBounds_toArray, List.set_cons_zero, List.set_cons_succ])
    refine' wpAnyT_take (i := 5) (oi := ?oiy5) (v := ?vy5) ?hiy5 (by kernel_rfl) (by kernel_rfl) ?hqy5 ?hyy5 hHeld ?resty5
    case hiy5 => (simp only [List.getElem?_toArray, List.getElem?_cons_zero, List.getElem?_cons_succ]; rfl)
    case hqy5 => exact fun _ _ _ h => h
    case hyy5 => (refine Or.inl ⟨by rfl, ?_⟩; intro w' hSw; (try dsimp only at hSw); go_simp; try with_reducible rfl)
    (try simp only [Act.put, List.setIfInBounds_toArray, List.set_cons_zero, List.set_cons_succ])
    refine' wpAnyT_take (i := 6) (oi := ?oiy6) (v := ?vy6) ?hiy6 (by kernel_rfl) (by kernel_rfl) ?hqy6 ?hyy6 hHeld ?resty6
    case hiy6 => (simp only [List.getElem?_toArray, List.getElem?_cons_zero, List.getElem?_cons_succ]; rfl)
    case hqy6 => exact fun _ _ _ h => h
    case hyy6 => (refine Or.inl ⟨by rfl, ?_⟩; intro w' hSw; (try dsimp only at hSw); go_simp; try with_reducible rfl)
    (try simp only [Act.put, List.setIfInBounds_toArray, List.set_cons_zero, List.set_cons_succ])
    refine' wpAnyT_take (i := 7) (oi := ?oiy7) (v := ?vy7) ?hiy7 (by kernel_rfl) (by kernel_rfl) ?hqy7 ?hyy7 hHeld ?resty7
    case hiy7 => (simp only [List.getElem?_toArray, List.getElem?_cons_zero, List.getElem?_cons_succ]; rfl)
    case hqy7 => exact fun _ _ _ h => h
    case hyy7 => (refine Or.inl ⟨by rfl, ?_⟩; intro w' hSw; (try dsimp only at hSw); go_simp; try with_reducible rfl)
    (try simp only [Act.put, List.setIfInBounds_toArray, List.set_cons_zero, List.set_cons_succ])
    refine' wpAnyT_take (i := 8) (oi := ?oiy8) (v := ?vy8) ?hiy8 (by kernel_rfl) (by kernel_rfl) ?hqy8 ?hyy8 hHeld ?resty8
    case hiy8 => (simp only [List.getElem?_toArray, List.getElem?_cons_zero, List.getElem?_cons_succ]; rfl)
    case hqy8 => exact fun _ _ _ h => h
    case hyy8 => (refine Or.inl ⟨by rfl, ?_⟩; intro w' hSw; (try dsimp only at hSw); go_simp; try with_reducible rfl)
    (try simp only [Act.put, List.setIfInBounds_toArray, List.set_cons_zero, List.set_cons_succ])
    refine' wpAnyT_one (i := 9) (o := ?oiy9) (by kernel_rfl) ?hiy9 (fun K hK => ?sty9)
    case hiy9 => (simp only [List.getElem?_toArray, List.getElem?_cons_zero, List.getElem?_cons_succ]; rfl)
    have hx4 := HX4z.out
    have z40 := cell_of_row _ _ 0 _ _ _ hx4
    have z41 := cell_of_row _ _ 1 _ _ _ hx4
    have f40 := box_fr hx4 0
    have f41 := box_fr hx4 1
    go_simp
    obtain ⟨Y1, hY1⟩ : ∃ X, (Y0.setCell ⟨g4, 0, none⟩ (.slice A7 n c7)).setCell ⟨g4, 1, none⟩ (.slice B7 0 d7) = X := ⟨_, rfl⟩
    have HY1 := hid hY1
    rw [hY1]
    have hHeld := HHN.out Y1 HY1.out
    clear hY1 z40 z41 f40 f41 hx4
    refine hK.out _ _ (fun _ => hHeld) ?_
    clear hK K
    (try simp only [Act.put, List.setIfInBounds_toArray, List.set_cons_zero, List.set_cons_succ])
    refine' wpAnyT_one (i := 10) (o := ?oiy10) (by kernel_rfl) ?hiy10 (fun K hK => ?sty10)
    case hiy10 => (simp only [List.getElem?_toArray, List.getElem?_cons_zero, List.getElem?_cons_succ]; rfl)
    go_simp
    refine hK.out _ _ (fun _ => hHeld) ?_
    clear hK K
    (try simp only [Act.put, List.setIfInBounds_toArray, List.set_cons_zero, List.set_cons_succ])
    refine' wpAnyT_one (i := 11) (o := ?oiy11) (by kernel_rfl) ?hiy11 (fun K hK => ?sty11)
    case hiy11 => (simp only [List.getElem?_toArray, List.getElem?_cons_zero, List.getElem?_cons_succ]; rfl)
    go_simp
    refine hK.out _ _ (fun h => absurd h (by decide)) ?_
    clear hK K
    (try simp only [Act.put, List.setIfInBounds_toArray, List.set_cons_zero, List.set_cons_succ])
    refine wpAnyT_done (by kernel_rfl) ?_ _
    go_wp2_with fail
    refine bodyPost_ret (results_v2 rfl _ _ g4 _ rfl (by rw [← HY1.out]; exact disk_load (disk_set HX4z.out _ _)) _ rfl _ rfl) rfl ?_
    refine ⟨st', A7, c7, B7, d7, ?_, ?_, ?_, ?_⟩
    · rw [HST'.out]
      exact congrArg (fun b => Ending.returned (.tuple #[.agg #[.slice A7 n c7, .slice B7 0 d7], .bool b, .bool true])) (decide_eq_decide.2 (by omega))
    · rw [HST'.out, ← HY1.out]
      exact HGz.out.keep (keep_two HX4z.out (by decide)) (keep_two HX4z.out (by decide)) (HB1.out.size)
    · exact ⟨HLF.out.len, HLF.out.secs, HLF.out.out, HLF.out.each, fun h => HLF.out.all (by omega)⟩
    · rw [← HY1.out]
      exact (HBz.out.setCell (p := ⟨g4, 0, none⟩) HG4.out _).setCell (p := ⟨g4, 1, none⟩) HG4.out _
end Go.Proofs.Ytnocgfhcamnjdaa

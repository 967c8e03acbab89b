/- The law EventqueueOrders. -/
import Derived.Test.YtjpfogdfgcfkcaaSd
namespace Go.Proofs.Ytjpfogdfgcfkcaa
open Go.RowKit Go.Lib

/-- An event that added made: its number says where its time stands. -/
def AtT (T : List Int) (e : Ec) : Prop := ∃ j : Nat, T[j]? = some e.1 ∧ e.2.1 = (j : Int) ∧ e.2.2.1 = (j : Int)
theorem Own.set5 {w : World} {base n g : Nat} {v : Value} {l : List Ec} {vs : List Ev} {a0 a1 a2 a3 a4 v0 v1 v2 v3 v4 : Value} (h : Own w base v n l vs) (hk : ∀ k, v.ownBlock = some k → k ≠ g) (hg : w.heap[g]? = some (.cells #[a0, a1, a2, a3, a4] 32)) : Own (set5 w g v0 v1 v2 v3 v4) base v n l vs :=
  ⟨set5own h.1 hk, h.2.1, h.2.2.1, fun x hx => (h.2.2.2 x hx).keep (fun k cs hk => (set5o _ _ _ _ _ (fun e => by rw [e, hg] at hk; cases hk)).trans hk)⟩
theorem adds_at : ∀ (ts : List Int) (l : List Ec) (i : Nat), Good l i → l.length = i → i + ts.length ≤ 1000 → (∀ t ∈ ts, 0 ≤ t ∧ t ≤ 1073741824) → ∃ L, addsF l i ts = (L, i + ts.length, true) ∧ Good L ((i + ts.length : Nat) : Int) ∧ L.length = i + ts.length ∧ (∀ e ∈ L, e ∈ l ∨ ∃ j : Nat, ts[j]? = some e.1 ∧ e.2.1 = ((i + j : Nat) : Int) ∧ e.2.2.1 = ((i + j : Nat) : Int)) := by
  intro ts
  induction ts with
  | nil => intro l i hg hl _ _; exact ⟨l, rfl, hg, hl, fun e h => .inl h⟩
  | cons t r ih =>
    intro l i hg hl hb ht
    rw [List.length_cons] at hb ⊢
    obtain ⟨h1, h2⟩ := hg.ins (t := t) (k := i) (o := 0) (p := []) (ht t (List.mem_cons_self ..)).1 (ht t (List.mem_cons_self ..)).2 (by omega) (by omega) (by simp) (by omega) (by omega)
    rw [addsF_ok h1]
    obtain ⟨L, e1, e2, e3, e6⟩ := ih (insE l t (t, i, i, 0, [])) (i + 1) (by rw [show ((i + 1 : Nat) : Int) = (i : Int) + 1 by omega]; exact h2) (by rw [insE_len, hl]) (by omega) (fun x hx => ht x (List.mem_cons_of_mem _ hx))
    refine ⟨L, by rw [e1, show i + 1 + r.length = i + (r.length + 1) by omega], by rw [show i + (r.length + 1) = i + 1 + r.length by omega]; exact e2, by omega, fun e h => ?_⟩
    rcases e6 e h with h | ⟨j, h1, h2, h3⟩
    · rcases insE_mem h with h | rfl
      · exact .inl h
      · exact .inr ⟨0, rfl, rfl, rfl⟩
    · exact .inr ⟨j + 1, by simpa using h1, by rw [h2, show i + 1 + j = i + (j + 1) by omega], by rw [h3, show i + 1 + j = i + (j + 1) by omega]⟩

set_option maxHeartbeats 4000000 in
set_option maxRecDepth 100000 in
theorem orders_walk (l : List Nat) (v : Value) (w : World) (hv : UL w v l) :
    Calls Try.prog 6 #[v] w fun e w' => e = .returned (.bool true) ∧ Below w.heap.size w w' := by
  have HTM := hid (times_any l v w hv)
  obtain ⟨T, hT⟩ : ∃ T, tmsL l = T := ⟨_, rfl⟩
  have hT30 : T.length ≤ 30 := by rw [← hT]; exact tms_len l
  have hTok : ∀ t ∈ T, 0 ≤ t ∧ t ≤ 1073741824 := by rw [← hT]; exact fun t => tms_ok
  rw [hT] at HTM
  obtain ⟨n, hn⟩ : ∃ n, T.length = n := ⟨_, rfl⟩
  obtain ⟨L, hL1, hL2, hL3, hL4⟩ := adds_at T [] 0 good_nil rfl (by omega) hTok
  rw [Nat.zero_add, hn] at hL1 hL2 hL3
  rw [hn] at HTM hT30
  have hL5 : ∀ e ∈ L, AtT T e := fun e he => (hL4 e he).elim (fun h => by cases h) (fun ⟨j, h1, h2, h3⟩ => ⟨j, h1, by rw [h2, Nat.zero_add], by rw [h3, Nat.zero_add]⟩)
  have HL1 := hid hL1
  have HL2 := hid hL2
  have HL5 := hid hL5
  have HN := hid hn
  have HLEN := hid hL3
  obtain ⟨A, c, rfl⟩ := ul_form hv
  obtain ⟨N, hN⟩ : ∃ N, l.length = N := ⟨_, rfl⟩
  rw [hN] at HTM ⊢
  clear hv hT hTok hn hL1 hL2 hL3 hL4 hL5 hN
  go_enter Try.func6, Try.ntmps6
  go_wp2_with fail
  refine HTM.out.mono ?_
  rintro e w1 ⟨tA, tc, rfl, hil1, hb1⟩
  have HAD := hid (added_any T _ w1 hil1 (by rw [HN.out]; omega))
  have HIL := hid hil1
  have HB1 := hid hb1
  clear hil1 hb1 HTM
  go_wp2_with fail
  refine HAD.out.mono ?_
  rintro e w2 ⟨q, rfl, hq⟩
  rw [HL1.out] at hq ⊢
  dsimp only at hq ⊢
  obtain ⟨A2, c2, vs2, rfl, ho2, hb2⟩ := own_of_qu hq
  rw [HLEN.out] at ho2 ⊢
  obtain ⟨W3, hW3⟩ : ∃ W3, (w2.alloc (.cells #[.slice A2 n c2, .int .i64 (n : Int)] 24)).alloc (.cells #[.int .i64 (-1), .int .i64 0, .int .i64 0, .int .i64 0, .slice none 0 0] 32) = W3 := ⟨_, rfl⟩
  obtain ⟨g, hg⟩ : ∃ g, w2.heap.size = g := ⟨_, rfl⟩
  have hb3 : Below w2.heap.size w2 W3 := by rw [← hW3]; exact ((Below.refl _ w2).alloc (Nat.le_refl _) _).alloc (by simp) _
  have HX3 : Hid (W3.heap[g]? = some (.cells #[.slice A2 n c2, .int .i64 (n : Int)] 24)) := hid (by rw [← hW3, ← hg]; exact (Below.heap_alloc _ _ _ (by simp)).trans (heap_alloc_new w2 _))
  have HY3 : Hid (W3.heap[g + 1]? = some (.cells #[.int .i64 (-1), .int .i64 0, .int .i64 0, .int .i64 0, .slice none 0 0] 32)) := hid (by
    rw [← hW3, ← hg]
    have h := heap_alloc_new (w2.alloc (.cells #[.slice A2 n c2, .int .i64 (n : Int)] 24)) (.cells #[.int .i64 (-1), .int .i64 0, .int .i64 0, .int .i64 0, .slice none 0 0] 32)
    simpa using h)
  have HO3 := hid (ho2.below hb3)
  have HB3 : Hid (Below w1.heap.size w1 W3) := hid (hb2.trans (hb3.mono hb2.size))
  have hgw : w1.heap.size ≤ g := by rw [← hg]; exact hb2.size
  have HW3 := hid hW3
  have HG := hid hg
  have dnn : ((n : Int) != (n : Int)) = false := by simp
  have x0 : (w2.alloc (.cells #[.slice A2 n c2, .int .i64 (n : Int)] 24)).cell? ⟨w2.heap.size, 0, none⟩ = some (.slice A2 n c2) := cell_of_row _ _ 0 _ _ _ (heap_alloc_new w2 _)
  clear hq ho2 hb2 hW3 hb3 hg HAD
  go_wp2_with fail
  rw [HW3.out, HG.out]
  clear x0
  go_loopw [7] (fun iv wr => ∃ (k m : Nat) (R : List Ec) (vs : List Ev) (qA : Option Addr) (qc : Nat) (lt ln lk lo : Int) (dA : Option Addr) (dn dc : Nat), k ≤ n ∧ iv = .int .i64 (k : Int) ∧ Hid (k + m = n) ∧ Hid (R.length = m) ∧ Hid (Good R (n : Int)) ∧ Hid (∀ e ∈ R, AtT T e) ∧ Hid (∀ e ∈ R, lt < e.1 ∨ (lt = e.1 ∧ ln < e.2.1)) ∧
    Hid (wr.heap[g]? = some (.cells #[.slice qA m qc, .int .i64 (n : Int)] 24)) ∧ Hid (wr.heap[g + 1]? = some (.cells #[.int .i64 lt, .int .i64 ln, .int .i64 lk, .int .i64 lo, .slice dA dn dc] 32)) ∧ Hid (Own wr w1.heap.size (.slice qA m qc) m R vs) ∧ Hid (Below w1.heap.size w1 wr)) (fun i _ => n - (Lib.intOf i).toNat)
  case atStart => exact ⟨0, n, L, vs2, A2, c2, -1, 0, 0, 0, none, 0, 0, Nat.zero_le _, rfl, hid (by omega), HLEN, HL2, HL5, hid (fun e he => by have := fldC_ok (HL2.out.fld e he); omega), HX3, HY3, HO3, HB3⟩
  case round =>
    obtain ⟨k, m, R, vs, qA, qc, lt, ln, lk, lo, dA, dn, dc, hk, rfl, HKM, HRL, HGR, HAT, HLT, HX, HY, HO, HB⟩ := hrel
    have hpop := pop_any vs (.slice qA m qc) (n : Int) wr HO.out.el (HO.out.all (P := fun e => R64 e.2.1) HGR.out.r64) (by rw [HO.out.2.1]; have := HKM.out; omega) (HO.out.all (P := fun e => e.2.2.2.2.length ≤ 100000) HGR.out.body) (by rw [HO.out.2.2.1]; exact HGR.out.chk)
    rw [HO.out.2.2.1] at hpop
    have HPOP := hid hpop
    have x0 := cell_of_row _ _ 0 _ _ _ HX.out
    have x1 := cell_of_row _ _ 1 _ _ _ HX.out
    have hgl := box_lt HX.out
    have hgl1 := box_lt HY.out
    clear hpop
    by_cases hkn : k < n
    · have hkn' : (k : Int) < (n : Int) := by omega
      go_wp2_with fail
      refine HPOP.out.mono ?_
      rintro e w4 (⟨h, _⟩ | ⟨y, r, q, x, hR, rfl, hq, hcx, hpx⟩)
      · exfalso; have h1 := HRL.out; have h2 := HKM.out; rw [h] at h1; simp at h1; omega
      obtain ⟨B4, c4, vs4, rfl, ho4, hb4⟩ := own_of_qu hq
      obtain ⟨m4, hm4⟩ : ∃ m4, r.length = m4 := ⟨_, rfl⟩
      rw [hm4] at ho4 ⊢
      have HM4 : Hid (m4 + 1 = m) := hid (by have h1 := HRL.out; rw [hR, List.length_cons] at h1; omega)
      have hgr := HGR.out
      rw [hR] at hgr
      have HGR4 : Hid (Good r (n : Int)) := hid (hgr.sub (List.sublist_cons_self _ _))
      have HAT4 : Hid (∀ e ∈ r, AtT T e) := hid (fun e he => HAT.out e (by rw [hR]; exact List.mem_cons_of_mem _ he))
      have hord := (List.pairwise_cons.1 hgr.ord).1
      obtain ⟨j, hj1, hj2, hj3⟩ := HAT.out y (by rw [hR]; exact List.mem_cons_self ..)
      have hlt := HLT.out y (by rw [hR]; exact List.mem_cons_self ..)
      subst hcx
      obtain ⟨xt, xn, xk, xo, xd, xp⟩ := x
      have hj1' : T[j]? = some xt := hj1
      obtain rfl : xn = (j : Int) := hj2
      obtain rfl : xk = (j : Int) := hj3
      have hlt' : lt < xt ∨ (lt = xt ∧ ln < (j : Int)) := hlt
      have HLT4 : Hid (∀ e ∈ r, xt < e.1 ∨ (xt = e.1 ∧ (j : Int) < e.2.1)) := hid hord
      have hpb : Byt w4 xd xp := hpx.byt.1
      obtain ⟨xA, xc, rfl⟩ := byt_form hpb
      obtain ⟨xm, hxm⟩ : ∃ xm, xp.length = xm := ⟨_, rfl⟩
      dsimp only at ⊢
      rw [hxm] at hpx ⊢
      have hjn : j < n := by rw [← HN.out]; exact (List.getElem?_eq_some_iff.1 hj1').1
      obtain ⟨b, off, rfl, hbl, hc⟩ := il_cells HIL.out (by rw [HN.out]; omega)
      have t0 := hc j xt hj1'
      obtain ⟨W5, hW5⟩ : ∃ W5, (w4.alloc (.cells #[.slice B4 m4 c4, .int .i64 (n : Int)] 24)).alloc (.cells #[.int .i64 xt, .int .i64 (j : Int), .int .i64 (j : Int), .int .i64 xo, .slice xA xm xc] 32) = W5 := ⟨_, rfl⟩
      obtain ⟨h, hh⟩ : ∃ h, w4.heap.size = h := ⟨_, rfl⟩
      have hb5 : Below w4.heap.size w4 W5 := by rw [← hW5]; exact ((Below.refl _ w4).alloc (Nat.le_refl _) _).alloc (by simp) _
      have HP5 : Hid (W5.heap[h]? = some (.cells #[.slice B4 m4 c4, .int .i64 (n : Int)] 24)) := hid (by rw [← hW5, ← hh]; exact (Below.heap_alloc _ _ _ (by simp)).trans (heap_alloc_new w4 _))
      have HQ5 : Hid (W5.heap[h + 1]? = some (.cells #[.int .i64 xt, .int .i64 (j : Int), .int .i64 (j : Int), .int .i64 xo, .slice xA xm xc] 32)) := hid (by
        rw [← hW5, ← hh]
        have h := heap_alloc_new (w4.alloc (.cells #[.slice B4 m4 c4, .int .i64 (n : Int)] 24)) (.cells #[.int .i64 xt, .int .i64 (j : Int), .int .i64 (j : Int), .int .i64 xo, .slice xA xm xc] 32)
        simpa using h)
      have hb45 : Below wr.heap.size wr W5 := hb4.trans (hb5.mono hb4.size)
      have HX5 := hid ((hb45.block _ hgl).trans HX.out)
      have HY5 := hid ((hb45.block _ hgl1).trans HY.out)
      have ho5 := ho4.below hb5
      have HO5 : Hid (Own W5 w1.heap.size (.slice B4 m4 c4) m4 r vs4) := hid ⟨own_base ho5.1 HB.out.size, ho5.2⟩
      have HB5 := hid (HB.out.trans (hb45.mono HB.out.size))
      have hDIS : Hid (∀ k, (Value.slice B4 m4 c4).ownBlock = some k → k ≠ g + 1) := hid (fun k e => by have h1 := (ho5.1.lt k e).1; omega)
      have hgh : g + 1 < h := by rw [← hh]; exact Nat.lt_of_lt_of_le hgl1 hb4.size
      have HW5 := hid hW5
      have HHH := hid hh
      have tt := (HB5.out.cell (p := ⟨b, off + j, none⟩) hbl).trans t0
      have l0 := cell_of_row _ _ 0 _ _ _ HY5.out
      have l1 := cell_of_row _ _ 1 _ _ _ HY5.out
      have p0 := cell_of_row _ _ 0 _ _ _ HQ5.out
      have p1 := cell_of_row _ _ 1 _ _ _ HQ5.out
      have p2 := cell_of_row _ _ 2 _ _ _ HQ5.out
      have hjn' : (j : Int) < (n : Int) := by omega
      have f1 : decide ((j : Int) < 0) = false := decide_eq_false (by omega)
      have f2 : decide ((n : Int) ≤ (j : Int)) = false := decide_eq_false (by omega)
      have f2' : decide (n ≤ j) = false := decide_eq_false (by omega)
      have f3 : (xt != xt) = false := by simp
      have f4 : ((j : Int) != (j : Int)) = false := by simp
      have f5 : decide (xt < lt) = false := decide_eq_false (by omega)
      obtain ⟨bb, hbb⟩ : ∃ bb, (xt == lt) = bb := ⟨_, rfl⟩
      have HF6 := hid (show bb = true → decide ((j : Int) ≤ ln) = false from fun h => decide_eq_false (by rw [h, beq_iff_eq] at hbb; omega))
      clear hpb hq ho4 hb4 hb5 hb45 ho5 hR hgr hord hj1 hlt hlt' hj1' hpx hxm hc t0 hm4 hW5 hh HPOP x0 x1
      go_wp2_with fail
      rw [HW5.out, HHH.out]
      rcases bb with _ | _
      · go_quiet (fail)
        go_wp2_with fail
        obtain ⟨X0, hX0⟩ : ∃ X, (W5.drewN nq).drew = X := ⟨_, rfl⟩
        have hbX : Below w1.heap.size w1 X0 := by rw [← hX0]; exact (below_both_drewN HB5.out nq).drew
        have hxX : X0.heap[g]? = some (.cells #[.slice qA m qc, .int .i64 (n : Int)] 24) := by rw [← hX0]; exact HX5.out
        have hyX : X0.heap[g + 1]? = some (.cells #[.int .i64 lt, .int .i64 ln, .int .i64 lk, .int .i64 lo, .slice dA dn dc] 32) := by rw [← hX0]; exact HY5.out
        have hpX : X0.heap[h]? = some (.cells #[.slice B4 m4 c4, .int .i64 (n : Int)] 24) := by rw [← hX0]; exact HP5.out
        have hqX : X0.heap[h + 1]? = some (.cells #[.int .i64 xt, .int .i64 (j : Int), .int .i64 (j : Int), .int .i64 xo, .slice xA xm xc] 32) := by rw [← hX0]; exact HQ5.out
        have HOX : Hid (Own X0 w1.heap.size (.slice B4 m4 c4) m4 r vs4) := hid (by rw [← hX0]; exact HO5.out)
        have HK : Hid (∀ X : World, X.heap[h]? = some (.cells #[.slice B4 m4 c4, .int .i64 (n : Int)] 24) → X.heap[h + 1]? = some (.cells #[.int .i64 xt, .int .i64 (j : Int), .int .i64 (j : Int), .int .i64 xo, .slice xA xm xc] 32) → X.cell? ⟨h, 0, none⟩ = some (.slice B4 m4 c4) ∧ X.cell? ⟨h, 1, none⟩ = some (.int .i64 (n : Int)) ∧ X.cell? ⟨h + 1, 0, none⟩ = some (.int .i64 xt) ∧ X.cell? ⟨h + 1, 1, none⟩ = some (.int .i64 (j : Int)) ∧ X.cell? ⟨h + 1, 2, none⟩ = some (.int .i64 (j : Int)) ∧ X.cell? ⟨h + 1, 3, none⟩ = some (.int .i64 xo) ∧ X.cell? ⟨h + 1, 4, none⟩ = some (.slice xA xm xc)) := hid (fun X h1 h2 => ⟨cell_of_row _ _ 0 _ _ _ h1, cell_of_row _ _ 1 _ _ _ h1, cell_of_row _ _ 0 _ _ _ h2, cell_of_row _ _ 1 _ _ _ h2, cell_of_row _ _ 2 _ _ _ h2, cell_of_row _ _ 3 _ _ _ h2, cell_of_row _ _ 4 _ _ _ h2⟩)
        refine region_tail 3 (fun X => X.cell? ⟨h, 0, none⟩ = some (.slice B4 m4 c4) ∧ X.cell? ⟨h, 1, none⟩ = some (.int .i64 (n : Int)) ∧ X.cell? ⟨h + 1, 0, none⟩ = some (.int .i64 xt) ∧ X.cell? ⟨h + 1, 1, none⟩ = some (.int .i64 (j : Int)) ∧ X.cell? ⟨h + 1, 2, none⟩ = some (.int .i64 (j : Int)) ∧ X.cell? ⟨h + 1, 3, none⟩ = some (.int .i64 xo) ∧ X.cell? ⟨h + 1, 4, none⟩ = some (.slice xA xm xc)) (by kernel_rfl) ?_
        have hHeld := HK.out X0 hpX hqX
        rw [hX0]
        clear hX0
        refine' wpAnyT_take (i := 0) (oi := ?oir00) (v := ?vr00) ?hir00 (by kernel_rfl) (by kernel_rfl) ?hqr00 ?hyr00 hHeld ?restr00
        case hir00 => (simp only [List.getElem?_toArray, List.getElem?_cons_zero]; rfl)
        case hqr00 => exact fun _ _ _ h => h
        case hyr00 => (refine Or.inl ⟨by rfl, ?_⟩; intro w' hSw; (try dsimp only at hSw); go_simp; try with_reducible rfl)
        (try simp only [Act.put, List.setIfInBounds_toArray, List.set_cons_zero, List.set_cons_succ])
        refine' wpAnyT_take (i := 1) (oi := ?oir01) (v := ?vr01) ?hir01 (by kernel_rfl) (by kernel_rfl) ?hqr01 ?hyr01 hHeld ?restr01
        case hir01 => (simp only [List.getElem?_toArray, List.getElem?_cons_zero, List.getElem?_cons_succ]; rfl)
        case hqr01 => exact fun _ _ _ h => h
        case hyr01 => (refine Or.inl ⟨by rfl, ?_⟩; intro w' hSw; (try dsimp only at hSw); go_simp; try with_reducible rfl)
        (try simp only [Act.put, List.setIfInBounds_toArray, List.set_cons_zero, List.set_cons_succ])
        have x0 := cell_of_row _ _ 0 _ _ _ hxX
        have x1 := cell_of_row _ _ 1 _ _ _ hxX
        have fx0 := box_fr hxX 0
        have fx1 := box_fr hxX 1
        refine' wpAnyT_one (i := 2) (o := ?oic02) (by kernel_rfl) ?hic02 (fun K hK => ?stc02)
        case hic02 => (simp only [List.getElem?_toArray, List.getElem?_cons_zero, List.getElem?_cons_succ]; rfl)
        go_simp
        have hHeld2 := HK.out (set2 X0 g (.slice B4 m4 c4) (.int .i64 (n : Int))) ((set2o _ _ (by omega)).trans hpX) ((set2o _ _ (by omega)).trans hqX)
        refine hK.out _ _ (fun _ => hHeld2) ?_
        clear hK K
        (try simp only [Act.put, List.setIfInBounds_toArray, List.set_cons_zero, List.set_cons_succ])
        obtain ⟨Y, hY⟩ : ∃ Y, (X0.setCell ⟨g, 0, none⟩ (.slice B4 m4 c4)).setCell ⟨g, 1, none⟩ (.int .i64 (n : Int)) = Y := ⟨_, rfl⟩
        have hxY : Y.heap[g]? = some (.cells #[.slice B4 m4 c4, .int .i64 (n : Int)] 24) := by rw [← hY]; exact set2h _ _ hxX
        have hyY : Y.heap[g + 1]? = some (.cells #[.int .i64 lt, .int .i64 ln, .int .i64 lk, .int .i64 lo, .slice dA dn dc] 32) := by rw [← hY]; exact (set2o (v0 := .slice B4 m4 c4) (v1 := .int .i64 (n : Int)) (by omega)).trans hyX
        have hoY : Own Y w1.heap.size (.slice B4 m4 c4) m4 r vs4 := by rw [← hY]; exact HOX.out.set2 hxX _ _
        have hbY : Below w1.heap.size w1 Y := by rw [← hY]; exact set2b _ _ hbX hgw
        rw [hY]
        have z0 := cell_of_row _ _ 0 _ _ _ hyY
        have z1 := cell_of_row _ _ 1 _ _ _ hyY
        have z2 := cell_of_row _ _ 2 _ _ _ hyY
        have z3 := cell_of_row _ _ 3 _ _ _ hyY
        have z4 := cell_of_row _ _ 4 _ _ _ hyY
        have fz0 := box_fr hyY 0
        have fz1 := box_fr hyY 1
        have fz2 := box_fr hyY 2
        have fz3 := box_fr hyY 3
        have fz4 := box_fr hyY 4
        clear hHeld hHeld2 x0 x1 fx0 fx1 hY
        refine' wpAnyT_one (i := 3) (o := ?oid03) (by kernel_rfl) ?hid03 (fun K hK => ?std03)
        case hid03 => (simp only [List.getElem?_toArray, List.getElem?_cons_zero, List.getElem?_cons_succ]; rfl)
        go_simp
        refine hK.out _ _ (fun h => absurd h (by decide)) ?_
        clear hK K
        (try simp only [Act.put, List.setIfInBounds_toArray, List.set_cons_zero, List.set_cons_succ])
        refine wpAnyT_done (by kernel_rfl) ?_ _
        have hoZ : Own (set5 Y (g + 1) (.int .i64 xt) (.int .i64 (j : Int)) (.int .i64 (j : Int)) (.int .i64 xo) (.slice xA xm xc)) w1.heap.size (.slice B4 m4 c4) m4 r vs4 := hoY.set5 (fun k e => hDIS.out k e)  hyY
        have hxZ : (set5 Y (g + 1) (.int .i64 xt) (.int .i64 (j : Int)) (.int .i64 (j : Int)) (.int .i64 xo) (.slice xA xm xc)).heap[g]? = some (.cells #[.slice B4 m4 c4, .int .i64 (n : Int)] 24) := (set5o _ _ _ _ _ (by omega)).trans hxY
        have hyZ : (set5 Y (g + 1) (.int .i64 xt) (.int .i64 (j : Int)) (.int .i64 (j : Int)) (.int .i64 xo) (.slice xA xm xc)).heap[g + 1]? = some (.cells #[.int .i64 xt, .int .i64 (j : Int), .int .i64 (j : Int), .int .i64 xo, .slice xA xm xc] 32) := set5h _ _ _ _ _ hyY
        have hbZ : Below w1.heap.size w1 (set5 Y (g + 1) (.int .i64 xt) (.int .i64 (j : Int)) (.int .i64 (j : Int)) (.int .i64 xo) (.slice xA xm xc)) := set5b _ _ _ _ _ hbY (by omega)
        have HKM4 : Hid (k + 1 + m4 = n) := hid (by have h1 := HKM.out; have h2 := HM4.out; omega)
        have HRL4 : Hid (r.length = m4) := hid hoZ.len.symm
        go_wp2_with fail
        go_roundw
        case rel => exact ⟨k + 1, m4, r, vs4, B4, c4, xt, (j : Int), (j : Int), xo, xA, xm, xc, by omega, by go_num, HKM4, HRL4, HGR4, HAT4, HLT4, hid hxZ, hid hyZ, hid hoZ, hid hbZ⟩
        case measure => simp [Lib.intOf]; omega
      · have f6 := HF6.out rfl
        have f6' : decide ((j : Int) ≤ ln) = false := f6
        go_quiet (fail)
        go_wp2_with fail
        obtain ⟨X0, hX0⟩ : ∃ X, (W5.drewN nq).drew = X := ⟨_, rfl⟩
        have hbX : Below w1.heap.size w1 X0 := by rw [← hX0]; exact (below_both_drewN HB5.out nq).drew
        have hxX : X0.heap[g]? = some (.cells #[.slice qA m qc, .int .i64 (n : Int)] 24) := by rw [← hX0]; exact HX5.out
        have hyX : X0.heap[g + 1]? = some (.cells #[.int .i64 lt, .int .i64 ln, .int .i64 lk, .int .i64 lo, .slice dA dn dc] 32) := by rw [← hX0]; exact HY5.out
        have hpX : X0.heap[h]? = some (.cells #[.slice B4 m4 c4, .int .i64 (n : Int)] 24) := by rw [← hX0]; exact HP5.out
        have hqX : X0.heap[h + 1]? = some (.cells #[.int .i64 xt, .int .i64 (j : Int), .int .i64 (j : Int), .int .i64 xo, .slice xA xm xc] 32) := by rw [← hX0]; exact HQ5.out
        have HOX : Hid (Own X0 w1.heap.size (.slice B4 m4 c4) m4 r vs4) := hid (by rw [← hX0]; exact HO5.out)
        have HK : Hid (∀ X : World, X.heap[h]? = some (.cells #[.slice B4 m4 c4, .int .i64 (n : Int)] 24) → X.heap[h + 1]? = some (.cells #[.int .i64 xt, .int .i64 (j : Int), .int .i64 (j : Int), .int .i64 xo, .slice xA xm xc] 32) → X.cell? ⟨h, 0, none⟩ = some (.slice B4 m4 c4) ∧ X.cell? ⟨h, 1, none⟩ = some (.int .i64 (n : Int)) ∧ X.cell? ⟨h + 1, 0, none⟩ = some (.int .i64 xt) ∧ X.cell? ⟨h + 1, 1, none⟩ = some (.int .i64 (j : Int)) ∧ X.cell? ⟨h + 1, 2, none⟩ = some (.int .i64 (j : Int)) ∧ X.cell? ⟨h + 1, 3, none⟩ = some (.int .i64 xo) ∧ X.cell? ⟨h + 1, 4, none⟩ = some (.slice xA xm xc)) := hid (fun X h1 h2 => ⟨cell_of_row _ _ 0 _ _ _ h1, cell_of_row _ _ 1 _ _ _ h1, cell_of_row _ _ 0 _ _ _ h2, cell_of_row _ _ 1 _ _ _ h2, cell_of_row _ _ 2 _ _ _ h2, cell_of_row _ _ 3 _ _ _ h2, cell_of_row _ _ 4 _ _ _ h2⟩)
        refine region_tail 3 (fun X => X.cell? ⟨h, 0, none⟩ = some (.slice B4 m4 c4) ∧ X.cell? ⟨h, 1, none⟩ = some (.int .i64 (n : Int)) ∧ X.cell? ⟨h + 1, 0, none⟩ = some (.int .i64 xt) ∧ X.cell? ⟨h + 1, 1, none⟩ = some (.int .i64 (j : Int)) ∧ X.cell? ⟨h + 1, 2, none⟩ = some (.int .i64 (j : Int)) ∧ X.cell? ⟨h + 1, 3, none⟩ = some (.int .i64 xo) ∧ X.cell? ⟨h + 1, 4, none⟩ = some (.slice xA xm xc)) (by kernel_rfl) ?_
        have hHeld := HK.out X0 hpX hqX
        rw [hX0]
        clear hX0
        refine' wpAnyT_take (i := 0) (oi := ?oir10) (v := ?vr10) ?hir10 (by kernel_rfl) (by kernel_rfl) ?hqr10 ?hyr10 hHeld ?restr10
        case hir10 => (simp only [List.getElem?_toArray, List.getElem?_cons_zero]; rfl)
        case hqr10 => exact fun _ _ _ h => h
        case hyr10 => (refine Or.inl ⟨by rfl, ?_⟩; intro w' hSw; (try dsimp only at hSw); go_simp; try with_reducible rfl)
        (try simp only [Act.put, List.setIfInBounds_toArray, List.set_cons_zero, List.set_cons_succ])
        refine' wpAnyT_take (i := 1) (oi := ?oir11) (v := ?vr11) ?hir11 (by kernel_rfl) (by kernel_rfl) ?hqr11 ?hyr11 hHeld ?restr11
        case hir11 => (simp only [List.getElem?_toArray, List.getElem?_cons_zero, List.getElem?_cons_succ]; rfl)
        case hqr11 => exact fun _ _ _ h => h
        case hyr11 => (refine Or.inl ⟨by rfl, ?_⟩; intro w' hSw; (try dsimp only at hSw); go_simp; try with_reducible rfl)
        (try simp only [Act.put, List.setIfInBounds_toArray, List.set_cons_zero, List.set_cons_succ])
        have x0 := cell_of_row _ _ 0 _ _ _ hxX
        have x1 := cell_of_row _ _ 1 _ _ _ hxX
        have fx0 := box_fr hxX 0
        have fx1 := box_fr hxX 1
        refine' wpAnyT_one (i := 2) (o := ?oic12) (by kernel_rfl) ?hic12 (fun K hK => ?stc12)
        case hic12 => (simp only [List.getElem?_toArray, List.getElem?_cons_zero, List.getElem?_cons_succ]; rfl)
        go_simp
        have hHeld2 := HK.out (set2 X0 g (.slice B4 m4 c4) (.int .i64 (n : Int))) ((set2o _ _ (by omega)).trans hpX) ((set2o _ _ (by omega)).trans hqX)
        refine hK.out _ _ (fun _ => hHeld2) ?_
        clear hK K
        (try simp only [Act.put, List.setIfInBounds_toArray, List.set_cons_zero, List.set_cons_succ])
        obtain ⟨Y, hY⟩ : ∃ Y, (X0.setCell ⟨g, 0, none⟩ (.slice B4 m4 c4)).setCell ⟨g, 1, none⟩ (.int .i64 (n : Int)) = Y := ⟨_, rfl⟩
        have hxY : Y.heap[g]? = some (.cells #[.slice B4 m4 c4, .int .i64 (n : Int)] 24) := by rw [← hY]; exact set2h _ _ hxX
        have hyY : Y.heap[g + 1]? = some (.cells #[.int .i64 lt, .int .i64 ln, .int .i64 lk, .int .i64 lo, .slice dA dn dc] 32) := by rw [← hY]; exact (set2o (v0 := .slice B4 m4 c4) (v1 := .int .i64 (n : Int)) (by omega)).trans hyX
        have hoY : Own Y w1.heap.size (.slice B4 m4 c4) m4 r vs4 := by rw [← hY]; exact HOX.out.set2 hxX _ _
        have hbY : Below w1.heap.size w1 Y := by rw [← hY]; exact set2b _ _ hbX hgw
        rw [hY]
        have z0 := cell_of_row _ _ 0 _ _ _ hyY
        have z1 := cell_of_row _ _ 1 _ _ _ hyY
        have z2 := cell_of_row _ _ 2 _ _ _ hyY
        have z3 := cell_of_row _ _ 3 _ _ _ hyY
        have z4 := cell_of_row _ _ 4 _ _ _ hyY
        have fz0 := box_fr hyY 0
        have fz1 := box_fr hyY 1
        have fz2 := box_fr hyY 2
        have fz3 := box_fr hyY 3
        have fz4 := box_fr hyY 4
        clear hHeld hHeld2 x0 x1 fx0 fx1 hY
        refine' wpAnyT_one (i := 3) (o := ?oid13) (by kernel_rfl) ?hid13 (fun K hK => ?std13)
        case hid13 => (simp only [List.getElem?_toArray, List.getElem?_cons_zero, List.getElem?_cons_succ]; rfl)
        go_simp
        refine hK.out _ _ (fun h => absurd h (by decide)) ?_
        clear hK K
        (try simp only [Act.put, List.setIfInBounds_toArray, List.set_cons_zero, List.set_cons_succ])
        refine wpAnyT_done (by kernel_rfl) ?_ _
        have hoZ : Own (set5 Y (g + 1) (.int .i64 xt) (.int .i64 (j : Int)) (.int .i64 (j : Int)) (.int .i64 xo) (.slice xA xm xc)) w1.heap.size (.slice B4 m4 c4) m4 r vs4 := hoY.set5 (fun k e => hDIS.out k e)  hyY
        have hxZ : (set5 Y (g + 1) (.int .i64 xt) (.int .i64 (j : Int)) (.int .i64 (j : Int)) (.int .i64 xo) (.slice xA xm xc)).heap[g]? = some (.cells #[.slice B4 m4 c4, .int .i64 (n : Int)] 24) := (set5o _ _ _ _ _ (by omega)).trans hxY
        have hyZ : (set5 Y (g + 1) (.int .i64 xt) (.int .i64 (j : Int)) (.int .i64 (j : Int)) (.int .i64 xo) (.slice xA xm xc)).heap[g + 1]? = some (.cells #[.int .i64 xt, .int .i64 (j : Int), .int .i64 (j : Int), .int .i64 xo, .slice xA xm xc] 32) := set5h _ _ _ _ _ hyY
        have hbZ : Below w1.heap.size w1 (set5 Y (g + 1) (.int .i64 xt) (.int .i64 (j : Int)) (.int .i64 (j : Int)) (.int .i64 xo) (.slice xA xm xc)) := set5b _ _ _ _ _ hbY (by omega)
        have HKM4 : Hid (k + 1 + m4 = n) := hid (by have h1 := HKM.out; have h2 := HM4.out; omega)
        have HRL4 : Hid (r.length = m4) := hid hoZ.len.symm
        go_wp2_with fail
        go_roundw
        case rel => exact ⟨k + 1, m4, r, vs4, B4, c4, xt, (j : Int), (j : Int), xo, xA, xm, xc, by omega, by go_num, HKM4, HRL4, HGR4, HAT4, HLT4, hid hxZ, hid hyZ, hid hoZ, hid hbZ⟩
        case measure => simp [Lib.intOf]; omega
    · obtain rfl : k = n := by omega
      have HE : Hid (R = []) := hid (List.eq_nil_of_length_eq_zero (by have h1 := HRL.out; have h2 := HKM.out; omega))
      go_wp2_with fail
      refine HPOP.out.mono ?_
      rintro e w4 (⟨_, rfl, hb4⟩ | ⟨y, r, q, x, hR, _⟩)
      · obtain ⟨W5, hW5⟩ : ∃ W5, (w4.alloc (.cells #[.slice none 0 0, .int .i64 0] 24)).alloc (.cells #[.int .i64 0, .int .i64 0, .int .i64 0, .int .i64 0, .slice none 0 0] 32) = W5 := ⟨_, rfl⟩
        have hb5 : Below w4.heap.size w4 W5 := by rw [← hW5]; exact ((Below.refl _ w4).alloc (Nat.le_refl _) _).alloc (by simp) _
        have HB5 := hid (HB1.out.trans ((HB.out.trans ((hb4.trans (hb5.mono hb4.size)).mono HB.out.size)).mono HB1.out.size))
        have HW5 := hid hW5
        clear hb4 hb5 hW5 HPOP
        go_wp2_with fail
        rw [HW5.out]
        refine (awake_any W5).mono ?_
        rintro e w6 ⟨rfl, hb6⟩
        have HB6 := hid (HB5.out.trans (hb6.mono HB5.out.size))
        clear hb6
        go_wp2
        go_ret
        exact ⟨rfl, HB6.out⟩
      · exfalso; have h1 := HE.out; rw [h1] at hR; cases hR
end Go.Proofs.Ytjpfogdfgcfkcaa

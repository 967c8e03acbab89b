/- The law EventqueueChecks. -/
import Derived.Test.YtjpfogdfgcfkcaaSi
namespace Go.Proofs.Ytjpfogdfgcfkcaa
open Go.RowKit Go.Lib

def fewP (l : List Ev) : Prop := (∀ i x, i < 100 → l[i]? = some x → x.p.length ≤ 5000) ∧ l.length ≤ 60
set_option maxHeartbeats 4000000 in
set_option maxRecDepth 100000 in
theorem few_dec (l : List Ev) (v : Value) (next : Int) (w : World) (hv : EL w v l) :
    Calls Try.prog 11 #[.agg #[v, .int .i64 next]] w fun e w' => ((e = .returned (.bool true) ∧ fewP l) ∨ (e = .returned (.bool false) ∧ ¬ fewP l)) ∧ Below w.heap.size w w' := by
  obtain ⟨A, c, rfl⟩ := el_form hv
  obtain ⟨N, hN⟩ : ∃ N, l.length = N := ⟨_, rfl⟩
  rw [hN] at hv ⊢
  obtain ⟨W1, hW1⟩ : ∃ W1, w.alloc (.cells #[.slice A N c, .int .i64 next] 24) = W1 := ⟨_, rfl⟩
  obtain ⟨g, hg⟩ : ∃ g, w.heap.size = g := ⟨_, rfl⟩
  have hb1 : Below w.heap.size w W1 := by rw [← hW1]; exact al1 _ _
  have hx1 : W1.heap[g]? = some (.cells #[.slice A N c, .int .i64 next] 24) := by rw [← hW1, ← hg]; exact heap_alloc_new w _
  have HV := hid (hv.below hb1)
  have HN := hid hN
  have HB1 := hid hb1
  have HX1 := hid hx1
  have HW1 := hid hW1
  have HG := hid hg
  clear hv hN hb1 hx1 hW1 hg
  go_enter Try.func11, Try.ntmps11
  go_wp2_with fail
  rw [HW1.out, HG.out]
  go_loopw [3] (fun i wr => ∃ k : Nat, k ≤ N ∧ i = .int .i64 (k : Int) ∧ Hid (∀ j x, j < k → l[j]? = some x → x.p.length ≤ 5000) ∧ Hid (Below W1.heap.size W1 wr)) (fun i _ => N - (Go.RowKit.intOf i).toNat)
  case atStart => exact ⟨0, by omega, rfl, hid (fun j x h => by omega), hid (Below.refl _ _)⟩
  case round =>
    obtain ⟨k, hk, rfl, HS, HB⟩ := hrel
    have HX := hid ((HB.out.block _ (box_lt HX1.out)).trans HX1.out)
    have x0 := cell_of_row _ _ 0 _ _ _ HX.out
    have HBB := hid (HB1.out.trans (HB.out.mono HB1.out.size))
    by_cases hkl : k < N
    · have hkl' : (k : Int) < (N : Int) := by omega
      have f1 : decide ((k : Int) < (N : Int)) = true := decide_eq_true hkl'
      have f1' : decide (k < N) = true := decide_eq_true hkl
      by_cases h100 : k < 100
      · have f2 : decide ((k : Int) < 100) = true := decide_eq_true (by omega)
        obtain ⟨b, off, rfl, hbl, hc⟩ := el_cells HV.out (by rw [HN.out]; omega)
        obtain ⟨x, hx⟩ : ∃ x, l[k]? = some x := ⟨l[k]'(by rw [HN.out]; exact hkl), List.getElem?_eq_getElem _⟩
        obtain ⟨_, _, _, _, q4⟩ := hc k x hx
        have hxb := (HV.out.1 x (List.mem_of_getElem? hx)).1
        obtain ⟨xt, xn, xk, xo, xd, xp⟩ := x
        dsimp only at q4 hxb
        obtain ⟨xA, xc, rfl⟩ := byt_form hxb
        obtain ⟨xm, hxm⟩ : ∃ xm, xp.length = xm := ⟨_, rfl⟩
        rw [hxm] at q4
        have p4 := (HB.out.cell (p := ⟨b, off + k * 5 + 4, none⟩) hbl).trans q4
        have HNO : Hid (5000 < xm → ¬ fewP l) := hid (fun h hf => by have := hf.1 k _ h100 hx; dsimp only at this; omega)
        have HST : Hid (¬ 5000 < xm → ∀ j x, j < k + 1 → l[j]? = some x → x.p.length ≤ 5000) := hid (fun h j y hj hy => by
          by_cases hjk : j < k
          · exact HS.out j y hjk hy
          · obtain rfl : j = k := by omega
            rw [hx] at hy
            injection hy with hy
            rw [← hy]; dsimp only; omega)
        clear hc hx hxb hxm q4
        by_cases h5 : 5000 < xm
        · have f3 : decide ((5000 : Int) < (xm : Int)) = true := decide_eq_true (by omega)
          have HQ := hid (HNO.out h5)
          go_wp2_with fail
          go_ret
          exact ⟨.inr ⟨rfl, HQ.out⟩, HBB.out⟩
        · have f3 : decide ((5000 : Int) < (xm : Int)) = false := decide_eq_false (by omega)
          have HQ := hid (HST.out h5)
          go_wp2_with fail
          go_roundw
          case rel => exact ⟨k + 1, by omega, by go_num, HQ, HB⟩
          case measure => simp [Go.RowKit.intOf]; omega
      · have f2 : decide ((k : Int) < 100) = false := decide_eq_false (by omega)
        have f4 : decide ((N : Int) ≤ 60) = false := decide_eq_false (by omega)
        have HQ : Hid (¬ fewP l) := hid (fun h => by have := h.2; have := HN.out; omega)
        go_wp2_with fail
        go_ret
        exact ⟨.inr ⟨rfl, HQ.out⟩, HBB.out⟩
    · have f1 : decide ((k : Int) < (N : Int)) = false := decide_eq_false (by omega)
      have f1' : decide (k < N) = false := decide_eq_false (by omega)
      by_cases h60 : N ≤ 60
      · have f4 : decide ((N : Int) ≤ 60) = true := decide_eq_true (by omega)
        have HQ : Hid (fewP l) := hid ⟨fun j x _ hx => HS.out j x (by have := (List.getElem?_eq_some_iff.1 hx).1; have := HN.out; omega) hx, by have := HN.out; omega⟩
        go_wp2_with fail
        go_ret
        exact ⟨.inl ⟨rfl, HQ.out⟩, HBB.out⟩
      · have f4 : decide ((N : Int) ≤ 60) = false := decide_eq_false (by omega)
        have HQ : Hid (¬ fewP l) := hid (fun h => by have := h.2; have := HN.out; omega)
        go_wp2_with fail
        go_ret
        exact ⟨.inr ⟨rfl, HQ.out⟩, HBB.out⟩

set_option maxHeartbeats 4000000 in
set_option maxRecDepth 100000 in
theorem checks_walk (u : Value) (next : Int) (l : List Ev) (w : World) (hv : EL w u l) (hr : ∀ x ∈ l, R64 x.n) :
    Calls Try.prog 3 #[.agg #[u, .int .i64 next]] w fun e w' => e = .returned (.bool true) ∧ Below w.heap.size w w' := by
  obtain ⟨A, c, rfl⟩ := el_form hv
  obtain ⟨N, hN⟩ : ∃ N, l.length = N := ⟨_, rfl⟩
  rw [hN] at hv ⊢
  obtain ⟨W1, hW1⟩ : ∃ W1, w.alloc (.cells #[.slice A N c, .int .i64 next] 24) = W1 := ⟨_, rfl⟩
  obtain ⟨g, hg⟩ : ∃ g, w.heap.size = g := ⟨_, rfl⟩
  have hb1 : Below w.heap.size w W1 := by rw [← hW1]; exact al1 _ _
  have hx1 : W1.heap[g]? = some (.cells #[.slice A N c, .int .i64 next] 24) := by rw [← hW1, ← hg]; exact heap_alloc_new w _
  have HFW := hid (fun (X : World) (hX : Below W1.heap.size W1 X) => few_dec l _ next X ((hv.below hb1).below hX))
  have HCK := hid (fun (X : World) (hX : Below W1.heap.size W1 X) => check_any l _ next X ((hv.below hb1).below hX) hr)
  have HRC := hid (fun (X : World) (hX : Below W1.heap.size W1 X) => refCheck_any l _ next X ((hv.below hb1).below hX))
  obtain ⟨ck, hck⟩ : ∃ ck, chk (l.map core) next = ck := ⟨_, rfl⟩
  rw [hck] at HCK HRC
  have HAW := hid (fun (X : World) => awake_any X)
  have dcc : (ck == ck) = true := beq_self_eq_true ck
  have HK := hid (fun (X : World) (hX : Below W1.heap.size W1 X) => And.intro (cell_of_row _ _ 0 _ _ _ ((hX.block _ (box_lt hx1)).trans hx1)) (cell_of_row _ _ 1 _ _ _ ((hX.block _ (box_lt hx1)).trans hx1)))
  have HB1 := hid hb1
  have HW1 := hid hW1
  have HG := hid hg
  have hlg := box_lt hx1
  have x0 := cell_of_row _ _ 0 _ _ _ hx1
  have x1 := cell_of_row _ _ 1 _ _ _ hx1
  clear hv hN hb1 hx1 hW1 hg hck hr
  by_cases hf : fewP l
  · have HF := hid hf
    clear hf
    go_enter Try.func3, Try.ntmps3
    go_wp2_with fail
    rw [HW1.out, HG.out]
    go_region_held3 (fun X => X.cell? ⟨g, 0, none⟩ = some (.slice A N c) ∧ X.cell? ⟨g, 1, none⟩ = some (.int .i64 next)) (go_keep)
      (first | (have h4 := HB4.out; go_at_call 13; refine (HRC.out w4 h4).mono ?_; rintro e w5 ⟨rfl, hb5⟩; have hb15 := h4.trans (hb5.mono h4.size); have HB5 := hid hb15; obtain ⟨x0, x1⟩ := HK.out w5 hb15; clear hb5 hb15 h4) | (have h3 := HB3.out; go_at_call 12; refine (HCK.out w3 h3).mono ?_; rintro e w4 ⟨rfl, hb4⟩; have hb14 := h3.trans (hb4.mono h3.size); have HB4 := hid hb14; obtain ⟨x0, x1⟩ := HK.out w4 hb14; clear hb4 hb14 h3) | (have h2 := HB2.out; go_at_call 11; refine (HFW.out w2 h2).mono ?_; rintro e w3 ⟨hc, hb3⟩; obtain rfl : e = .returned (.bool true) := hc.elim (fun h => h.1) (fun h => absurd HF.out h.2); have hb13 := h2.trans (hb3.mono h2.size); have HB3 := hid hb13; obtain ⟨x0, x1⟩ := HK.out w3 hb13; clear hc hb3 hb13 h2) | (go_at_call 10; refine (HAW.out W1.drew).mono ?_; rintro e w2 ⟨rfl, hb2'⟩; have hb2 : Below W1.heap.size W1 w2 := ⟨hb2'.os, hb2'.tape, hb2'.output, hb2'.size, hb2'.block⟩; have HB2 := hid hb2; obtain ⟨x0, x1⟩ := HK.out w2 hb2; clear hb2 hb2'))
    have HBF := hid (HB1.out.trans (HB5.out.mono HB1.out.size))
    go_wp2
    go_ret
    exact ⟨rfl, HBF.out⟩
  · have HF := hid hf
    clear hf
    go_enter Try.func3, Try.ntmps3
    go_wp2_with fail
    rw [HW1.out, HG.out]
    refine region_tail 13 (fun X => X.cell? ⟨g, 0, none⟩ = some (.slice A N c) ∧ X.cell? ⟨g, 1, none⟩ = some (.int .i64 next)) (by kernel_rfl) ?_
    obtain ⟨X0, hX0⟩ : ∃ X, W1.drew = X := ⟨_, rfl⟩
    have hB0 : Below W1.heap.size W1 X0 := by rw [← hX0]; exact (Below.refl W1.heap.size W1).drew
    have hHeld := HK.out X0 hB0
    rw [hX0]
    clear hX0
    refine' wpAnyT_one (i := 0) (o := ?oic0) (by kernel_rfl) ?hic0 (fun K hK => ?stc0)
    case hic0 => (simp only [List.getElem?_toArray, List.getElem?_cons_zero]; rfl)
    go_simp
    go_at_call 10
    refine (HAW.out X0).mono ?_
    rintro e w2 ⟨rfl, hb2'⟩
    have hb2 := hB0.trans (hb2'.mono hB0.size)
    have hHeld2 := HK.out w2 hb2
    go_simp
    refine hK.out _ _ (fun _ => hHeld2) ?_
    clear hK K
    (try simp only [Act.put, List.setIfInBounds_toArray, List.set_cons_zero, List.set_cons_succ])
    clear hHeld
    have hHeld := hHeld2
    clear hHeld2
    refine' wpAnyT_take (i := 1) (oi := ?oia1) (v := ?va1) ?hia1 (by kernel_rfl) (by kernel_rfl) ?hqa1 ?hya1 hHeld ?resta1
    case hia1 => (simp only [List.getElem?_toArray, List.getElem?_cons_zero, List.getElem?_cons_succ]; rfl)
    case hqa1 => exact fun _ _ _ h => h
    case hya1 => (refine Or.inl ⟨by rfl, ?_⟩; intro w' hSw; (try dsimp only at hSw); go_simp; try with_reducible rfl)
    (try simp only [Act.put, List.setIfInBounds_toArray, List.set_cons_zero, List.set_cons_succ])
    refine' wpAnyT_take (i := 2) (oi := ?oia2) (v := ?va2) ?hia2 (by kernel_rfl) (by kernel_rfl) ?hqa2 ?hya2 hHeld ?resta2
    case hia2 => (simp only [List.getElem?_toArray, List.getElem?_cons_zero, List.getElem?_cons_succ]; rfl)
    case hqa2 => exact fun _ _ _ h => h
    case hya2 => (refine Or.inl ⟨by rfl, ?_⟩; intro w' hSw; (try dsimp only at hSw); go_simp; try with_reducible rfl)
    (try simp only [Act.put, List.setIfInBounds_toArray, List.set_cons_zero, List.set_cons_succ])
    refine' wpAnyT_one (i := 3) (o := ?oic3) (by kernel_rfl) ?hic3 (fun K hK => ?stc3)
    case hic3 => (simp only [List.getElem?_toArray, List.getElem?_cons_zero, List.getElem?_cons_succ]; rfl)
    go_simp
    go_at_call 11
    refine (HFW.out w2 hb2).mono ?_
    rintro e w3 ⟨hc, hb3⟩
    obtain rfl : e = .returned (.bool false) := hc.elim (fun h => absurd h.2 HF.out) (fun h => h.1)
    have hb13 := hb2.trans (hb3.mono hb2.size)
    have HB3 := hid hb13
    have hHeld2 := HK.out w3 hb13
    go_simp
    refine hK.out _ _ (fun _ => hHeld2) ?_
    clear hK K
    (try simp only [Act.put, List.setIfInBounds_toArray, List.set_cons_zero, List.set_cons_succ])
    clear hHeld
    have hHeld := hHeld2
    clear hHeld2
    refine' wpAnyT_take (i := 4) (oi := ?oia4) (v := ?va4) ?hia4 (by kernel_rfl) (by kernel_rfl) ?hqa4 ?hya4 hHeld ?resta4
    case hia4 => (simp only [List.getElem?_toArray, List.getElem?_cons_zero, List.getElem?_cons_succ]; rfl)
    case hqa4 => exact fun _ _ _ h => h
    case hya4 => (refine Or.inl ⟨by rfl, ?_⟩; intro w' hSw; (try dsimp only at hSw); go_simp; try with_reducible rfl)
    (try simp only [Act.put, List.setIfInBounds_toArray, List.set_cons_zero, List.set_cons_succ])
    refine' wpAnyT_take (i := 5) (oi := ?oia5) (v := ?va5) ?hia5 (by kernel_rfl) (by kernel_rfl) ?hqa5 ?hya5 hHeld ?resta5
    case hia5 => (simp only [List.getElem?_toArray, List.getElem?_cons_zero, List.getElem?_cons_succ]; rfl)
    case hqa5 => exact fun _ _ _ h => h
    case hya5 => (refine Or.inl ⟨by rfl, ?_⟩; intro w' hSw; (try dsimp only at hSw); go_simp; try with_reducible rfl)
    (try simp only [Act.put, List.setIfInBounds_toArray, List.set_cons_zero, List.set_cons_succ])
    refine' wpAnyT_take (i := 6) (oi := ?oia6) (v := undef) ?hia6 (by kernel_rfl) (by kernel_rfl) ?hqa6 ?hya6 hHeld ?resta6
    case hia6 => (simp only [List.getElem?_toArray, List.getElem?_cons_zero, List.getElem?_cons_succ]; rfl)
    case hqa6 => exact fun _ _ _ h => h
    case hya6 => exact Or.inr ⟨by rfl, rfl⟩
    (try simp only [Act.put, List.setIfInBounds_toArray, List.set_cons_zero, List.set_cons_succ])
    refine' wpAnyT_take (i := 8) (oi := ?oia8) (v := undef) ?hia8 (by kernel_rfl) (by kernel_rfl) ?hqa8 ?hya8 hHeld ?resta8
    case hia8 => (simp only [List.getElem?_toArray, List.getElem?_cons_zero, List.getElem?_cons_succ]; rfl)
    case hqa8 => exact fun _ _ _ h => h
    case hya8 => exact Or.inr ⟨by rfl, rfl⟩
    (try simp only [Act.put, List.setIfInBounds_toArray, List.set_cons_zero, List.set_cons_succ])
    refine' wpAnyT_one (i := 7) (o := ?oic7) (by kernel_rfl) ?hic7 (fun K hK => ?stc7)
    case hic7 => (simp only [List.getElem?_toArray, List.getElem?_cons_zero, List.getElem?_cons_succ]; rfl)
    go_simp
    refine hK.out _ _ (fun _ => hHeld) ?_
    clear hK K
    (try simp only [Act.put, List.setIfInBounds_toArray, List.set_cons_zero, List.set_cons_succ])
    refine' wpAnyT_one (i := 9) (o := ?oic9) (by kernel_rfl) ?hic9 (fun K hK => ?stc9)
    case hic9 => (simp only [List.getElem?_toArray, List.getElem?_cons_zero, List.getElem?_cons_succ]; rfl)
    go_simp
    refine hK.out _ _ (fun _ => hHeld) ?_
    clear hK K
    (try simp only [Act.put, List.setIfInBounds_toArray, List.set_cons_zero, List.set_cons_succ])
    refine' wpAnyT_one (i := 10) (o := ?oic10) (by kernel_rfl) ?hic10 (fun K hK => ?stc10)
    case hic10 => (simp only [List.getElem?_toArray, List.getElem?_cons_zero, List.getElem?_cons_succ]; rfl)
    go_simp
    refine hK.out _ _ (fun _ => hHeld) ?_
    clear hK K
    (try simp only [Act.put, List.setIfInBounds_toArray, List.set_cons_zero, List.set_cons_succ])
    refine' wpAnyT_one (i := 11) (o := ?oic11) (by kernel_rfl) ?hic11 (fun K hK => ?stc11)
    case hic11 => (simp only [List.getElem?_toArray, List.getElem?_cons_zero, List.getElem?_cons_succ]; rfl)
    go_simp
    refine hK.out _ _ (fun _ => hHeld) ?_
    clear hK K
    (try simp only [Act.put, List.setIfInBounds_toArray, List.set_cons_zero, List.set_cons_succ])
    refine' wpAnyT_one (i := 12) (o := ?oic12) (by kernel_rfl) ?hic12 (fun K hK => ?stc12)
    case hic12 => (simp only [List.getElem?_toArray, List.getElem?_cons_zero, List.getElem?_cons_succ]; rfl)
    go_simp
    refine hK.out _ _ (fun _ => hHeld) ?_
    clear hK K
    (try simp only [Act.put, List.setIfInBounds_toArray, List.set_cons_zero, List.set_cons_succ])
    refine' wpAnyT_one (i := 13) (o := ?oic13) (by kernel_rfl) ?hic13 (fun K hK => ?stc13)
    case hic13 => (simp only [List.getElem?_toArray, List.getElem?_cons_zero, List.getElem?_cons_succ]; rfl)
    go_simp
    refine hK.out _ _ (fun h => absurd h (by decide)) ?_
    clear hK K
    (try simp only [Act.put, List.setIfInBounds_toArray, List.set_cons_zero, List.set_cons_succ])
    refine wpAnyT_done (by kernel_rfl) ?_ _
    have HBF := hid (HB1.out.trans (HB3.out.mono HB1.out.size))
    go_wp2
    go_ret
    exact ⟨rfl, HBF.out⟩
end Go.Proofs.Ytjpfogdfgcfkcaa

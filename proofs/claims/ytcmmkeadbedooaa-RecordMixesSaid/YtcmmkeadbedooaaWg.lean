/- The law RecordMixes. -/
import Derived.Test.YtcmmkeadbedooaaX
import Derived.Test.YtcmmkeadbedooaaV2
import Derived.Test.YtcmmkeadbedooaaE
import Derived.Test.YtcmmkeadbedooaaYa
import Derived.Test.YtcmmkeadbedooaaRe
namespace Go.Proofs.Ytcmmkeadbedooaa
open Go.RowKit Go.Lib

/-- Booleans that came in. -/
def Boo (w : World) (v : Value) (l : List Bool) : Prop := Arr w v 1 (l.map fun b => [.bool b])
theorem Boo.below {w w' : World} {v : Value} {l : List Bool} (h : Boo w v l) (hb : Below w.heap.size w w') : Boo w' v l := Arr.below h hb
theorem boo_form {w : World} {v : Value} {l : List Bool} (h : Boo w v l) : ∃ A c, v = .slice A l.length c := by
  obtain ⟨A, c, e⟩ := arr_form h
  rw [List.length_map] at e
  exact ⟨A, c, e⟩
theorem boo_at {w : World} {A : Option Addr} {n c : Nat} {l : List Bool} (h : Boo w (.slice A n c) l) (hp : 0 < l.length) : ∃ b off, A = some ⟨b, off, none⟩ ∧ b < w.heap.size ∧ ∀ (i : Nat) (x : Bool), l[i]? = some x → w.cell? ⟨b, off + i, none⟩ = some (.bool x) := by
  obtain ⟨b, off, h1, h2, h3⟩ := arr_at1 h (by rw [List.length_map]; exact hp)
  refine ⟨b, off, h1, h2, fun i x hx => ?_⟩
  have := h3 i [.bool x] (by rw [List.getElem?_map, hx]; rfl) 0 _ rfl
  simpa using this

section
open Go
variable {P : Program} {ops : Array Oper} {Q : Exit → Act → World → Prop} {md : Region.Mode} {S : World → Prop} {n : Nat}
theorem wpAnyT_all {l : List Nat} {fuel : Nat} {listed : Array Bool} {a : Act} {w : World} (hr : Region.ready md ops listed = l) (hne : l ≠ [])
    (h : ∀ i ∈ l, ∃ o, ops[i]? = some o ∧ ∀ K' : Act → World → Prop, Shut (∀ a w, (i < n → S w) → wpAnyT P md ops Q S n fuel (listed.setIfInBounds i true) a w → K' a w) → if Region.wanted o (yielded ops a.tmps) = true then Oper.wp P o a w K' Q else K' (a.put o.dst undef) w) :
    wpAnyT P md ops Q S n (fuel + 1) listed a w := by
  refine ⟨fun h0 => (by rw [hr] at h0; exact absurd h0 hne), fun j hj => ?_⟩
  rw [hr] at hj
  obtain ⟨o, ho, hk⟩ := h j hj
  exact wpOp_step ho (fun K' hK => hk K' (fun a w hS hW => hK a w ⟨hS, hW⟩))
end
theorem put3h {w : World} {x : Nat} {a0 a1 a2 : Value} (v0 v1 v2 : Value) (h : w.heap[x]? = some (.cells #[a0, a1, a2] 27)) :
    (((w.setCell ⟨x, 0, none⟩ v0).setCell ⟨x, 1, none⟩ v1).setCell ⟨x, 2, none⟩ v2).heap[x]? = some (.cells #[v0, v1, v2] 27) :=
  box_set (box_set (box_set (cs := [a0, a1, a2]) h 0 v0) 1 v1) 2 v2
theorem put3o {w : World} {x y : Nat} (v0 v1 v2 : Value) (h : y ≠ x) : (((w.setCell ⟨x, 0, none⟩ v0).setCell ⟨x, 1, none⟩ v1).setCell ⟨x, 2, none⟩ v2).heap[y]? = w.heap[y]? := by
  rw [Below.heap_setCell _ _ _ _ h, Below.heap_setCell _ _ _ _ h, Below.heap_setCell _ _ _ _ h]
theorem put3b {B : Nat} {w0 w : World} {x : Nat} (v0 v1 v2 : Value) (h : Below B w0 w) (hx : B ≤ x) : Below B w0 (((w.setCell ⟨x, 0, none⟩ v0).setCell ⟨x, 1, none⟩ v1).setCell ⟨x, 2, none⟩ v2) :=
  ((h.setCell (p := ⟨x, 0, none⟩) hx _).setCell (p := ⟨x, 1, none⟩) hx _).setCell (p := ⟨x, 2, none⟩) hx _

set_option maxHeartbeats 4000000 in
set_option maxRecDepth 100000 in
theorem mixes_walk (a b : Rv) (fl : List Bool) (v : Value) (w : World) (ha : RvOk w a) (hb : RvOk w b) (hf : Boo w v fl) :
    Calls Try.prog 8 #[.agg #[.int .i64 a.k, .int .i64 a.q, a.d], .agg #[.int .i64 b.k, .int .i64 b.q, b.d], v] w fun e w' => e = .returned (.bool true) ∧ Below w.heap.size w w' := by
  obtain ⟨ak, aq, ad, ap⟩ := a
  obtain ⟨bk, bq, bd, bp⟩ := b
  obtain ⟨hpa, hna, _, _⟩ := ha
  obtain ⟨hpb, hnb, _, _⟩ := hb
  dsimp only at hpa hna hpb hnb ⊢
  obtain ⟨A, c, rfl⟩ := byt_form hpa
  obtain ⟨B, d, rfl⟩ := byt_form hpb
  obtain ⟨F, fc, rfl⟩ := boo_form hf
  obtain ⟨N, hN⟩ : ∃ N, ap.length = N := ⟨_, rfl⟩
  obtain ⟨M, hM⟩ : ∃ M, bp.length = M := ⟨_, rfl⟩
  obtain ⟨L, hL⟩ : ∃ L, fl.length = L := ⟨_, rfl⟩
  rw [hN] at hpa hna ⊢
  rw [hM] at hpb hnb ⊢
  rw [hL] at hf ⊢
  obtain ⟨W1, hW1⟩ : ∃ W1, (w.alloc (.cells #[.int .i64 ak, .int .i64 aq, .slice A N c] 27)).alloc (.cells #[.int .i64 bk, .int .i64 bq, .slice B M d] 27) = W1 := ⟨_, rfl⟩
  have hb1 : Below w.heap.size w W1 := by rw [← hW1]; exact ((Below.refl _ w).alloc (Nat.le_refl _) _).alloc (by simp) _
  have hx1 : W1.heap[w.heap.size]? = some (.cells #[.int .i64 ak, .int .i64 aq, .slice A N c] 27) := by rw [← hW1]; exact (Below.heap_alloc _ _ _ (by simp)).trans (heap_alloc_new w _)
  have hy1 : W1.heap[w.heap.size + 1]? = some (.cells #[.int .i64 bk, .int .i64 bq, .slice B M d] 27) := by rw [← hW1]; simpa using heap_alloc_new (w.alloc (.cells #[.int .i64 ak, .int .i64 aq, .slice A N c] 27)) (.cells #[.int .i64 bk, .int .i64 bq, .slice B M d] 27)
  have HPA := hid hpa
  have HPB := hid hpb
  have HF := hid hf
  have HB1 := hid hb1
  have HN := hid hN
  have HM := hid hM
  have HL := hid hL
  have HX1 := hid hx1
  have HY1 := hid hy1
  have HW1 := hid hW1
  obtain ⟨g, hg⟩ : ∃ g, w.heap.size = g := ⟨_, rfl⟩
  have HG := hid hg
  have x0 : W1.cell? ⟨w.heap.size, 0, none⟩ = some (.int .i64 ak) := cell_of_row _ _ 0 _ _ _ hx1
  have x1 : W1.cell? ⟨w.heap.size, 1, none⟩ = some (.int .i64 aq) := cell_of_row _ _ 1 _ _ _ hx1
  have x2 : W1.cell? ⟨w.heap.size, 2, none⟩ = some (.slice A N c) := cell_of_row _ _ 2 _ _ _ hx1
  have y0 : W1.cell? ⟨w.heap.size + 1, 0, none⟩ = some (.int .i64 bk) := cell_of_row _ _ 0 _ _ _ hy1
  have y1 : W1.cell? ⟨w.heap.size + 1, 1, none⟩ = some (.int .i64 bq) := cell_of_row _ _ 1 _ _ _ hy1
  have y2 : W1.cell? ⟨w.heap.size + 1, 2, none⟩ = some (.slice B M d) := cell_of_row _ _ 2 _ _ _ hy1
  clear hpa hna hpb hnb hf hb1 hx1 hy1 hN hM hL hW1 hg
  by_cases h1 : 100 < N
  · have d1 : decide ((100 : Int) < (N : Int)) = true := decide_eq_true (by omega)
    go_enter Try.func8, Try.ntmps8
    go_wp2_with fail
    rw [HW1.out]
    refine (awake_any W1).mono ?_
    rintro e w2 ⟨rfl, hb2⟩
    have HB2 := hid (HB1.out.trans (hb2.mono HB1.out.size))
    clear hb2
    go_wp2
    go_ret
    exact ⟨rfl, HB2.out⟩
  have d1 : decide ((100 : Int) < (N : Int)) = false := decide_eq_false (by omega)
  by_cases h2 : 100 < M
  · have d2 : decide ((100 : Int) < (M : Int)) = true := decide_eq_true (by omega)
    go_enter Try.func8, Try.ntmps8
    go_wp2_with fail
    rw [HW1.out]
    refine (awake_any W1).mono ?_
    rintro e w2 ⟨rfl, hb2⟩
    have HB2 := hid (HB1.out.trans (hb2.mono HB1.out.size))
    clear hb2
    go_wp2
    go_ret
    exact ⟨rfl, HB2.out⟩
  have d2 : decide ((100 : Int) < (M : Int)) = false := decide_eq_false (by omega)
  have HFA := hid (fun W => fit_any ak aq (.slice A N c) A N c W rfl)
  have HFB := hid (fun W => fit_any bk bq (.slice B M d) B M d W rfl)
  obtain ⟨xk, hxk⟩ : ∃ xk, fk ak = xk := ⟨_, rfl⟩
  obtain ⟨xq, hxq⟩ : ∃ xq, fq aq = xq := ⟨_, rfl⟩
  obtain ⟨yk, hyk⟩ : ∃ yk, fk bk = yk := ⟨_, rfl⟩
  obtain ⟨yq, hyq⟩ : ∃ yq, fq bq = yq := ⟨_, rfl⟩
  have hka := fk_ok ak
  have hqa := fq_ok aq
  have hkb := fk_ok bk
  have hqb := fq_ok bq
  rw [hxk] at HFA hka
  rw [hxq] at HFA hqa
  rw [hyk] at HFB hkb
  rw [hyq] at HFB hqb
  clear hxk hxq hyk hyq
  go_enter Try.func8, Try.ntmps8
  go_wp2_with fail
  rw [HG.out] at x0 x1 x2 y0 y1 y2 HX1 HY1
  have hg1 := box_lt HX1.out
  have hg2 := box_lt HY1.out
  rw [HW1.out, HG.out]
  go_cut [7, 8] (fun a b wx => ∃ g7 g8 : Nat, a = .pointer (some ⟨g7, 0, none⟩) ∧ b = .pointer (some ⟨g8, 0, none⟩) ∧ Hid (g7 ≠ g8) ∧ Hid (Below W1.heap.size W1 wx) ∧ Hid (wx.heap[g7]? = some (.cells #[.int .i64 (xk : Int), .int .i64 (xq : Int), .slice A N c] 27)) ∧ Hid (wx.heap[g8]? = some (.cells #[.int .i64 (yk : Int), .int .i64 (yq : Int), .slice B M d] 27)) ∧ Hid (W1.heap.size ≤ g7 ∧ W1.heap.size ≤ g8))
  case first =>
    have HS : Hid (∀ X, Below W1.heap.size W1 X → X.cell? ⟨g, 0, none⟩ = some (.int .i64 ak) ∧ X.cell? ⟨g, 1, none⟩ = some (.int .i64 aq) ∧ X.cell? ⟨g, 2, none⟩ = some (.slice A N c) ∧ X.cell? ⟨g + 1, 0, none⟩ = some (.int .i64 bk) ∧ X.cell? ⟨g + 1, 1, none⟩ = some (.int .i64 bq) ∧ X.cell? ⟨g + 1, 2, none⟩ = some (.slice B M d)) := hid (fun X hX => ⟨(hX.cell (p := ⟨g, 0, none⟩) hg1).trans x0, (hX.cell (p := ⟨g, 1, none⟩) hg1).trans x1, (hX.cell (p := ⟨g, 2, none⟩) hg1).trans x2, (hX.cell (p := ⟨g + 1, 0, none⟩) hg2).trans y0, (hX.cell (p := ⟨g + 1, 1, none⟩) hg2).trans y1, (hX.cell (p := ⟨g + 1, 2, none⟩) hg2).trans y2⟩)
    have HB0 := hid (below_drew (Below.refl W1.heap.size W1))
    refine region_tail 6 (fun X => X.cell? ⟨g, 0, none⟩ = some (.int .i64 ak) ∧ X.cell? ⟨g, 1, none⟩ = some (.int .i64 aq) ∧ X.cell? ⟨g, 2, none⟩ = some (.slice A N c) ∧ X.cell? ⟨g + 1, 0, none⟩ = some (.int .i64 bk) ∧ X.cell? ⟨g + 1, 1, none⟩ = some (.int .i64 bq) ∧ X.cell? ⟨g + 1, 2, none⟩ = some (.slice B M d)) (by kernel_rfl) ?_
    have hHeld := HS.out _ HB0.out
    obtain ⟨X0, hX0⟩ : ∃ X, W1.drew = X := ⟨_, rfl⟩
    rw [hX0] at hHeld HB0 ⊢
    clear hX0
    refine' wpAnyT_take (i := 0) (oi := ?oik0) (v := ?vk0) ?hik0 (by kernel_rfl) (by kernel_rfl) ?hqk0 ?hyk0 hHeld ?restk0
    case hik0 => (simp only [List.getElem?_toArray, List.getElem?_cons_zero]; rfl)
    case hqk0 => exact fun _ _ _ h => h
    case hyk0 => (refine Or.inl ⟨by rfl, ?_⟩; intro w' hSw; (try dsimp only at hSw); go_simp; try with_reducible rfl)
    (try simp only [Act.put, List.setIfInBounds_toArray, List.set_cons_zero, List.set_cons_succ])
    refine' wpAnyT_take (i := 2) (oi := ?oik2) (v := ?vk2) ?hik2 (by kernel_rfl) (by kernel_rfl) ?hqk2 ?hyk2 hHeld ?restk2
    case hik2 => (simp only [List.getElem?_toArray, List.getElem?_cons_zero, List.getElem?_cons_succ]; rfl)
    case hqk2 => exact fun _ _ _ h => h
    case hyk2 => (refine Or.inl ⟨by rfl, ?_⟩; intro w' hSw; (try dsimp only at hSw); go_simp; try with_reducible rfl)
    (try simp only [Act.put, List.setIfInBounds_toArray, List.set_cons_zero, List.set_cons_succ])
    refine wpAnyT_all (l := [1, 4, 5]) (by kernel_rfl) (by decide) ?_
    intro i hi
    simp only [List.mem_cons, List.not_mem_nil, or_false] at hi
    rcases hi with rfl | rfl | rfl
    · refine ⟨_, by (simp only [List.getElem?_toArray, List.getElem?_cons_zero, List.getElem?_cons_succ]; rfl), fun K hK => ?_⟩
      go_simp
      go_at_call 23
      refine (HFA.out X0).mono ?_
      rintro e X1 ⟨rfl, hbn⟩
      have HB1 := hid (HB0.out.trans (hbn.mono HB0.out.size))
      clear hbn
      go_simp
      refine hK.out _ _ (fun _ => HS.out _ HB1.out) ?_
      clear hK K
      (try simp only [Act.put, List.setIfInBounds_toArray, List.set_cons_zero, List.set_cons_succ])
      refine wpAnyT_all (l := [3, 4, 5]) (by kernel_rfl) (by decide) ?_
      intro i hi
      simp only [List.mem_cons, List.not_mem_nil, or_false] at hi
      rcases hi with rfl | rfl | rfl
      · refine ⟨_, by (simp only [List.getElem?_toArray, List.getElem?_cons_zero, List.getElem?_cons_succ]; rfl), fun K hK => ?_⟩
        go_simp
        go_at_call 23
        refine (HFB.out X1).mono ?_
        rintro e X13 ⟨rfl, hbn⟩
        have HB13 := hid (HB1.out.trans (hbn.mono HB1.out.size))
        clear hbn
        go_simp
        refine hK.out _ _ (fun _ => HS.out _ HB13.out) ?_
        clear hK K
        (try simp only [Act.put, List.setIfInBounds_toArray, List.set_cons_zero, List.set_cons_succ])
        refine wpAnyT_all (l := [4, 5]) (by kernel_rfl) (by decide) ?_
        intro i hi
        simp only [List.mem_cons, List.not_mem_nil, or_false] at hi
        rcases hi with rfl | rfl
        · refine ⟨_, by (simp only [List.getElem?_toArray, List.getElem?_cons_zero, List.getElem?_cons_succ]; rfl), fun K hK => ?_⟩
          go_simp
          obtain ⟨X134, hX134⟩ : ∃ X, X13.alloc (.cells #[.int .i64 0, .int .i64 0, .slice none 0 0] 27) = X := ⟨_, rfl⟩
          rw [hX134]
          have hbn : Below X13.heap.size X13 X134 := by rw [← hX134]; exact al1 _ _
          have HB134 := hid (HB13.out.trans (hbn.mono HB13.out.size))
          have HA134 : Hid (X134.heap[X13.heap.size]? = some (.cells #[.int .i64 0, .int .i64 0, .slice none 0 0] 27)) := hid (by rw [← hX134]; exact heap_alloc_new _ _)
          obtain ⟨g7, hg7⟩ : ∃ g0, X13.heap.size = g0 := ⟨_, rfl⟩
          rw [hg7] at HA134
          try rw [hg7]
          have Hg7 := hid hg7
          have Hg7b : Hid (W1.heap.size ≤ g7) := hid (by rw [← hg7]; exact HB13.out.size)
          clear hbn hX134 hg7
          refine hK.out _ _ (fun _ => HS.out _ HB134.out) ?_
          clear hK K
          (try simp only [Act.put, List.setIfInBounds_toArray, List.set_cons_zero, List.set_cons_succ])
          refine wpAnyT_all (l := [5]) (by kernel_rfl) (by decide) ?_
          intro i hi
          simp only [List.mem_cons, List.not_mem_nil, or_false] at hi
          subst hi
          refine ⟨_, by (simp only [List.getElem?_toArray, List.getElem?_cons_zero, List.getElem?_cons_succ]; rfl), fun K hK => ?_⟩
          go_simp
          obtain ⟨X1345, hX1345⟩ : ∃ X, X134.alloc (.cells #[.int .i64 0, .int .i64 0, .slice none 0 0] 27) = X := ⟨_, rfl⟩
          rw [hX1345]
          have hbn : Below X134.heap.size X134 X1345 := by rw [← hX1345]; exact al1 _ _
          have HB1345 := hid (HB134.out.trans (hbn.mono HB134.out.size))
          have HC1345 : Hid (X1345.heap[X134.heap.size]? = some (.cells #[.int .i64 0, .int .i64 0, .slice none 0 0] 27)) := hid (by rw [← hX1345]; exact heap_alloc_new _ _)
          obtain ⟨g8, hg8⟩ : ∃ g0, X134.heap.size = g0 := ⟨_, rfl⟩
          rw [hg8] at HC1345
          try rw [hg8]
          have Hg8 := hid hg8
          have HNE : Hid (g7 ≠ g8) := hid (by have := box_lt HA134.out; omega)
          have HA1345 := hid ((hbn.block _ (box_lt HA134.out)).trans HA134.out)
          have Hg8b : Hid (W1.heap.size ≤ g8) := hid (by rw [← hg8]; exact HB134.out.size)
          clear hbn hX1345 hg8
          refine hK.out _ _ (fun _ => HS.out _ HB1345.out) ?_
          clear hK K
          (try simp only [Act.put, List.setIfInBounds_toArray, List.set_cons_zero, List.set_cons_succ])
          have hne := HNE.out
          have hne' : g7 ≠ g8 := by first | exact hne | exact hne.symm
          have fa := HA1345.out
          have fc := HC1345.out
          have a0 := cell_of_row _ _ 0 _ _ _ fa
          have a1 := cell_of_row _ _ 1 _ _ _ fa
          have a2 := cell_of_row _ _ 2 _ _ _ fa
          have r0 := box_fr fa 0
          have r1 := box_fr fa 1
          have r2 := box_fr fa 2
          refine' wpAnyT_one (i := 6) (o := ?oi61345) (by kernel_rfl) ?hi61345 (fun K hK => ?st61345)
          case hi61345 => (simp only [List.getElem?_toArray, List.getElem?_cons_zero, List.getElem?_cons_succ]; rfl)
          go_simp
          refine hK.out _ _ (fun h => absurd h (by decide)) ?_
          clear hK K
          (try simp only [Act.put, List.setIfInBounds_toArray, List.set_cons_zero, List.set_cons_succ])
          have fa2 := put3h (.int .i64 (xk : Int)) (.int .i64 (xq : Int)) (.slice A N c) fa
          have fc2 := (put3o (w := X1345) (.int .i64 (xk : Int)) (.int .i64 (xq : Int)) (.slice A N c) (show g8 ≠ g7 from fun e => hne' e.symm)).trans fc
          have hb2 := put3b (x := g7) (.int .i64 (xk : Int)) (.int .i64 (xq : Int)) (.slice A N c) HB1345.out Hg7b.out
          obtain ⟨X8, hX8⟩ : ∃ X, ((X1345.setCell ⟨g7, 0, none⟩ (.int .i64 (xk : Int))).setCell ⟨g7, 1, none⟩ (.int .i64 (xq : Int))).setCell ⟨g7, 2, none⟩ (.slice A N c) = X := ⟨_, rfl⟩
          rw [hX8] at fa2 fc2 hb2 ⊢
          clear hX8 a0 a1 a2 r0 r1 r2 fa fc hHeld
          have a0 := cell_of_row _ _ 0 _ _ _ fc2
          have a1 := cell_of_row _ _ 1 _ _ _ fc2
          have a2 := cell_of_row _ _ 2 _ _ _ fc2
          have r0 := box_fr fc2 0
          have r1 := box_fr fc2 1
          have r2 := box_fr fc2 2
          refine' wpAnyT_one (i := 7) (o := ?oi71345) (by kernel_rfl) ?hi71345 (fun K hK => ?st71345)
          case hi71345 => (simp only [List.getElem?_toArray, List.getElem?_cons_zero, List.getElem?_cons_succ]; rfl)
          go_simp
          refine hK.out _ _ (fun h => absurd h (by decide)) ?_
          clear hK K
          (try simp only [Act.put, List.setIfInBounds_toArray, List.set_cons_zero, List.set_cons_succ])
          have fc3 := put3h (.int .i64 (yk : Int)) (.int .i64 (yq : Int)) (.slice B M d) fc2
          have fa3 := (put3o (w := X8) (.int .i64 (yk : Int)) (.int .i64 (yq : Int)) (.slice B M d) hne').trans fa2
          have hb3 := put3b (x := g8) (.int .i64 (yk : Int)) (.int .i64 (yq : Int)) (.slice B M d) hb2 Hg8b.out
          clear a0 a1 a2 r0 r1 r2 fc2 fa2 hb2
          refine wpAnyT_done (by kernel_rfl) ?_ _
          go_wp2
          go_meet
          exact ⟨g7, g8, rfl, rfl, hid hne', hid hb3, hid fa3, hid fc3, hid ⟨Hg7b.out, Hg8b.out⟩⟩
        · refine ⟨_, by (simp only [List.getElem?_toArray, List.getElem?_cons_zero, List.getElem?_cons_succ]; rfl), fun K hK => ?_⟩
          go_simp
          obtain ⟨X135, hX135⟩ : ∃ X, X13.alloc (.cells #[.int .i64 0, .int .i64 0, .slice none 0 0] 27) = X := ⟨_, rfl⟩
          rw [hX135]
          have hbn : Below X13.heap.size X13 X135 := by rw [← hX135]; exact al1 _ _
          have HB135 := hid (HB13.out.trans (hbn.mono HB13.out.size))
          have HC135 : Hid (X135.heap[X13.heap.size]? = some (.cells #[.int .i64 0, .int .i64 0, .slice none 0 0] 27)) := hid (by rw [← hX135]; exact heap_alloc_new _ _)
          obtain ⟨g8, hg8⟩ : ∃ g0, X13.heap.size = g0 := ⟨_, rfl⟩
          rw [hg8] at HC135
          try rw [hg8]
          have Hg8 := hid hg8
          have Hg8b : Hid (W1.heap.size ≤ g8) := hid (by rw [← hg8]; exact HB13.out.size)
          clear hbn hX135 hg8
          refine hK.out _ _ (fun _ => HS.out _ HB135.out) ?_
          clear hK K
          (try simp only [Act.put, List.setIfInBounds_toArray, List.set_cons_zero, List.set_cons_succ])
          refine wpAnyT_all (l := [4]) (by kernel_rfl) (by decide) ?_
          intro i hi
          simp only [List.mem_cons, List.not_mem_nil, or_false] at hi
          subst hi
          refine ⟨_, by (simp only [List.getElem?_toArray, List.getElem?_cons_zero, List.getElem?_cons_succ]; rfl), fun K hK => ?_⟩
          go_simp
          obtain ⟨X1354, hX1354⟩ : ∃ X, X135.alloc (.cells #[.int .i64 0, .int .i64 0, .slice none 0 0] 27) = X := ⟨_, rfl⟩
          rw [hX1354]
          have hbn : Below X135.heap.size X135 X1354 := by rw [← hX1354]; exact al1 _ _
          have HB1354 := hid (HB135.out.trans (hbn.mono HB135.out.size))
          have HA1354 : Hid (X1354.heap[X135.heap.size]? = some (.cells #[.int .i64 0, .int .i64 0, .slice none 0 0] 27)) := hid (by rw [← hX1354]; exact heap_alloc_new _ _)
          obtain ⟨g7, hg7⟩ : ∃ g0, X135.heap.size = g0 := ⟨_, rfl⟩
          rw [hg7] at HA1354
          try rw [hg7]
          have Hg7 := hid hg7
          have HNE : Hid (g8 ≠ g7) := hid (by have := box_lt HC135.out; omega)
          have HC1354 := hid ((hbn.block _ (box_lt HC135.out)).trans HC135.out)
          have Hg7b : Hid (W1.heap.size ≤ g7) := hid (by rw [← hg7]; exact HB135.out.size)
          clear hbn hX1354 hg7
          refine hK.out _ _ (fun _ => HS.out _ HB1354.out) ?_
          clear hK K
          (try simp only [Act.put, List.setIfInBounds_toArray, List.set_cons_zero, List.set_cons_succ])
          have hne := HNE.out
          have hne' : g7 ≠ g8 := by first | exact hne | exact hne.symm
          have fa := HA1354.out
          have fc := HC1354.out
          have a0 := cell_of_row _ _ 0 _ _ _ fa
          have a1 := cell_of_row _ _ 1 _ _ _ fa
          have a2 := cell_of_row _ _ 2 _ _ _ fa
          have r0 := box_fr fa 0
          have r1 := box_fr fa 1
          have r2 := box_fr fa 2
          refine' wpAnyT_one (i := 6) (o := ?oi61354) (by kernel_rfl) ?hi61354 (fun K hK => ?st61354)
          case hi61354 => (simp only [List.getElem?_toArray, List.getElem?_cons_zero, List.getElem?_cons_succ]; rfl)
          go_simp
          refine hK.out _ _ (fun h => absurd h (by decide)) ?_
          clear hK K
          (try simp only [Act.put, List.setIfInBounds_toArray, List.set_cons_zero, List.set_cons_succ])
          have fa2 := put3h (.int .i64 (xk : Int)) (.int .i64 (xq : Int)) (.slice A N c) fa
          have fc2 := (put3o (w := X1354) (.int .i64 (xk : Int)) (.int .i64 (xq : Int)) (.slice A N c) (show g8 ≠ g7 from fun e => hne' e.symm)).trans fc
          have hb2 := put3b (x := g7) (.int .i64 (xk : Int)) (.int .i64 (xq : Int)) (.slice A N c) HB1354.out Hg7b.out
          obtain ⟨X8, hX8⟩ : ∃ X, ((X1354.setCell ⟨g7, 0, none⟩ (.int .i64 (xk : Int))).setCell ⟨g7, 1, none⟩ (.int .i64 (xq : Int))).setCell ⟨g7, 2, none⟩ (.slice A N c) = X := ⟨_, rfl⟩
          rw [hX8] at fa2 fc2 hb2 ⊢
          clear hX8 a0 a1 a2 r0 r1 r2 fa fc hHeld
          have a0 := cell_of_row _ _ 0 _ _ _ fc2
          have a1 := cell_of_row _ _ 1 _ _ _ fc2
          have a2 := cell_of_row _ _ 2 _ _ _ fc2
          have r0 := box_fr fc2 0
          have r1 := box_fr fc2 1
          have r2 := box_fr fc2 2
          refine' wpAnyT_one (i := 7) (o := ?oi71354) (by kernel_rfl) ?hi71354 (fun K hK => ?st71354)
          case hi71354 => (simp only [List.getElem?_toArray, List.getElem?_cons_zero, List.getElem?_cons_succ]; rfl)
          go_simp
          refine hK.out _ _ (fun h => absurd h (by decide)) ?_
          clear hK K
          (try simp only [Act.put, List.setIfInBounds_toArray, List.set_cons_zero, List.set_cons_succ])
          have fc3 := put3h (.int .i64 (yk : Int)) (.int .i64 (yq : Int)) (.slice B M d) fc2
          have fa3 := (put3o (w := X8) (.int .i64 (yk : Int)) (.int .i64 (yq : Int)) (.slice B M d) hne').trans fa2
          have hb3 := put3b (x := g8) (.int .i64 (yk : Int)) (.int .i64 (yq : Int)) (.slice B M d) hb2 Hg8b.out
          clear a0 a1 a2 r0 r1 r2 fc2 fa2 hb2
          refine wpAnyT_done (by kernel_rfl) ?_ _
          go_wp2
          go_meet
          exact ⟨g7, g8, rfl, rfl, hid hne', hid hb3, hid fa3, hid fc3, hid ⟨Hg7b.out, Hg8b.out⟩⟩
      · refine ⟨_, by (simp only [List.getElem?_toArray, List.getElem?_cons_zero, List.getElem?_cons_succ]; rfl), fun K hK => ?_⟩
        go_simp
        obtain ⟨X14, hX14⟩ : ∃ X, X1.alloc (.cells #[.int .i64 0, .int .i64 0, .slice none 0 0] 27) = X := ⟨_, rfl⟩
        rw [hX14]
        have hbn : Below X1.heap.size X1 X14 := by rw [← hX14]; exact al1 _ _
        have HB14 := hid (HB1.out.trans (hbn.mono HB1.out.size))
        have HA14 : Hid (X14.heap[X1.heap.size]? = some (.cells #[.int .i64 0, .int .i64 0, .slice none 0 0] 27)) := hid (by rw [← hX14]; exact heap_alloc_new _ _)
        obtain ⟨g7, hg7⟩ : ∃ g0, X1.heap.size = g0 := ⟨_, rfl⟩
        rw [hg7] at HA14
        try rw [hg7]
        have Hg7 := hid hg7
        have Hg7b : Hid (W1.heap.size ≤ g7) := hid (by rw [← hg7]; exact HB1.out.size)
        clear hbn hX14 hg7
        refine hK.out _ _ (fun _ => HS.out _ HB14.out) ?_
        clear hK K
        (try simp only [Act.put, List.setIfInBounds_toArray, List.set_cons_zero, List.set_cons_succ])
        refine wpAnyT_all (l := [3, 5]) (by kernel_rfl) (by decide) ?_
        intro i hi
        simp only [List.mem_cons, List.not_mem_nil, or_false] at hi
        rcases hi with rfl | rfl
        · refine ⟨_, by (simp only [List.getElem?_toArray, List.getElem?_cons_zero, List.getElem?_cons_succ]; rfl), fun K hK => ?_⟩
          go_simp
          go_at_call 23
          refine (HFB.out X14).mono ?_
          rintro e X143 ⟨rfl, hbn⟩
          have HB143 := hid (HB14.out.trans (hbn.mono HB14.out.size))
          have HA143 := hid ((hbn.block _ (box_lt HA14.out)).trans HA14.out)
          clear hbn
          go_simp
          refine hK.out _ _ (fun _ => HS.out _ HB143.out) ?_
          clear hK K
          (try simp only [Act.put, List.setIfInBounds_toArray, List.set_cons_zero, List.set_cons_succ])
          refine wpAnyT_all (l := [5]) (by kernel_rfl) (by decide) ?_
          intro i hi
          simp only [List.mem_cons, List.not_mem_nil, or_false] at hi
          subst hi
          refine ⟨_, by (simp only [List.getElem?_toArray, List.getElem?_cons_zero, List.getElem?_cons_succ]; rfl), fun K hK => ?_⟩
          go_simp
          obtain ⟨X1435, hX1435⟩ : ∃ X, X143.alloc (.cells #[.int .i64 0, .int .i64 0, .slice none 0 0] 27) = X := ⟨_, rfl⟩
          rw [hX1435]
          have hbn : Below X143.heap.size X143 X1435 := by rw [← hX1435]; exact al1 _ _
          have HB1435 := hid (HB143.out.trans (hbn.mono HB143.out.size))
          have HC1435 : Hid (X1435.heap[X143.heap.size]? = some (.cells #[.int .i64 0, .int .i64 0, .slice none 0 0] 27)) := hid (by rw [← hX1435]; exact heap_alloc_new _ _)
          obtain ⟨g8, hg8⟩ : ∃ g0, X143.heap.size = g0 := ⟨_, rfl⟩
          rw [hg8] at HC1435
          try rw [hg8]
          have Hg8 := hid hg8
          have HNE : Hid (g7 ≠ g8) := hid (by have := box_lt HA143.out; omega)
          have HA1435 := hid ((hbn.block _ (box_lt HA143.out)).trans HA143.out)
          have Hg8b : Hid (W1.heap.size ≤ g8) := hid (by rw [← hg8]; exact HB143.out.size)
          clear hbn hX1435 hg8
          refine hK.out _ _ (fun _ => HS.out _ HB1435.out) ?_
          clear hK K
          (try simp only [Act.put, List.setIfInBounds_toArray, List.set_cons_zero, List.set_cons_succ])
          have hne := HNE.out
          have hne' : g7 ≠ g8 := by first | exact hne | exact hne.symm
          have fa := HA1435.out
          have fc := HC1435.out
          have a0 := cell_of_row _ _ 0 _ _ _ fa
          have a1 := cell_of_row _ _ 1 _ _ _ fa
          have a2 := cell_of_row _ _ 2 _ _ _ fa
          have r0 := box_fr fa 0
          have r1 := box_fr fa 1
          have r2 := box_fr fa 2
          refine' wpAnyT_one (i := 6) (o := ?oi61435) (by kernel_rfl) ?hi61435 (fun K hK => ?st61435)
          case hi61435 => (simp only [List.getElem?_toArray, List.getElem?_cons_zero, List.getElem?_cons_succ]; rfl)
          go_simp
          refine hK.out _ _ (fun h => absurd h (by decide)) ?_
          clear hK K
          (try simp only [Act.put, List.setIfInBounds_toArray, List.set_cons_zero, List.set_cons_succ])
          have fa2 := put3h (.int .i64 (xk : Int)) (.int .i64 (xq : Int)) (.slice A N c) fa
          have fc2 := (put3o (w := X1435) (.int .i64 (xk : Int)) (.int .i64 (xq : Int)) (.slice A N c) (show g8 ≠ g7 from fun e => hne' e.symm)).trans fc
          have hb2 := put3b (x := g7) (.int .i64 (xk : Int)) (.int .i64 (xq : Int)) (.slice A N c) HB1435.out Hg7b.out
          obtain ⟨X8, hX8⟩ : ∃ X, ((X1435.setCell ⟨g7, 0, none⟩ (.int .i64 (xk : Int))).setCell ⟨g7, 1, none⟩ (.int .i64 (xq : Int))).setCell ⟨g7, 2, none⟩ (.slice A N c) = X := ⟨_, rfl⟩
          rw [hX8] at fa2 fc2 hb2 ⊢
          clear hX8 a0 a1 a2 r0 r1 r2 fa fc hHeld
          have a0 := cell_of_row _ _ 0 _ _ _ fc2
          have a1 := cell_of_row _ _ 1 _ _ _ fc2
          have a2 := cell_of_row _ _ 2 _ _ _ fc2
          have r0 := box_fr fc2 0
          have r1 := box_fr fc2 1
          have r2 := box_fr fc2 2
          refine' wpAnyT_one (i := 7) (o := ?oi71435) (by kernel_rfl) ?hi71435 (fun K hK => ?st71435)
          case hi71435 => (simp only [List.getElem?_toArray, List.getElem?_cons_zero, List.getElem?_cons_succ]; rfl)
          go_simp
          refine hK.out _ _ (fun h => absurd h (by decide)) ?_
          clear hK K
          (try simp only [Act.put, List.setIfInBounds_toArray, List.set_cons_zero, List.set_cons_succ])
          have fc3 := put3h (.int .i64 (yk : Int)) (.int .i64 (yq : Int)) (.slice B M d) fc2
          have fa3 := (put3o (w := X8) (.int .i64 (yk : Int)) (.int .i64 (yq : Int)) (.slice B M d) hne').trans fa2
          have hb3 := put3b (x := g8) (.int .i64 (yk : Int)) (.int .i64 (yq : Int)) (.slice B M d) hb2 Hg8b.out
          clear a0 a1 a2 r0 r1 r2 fc2 fa2 hb2
          refine wpAnyT_done (by kernel_rfl) ?_ _
          go_wp2
          go_meet
          exact ⟨g7, g8, rfl, rfl, hid hne', hid hb3, hid fa3, hid fc3, hid ⟨Hg7b.out, Hg8b.out⟩⟩
        · refine ⟨_, by (simp only [List.getElem?_toArray, List.getElem?_cons_zero, List.getElem?_cons_succ]; rfl), fun K hK => ?_⟩
          go_simp
          obtain ⟨X145, hX145⟩ : ∃ X, X14.alloc (.cells #[.int .i64 0, .int .i64 0, .slice none 0 0] 27) = X := ⟨_, rfl⟩
          rw [hX145]
          have hbn : Below X14.heap.size X14 X145 := by rw [← hX145]; exact al1 _ _
          have HB145 := hid (HB14.out.trans (hbn.mono HB14.out.size))
          have HC145 : Hid (X145.heap[X14.heap.size]? = some (.cells #[.int .i64 0, .int .i64 0, .slice none 0 0] 27)) := hid (by rw [← hX145]; exact heap_alloc_new _ _)
          obtain ⟨g8, hg8⟩ : ∃ g0, X14.heap.size = g0 := ⟨_, rfl⟩
          rw [hg8] at HC145
          try rw [hg8]
          have Hg8 := hid hg8
          have HNE : Hid (g7 ≠ g8) := hid (by have := box_lt HA14.out; omega)
          have HA145 := hid ((hbn.block _ (box_lt HA14.out)).trans HA14.out)
          have Hg8b : Hid (W1.heap.size ≤ g8) := hid (by rw [← hg8]; exact HB14.out.size)
          clear hbn hX145 hg8
          refine hK.out _ _ (fun _ => HS.out _ HB145.out) ?_
          clear hK K
          (try simp only [Act.put, List.setIfInBounds_toArray, List.set_cons_zero, List.set_cons_succ])
          refine wpAnyT_all (l := [3]) (by kernel_rfl) (by decide) ?_
          intro i hi
          simp only [List.mem_cons, List.not_mem_nil, or_false] at hi
          subst hi
          refine ⟨_, by (simp only [List.getElem?_toArray, List.getElem?_cons_zero, List.getElem?_cons_succ]; rfl), fun K hK => ?_⟩
          go_simp
          go_at_call 23
          refine (HFB.out X145).mono ?_
          rintro e X1453 ⟨rfl, hbn⟩
          have HB1453 := hid (HB145.out.trans (hbn.mono HB145.out.size))
          have HA1453 := hid ((hbn.block _ (box_lt HA145.out)).trans HA145.out)
          have HC1453 := hid ((hbn.block _ (box_lt HC145.out)).trans HC145.out)
          clear hbn
          go_simp
          refine hK.out _ _ (fun _ => HS.out _ HB1453.out) ?_
          clear hK K
          (try simp only [Act.put, List.setIfInBounds_toArray, List.set_cons_zero, List.set_cons_succ])
          have hne := HNE.out
          have hne' : g7 ≠ g8 := by first | exact hne | exact hne.symm
          have fa := HA1453.out
          have fc := HC1453.out
          have a0 := cell_of_row _ _ 0 _ _ _ fa
          have a1 := cell_of_row _ _ 1 _ _ _ fa
          have a2 := cell_of_row _ _ 2 _ _ _ fa
          have r0 := box_fr fa 0
          have r1 := box_fr fa 1
          have r2 := box_fr fa 2
          refine' wpAnyT_one (i := 6) (o := ?oi61453) (by kernel_rfl) ?hi61453 (fun K hK => ?st61453)
          case hi61453 => (simp only [List.getElem?_toArray, List.getElem?_cons_zero, List.getElem?_cons_succ]; rfl)
          go_simp
          refine hK.out _ _ (fun h => absurd h (by decide)) ?_
          clear hK K
          (try simp only [Act.put, List.setIfInBounds_toArray, List.set_cons_zero, List.set_cons_succ])
          have fa2 := put3h (.int .i64 (xk : Int)) (.int .i64 (xq : Int)) (.slice A N c) fa
          have fc2 := (put3o (w := X1453) (.int .i64 (xk : Int)) (.int .i64 (xq : Int)) (.slice A N c) (show g8 ≠ g7 from fun e => hne' e.symm)).trans fc
          have hb2 := put3b (x := g7) (.int .i64 (xk : Int)) (.int .i64 (xq : Int)) (.slice A N c) HB1453.out Hg7b.out
          obtain ⟨X8, hX8⟩ : ∃ X, ((X1453.setCell ⟨g7, 0, none⟩ (.int .i64 (xk : Int))).setCell ⟨g7, 1, none⟩ (.int .i64 (xq : Int))).setCell ⟨g7, 2, none⟩ (.slice A N c) = X := ⟨_, rfl⟩
          rw [hX8] at fa2 fc2 hb2 ⊢
          clear hX8 a0 a1 a2 r0 r1 r2 fa fc hHeld
          have a0 := cell_of_row _ _ 0 _ _ _ fc2
          have a1 := cell_of_row _ _ 1 _ _ _ fc2
          have a2 := cell_of_row _ _ 2 _ _ _ fc2
          have r0 := box_fr fc2 0
          have r1 := box_fr fc2 1
          have r2 := box_fr fc2 2
          refine' wpAnyT_one (i := 7) (o := ?oi71453) (by kernel_rfl) ?hi71453 (fun K hK => ?st71453)
          case hi71453 => (simp only [List.getElem?_toArray, List.getElem?_cons_zero, List.getElem?_cons_succ]; rfl)
          go_simp
          refine hK.out _ _ (fun h => absurd h (by decide)) ?_
          clear hK K
          (try simp only [Act.put, List.setIfInBounds_toArray, List.set_cons_zero, List.set_cons_succ])
          have fc3 := put3h (.int .i64 (yk : Int)) (.int .i64 (yq : Int)) (.slice B M d) fc2
          have fa3 := (put3o (w := X8) (.int .i64 (yk : Int)) (.int .i64 (yq : Int)) (.slice B M d) hne').trans fa2
          have hb3 := put3b (x := g8) (.int .i64 (yk : Int)) (.int .i64 (yq : Int)) (.slice B M d) hb2 Hg8b.out
          clear a0 a1 a2 r0 r1 r2 fc2 fa2 hb2
          refine wpAnyT_done (by kernel_rfl) ?_ _
          go_wp2
          go_meet
          exact ⟨g7, g8, rfl, rfl, hid hne', hid hb3, hid fa3, hid fc3, hid ⟨Hg7b.out, Hg8b.out⟩⟩
      · refine ⟨_, by (simp only [List.getElem?_toArray, List.getElem?_cons_zero, List.getElem?_cons_succ]; rfl), fun K hK => ?_⟩
        go_simp
        obtain ⟨X15, hX15⟩ : ∃ X, X1.alloc (.cells #[.int .i64 0, .int .i64 0, .slice none 0 0] 27) = X := ⟨_, rfl⟩
        rw [hX15]
        have hbn : Below X1.heap.size X1 X15 := by rw [← hX15]; exact al1 _ _
        have HB15 := hid (HB1.out.trans (hbn.mono HB1.out.size))
        have HC15 : Hid (X15.heap[X1.heap.size]? = some (.cells #[.int .i64 0, .int .i64 0, .slice none 0 0] 27)) := hid (by rw [← hX15]; exact heap_alloc_new _ _)
        obtain ⟨g8, hg8⟩ : ∃ g0, X1.heap.size = g0 := ⟨_, rfl⟩
        rw [hg8] at HC15
        try rw [hg8]
        have Hg8 := hid hg8
        have Hg8b : Hid (W1.heap.size ≤ g8) := hid (by rw [← hg8]; exact HB1.out.size)
        clear hbn hX15 hg8
        refine hK.out _ _ (fun _ => HS.out _ HB15.out) ?_
        clear hK K
        (try simp only [Act.put, List.setIfInBounds_toArray, List.set_cons_zero, List.set_cons_succ])
        refine wpAnyT_all (l := [3, 4]) (by kernel_rfl) (by decide) ?_
        intro i hi
        simp only [List.mem_cons, List.not_mem_nil, or_false] at hi
        rcases hi with rfl | rfl
        · refine ⟨_, by (simp only [List.getElem?_toArray, List.getElem?_cons_zero, List.getElem?_cons_succ]; rfl), fun K hK => ?_⟩
          go_simp
          go_at_call 23
          refine (HFB.out X15).mono ?_
          rintro e X153 ⟨rfl, hbn⟩
          have HB153 := hid (HB15.out.trans (hbn.mono HB15.out.size))
          have HC153 := hid ((hbn.block _ (box_lt HC15.out)).trans HC15.out)
          clear hbn
          go_simp
          refine hK.out _ _ (fun _ => HS.out _ HB153.out) ?_
          clear hK K
          (try simp only [Act.put, List.setIfInBounds_toArray, List.set_cons_zero, List.set_cons_succ])
          refine wpAnyT_all (l := [4]) (by kernel_rfl) (by decide) ?_
          intro i hi
          simp only [List.mem_cons, List.not_mem_nil, or_false] at hi
          subst hi
          refine ⟨_, by (simp only [List.getElem?_toArray, List.getElem?_cons_zero, List.getElem?_cons_succ]; rfl), fun K hK => ?_⟩
          go_simp
          obtain ⟨X1534, hX1534⟩ : ∃ X, X153.alloc (.cells #[.int .i64 0, .int .i64 0, .slice none 0 0] 27) = X := ⟨_, rfl⟩
          rw [hX1534]
          have hbn : Below X153.heap.size X153 X1534 := by rw [← hX1534]; exact al1 _ _
          have HB1534 := hid (HB153.out.trans (hbn.mono HB153.out.size))
          have HA1534 : Hid (X1534.heap[X153.heap.size]? = some (.cells #[.int .i64 0, .int .i64 0, .slice none 0 0] 27)) := hid (by rw [← hX1534]; exact heap_alloc_new _ _)
          obtain ⟨g7, hg7⟩ : ∃ g0, X153.heap.size = g0 := ⟨_, rfl⟩
          rw [hg7] at HA1534
          try rw [hg7]
          have Hg7 := hid hg7
          have HNE : Hid (g8 ≠ g7) := hid (by have := box_lt HC153.out; omega)
          have HC1534 := hid ((hbn.block _ (box_lt HC153.out)).trans HC153.out)
          have Hg7b : Hid (W1.heap.size ≤ g7) := hid (by rw [← hg7]; exact HB153.out.size)
          clear hbn hX1534 hg7
          refine hK.out _ _ (fun _ => HS.out _ HB1534.out) ?_
          clear hK K
          (try simp only [Act.put, List.setIfInBounds_toArray, List.set_cons_zero, List.set_cons_succ])
          have hne := HNE.out
          have hne' : g7 ≠ g8 := by first | exact hne | exact hne.symm
          have fa := HA1534.out
          have fc := HC1534.out
          have a0 := cell_of_row _ _ 0 _ _ _ fa
          have a1 := cell_of_row _ _ 1 _ _ _ fa
          have a2 := cell_of_row _ _ 2 _ _ _ fa
          have r0 := box_fr fa 0
          have r1 := box_fr fa 1
          have r2 := box_fr fa 2
          refine' wpAnyT_one (i := 6) (o := ?oi61534) (by kernel_rfl) ?hi61534 (fun K hK => ?st61534)
          case hi61534 => (simp only [List.getElem?_toArray, List.getElem?_cons_zero, List.getElem?_cons_succ]; rfl)
          go_simp
          refine hK.out _ _ (fun h => absurd h (by decide)) ?_
          clear hK K
          (try simp only [Act.put, List.setIfInBounds_toArray, List.set_cons_zero, List.set_cons_succ])
          have fa2 := put3h (.int .i64 (xk : Int)) (.int .i64 (xq : Int)) (.slice A N c) fa
          have fc2 := (put3o (w := X1534) (.int .i64 (xk : Int)) (.int .i64 (xq : Int)) (.slice A N c) (show g8 ≠ g7 from fun e => hne' e.symm)).trans fc
          have hb2 := put3b (x := g7) (.int .i64 (xk : Int)) (.int .i64 (xq : Int)) (.slice A N c) HB1534.out Hg7b.out
          obtain ⟨X8, hX8⟩ : ∃ X, ((X1534.setCell ⟨g7, 0, none⟩ (.int .i64 (xk : Int))).setCell ⟨g7, 1, none⟩ (.int .i64 (xq : Int))).setCell ⟨g7, 2, none⟩ (.slice A N c) = X := ⟨_, rfl⟩
          rw [hX8] at fa2 fc2 hb2 ⊢
          clear hX8 a0 a1 a2 r0 r1 r2 fa fc hHeld
          have a0 := cell_of_row _ _ 0 _ _ _ fc2
          have a1 := cell_of_row _ _ 1 _ _ _ fc2
          have a2 := cell_of_row _ _ 2 _ _ _ fc2
          have r0 := box_fr fc2 0
          have r1 := box_fr fc2 1
          have r2 := box_fr fc2 2
          refine' wpAnyT_one (i := 7) (o := ?oi71534) (by kernel_rfl) ?hi71534 (fun K hK => ?st71534)
          case hi71534 => (simp only [List.getElem?_toArray, List.getElem?_cons_zero, List.getElem?_cons_succ]; rfl)
          go_simp
          refine hK.out _ _ (fun h => absurd h (by decide)) ?_
          clear hK K
          (try simp only [Act.put, List.setIfInBounds_toArray, List.set_cons_zero, List.set_cons_succ])
          have fc3 := put3h (.int .i64 (yk : Int)) (.int .i64 (yq : Int)) (.slice B M d) fc2
          have fa3 := (put3o (w := X8) (.int .i64 (yk : Int)) (.int .i64 (yq : Int)) (.slice B M d) hne').trans fa2
          have hb3 := put3b (x := g8) (.int .i64 (yk : Int)) (.int .i64 (yq : Int)) (.slice B M d) hb2 Hg8b.out
          clear a0 a1 a2 r0 r1 r2 fc2 fa2 hb2
          refine wpAnyT_done (by kernel_rfl) ?_ _
          go_wp2
          go_meet
          exact ⟨g7, g8, rfl, rfl, hid hne', hid hb3, hid fa3, hid fc3, hid ⟨Hg7b.out, Hg8b.out⟩⟩
        · refine ⟨_, by (simp only [List.getElem?_toArray, List.getElem?_cons_zero, List.getElem?_cons_succ]; rfl), fun K hK => ?_⟩
          go_simp
          obtain ⟨X154, hX154⟩ : ∃ X, X15.alloc (.cells #[.int .i64 0, .int .i64 0, .slice none 0 0] 27) = X := ⟨_, rfl⟩
          rw [hX154]
          have hbn : Below X15.heap.size X15 X154 := by rw [← hX154]; exact al1 _ _
          have HB154 := hid (HB15.out.trans (hbn.mono HB15.out.size))
          have HA154 : Hid (X154.heap[X15.heap.size]? = some (.cells #[.int .i64 0, .int .i64 0, .slice none 0 0] 27)) := hid (by rw [← hX154]; exact heap_alloc_new _ _)
          obtain ⟨g7, hg7⟩ : ∃ g0, X15.heap.size = g0 := ⟨_, rfl⟩
          rw [hg7] at HA154
          try rw [hg7]
          have Hg7 := hid hg7
          have HNE : Hid (g8 ≠ g7) := hid (by have := box_lt HC15.out; omega)
          have HC154 := hid ((hbn.block _ (box_lt HC15.out)).trans HC15.out)
          have Hg7b : Hid (W1.heap.size ≤ g7) := hid (by rw [← hg7]; exact HB15.out.size)
          clear hbn hX154 hg7
          refine hK.out _ _ (fun _ => HS.out _ HB154.out) ?_
          clear hK K
          (try simp only [Act.put, List.setIfInBounds_toArray, List.set_cons_zero, List.set_cons_succ])
          refine wpAnyT_all (l := [3]) (by kernel_rfl) (by decide) ?_
          intro i hi
          simp only [List.mem_cons, List.not_mem_nil, or_false] at hi
          subst hi
          refine ⟨_, by (simp only [List.getElem?_toArray, List.getElem?_cons_zero, List.getElem?_cons_succ]; rfl), fun K hK => ?_⟩
          go_simp
          go_at_call 23
          refine (HFB.out X154).mono ?_
          rintro e X1543 ⟨rfl, hbn⟩
          have HB1543 := hid (HB154.out.trans (hbn.mono HB154.out.size))
          have HA1543 := hid ((hbn.block _ (box_lt HA154.out)).trans HA154.out)
          have HC1543 := hid ((hbn.block _ (box_lt HC154.out)).trans HC154.out)
          clear hbn
          go_simp
          refine hK.out _ _ (fun _ => HS.out _ HB1543.out) ?_
          clear hK K
          (try simp only [Act.put, List.setIfInBounds_toArray, List.set_cons_zero, List.set_cons_succ])
          have hne := HNE.out
          have hne' : g7 ≠ g8 := by first | exact hne | exact hne.symm
          have fa := HA1543.out
          have fc := HC1543.out
          have a0 := cell_of_row _ _ 0 _ _ _ fa
          have a1 := cell_of_row _ _ 1 _ _ _ fa
          have a2 := cell_of_row _ _ 2 _ _ _ fa
          have r0 := box_fr fa 0
          have r1 := box_fr fa 1
          have r2 := box_fr fa 2
          refine' wpAnyT_one (i := 6) (o := ?oi61543) (by kernel_rfl) ?hi61543 (fun K hK => ?st61543)
          case hi61543 => (simp only [List.getElem?_toArray, List.getElem?_cons_zero, List.getElem?_cons_succ]; rfl)
          go_simp
          refine hK.out _ _ (fun h => absurd h (by decide)) ?_
          clear hK K
          (try simp only [Act.put, List.setIfInBounds_toArray, List.set_cons_zero, List.set_cons_succ])
          have fa2 := put3h (.int .i64 (xk : Int)) (.int .i64 (xq : Int)) (.slice A N c) fa
          have fc2 := (put3o (w := X1543) (.int .i64 (xk : Int)) (.int .i64 (xq : Int)) (.slice A N c) (show g8 ≠ g7 from fun e => hne' e.symm)).trans fc
          have hb2 := put3b (x := g7) (.int .i64 (xk : Int)) (.int .i64 (xq : Int)) (.slice A N c) HB1543.out Hg7b.out
          obtain ⟨X8, hX8⟩ : ∃ X, ((X1543.setCell ⟨g7, 0, none⟩ (.int .i64 (xk : Int))).setCell ⟨g7, 1, none⟩ (.int .i64 (xq : Int))).setCell ⟨g7, 2, none⟩ (.slice A N c) = X := ⟨_, rfl⟩
          rw [hX8] at fa2 fc2 hb2 ⊢
          clear hX8 a0 a1 a2 r0 r1 r2 fa fc hHeld
          have a0 := cell_of_row _ _ 0 _ _ _ fc2
          have a1 := cell_of_row _ _ 1 _ _ _ fc2
          have a2 := cell_of_row _ _ 2 _ _ _ fc2
          have r0 := box_fr fc2 0
          have r1 := box_fr fc2 1
          have r2 := box_fr fc2 2
          refine' wpAnyT_one (i := 7) (o := ?oi71543) (by kernel_rfl) ?hi71543 (fun K hK => ?st71543)
          case hi71543 => (simp only [List.getElem?_toArray, List.getElem?_cons_zero, List.getElem?_cons_succ]; rfl)
          go_simp
          refine hK.out _ _ (fun h => absurd h (by decide)) ?_
          clear hK K
          (try simp only [Act.put, List.setIfInBounds_toArray, List.set_cons_zero, List.set_cons_succ])
          have fc3 := put3h (.int .i64 (yk : Int)) (.int .i64 (yq : Int)) (.slice B M d) fc2
          have fa3 := (put3o (w := X8) (.int .i64 (yk : Int)) (.int .i64 (yq : Int)) (.slice B M d) hne').trans fa2
          have hb3 := put3b (x := g8) (.int .i64 (yk : Int)) (.int .i64 (yq : Int)) (.slice B M d) hb2 Hg8b.out
          clear a0 a1 a2 r0 r1 r2 fc2 fa2 hb2
          refine wpAnyT_done (by kernel_rfl) ?_ _
          go_wp2
          go_meet
          exact ⟨g7, g8, rfl, rfl, hid hne', hid hb3, hid fa3, hid fc3, hid ⟨Hg7b.out, Hg8b.out⟩⟩
    · refine ⟨_, by (simp only [List.getElem?_toArray, List.getElem?_cons_zero, List.getElem?_cons_succ]; rfl), fun K hK => ?_⟩
      go_simp
      obtain ⟨X4, hX4⟩ : ∃ X, X0.alloc (.cells #[.int .i64 0, .int .i64 0, .slice none 0 0] 27) = X := ⟨_, rfl⟩
      rw [hX4]
      have hbn : Below X0.heap.size X0 X4 := by rw [← hX4]; exact al1 _ _
      have HB4 := hid (HB0.out.trans (hbn.mono HB0.out.size))
      have HA4 : Hid (X4.heap[X0.heap.size]? = some (.cells #[.int .i64 0, .int .i64 0, .slice none 0 0] 27)) := hid (by rw [← hX4]; exact heap_alloc_new _ _)
      obtain ⟨g7, hg7⟩ : ∃ g0, X0.heap.size = g0 := ⟨_, rfl⟩
      rw [hg7] at HA4
      try rw [hg7]
      have Hg7 := hid hg7
      have Hg7b : Hid (W1.heap.size ≤ g7) := hid (by rw [← hg7]; exact HB0.out.size)
      clear hbn hX4 hg7
      refine hK.out _ _ (fun _ => HS.out _ HB4.out) ?_
      clear hK K
      (try simp only [Act.put, List.setIfInBounds_toArray, List.set_cons_zero, List.set_cons_succ])
      refine wpAnyT_all (l := [1, 5]) (by kernel_rfl) (by decide) ?_
      intro i hi
      simp only [List.mem_cons, List.not_mem_nil, or_false] at hi
      rcases hi with rfl | rfl
      · refine ⟨_, by (simp only [List.getElem?_toArray, List.getElem?_cons_zero, List.getElem?_cons_succ]; rfl), fun K hK => ?_⟩
        go_simp
        go_at_call 23
        refine (HFA.out X4).mono ?_
        rintro e X41 ⟨rfl, hbn⟩
        have HB41 := hid (HB4.out.trans (hbn.mono HB4.out.size))
        have HA41 := hid ((hbn.block _ (box_lt HA4.out)).trans HA4.out)
        clear hbn
        go_simp
        refine hK.out _ _ (fun _ => HS.out _ HB41.out) ?_
        clear hK K
        (try simp only [Act.put, List.setIfInBounds_toArray, List.set_cons_zero, List.set_cons_succ])
        refine wpAnyT_all (l := [3, 5]) (by kernel_rfl) (by decide) ?_
        intro i hi
        simp only [List.mem_cons, List.not_mem_nil, or_false] at hi
        rcases hi with rfl | rfl
        · refine ⟨_, by (simp only [List.getElem?_toArray, List.getElem?_cons_zero, List.getElem?_cons_succ]; rfl), fun K hK => ?_⟩
          go_simp
          go_at_call 23
          refine (HFB.out X41).mono ?_
          rintro e X413 ⟨rfl, hbn⟩
          have HB413 := hid (HB41.out.trans (hbn.mono HB41.out.size))
          have HA413 := hid ((hbn.block _ (box_lt HA41.out)).trans HA41.out)
          clear hbn
          go_simp
          refine hK.out _ _ (fun _ => HS.out _ HB413.out) ?_
          clear hK K
          (try simp only [Act.put, List.setIfInBounds_toArray, List.set_cons_zero, List.set_cons_succ])
          refine wpAnyT_all (l := [5]) (by kernel_rfl) (by decide) ?_
          intro i hi
          simp only [List.mem_cons, List.not_mem_nil, or_false] at hi
          subst hi
          refine ⟨_, by (simp only [List.getElem?_toArray, List.getElem?_cons_zero, List.getElem?_cons_succ]; rfl), fun K hK => ?_⟩
          go_simp
          obtain ⟨X4135, hX4135⟩ : ∃ X, X413.alloc (.cells #[.int .i64 0, .int .i64 0, .slice none 0 0] 27) = X := ⟨_, rfl⟩
          rw [hX4135]
          have hbn : Below X413.heap.size X413 X4135 := by rw [← hX4135]; exact al1 _ _
          have HB4135 := hid (HB413.out.trans (hbn.mono HB413.out.size))
          have HC4135 : Hid (X4135.heap[X413.heap.size]? = some (.cells #[.int .i64 0, .int .i64 0, .slice none 0 0] 27)) := hid (by rw [← hX4135]; exact heap_alloc_new _ _)
          obtain ⟨g8, hg8⟩ : ∃ g0, X413.heap.size = g0 := ⟨_, rfl⟩
          rw [hg8] at HC4135
          try rw [hg8]
          have Hg8 := hid hg8
          have HNE : Hid (g7 ≠ g8) := hid (by have := box_lt HA413.out; omega)
          have HA4135 := hid ((hbn.block _ (box_lt HA413.out)).trans HA413.out)
          have Hg8b : Hid (W1.heap.size ≤ g8) := hid (by rw [← hg8]; exact HB413.out.size)
          clear hbn hX4135 hg8
          refine hK.out _ _ (fun _ => HS.out _ HB4135.out) ?_
          clear hK K
          (try simp only [Act.put, List.setIfInBounds_toArray, List.set_cons_zero, List.set_cons_succ])
          have hne := HNE.out
          have hne' : g7 ≠ g8 := by first | exact hne | exact hne.symm
          have fa := HA4135.out
          have fc := HC4135.out
          have a0 := cell_of_row _ _ 0 _ _ _ fa
          have a1 := cell_of_row _ _ 1 _ _ _ fa
          have a2 := cell_of_row _ _ 2 _ _ _ fa
          have r0 := box_fr fa 0
          have r1 := box_fr fa 1
          have r2 := box_fr fa 2
          refine' wpAnyT_one (i := 6) (o := ?oi64135) (by kernel_rfl) ?hi64135 (fun K hK => ?st64135)
          case hi64135 => (simp only [List.getElem?_toArray, List.getElem?_cons_zero, List.getElem?_cons_succ]; rfl)
          go_simp
          refine hK.out _ _ (fun h => absurd h (by decide)) ?_
          clear hK K
          (try simp only [Act.put, List.setIfInBounds_toArray, List.set_cons_zero, List.set_cons_succ])
          have fa2 := put3h (.int .i64 (xk : Int)) (.int .i64 (xq : Int)) (.slice A N c) fa
          have fc2 := (put3o (w := X4135) (.int .i64 (xk : Int)) (.int .i64 (xq : Int)) (.slice A N c) (show g8 ≠ g7 from fun e => hne' e.symm)).trans fc
          have hb2 := put3b (x := g7) (.int .i64 (xk : Int)) (.int .i64 (xq : Int)) (.slice A N c) HB4135.out Hg7b.out
          obtain ⟨X8, hX8⟩ : ∃ X, ((X4135.setCell ⟨g7, 0, none⟩ (.int .i64 (xk : Int))).setCell ⟨g7, 1, none⟩ (.int .i64 (xq : Int))).setCell ⟨g7, 2, none⟩ (.slice A N c) = X := ⟨_, rfl⟩
          rw [hX8] at fa2 fc2 hb2 ⊢
          clear hX8 a0 a1 a2 r0 r1 r2 fa fc hHeld
          have a0 := cell_of_row _ _ 0 _ _ _ fc2
          have a1 := cell_of_row _ _ 1 _ _ _ fc2
          have a2 := cell_of_row _ _ 2 _ _ _ fc2
          have r0 := box_fr fc2 0
          have r1 := box_fr fc2 1
          have r2 := box_fr fc2 2
          refine' wpAnyT_one (i := 7) (o := ?oi74135) (by kernel_rfl) ?hi74135 (fun K hK => ?st74135)
          case hi74135 => (simp only [List.getElem?_toArray, List.getElem?_cons_zero, List.getElem?_cons_succ]; rfl)
          go_simp
          refine hK.out _ _ (fun h => absurd h (by decide)) ?_
          clear hK K
          (try simp only [Act.put, List.setIfInBounds_toArray, List.set_cons_zero, List.set_cons_succ])
          have fc3 := put3h (.int .i64 (yk : Int)) (.int .i64 (yq : Int)) (.slice B M d) fc2
          have fa3 := (put3o (w := X8) (.int .i64 (yk : Int)) (.int .i64 (yq : Int)) (.slice B M d) hne').trans fa2
          have hb3 := put3b (x := g8) (.int .i64 (yk : Int)) (.int .i64 (yq : Int)) (.slice B M d) hb2 Hg8b.out
          clear a0 a1 a2 r0 r1 r2 fc2 fa2 hb2
          refine wpAnyT_done (by kernel_rfl) ?_ _
          go_wp2
          go_meet
          exact ⟨g7, g8, rfl, rfl, hid hne', hid hb3, hid fa3, hid fc3, hid ⟨Hg7b.out, Hg8b.out⟩⟩
        · refine ⟨_, by (simp only [List.getElem?_toArray, List.getElem?_cons_zero, List.getElem?_cons_succ]; rfl), fun K hK => ?_⟩
          go_simp
          obtain ⟨X415, hX415⟩ : ∃ X, X41.alloc (.cells #[.int .i64 0, .int .i64 0, .slice none 0 0] 27) = X := ⟨_, rfl⟩
          rw [hX415]
          have hbn : Below X41.heap.size X41 X415 := by rw [← hX415]; exact al1 _ _
          have HB415 := hid (HB41.out.trans (hbn.mono HB41.out.size))
          have HC415 : Hid (X415.heap[X41.heap.size]? = some (.cells #[.int .i64 0, .int .i64 0, .slice none 0 0] 27)) := hid (by rw [← hX415]; exact heap_alloc_new _ _)
          obtain ⟨g8, hg8⟩ : ∃ g0, X41.heap.size = g0 := ⟨_, rfl⟩
          rw [hg8] at HC415
          try rw [hg8]
          have Hg8 := hid hg8
          have HNE : Hid (g7 ≠ g8) := hid (by have := box_lt HA41.out; omega)
          have HA415 := hid ((hbn.block _ (box_lt HA41.out)).trans HA41.out)
          have Hg8b : Hid (W1.heap.size ≤ g8) := hid (by rw [← hg8]; exact HB41.out.size)
          clear hbn hX415 hg8
          refine hK.out _ _ (fun _ => HS.out _ HB415.out) ?_
          clear hK K
          (try simp only [Act.put, List.setIfInBounds_toArray, List.set_cons_zero, List.set_cons_succ])
          refine wpAnyT_all (l := [3]) (by kernel_rfl) (by decide) ?_
          intro i hi
          simp only [List.mem_cons, List.not_mem_nil, or_false] at hi
          subst hi
          refine ⟨_, by (simp only [List.getElem?_toArray, List.getElem?_cons_zero, List.getElem?_cons_succ]; rfl), fun K hK => ?_⟩
          go_simp
          go_at_call 23
          refine (HFB.out X415).mono ?_
          rintro e X4153 ⟨rfl, hbn⟩
          have HB4153 := hid (HB415.out.trans (hbn.mono HB415.out.size))
          have HA4153 := hid ((hbn.block _ (box_lt HA415.out)).trans HA415.out)
          have HC4153 := hid ((hbn.block _ (box_lt HC415.out)).trans HC415.out)
          clear hbn
          go_simp
          refine hK.out _ _ (fun _ => HS.out _ HB4153.out) ?_
          clear hK K
          (try simp only [Act.put, List.setIfInBounds_toArray, List.set_cons_zero, List.set_cons_succ])
          have hne := HNE.out
          have hne' : g7 ≠ g8 := by first | exact hne | exact hne.symm
          have fa := HA4153.out
          have fc := HC4153.out
          have a0 := cell_of_row _ _ 0 _ _ _ fa
          have a1 := cell_of_row _ _ 1 _ _ _ fa
          have a2 := cell_of_row _ _ 2 _ _ _ fa
          have r0 := box_fr fa 0
          have r1 := box_fr fa 1
          have r2 := box_fr fa 2
          refine' wpAnyT_one (i := 6) (o := ?oi64153) (by kernel_rfl) ?hi64153 (fun K hK => ?st64153)
          case hi64153 => (simp only [List.getElem?_toArray, List.getElem?_cons_zero, List.getElem?_cons_succ]; rfl)
          go_simp
          refine hK.out _ _ (fun h => absurd h (by decide)) ?_
          clear hK K
          (try simp only [Act.put, List.setIfInBounds_toArray, List.set_cons_zero, List.set_cons_succ])
          have fa2 := put3h (.int .i64 (xk : Int)) (.int .i64 (xq : Int)) (.slice A N c) fa
          have fc2 := (put3o (w := X4153) (.int .i64 (xk : Int)) (.int .i64 (xq : Int)) (.slice A N c) (show g8 ≠ g7 from fun e => hne' e.symm)).trans fc
          have hb2 := put3b (x := g7) (.int .i64 (xk : Int)) (.int .i64 (xq : Int)) (.slice A N c) HB4153.out Hg7b.out
          obtain ⟨X8, hX8⟩ : ∃ X, ((X4153.setCell ⟨g7, 0, none⟩ (.int .i64 (xk : Int))).setCell ⟨g7, 1, none⟩ (.int .i64 (xq : Int))).setCell ⟨g7, 2, none⟩ (.slice A N c) = X := ⟨_, rfl⟩
          rw [hX8] at fa2 fc2 hb2 ⊢
          clear hX8 a0 a1 a2 r0 r1 r2 fa fc hHeld
          have a0 := cell_of_row _ _ 0 _ _ _ fc2
          have a1 := cell_of_row _ _ 1 _ _ _ fc2
          have a2 := cell_of_row _ _ 2 _ _ _ fc2
          have r0 := box_fr fc2 0
          have r1 := box_fr fc2 1
          have r2 := box_fr fc2 2
          refine' wpAnyT_one (i := 7) (o := ?oi74153) (by kernel_rfl) ?hi74153 (fun K hK => ?st74153)
          case hi74153 => (simp only [List.getElem?_toArray, List.getElem?_cons_zero, List.getElem?_cons_succ]; rfl)
          go_simp
          refine hK.out _ _ (fun h => absurd h (by decide)) ?_
          clear hK K
          (try simp only [Act.put, List.setIfInBounds_toArray, List.set_cons_zero, List.set_cons_succ])
          have fc3 := put3h (.int .i64 (yk : Int)) (.int .i64 (yq : Int)) (.slice B M d) fc2
          have fa3 := (put3o (w := X8) (.int .i64 (yk : Int)) (.int .i64 (yq : Int)) (.slice B M d) hne').trans fa2
          have hb3 := put3b (x := g8) (.int .i64 (yk : Int)) (.int .i64 (yq : Int)) (.slice B M d) hb2 Hg8b.out
          clear a0 a1 a2 r0 r1 r2 fc2 fa2 hb2
          refine wpAnyT_done (by kernel_rfl) ?_ _
          go_wp2
          go_meet
          exact ⟨g7, g8, rfl, rfl, hid hne', hid hb3, hid fa3, hid fc3, hid ⟨Hg7b.out, Hg8b.out⟩⟩
      · refine ⟨_, by (simp only [List.getElem?_toArray, List.getElem?_cons_zero, List.getElem?_cons_succ]; rfl), fun K hK => ?_⟩
        go_simp
        obtain ⟨X45, hX45⟩ : ∃ X, X4.alloc (.cells #[.int .i64 0, .int .i64 0, .slice none 0 0] 27) = X := ⟨_, rfl⟩
        rw [hX45]
        have hbn : Below X4.heap.size X4 X45 := by rw [← hX45]; exact al1 _ _
        have HB45 := hid (HB4.out.trans (hbn.mono HB4.out.size))
        have HC45 : Hid (X45.heap[X4.heap.size]? = some (.cells #[.int .i64 0, .int .i64 0, .slice none 0 0] 27)) := hid (by rw [← hX45]; exact heap_alloc_new _ _)
        obtain ⟨g8, hg8⟩ : ∃ g0, X4.heap.size = g0 := ⟨_, rfl⟩
        rw [hg8] at HC45
        try rw [hg8]
        have Hg8 := hid hg8
        have HNE : Hid (g7 ≠ g8) := hid (by have := box_lt HA4.out; omega)
        have HA45 := hid ((hbn.block _ (box_lt HA4.out)).trans HA4.out)
        have Hg8b : Hid (W1.heap.size ≤ g8) := hid (by rw [← hg8]; exact HB4.out.size)
        clear hbn hX45 hg8
        refine hK.out _ _ (fun _ => HS.out _ HB45.out) ?_
        clear hK K
        (try simp only [Act.put, List.setIfInBounds_toArray, List.set_cons_zero, List.set_cons_succ])
        refine wpAnyT_all (l := [1]) (by kernel_rfl) (by decide) ?_
        intro i hi
        simp only [List.mem_cons, List.not_mem_nil, or_false] at hi
        subst hi
        refine ⟨_, by (simp only [List.getElem?_toArray, List.getElem?_cons_zero, List.getElem?_cons_succ]; rfl), fun K hK => ?_⟩
        go_simp
        go_at_call 23
        refine (HFA.out X45).mono ?_
        rintro e X451 ⟨rfl, hbn⟩
        have HB451 := hid (HB45.out.trans (hbn.mono HB45.out.size))
        have HA451 := hid ((hbn.block _ (box_lt HA45.out)).trans HA45.out)
        have HC451 := hid ((hbn.block _ (box_lt HC45.out)).trans HC45.out)
        clear hbn
        go_simp
        refine hK.out _ _ (fun _ => HS.out _ HB451.out) ?_
        clear hK K
        (try simp only [Act.put, List.setIfInBounds_toArray, List.set_cons_zero, List.set_cons_succ])
        refine wpAnyT_all (l := [3]) (by kernel_rfl) (by decide) ?_
        intro i hi
        simp only [List.mem_cons, List.not_mem_nil, or_false] at hi
        subst hi
        refine ⟨_, by (simp only [List.getElem?_toArray, List.getElem?_cons_zero, List.getElem?_cons_succ]; rfl), fun K hK => ?_⟩
        go_simp
        go_at_call 23
        refine (HFB.out X451).mono ?_
        rintro e X4513 ⟨rfl, hbn⟩
        have HB4513 := hid (HB451.out.trans (hbn.mono HB451.out.size))
        have HA4513 := hid ((hbn.block _ (box_lt HA451.out)).trans HA451.out)
        have HC4513 := hid ((hbn.block _ (box_lt HC451.out)).trans HC451.out)
        clear hbn
        go_simp
        refine hK.out _ _ (fun _ => HS.out _ HB4513.out) ?_
        clear hK K
        (try simp only [Act.put, List.setIfInBounds_toArray, List.set_cons_zero, List.set_cons_succ])
        have hne := HNE.out
        have hne' : g7 ≠ g8 := by first | exact hne | exact hne.symm
        have fa := HA4513.out
        have fc := HC4513.out
        have a0 := cell_of_row _ _ 0 _ _ _ fa
        have a1 := cell_of_row _ _ 1 _ _ _ fa
        have a2 := cell_of_row _ _ 2 _ _ _ fa
        have r0 := box_fr fa 0
        have r1 := box_fr fa 1
        have r2 := box_fr fa 2
        refine' wpAnyT_one (i := 6) (o := ?oi64513) (by kernel_rfl) ?hi64513 (fun K hK => ?st64513)
        case hi64513 => (simp only [List.getElem?_toArray, List.getElem?_cons_zero, List.getElem?_cons_succ]; rfl)
        go_simp
        refine hK.out _ _ (fun h => absurd h (by decide)) ?_
        clear hK K
        (try simp only [Act.put, List.setIfInBounds_toArray, List.set_cons_zero, List.set_cons_succ])
        have fa2 := put3h (.int .i64 (xk : Int)) (.int .i64 (xq : Int)) (.slice A N c) fa
        have fc2 := (put3o (w := X4513) (.int .i64 (xk : Int)) (.int .i64 (xq : Int)) (.slice A N c) (show g8 ≠ g7 from fun e => hne' e.symm)).trans fc
        have hb2 := put3b (x := g7) (.int .i64 (xk : Int)) (.int .i64 (xq : Int)) (.slice A N c) HB4513.out Hg7b.out
        obtain ⟨X8, hX8⟩ : ∃ X, ((X4513.setCell ⟨g7, 0, none⟩ (.int .i64 (xk : Int))).setCell ⟨g7, 1, none⟩ (.int .i64 (xq : Int))).setCell ⟨g7, 2, none⟩ (.slice A N c) = X := ⟨_, rfl⟩
        rw [hX8] at fa2 fc2 hb2 ⊢
        clear hX8 a0 a1 a2 r0 r1 r2 fa fc hHeld
        have a0 := cell_of_row _ _ 0 _ _ _ fc2
        have a1 := cell_of_row _ _ 1 _ _ _ fc2
        have a2 := cell_of_row _ _ 2 _ _ _ fc2
        have r0 := box_fr fc2 0
        have r1 := box_fr fc2 1
        have r2 := box_fr fc2 2
        refine' wpAnyT_one (i := 7) (o := ?oi74513) (by kernel_rfl) ?hi74513 (fun K hK => ?st74513)
        case hi74513 => (simp only [List.getElem?_toArray, List.getElem?_cons_zero, List.getElem?_cons_succ]; rfl)
        go_simp
        refine hK.out _ _ (fun h => absurd h (by decide)) ?_
        clear hK K
        (try simp only [Act.put, List.setIfInBounds_toArray, List.set_cons_zero, List.set_cons_succ])
        have fc3 := put3h (.int .i64 (yk : Int)) (.int .i64 (yq : Int)) (.slice B M d) fc2
        have fa3 := (put3o (w := X8) (.int .i64 (yk : Int)) (.int .i64 (yq : Int)) (.slice B M d) hne').trans fa2
        have hb3 := put3b (x := g8) (.int .i64 (yk : Int)) (.int .i64 (yq : Int)) (.slice B M d) hb2 Hg8b.out
        clear a0 a1 a2 r0 r1 r2 fc2 fa2 hb2
        refine wpAnyT_done (by kernel_rfl) ?_ _
        go_wp2
        go_meet
        exact ⟨g7, g8, rfl, rfl, hid hne', hid hb3, hid fa3, hid fc3, hid ⟨Hg7b.out, Hg8b.out⟩⟩
    · refine ⟨_, by (simp only [List.getElem?_toArray, List.getElem?_cons_zero, List.getElem?_cons_succ]; rfl), fun K hK => ?_⟩
      go_simp
      obtain ⟨X5, hX5⟩ : ∃ X, X0.alloc (.cells #[.int .i64 0, .int .i64 0, .slice none 0 0] 27) = X := ⟨_, rfl⟩
      rw [hX5]
      have hbn : Below X0.heap.size X0 X5 := by rw [← hX5]; exact al1 _ _
      have HB5 := hid (HB0.out.trans (hbn.mono HB0.out.size))
      have HC5 : Hid (X5.heap[X0.heap.size]? = some (.cells #[.int .i64 0, .int .i64 0, .slice none 0 0] 27)) := hid (by rw [← hX5]; exact heap_alloc_new _ _)
      obtain ⟨g8, hg8⟩ : ∃ g0, X0.heap.size = g0 := ⟨_, rfl⟩
      rw [hg8] at HC5
      try rw [hg8]
      have Hg8 := hid hg8
      have Hg8b : Hid (W1.heap.size ≤ g8) := hid (by rw [← hg8]; exact HB0.out.size)
      clear hbn hX5 hg8
      refine hK.out _ _ (fun _ => HS.out _ HB5.out) ?_
      clear hK K
      (try simp only [Act.put, List.setIfInBounds_toArray, List.set_cons_zero, List.set_cons_succ])
      refine wpAnyT_all (l := [1, 4]) (by kernel_rfl) (by decide) ?_
      intro i hi
      simp only [List.mem_cons, List.not_mem_nil, or_false] at hi
      rcases hi with rfl | rfl
      · refine ⟨_, by (simp only [List.getElem?_toArray, List.getElem?_cons_zero, List.getElem?_cons_succ]; rfl), fun K hK => ?_⟩
        go_simp
        go_at_call 23
        refine (HFA.out X5).mono ?_
        rintro e X51 ⟨rfl, hbn⟩
        have HB51 := hid (HB5.out.trans (hbn.mono HB5.out.size))
        have HC51 := hid ((hbn.block _ (box_lt HC5.out)).trans HC5.out)
        clear hbn
        go_simp
        refine hK.out _ _ (fun _ => HS.out _ HB51.out) ?_
        clear hK K
        (try simp only [Act.put, List.setIfInBounds_toArray, List.set_cons_zero, List.set_cons_succ])
        refine wpAnyT_all (l := [3, 4]) (by kernel_rfl) (by decide) ?_
        intro i hi
        simp only [List.mem_cons, List.not_mem_nil, or_false] at hi
        rcases hi with rfl | rfl
        · refine ⟨_, by (simp only [List.getElem?_toArray, List.getElem?_cons_zero, List.getElem?_cons_succ]; rfl), fun K hK => ?_⟩
          go_simp
          go_at_call 23
          refine (HFB.out X51).mono ?_
          rintro e X513 ⟨rfl, hbn⟩
          have HB513 := hid (HB51.out.trans (hbn.mono HB51.out.size))
          have HC513 := hid ((hbn.block _ (box_lt HC51.out)).trans HC51.out)
          clear hbn
          go_simp
          refine hK.out _ _ (fun _ => HS.out _ HB513.out) ?_
          clear hK K
          (try simp only [Act.put, List.setIfInBounds_toArray, List.set_cons_zero, List.set_cons_succ])
          refine wpAnyT_all (l := [4]) (by kernel_rfl) (by decide) ?_
          intro i hi
          simp only [List.mem_cons, List.not_mem_nil, or_false] at hi
          subst hi
          refine ⟨_, by (simp only [List.getElem?_toArray, List.getElem?_cons_zero, List.getElem?_cons_succ]; rfl), fun K hK => ?_⟩
          go_simp
          obtain ⟨X5134, hX5134⟩ : ∃ X, X513.alloc (.cells #[.int .i64 0, .int .i64 0, .slice none 0 0] 27) = X := ⟨_, rfl⟩
          rw [hX5134]
          have hbn : Below X513.heap.size X513 X5134 := by rw [← hX5134]; exact al1 _ _
          have HB5134 := hid (HB513.out.trans (hbn.mono HB513.out.size))
          have HA5134 : Hid (X5134.heap[X513.heap.size]? = some (.cells #[.int .i64 0, .int .i64 0, .slice none 0 0] 27)) := hid (by rw [← hX5134]; exact heap_alloc_new _ _)
          obtain ⟨g7, hg7⟩ : ∃ g0, X513.heap.size = g0 := ⟨_, rfl⟩
          rw [hg7] at HA5134
          try rw [hg7]
          have Hg7 := hid hg7
          have HNE : Hid (g8 ≠ g7) := hid (by have := box_lt HC513.out; omega)
          have HC5134 := hid ((hbn.block _ (box_lt HC513.out)).trans HC513.out)
          have Hg7b : Hid (W1.heap.size ≤ g7) := hid (by rw [← hg7]; exact HB513.out.size)
          clear hbn hX5134 hg7
          refine hK.out _ _ (fun _ => HS.out _ HB5134.out) ?_
          clear hK K
          (try simp only [Act.put, List.setIfInBounds_toArray, List.set_cons_zero, List.set_cons_succ])
          have hne := HNE.out
          have hne' : g7 ≠ g8 := by first | exact hne | exact hne.symm
          have fa := HA5134.out
          have fc := HC5134.out
          have a0 := cell_of_row _ _ 0 _ _ _ fa
          have a1 := cell_of_row _ _ 1 _ _ _ fa
          have a2 := cell_of_row _ _ 2 _ _ _ fa
          have r0 := box_fr fa 0
          have r1 := box_fr fa 1
          have r2 := box_fr fa 2
          refine' wpAnyT_one (i := 6) (o := ?oi65134) (by kernel_rfl) ?hi65134 (fun K hK => ?st65134)
          case hi65134 => (simp only [List.getElem?_toArray, List.getElem?_cons_zero, List.getElem?_cons_succ]; rfl)
          go_simp
          refine hK.out _ _ (fun h => absurd h (by decide)) ?_
          clear hK K
          (try simp only [Act.put, List.setIfInBounds_toArray, List.set_cons_zero, List.set_cons_succ])
          have fa2 := put3h (.int .i64 (xk : Int)) (.int .i64 (xq : Int)) (.slice A N c) fa
          have fc2 := (put3o (w := X5134) (.int .i64 (xk : Int)) (.int .i64 (xq : Int)) (.slice A N c) (show g8 ≠ g7 from fun e => hne' e.symm)).trans fc
          have hb2 := put3b (x := g7) (.int .i64 (xk : Int)) (.int .i64 (xq : Int)) (.slice A N c) HB5134.out Hg7b.out
          obtain ⟨X8, hX8⟩ : ∃ X, ((X5134.setCell ⟨g7, 0, none⟩ (.int .i64 (xk : Int))).setCell ⟨g7, 1, none⟩ (.int .i64 (xq : Int))).setCell ⟨g7, 2, none⟩ (.slice A N c) = X := ⟨_, rfl⟩
          rw [hX8] at fa2 fc2 hb2 ⊢
          clear hX8 a0 a1 a2 r0 r1 r2 fa fc hHeld
          have a0 := cell_of_row _ _ 0 _ _ _ fc2
          have a1 := cell_of_row _ _ 1 _ _ _ fc2
          have a2 := cell_of_row _ _ 2 _ _ _ fc2
          have r0 := box_fr fc2 0
          have r1 := box_fr fc2 1
          have r2 := box_fr fc2 2
          refine' wpAnyT_one (i := 7) (o := ?oi75134) (by kernel_rfl) ?hi75134 (fun K hK => ?st75134)
          case hi75134 => (simp only [List.getElem?_toArray, List.getElem?_cons_zero, List.getElem?_cons_succ]; rfl)
          go_simp
          refine hK.out _ _ (fun h => absurd h (by decide)) ?_
          clear hK K
          (try simp only [Act.put, List.setIfInBounds_toArray, List.set_cons_zero, List.set_cons_succ])
          have fc3 := put3h (.int .i64 (yk : Int)) (.int .i64 (yq : Int)) (.slice B M d) fc2
          have fa3 := (put3o (w := X8) (.int .i64 (yk : Int)) (.int .i64 (yq : Int)) (.slice B M d) hne').trans fa2
          have hb3 := put3b (x := g8) (.int .i64 (yk : Int)) (.int .i64 (yq : Int)) (.slice B M d) hb2 Hg8b.out
          clear a0 a1 a2 r0 r1 r2 fc2 fa2 hb2
          refine wpAnyT_done (by kernel_rfl) ?_ _
          go_wp2
          go_meet
          exact ⟨g7, g8, rfl, rfl, hid hne', hid hb3, hid fa3, hid fc3, hid ⟨Hg7b.out, Hg8b.out⟩⟩
        · refine ⟨_, by (simp only [List.getElem?_toArray, List.getElem?_cons_zero, List.getElem?_cons_succ]; rfl), fun K hK => ?_⟩
          go_simp
          obtain ⟨X514, hX514⟩ : ∃ X, X51.alloc (.cells #[.int .i64 0, .int .i64 0, .slice none 0 0] 27) = X := ⟨_, rfl⟩
          rw [hX514]
          have hbn : Below X51.heap.size X51 X514 := by rw [← hX514]; exact al1 _ _
          have HB514 := hid (HB51.out.trans (hbn.mono HB51.out.size))
          have HA514 : Hid (X514.heap[X51.heap.size]? = some (.cells #[.int .i64 0, .int .i64 0, .slice none 0 0] 27)) := hid (by rw [← hX514]; exact heap_alloc_new _ _)
          obtain ⟨g7, hg7⟩ : ∃ g0, X51.heap.size = g0 := ⟨_, rfl⟩
          rw [hg7] at HA514
          try rw [hg7]
          have Hg7 := hid hg7
          have HNE : Hid (g8 ≠ g7) := hid (by have := box_lt HC51.out; omega)
          have HC514 := hid ((hbn.block _ (box_lt HC51.out)).trans HC51.out)
          have Hg7b : Hid (W1.heap.size ≤ g7) := hid (by rw [← hg7]; exact HB51.out.size)
          clear hbn hX514 hg7
          refine hK.out _ _ (fun _ => HS.out _ HB514.out) ?_
          clear hK K
          (try simp only [Act.put, List.setIfInBounds_toArray, List.set_cons_zero, List.set_cons_succ])
          refine wpAnyT_all (l := [3]) (by kernel_rfl) (by decide) ?_
          intro i hi
          simp only [List.mem_cons, List.not_mem_nil, or_false] at hi
          subst hi
          refine ⟨_, by (simp only [List.getElem?_toArray, List.getElem?_cons_zero, List.getElem?_cons_succ]; rfl), fun K hK => ?_⟩
          go_simp
          go_at_call 23
          refine (HFB.out X514).mono ?_
          rintro e X5143 ⟨rfl, hbn⟩
          have HB5143 := hid (HB514.out.trans (hbn.mono HB514.out.size))
          have HA5143 := hid ((hbn.block _ (box_lt HA514.out)).trans HA514.out)
          have HC5143 := hid ((hbn.block _ (box_lt HC514.out)).trans HC514.out)
          clear hbn
          go_simp
          refine hK.out _ _ (fun _ => HS.out _ HB5143.out) ?_
          clear hK K
          (try simp only [Act.put, List.setIfInBounds_toArray, List.set_cons_zero, List.set_cons_succ])
          have hne := HNE.out
          have hne' : g7 ≠ g8 := by first | exact hne | exact hne.symm
          have fa := HA5143.out
          have fc := HC5143.out
          have a0 := cell_of_row _ _ 0 _ _ _ fa
          have a1 := cell_of_row _ _ 1 _ _ _ fa
          have a2 := cell_of_row _ _ 2 _ _ _ fa
          have r0 := box_fr fa 0
          have r1 := box_fr fa 1
          have r2 := box_fr fa 2
          refine' wpAnyT_one (i := 6) (o := ?oi65143) (by kernel_rfl) ?hi65143 (fun K hK => ?st65143)
          case hi65143 => (simp only [List.getElem?_toArray, List.getElem?_cons_zero, List.getElem?_cons_succ]; rfl)
          go_simp
          refine hK.out _ _ (fun h => absurd h (by decide)) ?_
          clear hK K
          (try simp only [Act.put, List.setIfInBounds_toArray, List.set_cons_zero, List.set_cons_succ])
          have fa2 := put3h (.int .i64 (xk : Int)) (.int .i64 (xq : Int)) (.slice A N c) fa
          have fc2 := (put3o (w := X5143) (.int .i64 (xk : Int)) (.int .i64 (xq : Int)) (.slice A N c) (show g8 ≠ g7 from fun e => hne' e.symm)).trans fc
          have hb2 := put3b (x := g7) (.int .i64 (xk : Int)) (.int .i64 (xq : Int)) (.slice A N c) HB5143.out Hg7b.out
          obtain ⟨X8, hX8⟩ : ∃ X, ((X5143.setCell ⟨g7, 0, none⟩ (.int .i64 (xk : Int))).setCell ⟨g7, 1, none⟩ (.int .i64 (xq : Int))).setCell ⟨g7, 2, none⟩ (.slice A N c) = X := ⟨_, rfl⟩
          rw [hX8] at fa2 fc2 hb2 ⊢
          clear hX8 a0 a1 a2 r0 r1 r2 fa fc hHeld
          have a0 := cell_of_row _ _ 0 _ _ _ fc2
          have a1 := cell_of_row _ _ 1 _ _ _ fc2
          have a2 := cell_of_row _ _ 2 _ _ _ fc2
          have r0 := box_fr fc2 0
          have r1 := box_fr fc2 1
          have r2 := box_fr fc2 2
          refine' wpAnyT_one (i := 7) (o := ?oi75143) (by kernel_rfl) ?hi75143 (fun K hK => ?st75143)
          case hi75143 => (simp only [List.getElem?_toArray, List.getElem?_cons_zero, List.getElem?_cons_succ]; rfl)
          go_simp
          refine hK.out _ _ (fun h => absurd h (by decide)) ?_
          clear hK K
          (try simp only [Act.put, List.setIfInBounds_toArray, List.set_cons_zero, List.set_cons_succ])
          have fc3 := put3h (.int .i64 (yk : Int)) (.int .i64 (yq : Int)) (.slice B M d) fc2
          have fa3 := (put3o (w := X8) (.int .i64 (yk : Int)) (.int .i64 (yq : Int)) (.slice B M d) hne').trans fa2
          have hb3 := put3b (x := g8) (.int .i64 (yk : Int)) (.int .i64 (yq : Int)) (.slice B M d) hb2 Hg8b.out
          clear a0 a1 a2 r0 r1 r2 fc2 fa2 hb2
          refine wpAnyT_done (by kernel_rfl) ?_ _
          go_wp2
          go_meet
          exact ⟨g7, g8, rfl, rfl, hid hne', hid hb3, hid fa3, hid fc3, hid ⟨Hg7b.out, Hg8b.out⟩⟩
      · refine ⟨_, by (simp only [List.getElem?_toArray, List.getElem?_cons_zero, List.getElem?_cons_succ]; rfl), fun K hK => ?_⟩
        go_simp
        obtain ⟨X54, hX54⟩ : ∃ X, X5.alloc (.cells #[.int .i64 0, .int .i64 0, .slice none 0 0] 27) = X := ⟨_, rfl⟩
        rw [hX54]
        have hbn : Below X5.heap.size X5 X54 := by rw [← hX54]; exact al1 _ _
        have HB54 := hid (HB5.out.trans (hbn.mono HB5.out.size))
        have HA54 : Hid (X54.heap[X5.heap.size]? = some (.cells #[.int .i64 0, .int .i64 0, .slice none 0 0] 27)) := hid (by rw [← hX54]; exact heap_alloc_new _ _)
        obtain ⟨g7, hg7⟩ : ∃ g0, X5.heap.size = g0 := ⟨_, rfl⟩
        rw [hg7] at HA54
        try rw [hg7]
        have Hg7 := hid hg7
        have HNE : Hid (g8 ≠ g7) := hid (by have := box_lt HC5.out; omega)
        have HC54 := hid ((hbn.block _ (box_lt HC5.out)).trans HC5.out)
        have Hg7b : Hid (W1.heap.size ≤ g7) := hid (by rw [← hg7]; exact HB5.out.size)
        clear hbn hX54 hg7
        refine hK.out _ _ (fun _ => HS.out _ HB54.out) ?_
        clear hK K
        (try simp only [Act.put, List.setIfInBounds_toArray, List.set_cons_zero, List.set_cons_succ])
        refine wpAnyT_all (l := [1]) (by kernel_rfl) (by decide) ?_
        intro i hi
        simp only [List.mem_cons, List.not_mem_nil, or_false] at hi
        subst hi
        refine ⟨_, by (simp only [List.getElem?_toArray, List.getElem?_cons_zero, List.getElem?_cons_succ]; rfl), fun K hK => ?_⟩
        go_simp
        go_at_call 23
        refine (HFA.out X54).mono ?_
        rintro e X541 ⟨rfl, hbn⟩
        have HB541 := hid (HB54.out.trans (hbn.mono HB54.out.size))
        have HA541 := hid ((hbn.block _ (box_lt HA54.out)).trans HA54.out)
        have HC541 := hid ((hbn.block _ (box_lt HC54.out)).trans HC54.out)
        clear hbn
        go_simp
        refine hK.out _ _ (fun _ => HS.out _ HB541.out) ?_
        clear hK K
        (try simp only [Act.put, List.setIfInBounds_toArray, List.set_cons_zero, List.set_cons_succ])
        refine wpAnyT_all (l := [3]) (by kernel_rfl) (by decide) ?_
        intro i hi
        simp only [List.mem_cons, List.not_mem_nil, or_false] at hi
        subst hi
        refine ⟨_, by (simp only [List.getElem?_toArray, List.getElem?_cons_zero, List.getElem?_cons_succ]; rfl), fun K hK => ?_⟩
        go_simp
        go_at_call 23
        refine (HFB.out X541).mono ?_
        rintro e X5413 ⟨rfl, hbn⟩
        have HB5413 := hid (HB541.out.trans (hbn.mono HB541.out.size))
        have HA5413 := hid ((hbn.block _ (box_lt HA541.out)).trans HA541.out)
        have HC5413 := hid ((hbn.block _ (box_lt HC541.out)).trans HC541.out)
        clear hbn
        go_simp
        refine hK.out _ _ (fun _ => HS.out _ HB5413.out) ?_
        clear hK K
        (try simp only [Act.put, List.setIfInBounds_toArray, List.set_cons_zero, List.set_cons_succ])
        have hne := HNE.out
        have hne' : g7 ≠ g8 := by first | exact hne | exact hne.symm
        have fa := HA5413.out
        have fc := HC5413.out
        have a0 := cell_of_row _ _ 0 _ _ _ fa
        have a1 := cell_of_row _ _ 1 _ _ _ fa
        have a2 := cell_of_row _ _ 2 _ _ _ fa
        have r0 := box_fr fa 0
        have r1 := box_fr fa 1
        have r2 := box_fr fa 2
        refine' wpAnyT_one (i := 6) (o := ?oi65413) (by kernel_rfl) ?hi65413 (fun K hK => ?st65413)
        case hi65413 => (simp only [List.getElem?_toArray, List.getElem?_cons_zero, List.getElem?_cons_succ]; rfl)
        go_simp
        refine hK.out _ _ (fun h => absurd h (by decide)) ?_
        clear hK K
        (try simp only [Act.put, List.setIfInBounds_toArray, List.set_cons_zero, List.set_cons_succ])
        have fa2 := put3h (.int .i64 (xk : Int)) (.int .i64 (xq : Int)) (.slice A N c) fa
        have fc2 := (put3o (w := X5413) (.int .i64 (xk : Int)) (.int .i64 (xq : Int)) (.slice A N c) (show g8 ≠ g7 from fun e => hne' e.symm)).trans fc
        have hb2 := put3b (x := g7) (.int .i64 (xk : Int)) (.int .i64 (xq : Int)) (.slice A N c) HB5413.out Hg7b.out
        obtain ⟨X8, hX8⟩ : ∃ X, ((X5413.setCell ⟨g7, 0, none⟩ (.int .i64 (xk : Int))).setCell ⟨g7, 1, none⟩ (.int .i64 (xq : Int))).setCell ⟨g7, 2, none⟩ (.slice A N c) = X := ⟨_, rfl⟩
        rw [hX8] at fa2 fc2 hb2 ⊢
        clear hX8 a0 a1 a2 r0 r1 r2 fa fc hHeld
        have a0 := cell_of_row _ _ 0 _ _ _ fc2
        have a1 := cell_of_row _ _ 1 _ _ _ fc2
        have a2 := cell_of_row _ _ 2 _ _ _ fc2
        have r0 := box_fr fc2 0
        have r1 := box_fr fc2 1
        have r2 := box_fr fc2 2
        refine' wpAnyT_one (i := 7) (o := ?oi75413) (by kernel_rfl) ?hi75413 (fun K hK => ?st75413)
        case hi75413 => (simp only [List.getElem?_toArray, List.getElem?_cons_zero, List.getElem?_cons_succ]; rfl)
        go_simp
        refine hK.out _ _ (fun h => absurd h (by decide)) ?_
        clear hK K
        (try simp only [Act.put, List.setIfInBounds_toArray, List.set_cons_zero, List.set_cons_succ])
        have fc3 := put3h (.int .i64 (yk : Int)) (.int .i64 (yq : Int)) (.slice B M d) fc2
        have fa3 := (put3o (w := X8) (.int .i64 (yk : Int)) (.int .i64 (yq : Int)) (.slice B M d) hne').trans fa2
        have hb3 := put3b (x := g8) (.int .i64 (yk : Int)) (.int .i64 (yq : Int)) (.slice B M d) hb2 Hg8b.out
        clear a0 a1 a2 r0 r1 r2 fc2 fa2 hb2
        refine wpAnyT_done (by kernel_rfl) ?_ _
        go_wp2
        go_meet
        exact ⟨g7, g8, rfl, rfl, hid hne', hid hb3, hid fa3, hid fc3, hid ⟨Hg7b.out, Hg8b.out⟩⟩
  case rest =>
    obtain ⟨g7, g8, rfl, rfl, HNE, HB2, HX2, HY2, HGB⟩ := hcut
    obtain ⟨zq, hzq⟩ : ∃ zq, (if xq = yq then yq + 1 else yq) = zq := ⟨_, rfl⟩
    have hz0 : zq ≠ xq ∧ 0 < zq ∧ zq ≤ 1000001 := by rw [← hzq]; split <;> omega
    have HZQ := hid hzq
    clear hzq
    have x0 := cell_of_row _ _ 0 _ _ _ HX2.out
    have x1 := cell_of_row _ _ 1 _ _ _ HX2.out
    have y0 := cell_of_row _ _ 0 _ _ _ HY2.out
    have y1 := cell_of_row _ _ 1 _ _ _ HY2.out
    go_upto_if 38 with fail
    go_cut [] (fun wx => Hid (Below W1.heap.size W1 wx) ∧ Hid (wx.heap[g7]? = some (.cells #[.int .i64 (xk : Int), .int .i64 (xq : Int), .slice A N c] 27)) ∧ Hid (wx.heap[g8]? = some (.cells #[.int .i64 (yk : Int), .int .i64 (zq : Int), .slice B M d] 27)))
    case first =>
      by_cases hxy : xq = yq
      · have dq : ((xq : Int) == (yq : Int)) = true := by rw [hxy]; simp
        have hz : zq = yq + 1 := by rw [← HZQ.out, if_pos hxy]
        have hwq : IntKind.i64.wrap ((yq : Int) + 1) = (zq : Int) := by rw [IntKind.wrap_i64, hz]; omega
        have r1 := box_fr HY2.out 1
        have HZ := hid hz
        clear hxy hz hz0
        go_wp2_with fail
        go_meet
        exact ⟨hid (HB2.out.setCell (p := ⟨g8, 1, none⟩) HGB.out.2 _), hid (by rw [Below.heap_setCell _ _ _ _ (show g7 ≠ g8 from HNE.out)]; exact HX2.out), hid (by first | exact box_set (cs := [.int .i64 (yk : Int), .int .i64 (yq : Int), .slice B M d]) HY2.out 1 _ | (have h := box_set (cs := [.int .i64 (yk : Int), .int .i64 (yq : Int), .slice B M d]) HY2.out 1 (.int .i64 (zq : Int)); exact h))⟩
      · have dq : ((xq : Int) == (yq : Int)) = false := by rw [beq_eq_false_iff_ne]; omega
        have hz : yq = zq := by rw [← HZQ.out, if_neg hxy]
        subst hz
        clear hxy hz0
        go_wp2_with fail
        go_meet
        exact ⟨HB2, HX2, HY2⟩
    case rest =>
      clear x0 x1 y0 y1 HB2 HX2 HY2
      obtain ⟨HB3, HX3, HY3⟩ := hcut
      have HENX := hid (encS_ok (k := xk) (q := xq) (p := ap) (by omega) (by omega) (by omega) (by omega) (by rw [HN.out]; omega))
      have HENY := hid (encS_ok (k := yk) (q := zq) (p := bp) (by omega) (by omega) (by omega) (by omega) (by rw [HM.out]; omega))
      obtain ⟨LX, hLX⟩ : ∃ L, encR xk xq ap = L := ⟨_, rfl⟩
      obtain ⟨LY, hLY⟩ : ∃ L, encR yk zq bp = L := ⟨_, rfl⟩
      obtain ⟨nx, hnx⟩ : ∃ n, LX.length = n := ⟨_, rfl⟩
      obtain ⟨ny, hny⟩ : ∃ n, LY.length = n := ⟨_, rfl⟩
      have hnxb : 2 ≤ nx ∧ nx ≤ 100 := by rw [← hnx, ← hLX, encR_len, HN.out]; unfold size; omega
      have hnyb : 2 ≤ ny ∧ ny ≤ 100 := by rw [← hny, ← hLY, encR_len, HM.out]; unfold size; omega
      rw [hLX] at HENX
      rw [hLY] at HENY
      have HLX := hid hLX
      have HLY := hid hLY
      have HNX := hid hnx
      have HNY := hid hny
      have x0 := cell_of_row _ _ 0 _ _ _ HX3.out
      have x1 := cell_of_row _ _ 1 _ _ _ HX3.out
      have x2 := cell_of_row _ _ 2 _ _ _ HX3.out
      have HBW3 := hid (HB1.out.trans (HB3.out.mono HB1.out.size))
      have HE1 := hid (fun (X : World) (hX : Below w.heap.size w X) => encode_any (xk : Int) (xq : Int) ap (.slice A N c) X (HPA.out.below hX) (by omega) (by omega))
      have HE2 := hid (fun (X : World) (hX : Below w.heap.size w X) => encode_any (yk : Int) (zq : Int) bp (.slice B M d) X (HPB.out.below hX) (by omega) (by omega))
      clear hLX hLY hnx hny
      go_wp2_with fail
      refine (HE1.out _ HBW3.out).mono ?_
      rintro e w4 h4
      obtain ⟨v4, rfl, hb4, hs4, ho4⟩ := enc_li h4 HENX.out
      have hs4' := sec_of_own ho4 hs4
      rw [HNX.out] at ho4
      obtain ⟨A4, c4, rfl⟩ := own_formE ho4
      have HB4 := hid (HBW3.out.trans (hb4.mono HBW3.out.size))
      have HX4 := hid ((hb4.block g7 (box_lt HX3.out)).trans HX3.out)
      have HY4 := hid ((hb4.block g8 (box_lt HY3.out)).trans HY3.out)
      have HS4 := hid hs4'
      clear h4 hb4 hs4 ho4 hs4' x0 x1 x2
      have x0 := cell_of_row _ _ 0 _ _ _ HY4.out
      have x1 := cell_of_row _ _ 1 _ _ _ HY4.out
      have x2 := cell_of_row _ _ 2 _ _ _ HY4.out
      go_wp2_with fail
      refine (HE2.out _ HB4.out).mono ?_
      rintro e w5 h5
      obtain ⟨v5, rfl, hb5, hs5, ho5⟩ := enc_li h5 HENY.out
      have hs5' := sec_of_own ho5 hs5
      rw [HNY.out] at ho5
      obtain ⟨A5, c5, rfl⟩ := own_formE ho5
      have HB5 := hid (HB4.out.trans (hb5.mono HB4.out.size))
      have HX5 := hid ((hb5.block g7 (box_lt HX4.out)).trans HX4.out)
      have HY5 := hid ((hb5.block g8 (box_lt HY4.out)).trans HY4.out)
      have HSX := hid (HS4.out.below hb5)
      have HSY := hid hs5'
      have HFL := hid (HF.out.below HB5.out)
      clear h5 hb5 hs5 ho5 hs5' x0 x1 x2
      obtain ⟨bx, ox, cx, ex, _, _, hbx, hcx⟩ := sec_at HSX.out (fun e => by have := HNX.out; rw [e] at this; simp at this; omega)
      rw [HNX.out] at ex
      injection ex with ex1 _ ex2
      subst ex1 ex2
      obtain ⟨by', oy, cy, ey, _, _, hby, hcy⟩ := sec_at HSY.out (fun e => by have := HNY.out; rw [e] at this; simp at this; omega)
      rw [HNY.out] at ey
      injection ey with ey1 _ ey2
      subst ey1 ey2
      have HCX := hid (fun (X : World) (hX : Below w5.heap.size w5 X) (k : Nat) (s : Sect) (hk : LX[k]? = some s) => (hcx k s hk).below hbx hX)
      have HCY := hid (fun (X : World) (hX : Below w5.heap.size w5 X) (k : Nat) (s : Sect) (hk : LY[k]? = some s) => (hcy k s hk).below hby hX)
      clear hcx hcy hbx hby
      go_wp2_with fail
      go_loopw [13, 14] (fun mv i wr => ∃ (k : Nat) (mx : List Sect), k ≤ max nx ny ∧ i = .int .i64 (k : Int) ∧ Hid (mx.length = k) ∧ Hid (wr.ownsRow w5.heap.size 52 8 mv k (mx.map cSec).flatten) ∧ Hid (∀ (i : Nat) (s : Sect), mx[i]? = some s → LX[i]? = some s ∨ LY[i]? = some s) ∧ Hid (Below w5.heap.size w5 wr)) (fun _ i _ => max nx ny - (Lib.intOf i).toNat)
      case atStart => exact ⟨0, [], Nat.zero_le _, rfl, hid rfl, hid (World.ownsRow_nil _ _ _ _), hid (fun i s h => by simp at h), hid (Below.refl _ _)⟩
      case round =>
        obtain ⟨k, mx, hk, rfl, HK, HO, HMX, HB⟩ := hrel
        obtain ⟨oA, oc, rfl⟩ := own_formE HO.out
        by_cases hkn : k < max nx ny
        · have dk : decide ((k : Int) < max (nx : Int) (ny : Int)) = true := decide_eq_true (by omega)
          by_cases hkl : k < L
          · have dl : decide ((k : Int) < (L : Int)) = true := decide_eq_true (by omega)
            obtain ⟨fb, fo, rfl, hfb, hfc⟩ := boo_at HFL.out (by rw [HL.out]; omega)
            obtain ⟨sb, hsb⟩ : ∃ s, fl[k]? = some s := ⟨fl[k]'(by rw [HL.out]; omega), List.getElem?_eq_getElem _⟩
            have bc := (HB.out.cell (p := ⟨fb, fo + k, none⟩) hfb).trans (hfc k sb hsb)
            clear hfb hfc hsb
            rcases sb with _ | _
            · skip
              by_cases hx : nx ≤ k
              · have dx : decide ((nx : Int) ≤ (k : Int)) = true := decide_eq_true (by omega)
                obtain ⟨s, hs⟩ : ∃ s, LY[k]? = some s := ⟨LY[k]'(by rw [HNY.out]; omega), List.getElem?_eq_getElem _⟩
                have sc := HCY.out wr HB.out k s hs
                have hso := HSY.out.1 s (List.mem_of_getElem? hs)
                have HSS : Hid (∀ (i : Nat) (r : Sect), (mx ++ [s])[i]? = some r → LX[i]? = some r ∨ LY[i]? = some r) := hid (fun i r hr => by
                  rcases Nat.lt_or_ge i mx.length with hl | hl
                  · rw [List.getElem?_append_left hl] at hr; exact HMX.out i r hr
                  · rw [List.getElem?_append_right hl] at hr
                    obtain ⟨h0, rfl⟩ : i - mx.length = 0 ∧ s = r := by
                      rcases hj : i - mx.length with _ | j
                      · rw [hj] at hr; exact ⟨rfl, by simpa using hr⟩
                      · rw [hj] at hr; simp at hr
                    obtain rfl : i = k := by have := HK.out; omega
                    exact .inr hs)
                clear hs
                have HONE : Hid (Secs [s]) := hid (fun r hr => by rw [List.mem_singleton] at hr; subst hr; exact hso)
                obtain ⟨x0, x1, x2, x3, x4, x5, x6, x7, rfl⟩ := list8 hso.1
                obtain ⟨p0, p1, p2, p3, p4, p5, p6, p7⟩ := sc.facts
                clear sc hso
                obtain ⟨W11, hW11⟩ : ∃ W11, wr.alloc (.cells #[.int .u8 (x0 : Int), .int .u8 (x1 : Int), .int .u8 (x2 : Int), .int .u8 (x3 : Int), .int .u8 (x4 : Int), .int .u8 (x5 : Int), .int .u8 (x6 : Int), .int .u8 (x7 : Int)] 52) = W11 := ⟨_, rfl⟩
                have hb11 : Below wr.heap.size wr W11 := by rw [← hW11]; exact al1 _ _
                have hx11 : W11.heap[wr.heap.size]? = some (.cells #[.int .u8 (x0 : Int), .int .u8 (x1 : Int), .int .u8 (x2 : Int), .int .u8 (x3 : Int), .int .u8 (x4 : Int), .int .u8 (x5 : Int), .int .u8 (x6 : Int), .int .u8 (x7 : Int)] 52) := by rw [← hW11]; exact heap_alloc_new _ _
                have HO11 := hid (own_keep HO.out (keep_below hb11))
                have HB11 := hid (HB.out.trans (hb11.mono HB.out.size))
                have hz11 : w5.heap.size ≤ W11.heap.size := HB11.out.size
                have HCC : Hid (∀ (j : Nat) (u : Value), ([[x0, x1, x2, x3, x4, x5, x6, x7]].map cSec).flatten[j]? = some u → W11.cell? ((⟨wr.heap.size, 0, none⟩ : Addr).add j) = some u) := hid (fun j u hu => by rw [add_at', cell_of_row _ _ _ _ _ _ hx11]; simpa [cSec, byteV] using hu)
                subst hW11
                clear hb11 hx11
                go_wp2_with (first | (at_builtin; refine append_secs rfl (.tmp 91) (.tmp 96) rfl w5.heap.size (.slice oA k oc) k _ rfl HO11.out [[x0, x1, x2, x3, x4, x5, x6, x7]] ⟨wr.heap.size, 0, none⟩ 1 1 rfl HONE.out rfl HCC.out (by omega) hz11 ?_; intro v12 w12 ho12 hg12; have HB12 := hid (below_ownE HB11.out HO11.out hg12 hz11 (Nat.le_refl _)); obtain ⟨o12, oc12, rfl⟩ := own_formE ho12; have HO12 := hid ho12; clear ho12 hg12) | fail)
                go_roundw
                case rel => exact ⟨k + 1, mx ++ [[x0, x1, x2, x3, x4, x5, x6, x7]], by omega, by go_num, hid (by rw [List.length_append, HK.out]; rfl), hid (by rw [List.map_append, List.flatten_append]; simpa using HO12.out), HSS, HB12⟩
                case measure => simp [Lib.intOf]; omega
              · have dx : decide ((nx : Int) ≤ (k : Int)) = false := decide_eq_false (by omega)
                obtain ⟨s, hs⟩ : ∃ s, LX[k]? = some s := ⟨LX[k]'(by rw [HNX.out]; omega), List.getElem?_eq_getElem _⟩
                have sc := HCX.out wr HB.out k s hs
                have hso := HSX.out.1 s (List.mem_of_getElem? hs)
                have HSS : Hid (∀ (i : Nat) (r : Sect), (mx ++ [s])[i]? = some r → LX[i]? = some r ∨ LY[i]? = some r) := hid (fun i r hr => by
                  rcases Nat.lt_or_ge i mx.length with hl | hl
                  · rw [List.getElem?_append_left hl] at hr; exact HMX.out i r hr
                  · rw [List.getElem?_append_right hl] at hr
                    obtain ⟨h0, rfl⟩ : i - mx.length = 0 ∧ s = r := by
                      rcases hj : i - mx.length with _ | j
                      · rw [hj] at hr; exact ⟨rfl, by simpa using hr⟩
                      · rw [hj] at hr; simp at hr
                    obtain rfl : i = k := by have := HK.out; omega
                    exact .inl hs)
                clear hs
                have HONE : Hid (Secs [s]) := hid (fun r hr => by rw [List.mem_singleton] at hr; subst hr; exact hso)
                obtain ⟨x0, x1, x2, x3, x4, x5, x6, x7, rfl⟩ := list8 hso.1
                obtain ⟨p0, p1, p2, p3, p4, p5, p6, p7⟩ := sc.facts
                clear sc hso
                obtain ⟨W11, hW11⟩ : ∃ W11, wr.alloc (.cells #[.int .u8 (x0 : Int), .int .u8 (x1 : Int), .int .u8 (x2 : Int), .int .u8 (x3 : Int), .int .u8 (x4 : Int), .int .u8 (x5 : Int), .int .u8 (x6 : Int), .int .u8 (x7 : Int)] 52) = W11 := ⟨_, rfl⟩
                have hb11 : Below wr.heap.size wr W11 := by rw [← hW11]; exact al1 _ _
                have hx11 : W11.heap[wr.heap.size]? = some (.cells #[.int .u8 (x0 : Int), .int .u8 (x1 : Int), .int .u8 (x2 : Int), .int .u8 (x3 : Int), .int .u8 (x4 : Int), .int .u8 (x5 : Int), .int .u8 (x6 : Int), .int .u8 (x7 : Int)] 52) := by rw [← hW11]; exact heap_alloc_new _ _
                have HO11 := hid (own_keep HO.out (keep_below hb11))
                have HB11 := hid (HB.out.trans (hb11.mono HB.out.size))
                have hz11 : w5.heap.size ≤ W11.heap.size := HB11.out.size
                have HCC : Hid (∀ (j : Nat) (u : Value), ([[x0, x1, x2, x3, x4, x5, x6, x7]].map cSec).flatten[j]? = some u → W11.cell? ((⟨wr.heap.size, 0, none⟩ : Addr).add j) = some u) := hid (fun j u hu => by rw [add_at', cell_of_row _ _ _ _ _ _ hx11]; simpa [cSec, byteV] using hu)
                subst hW11
                clear hb11 hx11
                go_wp2_with (first | (at_builtin; refine append_secs rfl (.tmp 98) (.tmp 103) rfl w5.heap.size (.slice oA k oc) k _ rfl HO11.out [[x0, x1, x2, x3, x4, x5, x6, x7]] ⟨wr.heap.size, 0, none⟩ 1 1 rfl HONE.out rfl HCC.out (by omega) hz11 ?_; intro v12 w12 ho12 hg12; have HB12 := hid (below_ownE HB11.out HO11.out hg12 hz11 (Nat.le_refl _)); obtain ⟨o12, oc12, rfl⟩ := own_formE ho12; have HO12 := hid ho12; clear ho12 hg12) | fail)
                go_roundw
                case rel => exact ⟨k + 1, mx ++ [[x0, x1, x2, x3, x4, x5, x6, x7]], by omega, by go_num, hid (by rw [List.length_append, HK.out]; rfl), hid (by rw [List.map_append, List.flatten_append]; simpa using HO12.out), HSS, HB12⟩
                case measure => simp [Lib.intOf]; omega
            · skip
              by_cases hx : nx ≤ k
              · have dx : decide ((nx : Int) ≤ (k : Int)) = true := decide_eq_true (by omega)
                obtain ⟨s, hs⟩ : ∃ s, LY[k]? = some s := ⟨LY[k]'(by rw [HNY.out]; omega), List.getElem?_eq_getElem _⟩
                have sc := HCY.out wr HB.out k s hs
                have hso := HSY.out.1 s (List.mem_of_getElem? hs)
                have HSS : Hid (∀ (i : Nat) (r : Sect), (mx ++ [s])[i]? = some r → LX[i]? = some r ∨ LY[i]? = some r) := hid (fun i r hr => by
                  rcases Nat.lt_or_ge i mx.length with hl | hl
                  · rw [List.getElem?_append_left hl] at hr; exact HMX.out i r hr
                  · rw [List.getElem?_append_right hl] at hr
                    obtain ⟨h0, rfl⟩ : i - mx.length = 0 ∧ s = r := by
                      rcases hj : i - mx.length with _ | j
                      · rw [hj] at hr; exact ⟨rfl, by simpa using hr⟩
                      · rw [hj] at hr; simp at hr
                    obtain rfl : i = k := by have := HK.out; omega
                    exact .inr hs)
                clear hs
                have HONE : Hid (Secs [s]) := hid (fun r hr => by rw [List.mem_singleton] at hr; subst hr; exact hso)
                obtain ⟨x0, x1, x2, x3, x4, x5, x6, x7, rfl⟩ := list8 hso.1
                obtain ⟨p0, p1, p2, p3, p4, p5, p6, p7⟩ := sc.facts
                clear sc hso
                obtain ⟨W11, hW11⟩ : ∃ W11, wr.alloc (.cells #[.int .u8 (x0 : Int), .int .u8 (x1 : Int), .int .u8 (x2 : Int), .int .u8 (x3 : Int), .int .u8 (x4 : Int), .int .u8 (x5 : Int), .int .u8 (x6 : Int), .int .u8 (x7 : Int)] 52) = W11 := ⟨_, rfl⟩
                have hb11 : Below wr.heap.size wr W11 := by rw [← hW11]; exact al1 _ _
                have hx11 : W11.heap[wr.heap.size]? = some (.cells #[.int .u8 (x0 : Int), .int .u8 (x1 : Int), .int .u8 (x2 : Int), .int .u8 (x3 : Int), .int .u8 (x4 : Int), .int .u8 (x5 : Int), .int .u8 (x6 : Int), .int .u8 (x7 : Int)] 52) := by rw [← hW11]; exact heap_alloc_new _ _
                have HO11 := hid (own_keep HO.out (keep_below hb11))
                have HB11 := hid (HB.out.trans (hb11.mono HB.out.size))
                have hz11 : w5.heap.size ≤ W11.heap.size := HB11.out.size
                have HCC : Hid (∀ (j : Nat) (u : Value), ([[x0, x1, x2, x3, x4, x5, x6, x7]].map cSec).flatten[j]? = some u → W11.cell? ((⟨wr.heap.size, 0, none⟩ : Addr).add j) = some u) := hid (fun j u hu => by rw [add_at', cell_of_row _ _ _ _ _ _ hx11]; simpa [cSec, byteV] using hu)
                subst hW11
                clear hb11 hx11
                go_wp2_with (first | (at_builtin; refine append_secs rfl (.tmp 91) (.tmp 96) rfl w5.heap.size (.slice oA k oc) k _ rfl HO11.out [[x0, x1, x2, x3, x4, x5, x6, x7]] ⟨wr.heap.size, 0, none⟩ 1 1 rfl HONE.out rfl HCC.out (by omega) hz11 ?_; intro v12 w12 ho12 hg12; have HB12 := hid (below_ownE HB11.out HO11.out hg12 hz11 (Nat.le_refl _)); obtain ⟨o12, oc12, rfl⟩ := own_formE ho12; have HO12 := hid ho12; clear ho12 hg12) | fail)
                go_roundw
                case rel => exact ⟨k + 1, mx ++ [[x0, x1, x2, x3, x4, x5, x6, x7]], by omega, by go_num, hid (by rw [List.length_append, HK.out]; rfl), hid (by rw [List.map_append, List.flatten_append]; simpa using HO12.out), HSS, HB12⟩
                case measure => simp [Lib.intOf]; omega
              · have dx : decide ((nx : Int) ≤ (k : Int)) = false := decide_eq_false (by omega)
                by_cases hy : k < ny
                · have dy : decide ((k : Int) < (ny : Int)) = true := decide_eq_true (by omega)
                  obtain ⟨s, hs⟩ : ∃ s, LY[k]? = some s := ⟨LY[k]'(by rw [HNY.out]; omega), List.getElem?_eq_getElem _⟩
                  have sc := HCY.out wr HB.out k s hs
                  have hso := HSY.out.1 s (List.mem_of_getElem? hs)
                  have HSS : Hid (∀ (i : Nat) (r : Sect), (mx ++ [s])[i]? = some r → LX[i]? = some r ∨ LY[i]? = some r) := hid (fun i r hr => by
                    rcases Nat.lt_or_ge i mx.length with hl | hl
                    · rw [List.getElem?_append_left hl] at hr; exact HMX.out i r hr
                    · rw [List.getElem?_append_right hl] at hr
                      obtain ⟨h0, rfl⟩ : i - mx.length = 0 ∧ s = r := by
                        rcases hj : i - mx.length with _ | j
                        · rw [hj] at hr; exact ⟨rfl, by simpa using hr⟩
                        · rw [hj] at hr; simp at hr
                      obtain rfl : i = k := by have := HK.out; omega
                      exact .inr hs)
                  clear hs
                  have HONE : Hid (Secs [s]) := hid (fun r hr => by rw [List.mem_singleton] at hr; subst hr; exact hso)
                  obtain ⟨x0, x1, x2, x3, x4, x5, x6, x7, rfl⟩ := list8 hso.1
                  obtain ⟨p0, p1, p2, p3, p4, p5, p6, p7⟩ := sc.facts
                  clear sc hso
                  obtain ⟨W11, hW11⟩ : ∃ W11, wr.alloc (.cells #[.int .u8 (x0 : Int), .int .u8 (x1 : Int), .int .u8 (x2 : Int), .int .u8 (x3 : Int), .int .u8 (x4 : Int), .int .u8 (x5 : Int), .int .u8 (x6 : Int), .int .u8 (x7 : Int)] 52) = W11 := ⟨_, rfl⟩
                  have hb11 : Below wr.heap.size wr W11 := by rw [← hW11]; exact al1 _ _
                  have hx11 : W11.heap[wr.heap.size]? = some (.cells #[.int .u8 (x0 : Int), .int .u8 (x1 : Int), .int .u8 (x2 : Int), .int .u8 (x3 : Int), .int .u8 (x4 : Int), .int .u8 (x5 : Int), .int .u8 (x6 : Int), .int .u8 (x7 : Int)] 52) := by rw [← hW11]; exact heap_alloc_new _ _
                  have HO11 := hid (own_keep HO.out (keep_below hb11))
                  have HB11 := hid (HB.out.trans (hb11.mono HB.out.size))
                  have hz11 : w5.heap.size ≤ W11.heap.size := HB11.out.size
                  have HCC : Hid (∀ (j : Nat) (u : Value), ([[x0, x1, x2, x3, x4, x5, x6, x7]].map cSec).flatten[j]? = some u → W11.cell? ((⟨wr.heap.size, 0, none⟩ : Addr).add j) = some u) := hid (fun j u hu => by rw [add_at', cell_of_row _ _ _ _ _ _ hx11]; simpa [cSec, byteV] using hu)
                  subst hW11
                  clear hb11 hx11
                  go_wp2_with (first | (at_builtin; refine append_secs rfl (.tmp 91) (.tmp 96) rfl w5.heap.size (.slice oA k oc) k _ rfl HO11.out [[x0, x1, x2, x3, x4, x5, x6, x7]] ⟨wr.heap.size, 0, none⟩ 1 1 rfl HONE.out rfl HCC.out (by omega) hz11 ?_; intro v12 w12 ho12 hg12; have HB12 := hid (below_ownE HB11.out HO11.out hg12 hz11 (Nat.le_refl _)); obtain ⟨o12, oc12, rfl⟩ := own_formE ho12; have HO12 := hid ho12; clear ho12 hg12) | fail)
                  go_roundw
                  case rel => exact ⟨k + 1, mx ++ [[x0, x1, x2, x3, x4, x5, x6, x7]], by omega, by go_num, hid (by rw [List.length_append, HK.out]; rfl), hid (by rw [List.map_append, List.flatten_append]; simpa using HO12.out), HSS, HB12⟩
                  case measure => simp [Lib.intOf]; omega
                · have dy : decide ((k : Int) < (ny : Int)) = false := decide_eq_false (by omega)
                  obtain ⟨s, hs⟩ : ∃ s, LX[k]? = some s := ⟨LX[k]'(by rw [HNX.out]; omega), List.getElem?_eq_getElem _⟩
                  have sc := HCX.out wr HB.out k s hs
                  have hso := HSX.out.1 s (List.mem_of_getElem? hs)
                  have HSS : Hid (∀ (i : Nat) (r : Sect), (mx ++ [s])[i]? = some r → LX[i]? = some r ∨ LY[i]? = some r) := hid (fun i r hr => by
                    rcases Nat.lt_or_ge i mx.length with hl | hl
                    · rw [List.getElem?_append_left hl] at hr; exact HMX.out i r hr
                    · rw [List.getElem?_append_right hl] at hr
                      obtain ⟨h0, rfl⟩ : i - mx.length = 0 ∧ s = r := by
                        rcases hj : i - mx.length with _ | j
                        · rw [hj] at hr; exact ⟨rfl, by simpa using hr⟩
                        · rw [hj] at hr; simp at hr
                      obtain rfl : i = k := by have := HK.out; omega
                      exact .inl hs)
                  clear hs
                  have HONE : Hid (Secs [s]) := hid (fun r hr => by rw [List.mem_singleton] at hr; subst hr; exact hso)
                  obtain ⟨x0, x1, x2, x3, x4, x5, x6, x7, rfl⟩ := list8 hso.1
                  obtain ⟨p0, p1, p2, p3, p4, p5, p6, p7⟩ := sc.facts
                  clear sc hso
                  obtain ⟨W11, hW11⟩ : ∃ W11, wr.alloc (.cells #[.int .u8 (x0 : Int), .int .u8 (x1 : Int), .int .u8 (x2 : Int), .int .u8 (x3 : Int), .int .u8 (x4 : Int), .int .u8 (x5 : Int), .int .u8 (x6 : Int), .int .u8 (x7 : Int)] 52) = W11 := ⟨_, rfl⟩
                  have hb11 : Below wr.heap.size wr W11 := by rw [← hW11]; exact al1 _ _
                  have hx11 : W11.heap[wr.heap.size]? = some (.cells #[.int .u8 (x0 : Int), .int .u8 (x1 : Int), .int .u8 (x2 : Int), .int .u8 (x3 : Int), .int .u8 (x4 : Int), .int .u8 (x5 : Int), .int .u8 (x6 : Int), .int .u8 (x7 : Int)] 52) := by rw [← hW11]; exact heap_alloc_new _ _
                  have HO11 := hid (own_keep HO.out (keep_below hb11))
                  have HB11 := hid (HB.out.trans (hb11.mono HB.out.size))
                  have hz11 : w5.heap.size ≤ W11.heap.size := HB11.out.size
                  have HCC : Hid (∀ (j : Nat) (u : Value), ([[x0, x1, x2, x3, x4, x5, x6, x7]].map cSec).flatten[j]? = some u → W11.cell? ((⟨wr.heap.size, 0, none⟩ : Addr).add j) = some u) := hid (fun j u hu => by rw [add_at', cell_of_row _ _ _ _ _ _ hx11]; simpa [cSec, byteV] using hu)
                  subst hW11
                  clear hb11 hx11
                  go_wp2_with (first | (at_builtin; refine append_secs rfl (.tmp 98) (.tmp 103) rfl w5.heap.size (.slice oA k oc) k _ rfl HO11.out [[x0, x1, x2, x3, x4, x5, x6, x7]] ⟨wr.heap.size, 0, none⟩ 1 1 rfl HONE.out rfl HCC.out (by omega) hz11 ?_; intro v12 w12 ho12 hg12; have HB12 := hid (below_ownE HB11.out HO11.out hg12 hz11 (Nat.le_refl _)); obtain ⟨o12, oc12, rfl⟩ := own_formE ho12; have HO12 := hid ho12; clear ho12 hg12) | fail)
                  go_roundw
                  case rel => exact ⟨k + 1, mx ++ [[x0, x1, x2, x3, x4, x5, x6, x7]], by omega, by go_num, hid (by rw [List.length_append, HK.out]; rfl), hid (by rw [List.map_append, List.flatten_append]; simpa using HO12.out), HSS, HB12⟩
                  case measure => simp [Lib.intOf]; omega
          · have dl : decide ((k : Int) < (L : Int)) = false := decide_eq_false (by omega)
            by_cases hx : nx ≤ k
            · have dx : decide ((nx : Int) ≤ (k : Int)) = true := decide_eq_true (by omega)
              obtain ⟨s, hs⟩ : ∃ s, LY[k]? = some s := ⟨LY[k]'(by rw [HNY.out]; omega), List.getElem?_eq_getElem _⟩
              have sc := HCY.out wr HB.out k s hs
              have hso := HSY.out.1 s (List.mem_of_getElem? hs)
              have HSS : Hid (∀ (i : Nat) (r : Sect), (mx ++ [s])[i]? = some r → LX[i]? = some r ∨ LY[i]? = some r) := hid (fun i r hr => by
                rcases Nat.lt_or_ge i mx.length with hl | hl
                · rw [List.getElem?_append_left hl] at hr; exact HMX.out i r hr
                · rw [List.getElem?_append_right hl] at hr
                  obtain ⟨h0, rfl⟩ : i - mx.length = 0 ∧ s = r := by
                    rcases hj : i - mx.length with _ | j
                    · rw [hj] at hr; exact ⟨rfl, by simpa using hr⟩
                    · rw [hj] at hr; simp at hr
                  obtain rfl : i = k := by have := HK.out; omega
                  exact .inr hs)
              clear hs
              have HONE : Hid (Secs [s]) := hid (fun r hr => by rw [List.mem_singleton] at hr; subst hr; exact hso)
              obtain ⟨x0, x1, x2, x3, x4, x5, x6, x7, rfl⟩ := list8 hso.1
              obtain ⟨p0, p1, p2, p3, p4, p5, p6, p7⟩ := sc.facts
              clear sc hso
              obtain ⟨W11, hW11⟩ : ∃ W11, wr.alloc (.cells #[.int .u8 (x0 : Int), .int .u8 (x1 : Int), .int .u8 (x2 : Int), .int .u8 (x3 : Int), .int .u8 (x4 : Int), .int .u8 (x5 : Int), .int .u8 (x6 : Int), .int .u8 (x7 : Int)] 52) = W11 := ⟨_, rfl⟩
              have hb11 : Below wr.heap.size wr W11 := by rw [← hW11]; exact al1 _ _
              have hx11 : W11.heap[wr.heap.size]? = some (.cells #[.int .u8 (x0 : Int), .int .u8 (x1 : Int), .int .u8 (x2 : Int), .int .u8 (x3 : Int), .int .u8 (x4 : Int), .int .u8 (x5 : Int), .int .u8 (x6 : Int), .int .u8 (x7 : Int)] 52) := by rw [← hW11]; exact heap_alloc_new _ _
              have HO11 := hid (own_keep HO.out (keep_below hb11))
              have HB11 := hid (HB.out.trans (hb11.mono HB.out.size))
              have hz11 : w5.heap.size ≤ W11.heap.size := HB11.out.size
              have HCC : Hid (∀ (j : Nat) (u : Value), ([[x0, x1, x2, x3, x4, x5, x6, x7]].map cSec).flatten[j]? = some u → W11.cell? ((⟨wr.heap.size, 0, none⟩ : Addr).add j) = some u) := hid (fun j u hu => by rw [add_at', cell_of_row _ _ _ _ _ _ hx11]; simpa [cSec, byteV] using hu)
              subst hW11
              clear hb11 hx11
              go_wp2_with (first | (at_builtin; refine append_secs rfl (.tmp 91) (.tmp 96) rfl w5.heap.size (.slice oA k oc) k _ rfl HO11.out [[x0, x1, x2, x3, x4, x5, x6, x7]] ⟨wr.heap.size, 0, none⟩ 1 1 rfl HONE.out rfl HCC.out (by omega) hz11 ?_; intro v12 w12 ho12 hg12; have HB12 := hid (below_ownE HB11.out HO11.out hg12 hz11 (Nat.le_refl _)); obtain ⟨o12, oc12, rfl⟩ := own_formE ho12; have HO12 := hid ho12; clear ho12 hg12) | fail)
              go_roundw
              case rel => exact ⟨k + 1, mx ++ [[x0, x1, x2, x3, x4, x5, x6, x7]], by omega, by go_num, hid (by rw [List.length_append, HK.out]; rfl), hid (by rw [List.map_append, List.flatten_append]; simpa using HO12.out), HSS, HB12⟩
              case measure => simp [Lib.intOf]; omega
            · have dx : decide ((nx : Int) ≤ (k : Int)) = false := decide_eq_false (by omega)
              obtain ⟨s, hs⟩ : ∃ s, LX[k]? = some s := ⟨LX[k]'(by rw [HNX.out]; omega), List.getElem?_eq_getElem _⟩
              have sc := HCX.out wr HB.out k s hs
              have hso := HSX.out.1 s (List.mem_of_getElem? hs)
              have HSS : Hid (∀ (i : Nat) (r : Sect), (mx ++ [s])[i]? = some r → LX[i]? = some r ∨ LY[i]? = some r) := hid (fun i r hr => by
                rcases Nat.lt_or_ge i mx.length with hl | hl
                · rw [List.getElem?_append_left hl] at hr; exact HMX.out i r hr
                · rw [List.getElem?_append_right hl] at hr
                  obtain ⟨h0, rfl⟩ : i - mx.length = 0 ∧ s = r := by
                    rcases hj : i - mx.length with _ | j
                    · rw [hj] at hr; exact ⟨rfl, by simpa using hr⟩
                    · rw [hj] at hr; simp at hr
                  obtain rfl : i = k := by have := HK.out; omega
                  exact .inl hs)
              clear hs
              have HONE : Hid (Secs [s]) := hid (fun r hr => by rw [List.mem_singleton] at hr; subst hr; exact hso)
              obtain ⟨x0, x1, x2, x3, x4, x5, x6, x7, rfl⟩ := list8 hso.1
              obtain ⟨p0, p1, p2, p3, p4, p5, p6, p7⟩ := sc.facts
              clear sc hso
              obtain ⟨W11, hW11⟩ : ∃ W11, wr.alloc (.cells #[.int .u8 (x0 : Int), .int .u8 (x1 : Int), .int .u8 (x2 : Int), .int .u8 (x3 : Int), .int .u8 (x4 : Int), .int .u8 (x5 : Int), .int .u8 (x6 : Int), .int .u8 (x7 : Int)] 52) = W11 := ⟨_, rfl⟩
              have hb11 : Below wr.heap.size wr W11 := by rw [← hW11]; exact al1 _ _
              have hx11 : W11.heap[wr.heap.size]? = some (.cells #[.int .u8 (x0 : Int), .int .u8 (x1 : Int), .int .u8 (x2 : Int), .int .u8 (x3 : Int), .int .u8 (x4 : Int), .int .u8 (x5 : Int), .int .u8 (x6 : Int), .int .u8 (x7 : Int)] 52) := by rw [← hW11]; exact heap_alloc_new _ _
              have HO11 := hid (own_keep HO.out (keep_below hb11))
              have HB11 := hid (HB.out.trans (hb11.mono HB.out.size))
              have hz11 : w5.heap.size ≤ W11.heap.size := HB11.out.size
              have HCC : Hid (∀ (j : Nat) (u : Value), ([[x0, x1, x2, x3, x4, x5, x6, x7]].map cSec).flatten[j]? = some u → W11.cell? ((⟨wr.heap.size, 0, none⟩ : Addr).add j) = some u) := hid (fun j u hu => by rw [add_at', cell_of_row _ _ _ _ _ _ hx11]; simpa [cSec, byteV] using hu)
              subst hW11
              clear hb11 hx11
              go_wp2_with (first | (at_builtin; refine append_secs rfl (.tmp 98) (.tmp 103) rfl w5.heap.size (.slice oA k oc) k _ rfl HO11.out [[x0, x1, x2, x3, x4, x5, x6, x7]] ⟨wr.heap.size, 0, none⟩ 1 1 rfl HONE.out rfl HCC.out (by omega) hz11 ?_; intro v12 w12 ho12 hg12; have HB12 := hid (below_ownE HB11.out HO11.out hg12 hz11 (Nat.le_refl _)); obtain ⟨o12, oc12, rfl⟩ := own_formE ho12; have HO12 := hid ho12; clear ho12 hg12) | fail)
              go_roundw
              case rel => exact ⟨k + 1, mx ++ [[x0, x1, x2, x3, x4, x5, x6, x7]], by omega, by go_num, hid (by rw [List.length_append, HK.out]; rfl), hid (by rw [List.map_append, List.flatten_append]; simpa using HO12.out), HSS, HB12⟩
              case measure => simp [Lib.intOf]; omega
        · have dk : decide ((k : Int) < max (nx : Int) (ny : Int)) = false := decide_eq_false (by omega)
          have HML := hid (show Secs mx from fun s hs => by
            obtain ⟨i, hi⟩ := List.getElem?_of_mem hs
            rcases HMX.out i s hi with h | h
            · exact HSX.out.1 s (List.mem_of_getElem? h)
            · exact HSY.out.1 s (List.mem_of_getElem? h))
          have HDC := hid (decode_any mx (.slice oA k oc) wr (sec_of_own (by rw [HK.out]; exact HO.out) HML.out) (by rw [HK.out]; omega))
          have HX6 := hid ((HB.out.block g7 (box_lt HX5.out)).trans HX5.out)
          have HY6 := hid ((HB.out.block g8 (box_lt HY5.out)).trans HY5.out)
          have HBW6 := hid (HB5.out.trans (HB.out.mono HB5.out.size))
          have HMIX := hid (fun (r : Rc) (n : Nat) (hd : dR mx = .ok (r, n)) => dR_mix (kx := xk) (qx := xq) (ky := yk) (qy := zq) HPA.out.1 (show ap.length ≤ 4096 by rw [HN.out]; omega) (by omega) (by omega) (by omega) HPB.out.1 (show bp.length ≤ 4096 by rw [HM.out]; omega) (by omega) (by omega) (by omega) (fun e => hz0.1 e.symm) (c := mx) (fun i s h => by rw [HLX.out, HLY.out]; exact HMX.out i s h) hd)
          have hzq0 := hz0.1
          clear hkn hk
          go_wp2_with fail
          refine HDC.out.mono ?_
          rintro e w7 ⟨hb7, ⟨r, n', pv, hd, rfl, ho, h8⟩ | ⟨er, hd, rfl⟩⟩
          · have hr := HMIX.out r n' hd
            obtain ⟨pA, pc, rfl⟩ := own_form ho
            obtain ⟨rk, rq, rp⟩ := r
            dsimp only at ho h8 hr ⊢
            have hbyt := byt_of_own ho h8
            obtain ⟨pn, hpn⟩ : ∃ pn, rp.length = pn := ⟨_, rfl⟩
            rw [hpn] at hbyt ⊢
            obtain ⟨W8, hW8⟩ : ∃ W8, w7.alloc (.cells #[.int .i64 (rk : Int), .int .i64 (rq : Int), .slice pA pn pc] 27) = W8 := ⟨_, rfl⟩
            have hb8 : Below w7.heap.size w7 W8 := by rw [← hW8]; exact al1 _ _
            have HZ8 : Hid (W8.heap[w7.heap.size]? = some (.cells #[.int .i64 (rk : Int), .int .i64 (rq : Int), .slice pA pn pc] 27)) := hid (by rw [← hW8]; exact heap_alloc_new _ _)
            have hb78 : Below wr.heap.size wr W8 := hb7.trans (hb8.mono hb7.size)
            have HX8 := hid ((hb78.block g7 (box_lt HX6.out)).trans HX6.out)
            have HY8 := hid ((hb78.block g8 (box_lt HY6.out)).trans HY6.out)
            have HB8 := hid (HBW6.out.trans (hb78.mono HBW6.out.size))
            have HPR := hid (hbyt.below hb8)
            have HR := hid hr
            have HW8 := hid hW8
            obtain ⟨gz, hgz⟩ : ∃ g, w7.heap.size = g := ⟨_, rfl⟩
            have HGZ := hid hgz
            rw [hgz] at HZ8
            clear hd hb7 ho h8 hr hbyt hpn hb8 hb78 HDC HMIX hW8 hgz
            go_wp2_with fail
            rw [HW8.out, HGZ.out]
            refine (awake_any W8).mono ?_
            rintro e w9 ⟨rfl, hb9⟩
            have HX9 := hid ((hb9.block g7 (box_lt HX8.out)).trans HX8.out)
            have HY9 := hid ((hb9.block g8 (box_lt HY8.out)).trans HY8.out)
            have HZ9 := hid ((hb9.block gz (box_lt HZ8.out)).trans HZ8.out)
            have HB9 := hid (HB8.out.trans (hb9.mono HB8.out.size))
            have HPR9 := hid (HPR.out.below hb9)
            have x0 := cell_of_row _ _ 0 _ _ _ HX9.out
            have x1 := cell_of_row _ _ 1 _ _ _ HX9.out
            have x2 := cell_of_row _ _ 2 _ _ _ HX9.out
            have z0 := cell_of_row _ _ 0 _ _ _ HZ9.out
            have z1 := cell_of_row _ _ 1 _ _ _ HZ9.out
            have z2 := cell_of_row _ _ 2 _ _ _ HZ9.out
            have hs1 := same_any (rk : Int) (rq : Int) (xk : Int) (xq : Int) rp ap (.slice pA pn pc) (.slice A N c) w9 HPR9.out (HPA.out.below HB9.out)
            obtain ⟨b1, hb1⟩ : ∃ b, decide ((rk : Int) = (xk : Int) ∧ (rq : Int) = (xq : Int) ∧ rp = ap) = b := ⟨_, rfl⟩
            rw [hb1] at hs1
            have HS1 := hid hs1
            have HBB := hid hb1
            clear hb9 hs1 hb1
            rcases b1 with _ | _
            · go_wp2_with fail
              refine HS1.out.mono ?_
              rintro e w10 ⟨rfl, hb10⟩
              have hry : rk = yk ∧ rq = zq ∧ rp = bp := by
                rcases HR.out with h | h
                · exfalso
                  injection h with h1 h2
                  injection h2 with h2 h3
                  have := of_decide_eq_false HBB.out
                  exact this ⟨by rw [h1], by rw [h2], h3⟩
                · injection h with h1 h2
                  injection h2 with h2 h3
                  exact ⟨h1, h2, h3⟩
              have hb10' : Below w9.heap.size w9 w10 := hb10
              have HY10 := hid ((hb10'.block g8 (box_lt HY9.out)).trans HY9.out)
              have HZ10 := hid ((hb10'.block gz (box_lt HZ9.out)).trans HZ9.out)
              have HB10 := hid (HB9.out.trans (hb10'.mono HB9.out.size))
              have HPR10 := hid (HPR9.out.below hb10')
              have hs2 := same_any (rk : Int) (rq : Int) (yk : Int) (zq : Int) rp bp (.slice pA pn pc) (.slice B M d) w10 HPR10.out (HPB.out.below HB10.out)
              rw [decide_eq_true (show (rk : Int) = (yk : Int) ∧ (rq : Int) = (zq : Int) ∧ rp = bp from ⟨by rw [hry.1], by rw [hry.2.1], hry.2.2⟩)] at hs2
              have HS2 := hid hs2
              clear hb10 hb10' hs2 hry x0 x1 x2 z0 z1 z2
              have x0 := cell_of_row _ _ 0 _ _ _ HY10.out
              have x1 := cell_of_row _ _ 1 _ _ _ HY10.out
              have x2 := cell_of_row _ _ 2 _ _ _ HY10.out
              have z0 := cell_of_row _ _ 0 _ _ _ HZ10.out
              have z1 := cell_of_row _ _ 1 _ _ _ HZ10.out
              have z2 := cell_of_row _ _ 2 _ _ _ HZ10.out
              go_wp2_with fail
              refine HS2.out.mono ?_
              rintro e w11 ⟨rfl, hb11⟩
              have HB11 := hid (HB10.out.trans (hb11.mono HB10.out.size))
              clear hb11
              go_wp2
              go_ret
              exact ⟨rfl, HB11.out⟩
            · go_wp2_with fail
              refine HS1.out.mono ?_
              rintro e w10 ⟨rfl, hb10⟩
              have HB10 := hid (HB9.out.trans (hb10.mono HB9.out.size))
              clear hb10
              go_wp2
              go_ret
              exact ⟨rfl, HB10.out⟩
          · have hne : (er != 0) = true := by rw [bne_iff_ne]; exact dR_ne0 hd
            obtain ⟨W8, hW8⟩ : ∃ W8, w7.alloc (.cells #[.int .i64 0, .int .i64 0, .slice none 0 0] 27) = W8 := ⟨_, rfl⟩
            have hb8 : Below w7.heap.size w7 W8 := by rw [← hW8]; exact al1 _ _
            have HB8 := hid (HBW6.out.trans ((hb7.trans (hb8.mono hb7.size)).mono HBW6.out.size))
            have HW8 := hid hW8
            clear hd hb7 hb8 HDC HMIX hW8
            go_wp2_with fail
            rw [HW8.out]
            refine (awake_any W8).mono ?_
            rintro e w9 ⟨rfl, hb9⟩
            have HB9 := hid (HB8.out.trans (hb9.mono HB8.out.size))
            clear hb9
            go_wp2
            go_ret
            exact ⟨rfl, HB9.out⟩
end Go.Proofs.Ytcmmkeadbedooaa

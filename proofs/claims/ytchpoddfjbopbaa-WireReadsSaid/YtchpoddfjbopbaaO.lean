/- PutInts, PutSectors, PutExtents, PutWrites. -/
import Derived.Test.YtchpoddfjbopbaaN
namespace Go.Proofs.Ytchpoddfjbopbaa
open Go.RowKit Go.Lib

def Nums (w : World) (v : Value) (l : List Int) : Prop := Arr w v 1 (l.map cInt)
theorem Nums.below {w w' : World} {v : Value} {ll : List Int} (h : Nums w v ll) (hb : Below w.heap.size w w') : Nums w' v ll := Arr.below h hb
theorem Ext.below {w w' : World} {v : Value} {ll : List (Int × Int)} (h : Ext w v ll) (hb : Below w.heap.size w w') : Ext w' v ll := Arr.below h hb
theorem own_less {w : World} {base base' n : Nat} {v : Value} {xs : List Value} (h : w.ownsRow base' 5 1 v n xs) (hb : base ≤ base') : w.ownsRow base 5 1 v n xs := by
  refine ⟨h.1, ?_⟩
  rcases h.2 with h1 | ⟨g, cap, cur, e, hg, h2⟩
  · exact .inl h1
  · exact .inr ⟨g, cap, cur, e, by omega, h2⟩

/- INTS -/
set_option maxHeartbeats 2000000 in
set_option maxRecDepth 100000 in
theorem cloInts (xs : List Int) (pr : List Nat) (u : Value) (g B : Nat) (w0 w : World) (hu : Nums w0 u xs) (hb0 : Below w0.heap.size w0 w) (hw : Wr w g w0.heap.size pr) (hbg : w0.heap.size ≤ g) (hx : xs.length ≤ 60000) (hl : pr.length + (eList eNum xs).length ≤ 60000)
    (hc : w.cell? ⟨B, 0, none⟩ = some (.func (.func 52) #[] #[])) :
    Calls Try.prog 82 #[.pointer (some ⟨g, 0, none⟩), u, .pointer (some ⟨B, 0, none⟩)] w (Wrote w g w0.heap.size (pr ++ eList eNum xs)) := by
  have HP := hid (encInts xs pr u g w0 w hu hb0 hw hbg hx hl)
  clear hu hb0 hw hl
  go_enter Try.func82, Try.ntmps82
  go_wp2_with fail
  refine HP.out.mono ?_
  rintro e w1 ⟨⟨v1, rfl⟩, hw1, hb1⟩
  have HW1 := hid hw1
  have HB1 := hid hb1
  clear hw1 hb1
  go_wp2
  go_end0
  exact ⟨⟨_, rfl⟩, HW1.out, HB1.out⟩

set_option maxHeartbeats 2000000 in
set_option maxRecDepth 100000 in
theorem putlInts (xs : List Int) (l : List Nat) (v u : Value) (B : Nat) (w : World) (hv : Byt w v l) (hn : NilOk v) (hu : Nums w u xs) (hx : xs.length ≤ 60000) (hl : l.length + (eList eNum xs).length ≤ 60000) (hc : w.cell? ⟨B, 0, none⟩ = some (.func (.func 52) #[] #[])) (hB : B < w.heap.size) :
    Calls Try.prog 81 #[v, u, .func (.func 82) #[] #[.pointer (some ⟨B, 0, none⟩)]] w (MadeO w (l ++ eList eNum xs)) := by
  have HC := hid (clone_any l v w hv hn (by omega))
  have HW := hid (fun (w1 : World) (g : Nat) (h0 : Below w.heap.size w w1) (hw : Wr w1 g w.heap.size l) (hg : w.heap.size ≤ g) => cloInts xs l u g B w w1 hu h0 hw hg hx hl ((h0.cell (p := ⟨B, 0, none⟩) hB).trans hc))
  obtain ⟨ll, hll⟩ : ∃ ll, l ++ eList eNum xs = ll := ⟨_, rfl⟩
  rw [hll] at HW ⊢
  clear hll
  obtain ⟨A, ca, rfl⟩ := byt_form hv
  clear hv hn hu hc
  go_enter Try.func81, Try.ntmps81
  go_wp2_with (go_at_call 50; refine HC.out.mono ?_; rintro e w1 ⟨v1, rfl, ho1, hb1⟩; obtain ⟨a1, c1, rfl⟩ := own_form ho1; have HO1 := hid ho1; have HB1 := hid hb1; clear ho1 hb1)
  refine (HW.out _ w1.heap.size (HB1.out.alloc HB1.out.size _) ⟨_, Boxed.new _ _ _, HO1.out.alloc _⟩ HB1.out.size).mono ?_
  rintro e w2 ⟨⟨vv, rfl⟩, ⟨v2, bx, ho⟩, hb⟩
  obtain ⟨a2, c2, rfl⟩ := own_form ho
  have HO2 := hid ho
  have HB2 := hid ((HB1.out.alloc HB1.out.size _).trans hb)
  have cx := bx.cell
  clear bx ho hb
  go_wp2
  go_ret
  exact ⟨_, rfl, HO2.out, HB2.out⟩

set_option maxHeartbeats 2000000 in
set_option maxRecDepth 100000 in
theorem lstInts (xs : List Int) (l : List Nat) (v u : Value) (w : World) (hv : Byt w v l) (hn : NilOk v) (hu : Nums w u xs) (hx : xs.length ≤ 60000) (hl : l.length + (eList eNum xs).length ≤ 60000) :
    Calls Try.prog 55 #[v, u, .func (.func 52) #[] #[]] w (MadeO w (l ++ eList eNum xs)) := by
  have HP := hid (fun (W : World) (hb : Below w.heap.size w W) (B : Nat) (hB : B < W.heap.size) (hc : W.cell? ⟨B, 0, none⟩ = some (.func (.func 52) #[] #[])) => putlInts xs l v u B W (hv.below hb) hn (hu.below hb) hx hl hc hB)
  obtain ⟨ll, hll⟩ : ∃ ll, l ++ eList eNum xs = ll := ⟨_, rfl⟩
  rw [hll] at HP ⊢
  clear hll
  obtain ⟨A, ca, rfl⟩ := byt_form hv
  clear hv hn hu
  go_enter Try.func55, Try.ntmps55
  go_wp2_with fail
  refine (HP.out _ (al1 _ _) w.heap.size (by simp) (by rw [cell_of_row _ _ _ _ _ _ (heap_alloc_new _ _)]; rfl)).mono ?_
  rintro e w1 ⟨v1, rfl, ho1, hb1⟩
  obtain ⟨a1, c1, rfl⟩ := own_form ho1
  have HO1 := hid ho1
  have HB1 := hid hb1
  clear ho1 hb1
  go_wp2
  go_ret
  exact ⟨_, rfl, own_less HO1.out (by simp), al_back HB1.out⟩

set_option maxHeartbeats 2000000 in
set_option maxRecDepth 100000 in
theorem putInts_any (xs : List Int) (l : List Nat) (v u : Value) (w : World) (hv : Byt w v l) (hn : NilOk v) (hu : Nums w u xs) (hx : xs.length ≤ 60000) (hl : l.length + (eList eNum xs).length ≤ 60000) :
    Calls Try.prog 17 #[v, u] w (MadeO w (l ++ eList eNum xs)) := by
  have HP := hid (lstInts xs l v u w hv hn hu hx hl)
  obtain ⟨ll, hll⟩ : ∃ ll, l ++ eList eNum xs = ll := ⟨_, rfl⟩
  rw [hll] at HP ⊢
  clear hll
  obtain ⟨A, ca, rfl⟩ := byt_form hv
  clear hv hn hu
  go_enter Try.func17, Try.ntmps17
  go_wp2_with fail
  refine HP.out.mono ?_
  rintro e w1 ⟨v1, rfl, ho1, hb1⟩
  obtain ⟨a1, c1, rfl⟩ := own_form ho1
  have HO1 := hid ho1
  have HB1 := hid hb1
  clear ho1 hb1
  go_wp2
  go_ret
  exact ⟨_, rfl, HO1.out, HB1.out⟩

/- SECS -/
set_option maxHeartbeats 2000000 in
set_option maxRecDepth 100000 in
theorem cloSecs (xs : List (List Nat)) (pr : List Nat) (u : Value) (g B : Nat) (w0 w : World) (hu : Sec w0 u xs) (hb0 : Below w0.heap.size w0 w) (hw : Wr w g w0.heap.size pr) (hbg : w0.heap.size ≤ g) (hx : xs.length ≤ 60000) (hl : pr.length + (eList eSec xs).length ≤ 60000)
    (hc : w.cell? ⟨B, 0, none⟩ = some (.func (.func 58) #[] #[])) :
    Calls Try.prog 85 #[.pointer (some ⟨g, 0, none⟩), u, .pointer (some ⟨B, 0, none⟩)] w (Wrote w g w0.heap.size (pr ++ eList eSec xs)) := by
  have HP := hid (encSecs xs pr u g w0 w hu hb0 hw hbg hx hl)
  clear hu hb0 hw hl
  go_enter Try.func85, Try.ntmps85
  go_wp2_with fail
  refine HP.out.mono ?_
  rintro e w1 ⟨⟨v1, rfl⟩, hw1, hb1⟩
  have HW1 := hid hw1
  have HB1 := hid hb1
  clear hw1 hb1
  go_wp2
  go_end0
  exact ⟨⟨_, rfl⟩, HW1.out, HB1.out⟩

set_option maxHeartbeats 2000000 in
set_option maxRecDepth 100000 in
theorem putlSecs (xs : List (List Nat)) (l : List Nat) (v u : Value) (B : Nat) (w : World) (hv : Byt w v l) (hn : NilOk v) (hu : Sec w u xs) (hx : xs.length ≤ 60000) (hl : l.length + (eList eSec xs).length ≤ 60000) (hc : w.cell? ⟨B, 0, none⟩ = some (.func (.func 58) #[] #[])) (hB : B < w.heap.size) :
    Calls Try.prog 84 #[v, u, .func (.func 85) #[] #[.pointer (some ⟨B, 0, none⟩)]] w (MadeO w (l ++ eList eSec xs)) := by
  have HC := hid (clone_any l v w hv hn (by omega))
  have HW := hid (fun (w1 : World) (g : Nat) (h0 : Below w.heap.size w w1) (hw : Wr w1 g w.heap.size l) (hg : w.heap.size ≤ g) => cloSecs xs l u g B w w1 hu h0 hw hg hx hl ((h0.cell (p := ⟨B, 0, none⟩) hB).trans hc))
  obtain ⟨ll, hll⟩ : ∃ ll, l ++ eList eSec xs = ll := ⟨_, rfl⟩
  rw [hll] at HW ⊢
  clear hll
  obtain ⟨A, ca, rfl⟩ := byt_form hv
  clear hv hn hu hc
  go_enter Try.func84, Try.ntmps84
  go_wp2_with (go_at_call 50; refine HC.out.mono ?_; rintro e w1 ⟨v1, rfl, ho1, hb1⟩; obtain ⟨a1, c1, rfl⟩ := own_form ho1; have HO1 := hid ho1; have HB1 := hid hb1; clear ho1 hb1)
  refine (HW.out _ w1.heap.size (HB1.out.alloc HB1.out.size _) ⟨_, Boxed.new _ _ _, HO1.out.alloc _⟩ HB1.out.size).mono ?_
  rintro e w2 ⟨⟨vv, rfl⟩, ⟨v2, bx, ho⟩, hb⟩
  obtain ⟨a2, c2, rfl⟩ := own_form ho
  have HO2 := hid ho
  have HB2 := hid ((HB1.out.alloc HB1.out.size _).trans hb)
  have cx := bx.cell
  clear bx ho hb
  go_wp2
  go_ret
  exact ⟨_, rfl, HO2.out, HB2.out⟩

set_option maxHeartbeats 2000000 in
set_option maxRecDepth 100000 in
theorem lstSecs (xs : List (List Nat)) (l : List Nat) (v u : Value) (w : World) (hv : Byt w v l) (hn : NilOk v) (hu : Sec w u xs) (hx : xs.length ≤ 60000) (hl : l.length + (eList eSec xs).length ≤ 60000) :
    Calls Try.prog 57 #[v, u, .func (.func 58) #[] #[]] w (MadeO w (l ++ eList eSec xs)) := by
  have HP := hid (fun (W : World) (hb : Below w.heap.size w W) (B : Nat) (hB : B < W.heap.size) (hc : W.cell? ⟨B, 0, none⟩ = some (.func (.func 58) #[] #[])) => putlSecs xs l v u B W (hv.below hb) hn (hu.below hb) hx hl hc hB)
  obtain ⟨ll, hll⟩ : ∃ ll, l ++ eList eSec xs = ll := ⟨_, rfl⟩
  rw [hll] at HP ⊢
  clear hll
  obtain ⟨A, ca, rfl⟩ := byt_form hv
  clear hv hn hu
  go_enter Try.func57, Try.ntmps57
  go_wp2_with fail
  refine (HP.out _ (al1 _ _) w.heap.size (by simp) (by rw [cell_of_row _ _ _ _ _ _ (heap_alloc_new _ _)]; rfl)).mono ?_
  rintro e w1 ⟨v1, rfl, ho1, hb1⟩
  obtain ⟨a1, c1, rfl⟩ := own_form ho1
  have HO1 := hid ho1
  have HB1 := hid hb1
  clear ho1 hb1
  go_wp2
  go_ret
  exact ⟨_, rfl, own_less HO1.out (by simp), al_back HB1.out⟩

set_option maxHeartbeats 2000000 in
set_option maxRecDepth 100000 in
theorem putSecs_any (xs : List (List Nat)) (l : List Nat) (v u : Value) (w : World) (hv : Byt w v l) (hn : NilOk v) (hu : Sec w u xs) (hx : xs.length ≤ 60000) (hl : l.length + (eList eSec xs).length ≤ 60000) :
    Calls Try.prog 20 #[v, u] w (MadeO w (l ++ eList eSec xs)) := by
  have HP := hid (lstSecs xs l v u w hv hn hu hx hl)
  obtain ⟨ll, hll⟩ : ∃ ll, l ++ eList eSec xs = ll := ⟨_, rfl⟩
  rw [hll] at HP ⊢
  clear hll
  obtain ⟨A, ca, rfl⟩ := byt_form hv
  clear hv hn hu
  go_enter Try.func20, Try.ntmps20
  go_wp2_with fail
  refine HP.out.mono ?_
  rintro e w1 ⟨v1, rfl, ho1, hb1⟩
  obtain ⟨a1, c1, rfl⟩ := own_form ho1
  have HO1 := hid ho1
  have HB1 := hid hb1
  clear ho1 hb1
  go_wp2
  go_ret
  exact ⟨_, rfl, HO1.out, HB1.out⟩

/- EXTS -/
set_option maxHeartbeats 2000000 in
set_option maxRecDepth 100000 in
theorem cloExts (xs : List (Int × Int)) (pr : List Nat) (u : Value) (g B : Nat) (w0 w : World) (hu : Ext w0 u xs) (hb0 : Below w0.heap.size w0 w) (hw : Wr w g w0.heap.size pr) (hbg : w0.heap.size ≤ g) (hx : xs.length ≤ 60000) (hl : pr.length + (eList eExtI xs).length ≤ 60000)
    (hc : w.cell? ⟨B, 0, none⟩ = some (.func (.func 60) #[] #[])) :
    Calls Try.prog 88 #[.pointer (some ⟨g, 0, none⟩), u, .pointer (some ⟨B, 0, none⟩)] w (Wrote w g w0.heap.size (pr ++ eList eExtI xs)) := by
  have HP := hid (encExts xs pr u g w0 w hu hb0 hw hbg hx hl)
  clear hu hb0 hw hl
  go_enter Try.func88, Try.ntmps88
  go_wp2_with fail
  refine HP.out.mono ?_
  rintro e w1 ⟨⟨v1, rfl⟩, hw1, hb1⟩
  have HW1 := hid hw1
  have HB1 := hid hb1
  clear hw1 hb1
  go_wp2
  go_end0
  exact ⟨⟨_, rfl⟩, HW1.out, HB1.out⟩

set_option maxHeartbeats 2000000 in
set_option maxRecDepth 100000 in
theorem putlExts (xs : List (Int × Int)) (l : List Nat) (v u : Value) (B : Nat) (w : World) (hv : Byt w v l) (hn : NilOk v) (hu : Ext w u xs) (hx : xs.length ≤ 60000) (hl : l.length + (eList eExtI xs).length ≤ 60000) (hc : w.cell? ⟨B, 0, none⟩ = some (.func (.func 60) #[] #[])) (hB : B < w.heap.size) :
    Calls Try.prog 87 #[v, u, .func (.func 88) #[] #[.pointer (some ⟨B, 0, none⟩)]] w (MadeO w (l ++ eList eExtI xs)) := by
  have HC := hid (clone_any l v w hv hn (by omega))
  have HW := hid (fun (w1 : World) (g : Nat) (h0 : Below w.heap.size w w1) (hw : Wr w1 g w.heap.size l) (hg : w.heap.size ≤ g) => cloExts xs l u g B w w1 hu h0 hw hg hx hl ((h0.cell (p := ⟨B, 0, none⟩) hB).trans hc))
  obtain ⟨ll, hll⟩ : ∃ ll, l ++ eList eExtI xs = ll := ⟨_, rfl⟩
  rw [hll] at HW ⊢
  clear hll
  obtain ⟨A, ca, rfl⟩ := byt_form hv
  clear hv hn hu hc
  go_enter Try.func87, Try.ntmps87
  go_wp2_with (go_at_call 50; refine HC.out.mono ?_; rintro e w1 ⟨v1, rfl, ho1, hb1⟩; obtain ⟨a1, c1, rfl⟩ := own_form ho1; have HO1 := hid ho1; have HB1 := hid hb1; clear ho1 hb1)
  refine (HW.out _ w1.heap.size (HB1.out.alloc HB1.out.size _) ⟨_, Boxed.new _ _ _, HO1.out.alloc _⟩ HB1.out.size).mono ?_
  rintro e w2 ⟨⟨vv, rfl⟩, ⟨v2, bx, ho⟩, hb⟩
  obtain ⟨a2, c2, rfl⟩ := own_form ho
  have HO2 := hid ho
  have HB2 := hid ((HB1.out.alloc HB1.out.size _).trans hb)
  have cx := bx.cell
  clear bx ho hb
  go_wp2
  go_ret
  exact ⟨_, rfl, HO2.out, HB2.out⟩

set_option maxHeartbeats 2000000 in
set_option maxRecDepth 100000 in
theorem lstExts (xs : List (Int × Int)) (l : List Nat) (v u : Value) (w : World) (hv : Byt w v l) (hn : NilOk v) (hu : Ext w u xs) (hx : xs.length ≤ 60000) (hl : l.length + (eList eExtI xs).length ≤ 60000) :
    Calls Try.prog 59 #[v, u, .func (.func 60) #[] #[]] w (MadeO w (l ++ eList eExtI xs)) := by
  have HP := hid (fun (W : World) (hb : Below w.heap.size w W) (B : Nat) (hB : B < W.heap.size) (hc : W.cell? ⟨B, 0, none⟩ = some (.func (.func 60) #[] #[])) => putlExts xs l v u B W (hv.below hb) hn (hu.below hb) hx hl hc hB)
  obtain ⟨ll, hll⟩ : ∃ ll, l ++ eList eExtI xs = ll := ⟨_, rfl⟩
  rw [hll] at HP ⊢
  clear hll
  obtain ⟨A, ca, rfl⟩ := byt_form hv
  clear hv hn hu
  go_enter Try.func59, Try.ntmps59
  go_wp2_with fail
  refine (HP.out _ (al1 _ _) w.heap.size (by simp) (by rw [cell_of_row _ _ _ _ _ _ (heap_alloc_new _ _)]; rfl)).mono ?_
  rintro e w1 ⟨v1, rfl, ho1, hb1⟩
  obtain ⟨a1, c1, rfl⟩ := own_form ho1
  have HO1 := hid ho1
  have HB1 := hid hb1
  clear ho1 hb1
  go_wp2
  go_ret
  exact ⟨_, rfl, own_less HO1.out (by simp), al_back HB1.out⟩

set_option maxHeartbeats 2000000 in
set_option maxRecDepth 100000 in
theorem putExts_any (xs : List (Int × Int)) (l : List Nat) (v u : Value) (w : World) (hv : Byt w v l) (hn : NilOk v) (hu : Ext w u xs) (hx : xs.length ≤ 60000) (hl : l.length + (eList eExtI xs).length ≤ 60000) :
    Calls Try.prog 22 #[v, u] w (MadeO w (l ++ eList eExtI xs)) := by
  have HP := hid (lstExts xs l v u w hv hn hu hx hl)
  obtain ⟨ll, hll⟩ : ∃ ll, l ++ eList eExtI xs = ll := ⟨_, rfl⟩
  rw [hll] at HP ⊢
  clear hll
  obtain ⟨A, ca, rfl⟩ := byt_form hv
  clear hv hn hu
  go_enter Try.func22, Try.ntmps22
  go_wp2_with fail
  refine HP.out.mono ?_
  rintro e w1 ⟨v1, rfl, ho1, hb1⟩
  obtain ⟨a1, c1, rfl⟩ := own_form ho1
  have HO1 := hid ho1
  have HB1 := hid hb1
  clear ho1 hb1
  go_wp2
  go_ret
  exact ⟨_, rfl, HO1.out, HB1.out⟩

/- WRIS -/
set_option maxHeartbeats 2000000 in
set_option maxRecDepth 100000 in
theorem cloWris (xs : List Wri) (pr : List Nat) (u : Value) (g B : Nat) (w0 w : World) (hu : Wrs w0 u xs) (hb0 : Below w0.heap.size w0 w) (hw : Wr w g w0.heap.size pr) (hbg : w0.heap.size ≤ g) (hx : xs.length ≤ 60000) (hl : pr.length + (eList eWri xs).length ≤ 60000)
    (hc : w.cell? ⟨B, 0, none⟩ = some (.func (.func 62) #[] #[])) :
    Calls Try.prog 91 #[.pointer (some ⟨g, 0, none⟩), u, .pointer (some ⟨B, 0, none⟩)] w (Wrote w g w0.heap.size (pr ++ eList eWri xs)) := by
  have HP := hid (encWris xs pr u g w0 w hu hb0 hw hbg hx hl)
  clear hu hb0 hw hl
  go_enter Try.func91, Try.ntmps91
  go_wp2_with fail
  refine HP.out.mono ?_
  rintro e w1 ⟨⟨v1, rfl⟩, hw1, hb1⟩
  have HW1 := hid hw1
  have HB1 := hid hb1
  clear hw1 hb1
  go_wp2
  go_end0
  exact ⟨⟨_, rfl⟩, HW1.out, HB1.out⟩

set_option maxHeartbeats 2000000 in
set_option maxRecDepth 100000 in
theorem putlWris (xs : List Wri) (l : List Nat) (v u : Value) (B : Nat) (w : World) (hv : Byt w v l) (hn : NilOk v) (hu : Wrs w u xs) (hx : xs.length ≤ 60000) (hl : l.length + (eList eWri xs).length ≤ 60000) (hc : w.cell? ⟨B, 0, none⟩ = some (.func (.func 62) #[] #[])) (hB : B < w.heap.size) :
    Calls Try.prog 90 #[v, u, .func (.func 91) #[] #[.pointer (some ⟨B, 0, none⟩)]] w (MadeO w (l ++ eList eWri xs)) := by
  have HC := hid (clone_any l v w hv hn (by omega))
  have HW := hid (fun (w1 : World) (g : Nat) (h0 : Below w.heap.size w w1) (hw : Wr w1 g w.heap.size l) (hg : w.heap.size ≤ g) => cloWris xs l u g B w w1 hu h0 hw hg hx hl ((h0.cell (p := ⟨B, 0, none⟩) hB).trans hc))
  obtain ⟨ll, hll⟩ : ∃ ll, l ++ eList eWri xs = ll := ⟨_, rfl⟩
  rw [hll] at HW ⊢
  clear hll
  obtain ⟨A, ca, rfl⟩ := byt_form hv
  clear hv hn hu hc
  go_enter Try.func90, Try.ntmps90
  go_wp2_with (go_at_call 50; refine HC.out.mono ?_; rintro e w1 ⟨v1, rfl, ho1, hb1⟩; obtain ⟨a1, c1, rfl⟩ := own_form ho1; have HO1 := hid ho1; have HB1 := hid hb1; clear ho1 hb1)
  refine (HW.out _ w1.heap.size (HB1.out.alloc HB1.out.size _) ⟨_, Boxed.new _ _ _, HO1.out.alloc _⟩ HB1.out.size).mono ?_
  rintro e w2 ⟨⟨vv, rfl⟩, ⟨v2, bx, ho⟩, hb⟩
  obtain ⟨a2, c2, rfl⟩ := own_form ho
  have HO2 := hid ho
  have HB2 := hid ((HB1.out.alloc HB1.out.size _).trans hb)
  have cx := bx.cell
  clear bx ho hb
  go_wp2
  go_ret
  exact ⟨_, rfl, HO2.out, HB2.out⟩

set_option maxHeartbeats 2000000 in
set_option maxRecDepth 100000 in
theorem lstWris (xs : List Wri) (l : List Nat) (v u : Value) (w : World) (hv : Byt w v l) (hn : NilOk v) (hu : Wrs w u xs) (hx : xs.length ≤ 60000) (hl : l.length + (eList eWri xs).length ≤ 60000) :
    Calls Try.prog 61 #[v, u, .func (.func 62) #[] #[]] w (MadeO w (l ++ eList eWri xs)) := by
  have HP := hid (fun (W : World) (hb : Below w.heap.size w W) (B : Nat) (hB : B < W.heap.size) (hc : W.cell? ⟨B, 0, none⟩ = some (.func (.func 62) #[] #[])) => putlWris xs l v u B W (hv.below hb) hn (hu.below hb) hx hl hc hB)
  obtain ⟨ll, hll⟩ : ∃ ll, l ++ eList eWri xs = ll := ⟨_, rfl⟩
  rw [hll] at HP ⊢
  clear hll
  obtain ⟨A, ca, rfl⟩ := byt_form hv
  clear hv hn hu
  go_enter Try.func61, Try.ntmps61
  go_wp2_with fail
  refine (HP.out _ (al1 _ _) w.heap.size (by simp) (by rw [cell_of_row _ _ _ _ _ _ (heap_alloc_new _ _)]; rfl)).mono ?_
  rintro e w1 ⟨v1, rfl, ho1, hb1⟩
  obtain ⟨a1, c1, rfl⟩ := own_form ho1
  have HO1 := hid ho1
  have HB1 := hid hb1
  clear ho1 hb1
  go_wp2
  go_ret
  exact ⟨_, rfl, own_less HO1.out (by simp), al_back HB1.out⟩

set_option maxHeartbeats 2000000 in
set_option maxRecDepth 100000 in
theorem putWris_any (xs : List Wri) (l : List Nat) (v u : Value) (w : World) (hv : Byt w v l) (hn : NilOk v) (hu : Wrs w u xs) (hx : xs.length ≤ 60000) (hl : l.length + (eList eWri xs).length ≤ 60000) :
    Calls Try.prog 24 #[v, u] w (MadeO w (l ++ eList eWri xs)) := by
  have HP := hid (lstWris xs l v u w hv hn hu hx hl)
  obtain ⟨ll, hll⟩ : ∃ ll, l ++ eList eWri xs = ll := ⟨_, rfl⟩
  rw [hll] at HP ⊢
  clear hll
  obtain ⟨A, ca, rfl⟩ := byt_form hv
  clear hv hn hu
  go_enter Try.func24, Try.ntmps24
  go_wp2_with fail
  refine HP.out.mono ?_
  rintro e w1 ⟨v1, rfl, ho1, hb1⟩
  obtain ⟨a1, c1, rfl⟩ := own_form ho1
  have HO1 := hid ho1
  have HB1 := hid hb1
  clear ho1 hb1
  go_wp2
  go_ret
  exact ⟨_, rfl, HO1.out, HB1.out⟩

end Go.Proofs.Ytchpoddfjbopbaa

/- The law BitmapChanges is walked. -/
import Derived.Test.YtbifhcjkdfocaaaDoorQa
namespace Go.Proofs.YtbifhcjkdfocaaaDoor
open Go.RowKit

/-- Block g is the box of an extent. -/
def EBox (w : World) (g : Nat) (a c : Int) : Prop := w.heap[g]? = some (.cells #[.int .i64 a, .int .i64 c] 39 (0, 0))
theorem EBox.lt {w : World} {g : Nat} {a c : Int} (h : EBox w g a c) : g < w.heap.size := (Array.getElem?_eq_some_iff.1 h).1
theorem EBox.below {w w' : World} {g : Nat} {a c : Int} (h : EBox w g a c) (hb : Below w.heap.size w w') : EBox w' g a c := (hb.block g h.lt).trans h
theorem EBox.facts {w : World} {g : Nat} {a c : Int} (h : EBox w g a c) : w.cell? ⟨g, 0, none⟩ = some (.int .i64 a) ∧ w.cell? ⟨g, 1, none⟩ = some (.int .i64 c) ∧ g < w.heap.size := ⟨cell_of_row _ _ 0 _ _ _ h, cell_of_row _ _ 1 _ _ _ h, h.lt⟩
/-- A result, opened: its value, its words, its error. -/
theorem made_open {w w' : World} {err s : Int} {p : Nat → Bool} {e : Ending} (h : MadeB w err s p e w') : ∃ S ws A c, e = .returned (.tuple #[.agg #[.int .i64 S, .slice A ws.length c], .int .i64 err]) ∧ S = (if err = 0 then s else 0) ∧ Bm w' (.agg #[.int .i64 S, .slice A ws.length c]) S ws ∧ ws.length ≤ 10000 ∧ (if err = 0 then Good s ws ∧ ∀ i : Nat, (i : Int) < s → bit ws i = p i else ws = []) ∧ Below w.heap.size w w' := by
  obtain ⟨v, ws, rfl, hbm, hif, hb⟩ := h
  obtain ⟨A, c, rfl⟩ := hbm.form
  exact ⟨_, ws, A, c, rfl, rfl, hbm, made_len hif, hif, hb⟩
/-- A second result that says the same. -/
theorem made_again {w w' : World} {err s S : Int} {p : Nat → Bool} {e : Ending} {us : List Nat} (h : MadeB w err s p e w') (hS : S = (if err = 0 then s else 0)) (hif : if err = 0 then Good s us ∧ ∀ i : Nat, (i : Int) < s → bit us i = p i else us = []) (hw : Wide us) :
    ∃ A c, e = .returned (.tuple #[.agg #[.int .i64 S, .slice A us.length c], .int .i64 err]) ∧ Bm w' (.agg #[.int .i64 S, .slice A us.length c]) S us ∧ Below w.heap.size w w' := by
  obtain ⟨v, ws, rfl, hbm, hif2, hb⟩ := h
  have := made_ws hif hif2 hw hbm.2.1
  subst this
  rw [← hS] at hbm
  obtain ⟨A, c, rfl⟩ := hbm.form
  exact ⟨A, c, rfl, hbm, hb⟩

set_option maxHeartbeats 2000000 in
set_option maxRecDepth 100000 in
theorem changes_walk (s a c : Int) (ws : List Nat) (v : Value) (w : World) (hv : Bm w v s ws) (hT : Tab w) (ha : R64 a) (hc : R64 c) :
    Calls Tryd.prog 4 #[v, .agg #[.int .i64 a, .int .i64 c]] w fun e w' => e = .returned (.bool true) ∧ Below w.heap.size w w' := by
  have hln := bm_len hv
  have HV := hid hv
  have HT := hid hT
  obtain ⟨A, ca, rfl⟩ := hv.form
  clear hv hT
  obtain ⟨w1, h1⟩ : ∃ w1, w.alloc (.cells #[.int .i64 s, .slice A ws.length ca] 24) = w1 := ⟨_, rfl⟩
  have z1 : w1.heap.size = w.heap.size + 1 := by rw [← h1]; simp
  obtain ⟨w2, h2⟩ : ∃ w2, w1.alloc (.cells #[.int .i64 a, .int .i64 c] 39) = w2 := ⟨_, rfl⟩
  have z2 : w2.heap.size = w.heap.size + 2 := by rw [← h2]; simp; omega
  obtain ⟨w3, h3⟩ : ∃ w3, w2.alloc (.cells #[.int .i64 s, .slice A ws.length ca] 24) = w3 := ⟨_, rfl⟩
  have BX : Hid (Box w2 w.heap.size s A ws.length ca) := hid (by rw [← h2, ← h1]; exact (box_new _ _ _ _ _).alloc _)
  have EX : Hid (EBox w2 (w.heap.size + 1) a c) := hid (by rw [← h2, ← z1]; exact heap_alloc_new w1 _)
  have hb23 : Below w2.heap.size w2 w3 := by rw [← h3]; exact al1 _ _
  have HB : Hid (Below w.heap.size w w3) := hid (below_both (by rw [← h2, ← h1]; exact ((Below.refl _ w).alloc (Nat.le_refl _) _).alloc (by simp) _) hb23)
  have HG : Hid (w3.heap[w.heap.size + 2]? = some (.cells #[.int .i64 s, .slice A ws.length ca] 24 (0, 0))) := hid (by rw [← h3, ← z2]; exact heap_alloc_new w2 _)
  obtain ⟨BXc0, BXc1, BXc2⟩ := BX.out.facts
  obtain ⟨EXc0, EXc1, EXc2⟩ := EX.out.facts
  have BX3 := hid (BX.out.below hb23)
  have EX3 := hid (EX.out.below hb23)
  by_cases hfew : ws.length ≤ 20
  · have HF := hid (few_1 (w.heap.size + 2) ws.length ca s A w3 HG.out hln)
    rw [decide_eq_true hfew] at HF
    clear hfew hb23
    obtain ⟨er, her⟩ : ∃ er, chgErr s ws a c = er := ⟨_, rfl⟩
    have HC1 := hid (fun W (h : Below w.heap.size w W) => set_any s a c ws _ W (HV.out.below h) ha hc)
    have HC2 := hid (fun W (h : Below w.heap.size w W) => refSet_any s a c ws _ W (HV.out.below h) ha hc)
    have HC3 := hid (fun W (h : Below w.heap.size w W) => clear_any s a c ws _ W (HV.out.below h) ha hc)
    have HC4 := hid (fun W (h : Below w.heap.size w W) => refClear_any s a c ws _ W (HV.out.below h) ha hc)
    rw [her] at HC1 HC2 HC3 HC4
    have d1 : (er == er) = true := by simp
    clear her
    go_enter Tryd.func4, Tryd.ntmps4
    go_wp2_with fail
    refine HF.out.mono ?_
    rintro e w4 ⟨rfl, rfl⟩
    clear BX EX BXc0 BXc1 BXc2 EXc0 EXc1 EXc2 HF HG z1 z2
    obtain ⟨BX, EX⟩ : Hid (Box w3 w.heap.size s A ws.length ca) ∧ Hid (EBox w3 (w.heap.size + 1) a c) := ⟨BX3, EX3⟩
    clear BX3 EX3
    obtain ⟨BXc0, BXc1, BXc2⟩ := BX.out.facts
    obtain ⟨EXc0, EXc1, EXc2⟩ := EX.out.facts
    go_wp2_with fail
    refine (HC1.out _ HB.out).mono ?_
    intro e w4 hm
    obtain ⟨S1, us1, A1, c1, rfl, hS1, hbm1, hl1, hif1, hb⟩ := made_open hm
    replace BX := hid (BX.out.below hb)
    replace EX := hid (EX.out.below hb)
    replace HB := hid (below_both HB.out hb)
    clear BXc0 BXc1 BXc2
    clear EXc0 EXc1 EXc2
    obtain ⟨BXc0, BXc1, BXc2⟩ := BX.out.facts
    obtain ⟨EXc0, EXc1, EXc2⟩ := EX.out.facts
    have M1 := hid hbm1
    have HS1 := hid hS1
    have HIF1 := hid hif1
    clear hb hm hbm1 hS1 hif1
    go_wp2_with fail
    obtain ⟨w5, heq⟩ : ∃ X, w4.alloc (.cells #[.int .i64 S1, .slice A1 us1.length c1] 24) = X := ⟨_, rfl⟩
    have hb : Below w4.heap.size w4 w5 := by rw [← heq]; exact al1 _ _
    replace BX := hid (BX.out.below hb)
    replace EX := hid (EX.out.below hb)
    replace M1 := hid (M1.out.below hb)
    replace HB := hid (below_both HB.out hb)
    have B1 : Hid (Box w5 w4.heap.size S1 A1 us1.length c1) := hid (by rw [← heq]; exact box_new _ _ _ _ _)
    rw [heq]
    clear hb heq
    clear BXc0 BXc1 BXc2
    clear EXc0 EXc1 EXc2
    obtain ⟨BXc0, BXc1, BXc2⟩ := BX.out.facts
    obtain ⟨EXc0, EXc1, EXc2⟩ := EX.out.facts
    obtain ⟨B1c0, B1c1, B1c2⟩ := B1.out.facts
    refine (HC2.out _ HB.out).mono ?_
    intro e w6 hm
    obtain ⟨A1', c1', rfl, hbm1, hb⟩ := made_again hm HS1.out HIF1.out M1.out.2.1
    replace BX := hid (BX.out.below hb)
    replace EX := hid (EX.out.below hb)
    replace B1 := hid (B1.out.below hb)
    replace M1 := hid (M1.out.below hb)
    replace HB := hid (below_both HB.out hb)
    clear BXc0 BXc1 BXc2
    clear EXc0 EXc1 EXc2
    clear B1c0 B1c1 B1c2
    obtain ⟨BXc0, BXc1, BXc2⟩ := BX.out.facts
    obtain ⟨EXc0, EXc1, EXc2⟩ := EX.out.facts
    obtain ⟨B1c0, B1c1, B1c2⟩ := B1.out.facts
    have M1' := hid hbm1
    clear hb hm hbm1
    go_wp2_with fail
    obtain ⟨w7, heq⟩ : ∃ X, w6.alloc (.cells #[.int .i64 S1, .slice A1' us1.length c1'] 24) = X := ⟨_, rfl⟩
    have hb : Below w6.heap.size w6 w7 := by rw [← heq]; exact al1 _ _
    replace BX := hid (BX.out.below hb)
    replace EX := hid (EX.out.below hb)
    replace B1 := hid (B1.out.below hb)
    replace M1 := hid (M1.out.below hb)
    replace M1' := hid (M1'.out.below hb)
    replace HB := hid (below_both HB.out hb)
    have B2 : Hid (Box w7 w6.heap.size S1 A1' us1.length c1') := hid (by rw [← heq]; exact box_new _ _ _ _ _)
    rw [heq]
    clear hb heq
    clear BXc0 BXc1 BXc2
    clear EXc0 EXc1 EXc2
    clear B1c0 B1c1 B1c2
    obtain ⟨BXc0, BXc1, BXc2⟩ := BX.out.facts
    obtain ⟨EXc0, EXc1, EXc2⟩ := EX.out.facts
    obtain ⟨B1c0, B1c1, B1c2⟩ := B1.out.facts
    obtain ⟨B2c0, B2c1, B2c2⟩ := B2.out.facts
    refine (HC3.out _ HB.out).mono ?_
    intro e w8 hm
    obtain ⟨S2, us2, A2, c2, rfl, hS2, hbm2, hl2, hif2, hb⟩ := made_open hm
    replace BX := hid (BX.out.below hb)
    replace EX := hid (EX.out.below hb)
    replace B1 := hid (B1.out.below hb)
    replace B2 := hid (B2.out.below hb)
    replace M1 := hid (M1.out.below hb)
    replace M1' := hid (M1'.out.below hb)
    replace HB := hid (below_both HB.out hb)
    clear BXc0 BXc1 BXc2
    clear EXc0 EXc1 EXc2
    clear B1c0 B1c1 B1c2
    clear B2c0 B2c1 B2c2
    obtain ⟨BXc0, BXc1, BXc2⟩ := BX.out.facts
    obtain ⟨EXc0, EXc1, EXc2⟩ := EX.out.facts
    obtain ⟨B1c0, B1c1, B1c2⟩ := B1.out.facts
    obtain ⟨B2c0, B2c1, B2c2⟩ := B2.out.facts
    have M2 := hid hbm2
    have HS2 := hid hS2
    have HIF2 := hid hif2
    clear hb hm hbm2 hS2 hif2
    go_wp2_with fail
    obtain ⟨w9, heq⟩ : ∃ X, w8.alloc (.cells #[.int .i64 S2, .slice A2 us2.length c2] 24) = X := ⟨_, rfl⟩
    have hb : Below w8.heap.size w8 w9 := by rw [← heq]; exact al1 _ _
    replace BX := hid (BX.out.below hb)
    replace EX := hid (EX.out.below hb)
    replace B1 := hid (B1.out.below hb)
    replace B2 := hid (B2.out.below hb)
    replace M1 := hid (M1.out.below hb)
    replace M1' := hid (M1'.out.below hb)
    replace M2 := hid (M2.out.below hb)
    replace HB := hid (below_both HB.out hb)
    have B3 : Hid (Box w9 w8.heap.size S2 A2 us2.length c2) := hid (by rw [← heq]; exact box_new _ _ _ _ _)
    rw [heq]
    clear hb heq
    clear BXc0 BXc1 BXc2
    clear EXc0 EXc1 EXc2
    clear B1c0 B1c1 B1c2
    clear B2c0 B2c1 B2c2
    obtain ⟨BXc0, BXc1, BXc2⟩ := BX.out.facts
    obtain ⟨EXc0, EXc1, EXc2⟩ := EX.out.facts
    obtain ⟨B1c0, B1c1, B1c2⟩ := B1.out.facts
    obtain ⟨B2c0, B2c1, B2c2⟩ := B2.out.facts
    obtain ⟨B3c0, B3c1, B3c2⟩ := B3.out.facts
    refine (HC4.out _ HB.out).mono ?_
    intro e w10 hm
    obtain ⟨A2', c2', rfl, hbm2, hb⟩ := made_again hm HS2.out HIF2.out M2.out.2.1
    replace BX := hid (BX.out.below hb)
    replace EX := hid (EX.out.below hb)
    replace B1 := hid (B1.out.below hb)
    replace B2 := hid (B2.out.below hb)
    replace B3 := hid (B3.out.below hb)
    replace M1 := hid (M1.out.below hb)
    replace M1' := hid (M1'.out.below hb)
    replace M2 := hid (M2.out.below hb)
    replace HB := hid (below_both HB.out hb)
    clear BXc0 BXc1 BXc2
    clear EXc0 EXc1 EXc2
    clear B1c0 B1c1 B1c2
    clear B2c0 B2c1 B2c2
    clear B3c0 B3c1 B3c2
    obtain ⟨BXc0, BXc1, BXc2⟩ := BX.out.facts
    obtain ⟨EXc0, EXc1, EXc2⟩ := EX.out.facts
    obtain ⟨B1c0, B1c1, B1c2⟩ := B1.out.facts
    obtain ⟨B2c0, B2c1, B2c2⟩ := B2.out.facts
    obtain ⟨B3c0, B3c1, B3c2⟩ := B3.out.facts
    have M2' := hid hbm2
    clear hb hm hbm2
    go_wp2_with fail
    obtain ⟨w11, heq⟩ : ∃ X, w10.alloc (.cells #[.int .i64 S2, .slice A2' us2.length c2'] 24) = X := ⟨_, rfl⟩
    have hb : Below w10.heap.size w10 w11 := by rw [← heq]; exact al1 _ _
    replace BX := hid (BX.out.below hb)
    replace EX := hid (EX.out.below hb)
    replace B1 := hid (B1.out.below hb)
    replace B2 := hid (B2.out.below hb)
    replace B3 := hid (B3.out.below hb)
    replace M1 := hid (M1.out.below hb)
    replace M1' := hid (M1'.out.below hb)
    replace M2 := hid (M2.out.below hb)
    replace M2' := hid (M2'.out.below hb)
    replace HB := hid (below_both HB.out hb)
    have B4 : Hid (Box w11 w10.heap.size S2 A2' us2.length c2') := hid (by rw [← heq]; exact box_new _ _ _ _ _)
    rw [heq]
    clear hb heq
    clear BXc0 BXc1 BXc2
    clear EXc0 EXc1 EXc2
    clear B1c0 B1c1 B1c2
    clear B2c0 B2c1 B2c2
    clear B3c0 B3c1 B3c2
    obtain ⟨BXc0, BXc1, BXc2⟩ := BX.out.facts
    obtain ⟨EXc0, EXc1, EXc2⟩ := EX.out.facts
    obtain ⟨B1c0, B1c1, B1c2⟩ := B1.out.facts
    obtain ⟨B2c0, B2c1, B2c2⟩ := B2.out.facts
    obtain ⟨B3c0, B3c1, B3c2⟩ := B3.out.facts
    obtain ⟨B4c0, B4c1, B4c2⟩ := B4.out.facts
    refine (awake_any _ (HT.out.below HB.out)).mono ?_
    rintro e w12 ⟨rfl, hb⟩
    replace BX := hid (BX.out.below hb)
    replace EX := hid (EX.out.below hb)
    replace B1 := hid (B1.out.below hb)
    replace B2 := hid (B2.out.below hb)
    replace B3 := hid (B3.out.below hb)
    replace B4 := hid (B4.out.below hb)
    replace M1 := hid (M1.out.below hb)
    replace M1' := hid (M1'.out.below hb)
    replace M2 := hid (M2.out.below hb)
    replace M2' := hid (M2'.out.below hb)
    replace HB := hid (below_both HB.out hb)
    clear BXc0 BXc1 BXc2
    clear EXc0 EXc1 EXc2
    clear B1c0 B1c1 B1c2
    clear B2c0 B2c1 B2c2
    clear B3c0 B3c1 B3c2
    clear B4c0 B4c1 B4c2
    obtain ⟨BXc0, BXc1, BXc2⟩ := BX.out.facts
    obtain ⟨EXc0, EXc1, EXc2⟩ := EX.out.facts
    obtain ⟨B1c0, B1c1, B1c2⟩ := B1.out.facts
    obtain ⟨B2c0, B2c1, B2c2⟩ := B2.out.facts
    obtain ⟨B3c0, B3c1, B3c2⟩ := B3.out.facts
    obtain ⟨B4c0, B4c1, B4c2⟩ := B4.out.facts
    clear hb
    go_wp2_with fail
    refine (same_true S1 us1 _ _ _ M1.out M1'.out hl1).mono ?_
    rintro e w13 ⟨rfl, hb⟩
    replace BX := hid (BX.out.below hb)
    replace EX := hid (EX.out.below hb)
    replace B1 := hid (B1.out.below hb)
    replace B2 := hid (B2.out.below hb)
    replace B3 := hid (B3.out.below hb)
    replace B4 := hid (B4.out.below hb)
    replace M1 := hid (M1.out.below hb)
    replace M1' := hid (M1'.out.below hb)
    replace M2 := hid (M2.out.below hb)
    replace M2' := hid (M2'.out.below hb)
    replace HB := hid (below_both HB.out hb)
    clear BXc0 BXc1 BXc2
    clear EXc0 EXc1 EXc2
    clear B1c0 B1c1 B1c2
    clear B2c0 B2c1 B2c2
    clear B3c0 B3c1 B3c2
    clear B4c0 B4c1 B4c2
    obtain ⟨BXc0, BXc1, BXc2⟩ := BX.out.facts
    obtain ⟨EXc0, EXc1, EXc2⟩ := EX.out.facts
    obtain ⟨B1c0, B1c1, B1c2⟩ := B1.out.facts
    obtain ⟨B2c0, B2c1, B2c2⟩ := B2.out.facts
    obtain ⟨B3c0, B3c1, B3c2⟩ := B3.out.facts
    obtain ⟨B4c0, B4c1, B4c2⟩ := B4.out.facts
    clear hb
    go_wp2_with fail
    refine (same_true S2 us2 _ _ _ M2.out M2'.out hl2).mono ?_
    rintro e w14 ⟨rfl, hb⟩
    replace BX := hid (BX.out.below hb)
    replace EX := hid (EX.out.below hb)
    replace B1 := hid (B1.out.below hb)
    replace B2 := hid (B2.out.below hb)
    replace B3 := hid (B3.out.below hb)
    replace B4 := hid (B4.out.below hb)
    replace M1 := hid (M1.out.below hb)
    replace M1' := hid (M1'.out.below hb)
    replace M2 := hid (M2.out.below hb)
    replace M2' := hid (M2'.out.below hb)
    replace HB := hid (below_both HB.out hb)
    clear BXc0 BXc1 BXc2
    clear EXc0 EXc1 EXc2
    clear B1c0 B1c1 B1c2
    clear B2c0 B2c1 B2c2
    clear B3c0 B3c1 B3c2
    clear B4c0 B4c1 B4c2
    obtain ⟨BXc0, BXc1, BXc2⟩ := BX.out.facts
    obtain ⟨EXc0, EXc1, EXc2⟩ := EX.out.facts
    obtain ⟨B1c0, B1c1, B1c2⟩ := B1.out.facts
    obtain ⟨B2c0, B2c1, B2c2⟩ := B2.out.facts
    obtain ⟨B3c0, B3c1, B3c2⟩ := B3.out.facts
    obtain ⟨B4c0, B4c1, B4c2⟩ := B4.out.facts
    clear hb
    go_wp2
    go_ret
    exact ⟨rfl, HB.out⟩
  · have HF := hid (few_1 (w.heap.size + 2) ws.length ca s A w3 HG.out hln)
    rw [not_few hfew] at HF
    clear hfew hb23
    go_enter Tryd.func4, Tryd.ntmps4
    go_wp2_with fail
    refine HF.out.mono ?_
    rintro e w4 ⟨rfl, rfl⟩
    go_wp2_with fail
    refine (awake_any _ (HT.out.below HB.out)).mono ?_
    rintro e w4 ⟨rfl, hb4⟩
    have HBB := hid (below_both HB.out hb4)
    clear hb4
    go_wp2
    go_ret
    exact ⟨rfl, HBB.out⟩
end Go.Proofs.YtbifhcjkdfocaaaDoor

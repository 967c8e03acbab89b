/- The law BitmapCombines is walked. -/
import Derived.Test.YtbifhcjkdfocaaaDoorQb
namespace Go.Proofs.YtbifhcjkdfocaaaDoor
open Go.RowKit

theorem Box.other {W : World} {g q : Nat} {s : Int} {A : Option Addr} {n c : Nat} {a b : Value} (h : Box W g s A n c) (hne : g ≠ q) : Box ((W.setCell ⟨q, 0, none⟩ a).setCell ⟨q, 1, none⟩ b) g s A n c := (box2_other hne).trans h
theorem Box.set {W : World} {g : Nat} {s s' : Int} {A A' : Option Addr} {n c n' c' : Nat} (h : Box W g s A n c) : Box ((W.setCell ⟨g, 0, none⟩ (.int .i64 s')).setCell ⟨g, 1, none⟩ (.slice A' n' c')) g s' A' n' c' := box2_set h
theorem Box.bm {W : World} {g : Nat} {s : Int} {A : Option Addr} {n c : Nat} {v a b : Value} {t : Int} {us : List Nat} (h : Box W g s A n c) (hb : Bm W v t us) : Bm ((W.setCell ⟨g, 0, none⟩ a).setCell ⟨g, 1, none⟩ b) v t us := bm_box2 hb h (fun z h => by cases h) (fun z h => by cases h)
theorem Box.frozen {W : World} {g : Nat} {s : Int} {A : Option Addr} {n c : Nat} (h : Box W g s A n c) (i : Nat) : W.frozen? ⟨g, i, none⟩ = false := by
  have h' : W.heap[g]? = some (.cells #[.int .i64 s, .slice A n c] 24 (0, 0)) := h
  unfold World.frozen?
  rw [h']
  simp

set_option maxHeartbeats 4000000 in
set_option maxRecDepth 100000 in
theorem combines_walk (sa sb : Int) (wa wb : List Nat) (va vb : Value) (w : World) (ha : Bm w va sa wa) (hb : Bm w vb sb wb) (hT : Tab w) :
    Calls Tryd.prog 5 #[va, vb] w fun e w' => e = .returned (.bool true) ∧ Below w.heap.size w w' := by
  have hlna := bm_len ha
  have hlnb := bm_len hb
  have HVA := hid ha
  have HVB := hid hb
  have HT := hid hT
  obtain ⟨A, ca, rfl⟩ := ha.form
  obtain ⟨B, cb, rfl⟩ := hb.form
  clear ha hb hT
  obtain ⟨w1, h1⟩ : ∃ w1, w.alloc (.cells #[.int .i64 sa, .slice A wa.length ca] 24) = w1 := ⟨_, rfl⟩
  have z1 : w1.heap.size = w.heap.size + 1 := by rw [← h1]; simp
  obtain ⟨w2, h2⟩ : ∃ w2, w1.alloc (.cells #[.int .i64 sb, .slice B wb.length cb] 24) = w2 := ⟨_, rfl⟩
  have z2 : w2.heap.size = w.heap.size + 2 := by rw [← h2]; simp; omega
  obtain ⟨w3, h3⟩ : ∃ w3, w2.alloc (.cells #[.int .i64 sa, .slice A wa.length ca, .int .i64 sb, .slice B wb.length cb] 24) = w3 := ⟨_, rfl⟩
  have BX : Hid (Box w2 w.heap.size sa A wa.length ca) := hid (by rw [← h2, ← h1]; exact (box_new _ _ _ _ _).alloc _)
  have BY : Hid (Box w2 (w.heap.size + 1) sb B wb.length cb) := hid (by rw [← h2, ← z1]; exact box_new w1 _ _ _ _)
  have hb23 : Below w2.heap.size w2 w3 := by rw [← h3]; exact al1 _ _
  have HB : Hid (Below w.heap.size w w3) := hid (below_both (by rw [← h2, ← h1]; exact ((Below.refl _ w).alloc (Nat.le_refl _) _).alloc (by simp) _) hb23)
  have HG : Hid (w3.heap[w.heap.size + 2]? = some (.cells #[.int .i64 sa, .slice A wa.length ca, .int .i64 sb, .slice B wb.length cb] 24 (0, 0))) := hid (by rw [← h3, ← z2]; exact heap_alloc_new w2 _)
  obtain ⟨BXc0, BXc1, BXc2⟩ := BX.out.facts
  obtain ⟨BYc0, BYc1, BYc2⟩ := BY.out.facts
  have BX3 := hid (BX.out.below hb23)
  have BY3 := hid (BY.out.below hb23)
  have HN0 := hid (show w.heap.size + 1 < w3.heap.size by have := hb23.size; omega)
  by_cases hfew : wa.length ≤ 20 ∧ wb.length ≤ 20
  · have HF := hid (few_2 (w.heap.size + 2) wa.length ca wb.length cb sa sb A B w3 HG.out hlna hlnb)
    rw [decide_eq_true hfew] at HF
    clear hfew hb23
    obtain ⟨er, her⟩ : ∃ er, combErr sa wa sb wb = er := ⟨_, rfl⟩
    have HC1 := hid (fun W (h : Below w.heap.size w W) => or_any sa sb wa wb _ _ W (HVA.out.below h) (HVB.out.below h))
    have HC2 := hid (fun W (h : Below w.heap.size w W) => refOr_any sa sb wa wb _ _ W (HVA.out.below h) (HVB.out.below h))
    have HC3 := hid (fun W (h : Below w.heap.size w W) => and_any sa sb wa wb _ _ W (HVA.out.below h) (HVB.out.below h))
    have HC4 := hid (fun W (h : Below w.heap.size w W) => refAnd_any sa sb wa wb _ _ W (HVA.out.below h) (HVB.out.below h))
    have HC5 := hid (fun W (h : Below w.heap.size w W) => andNot_any sa sb wa wb _ _ W (HVA.out.below h) (HVB.out.below h))
    have HC6 := hid (fun W (h : Below w.heap.size w W) => refAndNot_any sa sb wa wb _ _ W (HVA.out.below h) (HVB.out.below h))
    rw [her] at HC1 HC2 HC3 HC4 HC5 HC6
    have d1 : (er == er) = true := by simp
    have d2 : (er != er) = false := by simp
    clear her
    go_enter Tryd.func5, Tryd.ntmps5
    go_wp2_with fail
    refine HF.out.mono ?_
    rintro e w4 ⟨rfl, rfl⟩
    clear BX BY BXc0 BXc1 BXc2 BYc0 BYc1 BYc2 HF HG z1 z2
    obtain ⟨BX, BY⟩ : Hid (Box w3 w.heap.size sa A wa.length ca) ∧ Hid (Box w3 (w.heap.size + 1) sb B wb.length cb) := ⟨BX3, BY3⟩
    clear BX3 BY3
    obtain ⟨BXc0, BXc1, BXc2⟩ := BX.out.facts
    obtain ⟨BYc0, BYc1, BYc2⟩ := BY.out.facts
    go_wp2_with fail
    refine (HC1.out _ HB.out).mono ?_
    intro e w4 hm
    obtain ⟨S1, us1, A1, c1, rfl, hS1, hbm1, hl1, hif1, hb⟩ := made_open hm
    have HB4s := hb.size
    replace BX := hid (BX.out.below hb)
    replace BY := hid (BY.out.below hb)
    replace HB := hid (below_both HB.out hb)
    clear BXc0 BXc1 BXc2
    clear BYc0 BYc1 BYc2
    obtain ⟨BXc0, BXc1, BXc2⟩ := BX.out.facts
    obtain ⟨BYc0, BYc1, BYc2⟩ := BY.out.facts
    have HL1 := hid (Nat.lt_of_lt_of_le HN0.out HB4s)
    have M1 := hid hbm1
    have HS1 := hid hS1
    have HIF1 := hid hif1
    clear hb hm hbm1 hS1 hif1 HB4s
    go_wp2_with fail
    obtain ⟨w5, heq⟩ : ∃ X, w4.alloc (.cells #[.int .i64 S1, .slice A1 us1.length c1] 24) = X := ⟨_, rfl⟩
    have hb : Below w4.heap.size w4 w5 := by rw [← heq]; exact al1 _ _
    replace BX := hid (BX.out.below hb)
    replace BY := hid (BY.out.below hb)
    replace M1 := hid (M1.out.below hb)
    replace HB := hid (below_both HB.out hb)
    have B1 : Hid (Box w5 w4.heap.size S1 A1 us1.length c1) := hid (by rw [← heq]; exact box_new _ _ _ _ _)
    rw [heq]
    clear hb heq
    clear BXc0 BXc1 BXc2
    clear BYc0 BYc1 BYc2
    obtain ⟨BXc0, BXc1, BXc2⟩ := BX.out.facts
    obtain ⟨BYc0, BYc1, BYc2⟩ := BY.out.facts
    obtain ⟨B1c0, B1c1, B1c2⟩ := B1.out.facts
    refine (HC2.out _ HB.out).mono ?_
    intro e w6 hm
    obtain ⟨A1', c1', rfl, hbm1, hb⟩ := made_again hm HS1.out HIF1.out M1.out.2.1
    replace BX := hid (BX.out.below hb)
    replace BY := hid (BY.out.below hb)
    replace B1 := hid (B1.out.below hb)
    replace M1 := hid (M1.out.below hb)
    replace HB := hid (below_both HB.out hb)
    clear BXc0 BXc1 BXc2
    clear BYc0 BYc1 BYc2
    clear B1c0 B1c1 B1c2
    obtain ⟨BXc0, BXc1, BXc2⟩ := BX.out.facts
    obtain ⟨BYc0, BYc1, BYc2⟩ := BY.out.facts
    obtain ⟨B1c0, B1c1, B1c2⟩ := B1.out.facts
    have HL2 := hid B1c2
    have M1' := hid hbm1
    clear hb hm hbm1
    go_wp2_with fail
    obtain ⟨w7, heq⟩ : ∃ X, w6.alloc (.cells #[.int .i64 S1, .slice A1' us1.length c1'] 24) = X := ⟨_, rfl⟩
    have hb : Below w6.heap.size w6 w7 := by rw [← heq]; exact al1 _ _
    replace BX := hid (BX.out.below hb)
    replace BY := hid (BY.out.below hb)
    replace B1 := hid (B1.out.below hb)
    replace M1 := hid (M1.out.below hb)
    replace M1' := hid (M1'.out.below hb)
    replace HB := hid (below_both HB.out hb)
    have B2 : Hid (Box w7 w6.heap.size S1 A1' us1.length c1') := hid (by rw [← heq]; exact box_new _ _ _ _ _)
    rw [heq]
    clear hb heq
    clear BXc0 BXc1 BXc2
    clear BYc0 BYc1 BYc2
    clear B1c0 B1c1 B1c2
    obtain ⟨BXc0, BXc1, BXc2⟩ := BX.out.facts
    obtain ⟨BYc0, BYc1, BYc2⟩ := BY.out.facts
    obtain ⟨B1c0, B1c1, B1c2⟩ := B1.out.facts
    obtain ⟨B2c0, B2c1, B2c2⟩ := B2.out.facts
    refine (same_true S1 us1 _ _ _ M1.out M1'.out hl1).mono ?_
    rintro e w8 ⟨rfl, hb⟩
    replace BX := hid (BX.out.below hb)
    replace BY := hid (BY.out.below hb)
    replace B1 := hid (B1.out.below hb)
    replace B2 := hid (B2.out.below hb)
    replace M1 := hid (M1.out.below hb)
    replace M1' := hid (M1'.out.below hb)
    replace HB := hid (below_both HB.out hb)
    clear BXc0 BXc1 BXc2
    clear BYc0 BYc1 BYc2
    clear B1c0 B1c1 B1c2
    clear B2c0 B2c1 B2c2
    obtain ⟨BXc0, BXc1, BXc2⟩ := BX.out.facts
    obtain ⟨BYc0, BYc1, BYc2⟩ := BY.out.facts
    obtain ⟨B1c0, B1c1, B1c2⟩ := B1.out.facts
    obtain ⟨B2c0, B2c1, B2c2⟩ := B2.out.facts
    clear hb
    clear M1 M1' HS1 HIF1 hl1
    have HNE : Hid (w.heap.size + 1 < w4.heap.size ∧ w4.heap.size < w6.heap.size) := hid ⟨HL1.out, HL2.out⟩
    have n0a : w.heap.size ≠ w4.heap.size := by have := HNE.out; omega
    have n0b : w4.heap.size ≠ w.heap.size := by have := HNE.out; omega
    have n1a : w.heap.size + 1 ≠ w4.heap.size := by have := HNE.out; omega
    have n1b : w4.heap.size ≠ w.heap.size + 1 := by have := HNE.out; omega
    have n2a : w.heap.size ≠ w6.heap.size := by have := HNE.out; omega
    have n2b : w6.heap.size ≠ w.heap.size := by have := HNE.out; omega
    have n3a : w.heap.size + 1 ≠ w6.heap.size := by have := HNE.out; omega
    have n3b : w6.heap.size ≠ w.heap.size + 1 := by have := HNE.out; omega
    have n4a : w4.heap.size ≠ w6.heap.size := by have := HNE.out; omega
    have n4b : w6.heap.size ≠ w4.heap.size := by have := HNE.out; omega
    go_wp2_with fail
    refine (HC3.out _ HB.out).mono ?_
    intro e w9 hm
    obtain ⟨S2, us2, A2, c2, rfl, hS2, hbm2, hl2, hif2, hb⟩ := made_open hm
    replace BX := hid (BX.out.below hb)
    replace BY := hid (BY.out.below hb)
    replace B1 := hid (B1.out.below hb)
    replace B2 := hid (B2.out.below hb)
    replace HB := hid (below_both HB.out hb)
    clear BXc0 BXc1 BXc2
    clear BYc0 BYc1 BYc2
    clear B1c0 B1c1 B1c2
    clear B2c0 B2c1 B2c2
    obtain ⟨BXc0, BXc1, BXc2⟩ := BX.out.facts
    obtain ⟨BYc0, BYc1, BYc2⟩ := BY.out.facts
    obtain ⟨B1c0, B1c1, B1c2⟩ := B1.out.facts
    obtain ⟨B2c0, B2c1, B2c2⟩ := B2.out.facts
    have M2 := hid hbm2
    have HS2 := hid hS2
    have HIF2 := hid hif2
    have f0 := B1.out.frozen 0
    have f1 := B1.out.frozen 1
    clear hb hm hbm2 hS2 hif2
    go_wp2_with fail
    obtain ⟨w10, heq⟩ : ∃ X, (w9.setCell ⟨w4.heap.size, 0, none⟩ (.int .i64 S2)).setCell ⟨w4.heap.size, 1, none⟩ (.slice A2 us2.length c2) = X := ⟨_, rfl⟩
    have BXn := hid (show Box w10 _ _ _ _ _ from by rw [← heq]; exact BX.out.other (by have := HNE.out; omega))
    have BYn := hid (show Box w10 _ _ _ _ _ from by rw [← heq]; exact BY.out.other (by have := HNE.out; omega))
    have B1n : Hid (Box w10 w4.heap.size S2 A2 us2.length c2) := hid (by rw [← heq]; exact B1.out.set)
    have B2n := hid (show Box w10 _ _ _ _ _ from by rw [← heq]; exact B2.out.other (by have := HNE.out; omega))
    have M2n := hid (show Bm w10 _ _ _ from by rw [← heq]; exact B1.out.bm M2.out)
    replace HB : Hid (Below w.heap.size w w10) := hid (by rw [← heq]; exact box2_below HB.out (by have := HNE.out; omega))
    rw [heq]
    clear heq BXc0 BXc1 BXc2 BYc0 BYc1 BYc2 B1c0 B1c1 B1c2 B2c0 B2c1 B2c2 f0 f1
    clear BX BY B1 B2 M2
    have BX := BXn
    clear BXn
    have BY := BYn
    clear BYn
    have B1 := B1n
    clear B1n
    have B2 := B2n
    clear B2n
    have M2 := M2n
    clear M2n
    obtain ⟨BXc0, BXc1, BXc2⟩ := BX.out.facts
    obtain ⟨BYc0, BYc1, BYc2⟩ := BY.out.facts
    obtain ⟨B1c0, B1c1, B1c2⟩ := B1.out.facts
    obtain ⟨B2c0, B2c1, B2c2⟩ := B2.out.facts
    refine (HC4.out _ HB.out).mono ?_
    intro e w11 hm
    obtain ⟨A2', c2', rfl, hbm2, hb⟩ := made_again hm HS2.out HIF2.out M2.out.2.1
    replace BX := hid (BX.out.below hb)
    replace BY := hid (BY.out.below hb)
    replace B1 := hid (B1.out.below hb)
    replace B2 := hid (B2.out.below hb)
    replace M2 := hid (M2.out.below hb)
    replace HB := hid (below_both HB.out hb)
    clear BXc0 BXc1 BXc2
    clear BYc0 BYc1 BYc2
    clear B1c0 B1c1 B1c2
    clear B2c0 B2c1 B2c2
    obtain ⟨BXc0, BXc1, BXc2⟩ := BX.out.facts
    obtain ⟨BYc0, BYc1, BYc2⟩ := BY.out.facts
    obtain ⟨B1c0, B1c1, B1c2⟩ := B1.out.facts
    obtain ⟨B2c0, B2c1, B2c2⟩ := B2.out.facts
    have M2' := hid hbm2
    have f0 := B2.out.frozen 0
    have f1 := B2.out.frozen 1
    clear hb hm hbm2
    go_wp2_with fail
    obtain ⟨w12, heq⟩ : ∃ X, (w11.setCell ⟨w6.heap.size, 0, none⟩ (.int .i64 S2)).setCell ⟨w6.heap.size, 1, none⟩ (.slice A2' us2.length c2') = X := ⟨_, rfl⟩
    have BXn := hid (show Box w12 _ _ _ _ _ from by rw [← heq]; exact BX.out.other (by have := HNE.out; omega))
    have BYn := hid (show Box w12 _ _ _ _ _ from by rw [← heq]; exact BY.out.other (by have := HNE.out; omega))
    have B1n := hid (show Box w12 _ _ _ _ _ from by rw [← heq]; exact B1.out.other (by have := HNE.out; omega))
    have B2n : Hid (Box w12 w6.heap.size S2 A2' us2.length c2') := hid (by rw [← heq]; exact B2.out.set)
    have M2n := hid (show Bm w12 _ _ _ from by rw [← heq]; exact B2.out.bm M2.out)
    have M2'n := hid (show Bm w12 _ _ _ from by rw [← heq]; exact B2.out.bm M2'.out)
    replace HB : Hid (Below w.heap.size w w12) := hid (by rw [← heq]; exact box2_below HB.out (by have := HNE.out; omega))
    rw [heq]
    clear heq BXc0 BXc1 BXc2 BYc0 BYc1 BYc2 B1c0 B1c1 B1c2 B2c0 B2c1 B2c2 f0 f1
    clear BX BY B1 B2 M2 M2'
    have BX := BXn
    clear BXn
    have BY := BYn
    clear BYn
    have B1 := B1n
    clear B1n
    have B2 := B2n
    clear B2n
    have M2 := M2n
    clear M2n
    have M2' := M2'n
    clear M2'n
    obtain ⟨BXc0, BXc1, BXc2⟩ := BX.out.facts
    obtain ⟨BYc0, BYc1, BYc2⟩ := BY.out.facts
    obtain ⟨B1c0, B1c1, B1c2⟩ := B1.out.facts
    obtain ⟨B2c0, B2c1, B2c2⟩ := B2.out.facts
    refine (same_true S2 us2 _ _ _ M2.out M2'.out hl2).mono ?_
    rintro e w13 ⟨rfl, hb⟩
    replace BX := hid (BX.out.below hb)
    replace BY := hid (BY.out.below hb)
    replace B1 := hid (B1.out.below hb)
    replace B2 := hid (B2.out.below hb)
    replace M2 := hid (M2.out.below hb)
    replace M2' := hid (M2'.out.below hb)
    replace HB := hid (below_both HB.out hb)
    clear BXc0 BXc1 BXc2
    clear BYc0 BYc1 BYc2
    clear B1c0 B1c1 B1c2
    clear B2c0 B2c1 B2c2
    obtain ⟨BXc0, BXc1, BXc2⟩ := BX.out.facts
    obtain ⟨BYc0, BYc1, BYc2⟩ := BY.out.facts
    obtain ⟨B1c0, B1c1, B1c2⟩ := B1.out.facts
    obtain ⟨B2c0, B2c1, B2c2⟩ := B2.out.facts
    clear hb
    clear M2 M2' HS2 HIF2 hl2
    go_wp2_with fail
    refine (HC5.out _ HB.out).mono ?_
    intro e w14 hm
    obtain ⟨S3, us3, A3, c3, rfl, hS3, hbm3, hl3, hif3, hb⟩ := made_open hm
    replace BX := hid (BX.out.below hb)
    replace BY := hid (BY.out.below hb)
    replace B1 := hid (B1.out.below hb)
    replace B2 := hid (B2.out.below hb)
    replace HB := hid (below_both HB.out hb)
    clear BXc0 BXc1 BXc2
    clear BYc0 BYc1 BYc2
    clear B1c0 B1c1 B1c2
    clear B2c0 B2c1 B2c2
    obtain ⟨BXc0, BXc1, BXc2⟩ := BX.out.facts
    obtain ⟨BYc0, BYc1, BYc2⟩ := BY.out.facts
    obtain ⟨B1c0, B1c1, B1c2⟩ := B1.out.facts
    obtain ⟨B2c0, B2c1, B2c2⟩ := B2.out.facts
    have M3 := hid hbm3
    have HS3 := hid hS3
    have HIF3 := hid hif3
    have f0 := B1.out.frozen 0
    have f1 := B1.out.frozen 1
    clear hb hm hbm3 hS3 hif3
    go_wp2_with fail
    obtain ⟨w15, heq⟩ : ∃ X, (w14.setCell ⟨w4.heap.size, 0, none⟩ (.int .i64 S3)).setCell ⟨w4.heap.size, 1, none⟩ (.slice A3 us3.length c3) = X := ⟨_, rfl⟩
    have BXn := hid (show Box w15 _ _ _ _ _ from by rw [← heq]; exact BX.out.other (by have := HNE.out; omega))
    have BYn := hid (show Box w15 _ _ _ _ _ from by rw [← heq]; exact BY.out.other (by have := HNE.out; omega))
    have B1n : Hid (Box w15 w4.heap.size S3 A3 us3.length c3) := hid (by rw [← heq]; exact B1.out.set)
    have B2n := hid (show Box w15 _ _ _ _ _ from by rw [← heq]; exact B2.out.other (by have := HNE.out; omega))
    have M3n := hid (show Bm w15 _ _ _ from by rw [← heq]; exact B1.out.bm M3.out)
    replace HB : Hid (Below w.heap.size w w15) := hid (by rw [← heq]; exact box2_below HB.out (by have := HNE.out; omega))
    rw [heq]
    clear heq BXc0 BXc1 BXc2 BYc0 BYc1 BYc2 B1c0 B1c1 B1c2 B2c0 B2c1 B2c2 f0 f1
    clear BX BY B1 B2 M3
    have BX := BXn
    clear BXn
    have BY := BYn
    clear BYn
    have B1 := B1n
    clear B1n
    have B2 := B2n
    clear B2n
    have M3 := M3n
    clear M3n
    obtain ⟨BXc0, BXc1, BXc2⟩ := BX.out.facts
    obtain ⟨BYc0, BYc1, BYc2⟩ := BY.out.facts
    obtain ⟨B1c0, B1c1, B1c2⟩ := B1.out.facts
    obtain ⟨B2c0, B2c1, B2c2⟩ := B2.out.facts
    refine (HC6.out _ HB.out).mono ?_
    intro e w16 hm
    obtain ⟨A3', c3', rfl, hbm3, hb⟩ := made_again hm HS3.out HIF3.out M3.out.2.1
    replace BX := hid (BX.out.below hb)
    replace BY := hid (BY.out.below hb)
    replace B1 := hid (B1.out.below hb)
    replace B2 := hid (B2.out.below hb)
    replace M3 := hid (M3.out.below hb)
    replace HB := hid (below_both HB.out hb)
    clear BXc0 BXc1 BXc2
    clear BYc0 BYc1 BYc2
    clear B1c0 B1c1 B1c2
    clear B2c0 B2c1 B2c2
    obtain ⟨BXc0, BXc1, BXc2⟩ := BX.out.facts
    obtain ⟨BYc0, BYc1, BYc2⟩ := BY.out.facts
    obtain ⟨B1c0, B1c1, B1c2⟩ := B1.out.facts
    obtain ⟨B2c0, B2c1, B2c2⟩ := B2.out.facts
    have M3' := hid hbm3
    have f0 := B2.out.frozen 0
    have f1 := B2.out.frozen 1
    clear hb hm hbm3
    go_wp2_with fail
    obtain ⟨w17, heq⟩ : ∃ X, (w16.setCell ⟨w6.heap.size, 0, none⟩ (.int .i64 S3)).setCell ⟨w6.heap.size, 1, none⟩ (.slice A3' us3.length c3') = X := ⟨_, rfl⟩
    have BXn := hid (show Box w17 _ _ _ _ _ from by rw [← heq]; exact BX.out.other (by have := HNE.out; omega))
    have BYn := hid (show Box w17 _ _ _ _ _ from by rw [← heq]; exact BY.out.other (by have := HNE.out; omega))
    have B1n := hid (show Box w17 _ _ _ _ _ from by rw [← heq]; exact B1.out.other (by have := HNE.out; omega))
    have B2n : Hid (Box w17 w6.heap.size S3 A3' us3.length c3') := hid (by rw [← heq]; exact B2.out.set)
    have M3n := hid (show Bm w17 _ _ _ from by rw [← heq]; exact B2.out.bm M3.out)
    have M3'n := hid (show Bm w17 _ _ _ from by rw [← heq]; exact B2.out.bm M3'.out)
    replace HB : Hid (Below w.heap.size w w17) := hid (by rw [← heq]; exact box2_below HB.out (by have := HNE.out; omega))
    rw [heq]
    clear heq BXc0 BXc1 BXc2 BYc0 BYc1 BYc2 B1c0 B1c1 B1c2 B2c0 B2c1 B2c2 f0 f1
    clear BX BY B1 B2 M3 M3'
    have BX := BXn
    clear BXn
    have BY := BYn
    clear BYn
    have B1 := B1n
    clear B1n
    have B2 := B2n
    clear B2n
    have M3 := M3n
    clear M3n
    have M3' := M3'n
    clear M3'n
    obtain ⟨BXc0, BXc1, BXc2⟩ := BX.out.facts
    obtain ⟨BYc0, BYc1, BYc2⟩ := BY.out.facts
    obtain ⟨B1c0, B1c1, B1c2⟩ := B1.out.facts
    obtain ⟨B2c0, B2c1, B2c2⟩ := B2.out.facts
    refine (awake_any _ (HT.out.below HB.out)).mono ?_
    rintro e w18 ⟨rfl, hb⟩
    replace BX := hid (BX.out.below hb)
    replace BY := hid (BY.out.below hb)
    replace B1 := hid (B1.out.below hb)
    replace B2 := hid (B2.out.below hb)
    replace M3 := hid (M3.out.below hb)
    replace M3' := hid (M3'.out.below hb)
    replace HB := hid (below_both HB.out hb)
    clear BXc0 BXc1 BXc2
    clear BYc0 BYc1 BYc2
    clear B1c0 B1c1 B1c2
    clear B2c0 B2c1 B2c2
    obtain ⟨BXc0, BXc1, BXc2⟩ := BX.out.facts
    obtain ⟨BYc0, BYc1, BYc2⟩ := BY.out.facts
    obtain ⟨B1c0, B1c1, B1c2⟩ := B1.out.facts
    obtain ⟨B2c0, B2c1, B2c2⟩ := B2.out.facts
    clear hb
    go_wp2_with fail
    refine (same_true S3 us3 _ _ _ M3.out M3'.out hl3).mono ?_
    rintro e w19 ⟨rfl, hb⟩
    replace BX := hid (BX.out.below hb)
    replace BY := hid (BY.out.below hb)
    replace B1 := hid (B1.out.below hb)
    replace B2 := hid (B2.out.below hb)
    replace M3 := hid (M3.out.below hb)
    replace M3' := hid (M3'.out.below hb)
    replace HB := hid (below_both HB.out hb)
    clear BXc0 BXc1 BXc2
    clear BYc0 BYc1 BYc2
    clear B1c0 B1c1 B1c2
    clear B2c0 B2c1 B2c2
    obtain ⟨BXc0, BXc1, BXc2⟩ := BX.out.facts
    obtain ⟨BYc0, BYc1, BYc2⟩ := BY.out.facts
    obtain ⟨B1c0, B1c1, B1c2⟩ := B1.out.facts
    obtain ⟨B2c0, B2c1, B2c2⟩ := B2.out.facts
    clear hb
    go_wp2
    go_ret
    exact ⟨rfl, HB.out⟩
  · have HF := hid (few_2 (w.heap.size + 2) wa.length ca wb.length cb sa sb A B w3 HG.out hlna hlnb)
    rw [decide_eq_false hfew] at HF
    clear hfew hb23
    go_enter Tryd.func5, Tryd.ntmps5
    go_wp2_with fail
    refine HF.out.mono ?_
    rintro e w4 ⟨rfl, rfl⟩
    go_wp2_with fail
    refine (awake_any _ (HT.out.below HB.out)).mono ?_
    rintro e w4 ⟨rfl, hb4⟩
    have HBB := hid (below_both HB.out hb4)
    clear hb4
    go_wp2
    go_ret
    exact ⟨rfl, HBB.out⟩
end Go.Proofs.YtbifhcjkdfocaaaDoor

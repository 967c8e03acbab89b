/- The law BitmapMakes is walked. -/
import Derived.Test.YtbifhcjkdfocaaaDoorPb
import Derived.Test.YtbifhcjkdfocaaaDoorPd
import Derived.Deep.RegionHeld3
namespace Go.Proofs.YtbifhcjkdfocaaaDoor
open Go.RowKit

theorem bm_len {w : World} {v : Value} {s : Int} {ws : List Nat} (h : Bm w v s ws) : ws.length ≤ 9223372036854775807 := by
  obtain ⟨_, _, A, cap, _, h1, h2, _⟩ := h
  unfold maxLen at h2
  omega
/-- Two results that say the same hold the same words. -/
theorem made_ws {err s : Int} {p : Nat → Bool} {us ws : List Nat} (h1 : if err = 0 then Good s us ∧ ∀ i : Nat, (i : Int) < s → bit us i = p i else us = []) (h2 : if err = 0 then Good s ws ∧ ∀ i : Nat, (i : Int) < s → bit ws i = p i else ws = []) (hu : Wide us) (hw : Wide ws) : ws = us := by
  by_cases h : err = 0
  · rw [if_pos h] at h1 h2
    exact good_ext h2.1 h1.1 hw hu (fun i hi => by rw [h1.2 i hi, h2.2 i hi])
  · rw [if_neg h] at h1 h2
    rw [h1, h2]
theorem made_len {err s : Int} {p : Nat → Bool} {us : List Nat} (h1 : if err = 0 then Good s us ∧ ∀ i : Nat, (i : Int) < s → bit us i = p i else us = []) : us.length ≤ 10000 := by
  by_cases h : err = 0
  · rw [if_pos h] at h1
    have := h1.1.len
    have := h1.1.high
    omega
  · rw [if_neg h] at h1
    rw [h1]
    simp
theorem box_at {W : World} {g : Nat} {s : Int} {A : Option Addr} {n c : Nat} (h : g = W.heap.size) : (W.alloc (.cells #[.int .i64 s, .slice A n c] 24)).heap[g]? = some (.cells #[.int .i64 s, .slice A n c] 24 (0, 0)) := by subst h; exact heap_alloc_new W _
theorem not_few {n : Nat} (h : ¬ n ≤ 20) : decide (n ≤ 20) = false := by simp; omega

set_option maxHeartbeats 1000000 in
set_option maxRecDepth 100000 in
theorem makes_walk (s size at' : Int) (ws : List Nat) (v : Value) (w : World) (hv : Bm w v s ws) (hT : Tab w) (hsz : R64 size) (hat : R64 at') :
    Calls Tryd.prog 3 #[v, .int .i64 size, .int .i64 at'] w fun e w' => e = .returned (.bool true) ∧ Below w.heap.size w w' := by
  have hln := bm_len hv
  have HV := hid hv
  have HT := hid hT
  obtain ⟨A, ca, rfl⟩ := hv.form
  clear hv hT
  obtain ⟨w1, h1⟩ : ∃ w1, w.alloc (.cells #[.int .i64 s, .slice A ws.length ca] 24) = w1 := ⟨_, rfl⟩
  have z1 : w1.heap.size = w.heap.size + 1 := by rw [← h1]; simp
  obtain ⟨w2, h2⟩ : ∃ w2, w1.alloc (.cells #[.int .i64 s, .slice A ws.length ca] 24) = w2 := ⟨_, rfl⟩
  have HX1 : Hid (Box w1 w.heap.size s A ws.length ca) := hid (by rw [← h1]; exact box_new _ _ _ _ _)
  have HX2 : Hid (Box w2 w.heap.size s A ws.length ca) := hid (by rw [← h2]; exact HX1.out.alloc _)
  have HB2 : Hid (Below w.heap.size w w2) := hid (by rw [← h2, ← h1]; exact ((Below.refl _ w).alloc (Nat.le_refl _) _).alloc (by simp) _)
  have HG2 : Hid (w2.heap[w.heap.size + 1]? = some (.cells #[.int .i64 s, .slice A ws.length ca] 24 (0, 0))) := hid (by rw [← h2, ← z1]; exact heap_alloc_new w1 _)
  obtain ⟨x0, x1, x2⟩ := HX1.out.facts
  by_cases hfew : ws.length ≤ 20
  · have HF := hid (few_1 (w.heap.size + 1) ws.length ca s A w2 HG2.out hln)
    rw [decide_eq_true hfew] at HF
    have HS := hid hsz
    have HA := hid hat
    clear hfew hsz hat
    go_enter Tryd.func3, Tryd.ntmps3
    go_wp2_with fail
    refine HF.out.mono ?_
    rintro e w3 ⟨rfl, rfl⟩
    obtain ⟨er, her⟩ : ∃ er, newErr size = er := ⟨_, rfl⟩
    have HN1 := hid (fun W => new_any size W)
    have HN2 := hid (fun W => refNew_any size W)
    rw [her] at HN1 HN2
    clear her x0 x1 x2 HF HG2
    go_wp2_with fail
    refine (HN1.out _).mono ?_
    rintro e w3 ⟨v3, ws3, rfl, hbm3, hif3, hb3⟩
    obtain ⟨S, hS⟩ : ∃ S, (if er = 0 then size else 0) = S := ⟨_, rfl⟩
    rw [hS] at hbm3
    have HBM3 := hid hbm3
    have HIF3 := hid hif3
    have hl3 := made_len hif3
    obtain ⟨A3, c3, rfl⟩ := hbm3.form
    have HX3 := hid (HX2.out.below hb3)
    have HB3 := hid (below_both HB2.out hb3)
    have HSS := hid hS
    clear hbm3 hif3 hb3 hS HX2 HB2
    go_wp2_with fail
    refine (HN2.out _).mono ?_
    rintro e w4 ⟨v4, ws4, rfl, hbm4, hif4, hb4⟩
    rw [HSS.out] at hbm4
    have hee := made_ws HIF3.out hif4 HBM3.out.2.1 hbm4.2.1
    subst hee
    have HBM4 := hid hbm4
    obtain ⟨A4, c4, rfl⟩ := hbm4.form
    have HX4 := hid ((HX3.out.alloc _).below hb4)
    have HY4 := hid ((box_new _ _ _ _ _).below hb4)
    have HB4 := hid (below_both HB3.out (bmore hb4))
    have HBM3' := hid (HBM3.out.below (bmore hb4))
    clear hbm4 hif4 hb4 HX3 HB3 HBM3 HIF3
    go_wp2_with fail
    obtain ⟨w5, h5⟩ : ∃ w5, w4.alloc (.cells #[.int .i64 S, .slice A4 ws4.length c4] 24) = w5 := ⟨_, rfl⟩
    obtain ⟨g3, hg3⟩ : ∃ g3, w3.heap.size = g3 := ⟨_, rfl⟩
    obtain ⟨g4, hg4⟩ : ∃ g4, w4.heap.size = g4 := ⟨_, rfl⟩
    have hb45 : Below w4.heap.size w4 w5 := by rw [← h5]; exact al1 _ _
    have HX5 := hid (HX4.out.below hb45)
    have HY5 := hid (HY4.out.below hb45)
    have HZ5 : Hid (Box w5 g4 S A4 ws4.length c4) := hid (by rw [← h5, ← hg4]; exact box_new _ _ _ _ _)
    have HB5 := hid (below_both HB4.out hb45)
    have HBM5 := hid (HBM3'.out.below hb45)
    have HBN5 := hid (HBM4.out.below hb45)
    rw [hg3] at HY5
    rw [h5, hg4, hg3]
    clear hb45 h5 hg3 hg4 HX4 HY4 HB4 HBM3' HBM4
    obtain ⟨x0, x1, x2⟩ := HX5.out.facts
    obtain ⟨y0, y1, y2⟩ := HY5.out.facts
    obtain ⟨z0, z1', z2⟩ := HZ5.out.facts
    obtain ⟨cc, hcc⟩ : ∃ cc, chk s ws = cc := ⟨_, rfl⟩
    have HC1 := hid (fun W (h : Below w.heap.size w W) => check_any s ws _ W (HV.out.below h))
    have HC2 := hid (fun W (h : Below w.heap.size w W) => refCheck_any s ws _ W (HV.out.below h))
    have HSM := hid (fun W (h : Below w5.heap.size w5 W) => same_true S ws4 _ _ W (HBM5.out.below h) (HBN5.out.below h) hl3)
    rw [hcc] at HC1 HC2
    have d1 : (er != er) = false := by simp
    have d2 : (cc != cc) = false := by simp
    clear hcc
    go_region_held3 (fun W => W.cell? ⟨w.heap.size, 0, none⟩ = some (.int .i64 s) ∧ W.cell? ⟨w.heap.size, 1, none⟩ = some (.slice A ws.length ca) ∧ W.cell? ⟨g3, 0, none⟩ = some (.int .i64 S) ∧ W.cell? ⟨g3, 1, none⟩ = some (.slice A3 ws4.length c3) ∧ W.cell? ⟨g4, 0, none⟩ = some (.int .i64 S) ∧ W.cell? ⟨g4, 1, none⟩ = some (.slice A4 ws4.length c4))
      (go_keep)
      (first
        | (go_at_call 15; refine (HSM.out _ (below_drewN (Below.refl _ _) 1)).mono ?_; rintro e w6 ⟨rfl, hb6⟩; have hb56 : Below w5.heap.size w5 w6 := ⟨hb6.os, hb6.tape, hb6.output, hb6.size, hb6.block⟩; have HX6 := hid (HX5.out.below hb56); have HY6 := hid (HY5.out.below hb56); have HZ6 := hid (HZ5.out.below hb56); obtain ⟨x0, x1, x2⟩ := HX6.out.facts; obtain ⟨y0, y1, y2⟩ := HY6.out.facts; obtain ⟨z0, z1', z2⟩ := HZ6.out.facts; have HB6 := hid (below_both HB5.out hb56); clear hb6 hb56)
        | (go_at_call 16; refine (HC1.out _ HB6.out).mono ?_; rintro e w7 ⟨rfl, hb7⟩; have HX7 := hid (HX6.out.below hb7); have HY7 := hid (HY6.out.below hb7); have HZ7 := hid (HZ6.out.below hb7); obtain ⟨x0, x1, x2⟩ := HX7.out.facts; obtain ⟨y0, y1, y2⟩ := HY7.out.facts; obtain ⟨z0, z1', z2⟩ := HZ7.out.facts; have HB7 := hid (below_both HB6.out hb7); clear hb7)
        | (go_at_call 17; refine (HC2.out _ HB7.out).mono ?_; rintro e w8 ⟨rfl, hb8⟩; have HX8 := hid (HX7.out.below hb8); have HY8 := hid (HY7.out.below hb8); have HZ8 := hid (HZ7.out.below hb8); obtain ⟨x0, x1, x2⟩ := HX8.out.facts; obtain ⟨y0, y1, y2⟩ := HY8.out.facts; obtain ⟨z0, z1', z2⟩ := HZ8.out.facts; have HB8 := hid (below_both HB7.out hb8); clear hb8))
    clear y0 y1 y2 z0 z1' z2 d1 d2 HC1 HC2 HSM HY5 HZ5 HY6 HZ6 HY7 HZ7 HY8 HZ8
    obtain ⟨gb, hgb⟩ : ∃ gb, getB s ws at' = gb := ⟨_, rfl⟩
    obtain ⟨cn, hcn⟩ : ∃ cn, cnt s ws = cn := ⟨_, rfl⟩
    obtain ⟨nx, hnx⟩ : ∃ nx, nextB s ws at' = nx := ⟨_, rfl⟩
    have HG1 := hid (fun W (h : Below w.heap.size w W) => get_any s ws _ at' W (HV.out.below h) HA.out)
    have HG2' := hid (fun W (h : Below w.heap.size w W) => refGet_any s ws _ at' W (HV.out.below h) HA.out)
    have HN3 := hid (fun W (h : Below w.heap.size w W) => count_any s ws _ W (HV.out.below h))
    have HN4 := hid (fun W (h : Below w.heap.size w W) => refCount_any s ws _ W (HV.out.below h))
    have HN5 := hid (fun W (h : Below w.heap.size w W) => next_any s ws _ at' W (HV.out.below h) (HT.out.below h) HA.out)
    have HN6 := hid (fun W (h : Below w.heap.size w W) => refNext_any s ws _ at' W (HV.out.below h) HA.out)
    rw [hgb] at HG1 HG2'
    rw [hcn] at HN3 HN4
    rw [hnx] at HN5 HN6
    have d3 : (gb == gb) = true := by simp
    have d4 : (cn == cn) = true := by simp
    have d5 : (nx == nx) = true := by simp
    clear hgb hcn hnx
    go_wp2_with fail
    go_region_held3 (fun W => W.cell? ⟨w.heap.size, 0, none⟩ = some (.int .i64 s) ∧ W.cell? ⟨w.heap.size, 1, none⟩ = some (.slice A ws.length ca))
      (go_keep)
      (first
        | (go_at_call 12; refine (awake_any _ (HT.out.below (below_drewN HB8.out 1))).mono ?_; rintro e w9 ⟨rfl, hb9⟩; have hb89 : Below w8.heap.size w8 w9 := ⟨hb9.os, hb9.tape, hb9.output, hb9.size, hb9.block⟩; have HX9 := hid (HX8.out.below hb89); obtain ⟨x0, x1, x2⟩ := HX9.out.facts; have HB9 := hid (below_both HB8.out hb89); clear hb9 hb89)
        | (go_at_call 18; refine (HG1.out _ HB9.out).mono ?_; rintro e w10 ⟨rfl, hb10⟩; have HX10 := hid (HX9.out.below hb10); obtain ⟨x0, x1, x2⟩ := HX10.out.facts; have HB10 := hid (below_both HB9.out hb10); clear hb10)
        | (go_at_call 19; refine (HG2'.out _ HB10.out).mono ?_; rintro e w11 ⟨rfl, hb11⟩; have HX11 := hid (HX10.out.below hb11); obtain ⟨x0, x1, x2⟩ := HX11.out.facts; have HB11 := hid (below_both HB10.out hb11); clear hb11)
        | (go_at_call 20; refine (HN3.out _ HB11.out).mono ?_; rintro e w12 ⟨rfl, hb12⟩; have HX12 := hid (HX11.out.below hb12); obtain ⟨x0, x1, x2⟩ := HX12.out.facts; have HB12 := hid (below_both HB11.out hb12); clear hb12)
        | (go_at_call 21; refine (HN4.out _ HB12.out).mono ?_; rintro e w13 ⟨rfl, hb13⟩; have HX13 := hid (HX12.out.below hb13); obtain ⟨x0, x1, x2⟩ := HX13.out.facts; have HB13 := hid (below_both HB12.out hb13); clear hb13)
        | (go_at_call 22; refine (HN5.out _ HB13.out).mono ?_; rintro e w14 ⟨rfl, hb14⟩; have HX14 := hid (HX13.out.below hb14); obtain ⟨x0, x1, x2⟩ := HX14.out.facts; have HB14 := hid (below_both HB13.out hb14); clear hb14)
        | (go_at_call 23; refine (HN6.out _ HB14.out).mono ?_; rintro e w15 ⟨rfl, hb15⟩; have HX15 := hid (HX14.out.below hb15); obtain ⟨x0, x1, x2⟩ := HX15.out.facts; have HB15 := hid (below_both HB14.out hb15); clear hb15))
    go_wp2
    go_ret
    exact ⟨rfl, HB15.out⟩
  · have HF := hid (few_1 (w.heap.size + 1) ws.length ca s A w2 HG2.out hln)
    rw [not_few hfew] at HF
    clear hfew
    go_enter Tryd.func3, Tryd.ntmps3
    go_wp2_with fail
    refine HF.out.mono ?_
    rintro e w3 ⟨rfl, rfl⟩
    go_wp2_with fail
    refine (awake_any _ (HT.out.below HB2.out)).mono ?_
    rintro e w3 ⟨rfl, hb3⟩
    have HB := hid (below_both HB2.out hb3)
    clear hb3
    go_wp2
    go_ret
    exact ⟨rfl, HB.out⟩
end Go.Proofs.YtbifhcjkdfocaaaDoor

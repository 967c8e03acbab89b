/- The law BitmapVisits is walked. -/
import Derived.Test.YtbifhcjkdfocaaaDoorQc
namespace Go.Proofs.YtbifhcjkdfocaaaDoor
open Go.RowKit

/-- The least element from k on. -/
def nxF (p : Nat → Bool) (f k : Nat) : Int := hd1 (elsL p k (f - k))
theorem nx_yes {p : Nat → Bool} {f k : Nat} (hk : k < f) (h : p k = true) : nxF p f k = k := by
  unfold nxF
  rw [elsL_first (Nat.le_refl k) (by omega) (fun j h1 h2 => by omega) h]
  rfl
theorem nx_no {p : Nat → Bool} {f k : Nat} (hk : k < f) (h : p k = false) : nxF p f k = nxF p f (k + 1) := by
  unfold nxF
  have e : f - k = 1 + (f - (k + 1)) := by omega
  rw [e, elsL_add, elsL_none (n := 1) (fun j h1 h2 => by rw [show j = k by omega]; exact h), List.nil_append]
theorem nx_ne {p : Nat → Bool} {f k : Nat} (hk : k < f) (h : p k = false) : nxF p f k ≠ k := by
  rw [nx_no hk h]
  unfold nxF
  cases he : elsL p (k + 1) (f - (k + 1)) with
  | nil => show (-1 : Int) ≠ k; omega
  | cons x r =>
    have hx : x ∈ elsL p (k + 1) (f - (k + 1)) := by rw [he]; exact List.mem_cons_self ..
    have := (List.mem_range'_1.1 (List.mem_filter.1 hx).1).1
    show (x : Int) ≠ k
    omega
theorem nx_end (p : Nat → Bool) (f : Nat) : nxF p f f = -1 := by unfold nxF; rw [Nat.sub_self, elsL_zero]; rfl

set_option maxHeartbeats 4000000 in
set_option maxRecDepth 100000 in
theorem visits_walk (s : Int) (ws : List Nat) (v : Value) (w : World) (hv : Bm w v s ws) (hT : Tab w) :
    Calls Tryd.prog 8 #[v] w fun e w' => e = .returned (.bool true) ∧ Below w.heap.size w w' := by
  have hln := bm_len hv
  have HV := hid hv
  have HT := hid hT
  obtain ⟨A, ca, rfl⟩ := hv.form
  clear hv hT
  obtain ⟨w1, h1⟩ : ∃ w1, w.alloc (.cells #[.int .i64 s, .slice A ws.length ca] 24) = w1 := ⟨_, rfl⟩
  have z1 : w1.heap.size = w.heap.size + 1 := by rw [← h1]; simp
  obtain ⟨w3, h3⟩ : ∃ w3, w1.alloc (.cells #[.int .i64 s, .slice A ws.length ca] 24) = w3 := ⟨_, rfl⟩
  have BX : Hid (Box w1 w.heap.size s A ws.length ca) := hid (by rw [← h1]; exact box_new _ _ _ _ _)
  have hb13 : Below w1.heap.size w1 w3 := by rw [← h3]; exact al1 _ _
  have HB : Hid (Below w.heap.size w w3) := hid (below_both (by rw [← h1]; exact al1 _ _) hb13)
  have HG : Hid (w3.heap[w.heap.size + 1]? = some (.cells #[.int .i64 s, .slice A ws.length ca] 24 (0, 0))) := hid (by rw [← h3, ← z1]; exact heap_alloc_new w1 _)
  obtain ⟨BXc0, BXc1, BXc2⟩ := BX.out.facts
  have BX3 := hid (BX.out.below hb13)
  clear hb13
  have HF := hid (few_1 (w.heap.size + 1) ws.length ca s A w3 HG.out hln)
  have HAW := hid (fun W (h : Below w.heap.size w W) => awake_any W (HT.out.below h))
  have HK := hid (fun W (h : Below w.heap.size w W) => refCheck_any s ws _ W (HV.out.below h))
  by_cases hfew : ws.length ≤ 20
  · rw [decide_eq_true hfew] at HF
    clear hfew
    by_cases ga : chk s ws = 0
    · have good := chk_zero ga
      have hlo := good.low
      have hhi := good.high
      obtain ⟨f, rfl⟩ := Int.eq_ofNat_of_zero_le hlo
      have HNX := hid (fun W (k : Nat) (h : Below w.heap.size w W) (hk : k ≤ 5000) => show Calls Tryd.prog 22 #[.agg #[.int .i64 (f : Int), .slice A ws.length ca], .int .i64 (k : Int)] W fun e w' => e = .returned (.int .i64 (nxF (bit ws) f k)) ∧ Below W.heap.size W w' from by
        have := next_any f ws _ (k : Int) W (HV.out.below h) (HT.out.below h) (by unfold R64; omega)
        rw [nextB_good (m := k) ga (by omega)] at this
        exact this)
      have HN5 := hid (fun W (h : Below w.heap.size w W) => show Calls Tryd.prog 22 #[.agg #[.int .i64 (f : Int), .slice A ws.length ca], .int .i64 (-5)] W fun e w' => e = .returned (.int .i64 (nxF (bit ws) f 0)) ∧ Below W.heap.size W w' from by
        have := next_any f ws _ (-5) W (HV.out.below h) (HT.out.below h) (by unfold R64; omega)
        rw [nextB_good (m := 0) ga (by omega)] at this
        exact this)
      have HGT := hid (fun W (k : Nat) (h : Below w.heap.size w W) (hk : k < f) => show Calls Tryd.prog 18 #[.agg #[.int .i64 (f : Int), .slice A ws.length ca], .int .i64 (k : Int)] W fun e w' => e = .returned (.bool (bit ws k)) ∧ Below W.heap.size W w' from by
        have := get_any f ws _ (k : Int) W (HV.out.below h) (by unfold R64; omega)
        rw [getB_yes ga (by omega)] at this
        exact this)
      have HGE := hid (fun W (h : Below w.heap.size w W) => show Calls Tryd.prog 18 #[.agg #[.int .i64 (f : Int), .slice A ws.length ca], .int .i64 (f : Int)] W fun e w' => e = .returned (.bool false) ∧ Below W.heap.size W w' from by
        have := get_any f ws _ (f : Int) W (HV.out.below h) (by unfold R64; omega)
        rw [getB_no (fun h => by omega)] at this
        exact this)
      have HCT := hid (fun W (h : Below w.heap.size w W) => show Calls Tryd.prog 20 #[.agg #[.int .i64 (f : Int), .slice A ws.length ca]] W fun e w' => e = .returned (.int .i64 (ct (bit ws) f)) ∧ Below W.heap.size W w' from by
        have := count_any f ws _ W (HV.out.below h)
        rw [cnt_good ga] at this
        exact this)
      rw [ga] at HK
      clear ga good
      go_enter Tryd.func8, Tryd.ntmps8
      go_wp2_with fail
      refine HF.out.mono ?_
      rintro e w4 ⟨rfl, rfl⟩
      clear BX BXc0 BXc1 BXc2 HF HG z1
      have BX := BX3
      clear BX3
      obtain ⟨BXc0, BXc1, BXc2⟩ := BX.out.facts
      go_wp2_with fail
      refine (HK.out _ HB.out).mono ?_
      rintro e w4 ⟨rfl, hb⟩
      replace BX := hid (BX.out.below hb)
      replace HB := hid (below_both HB.out hb)
      clear BXc0 BXc1 BXc2 hb
      obtain ⟨BXc0, BXc1, BXc2⟩ := BX.out.facts
      go_wp2_with fail
      refine (HN5.out _ HB.out).mono ?_
      rintro e w5 ⟨rfl, hb⟩
      replace BX := hid (BX.out.below hb)
      replace HB := hid (below_both HB.out hb)
      clear BXc0 BXc1 BXc2 hb
      obtain ⟨X0, hX0⟩ : ∃ X, nxF (bit ws) f 0 = X := ⟨_, rfl⟩
      rw [hX0]
      have HX0 := hid hX0
      clear hX0
      go_wp2
      go_loopw [3, 4, 5] (fun n at' i wr => ∃ (k c : Nat) (X : Int), k ≤ f ∧ i = .int .i64 k ∧ n = .int .i64 c ∧ at' = .int .i64 X ∧ Hid (c = ct (bit ws) k) ∧ Hid (nxF (bit ws) f k = X) ∧ c ≤ 4096 ∧ Hid (Below w5.heap.size w5 wr)) (fun _ _ i _ => f - (intOf i).toNat)
      case atStart => exact ⟨0, 0, X0, Nat.zero_le _, rfl, rfl, rfl, hid rfl, HX0, by omega, hid (Below.refl _ _)⟩
      case round =>
        obtain ⟨k, c, X, hk, rfl, rfl, rfl, HCK, HXK, hc4, HBR⟩ := hrel
        have BXR := hid (BX.out.below HBR.out)
        have HBR2 := hid (below_both HB.out HBR.out)
        obtain ⟨BXc0, BXc1, BXc2⟩ := BXR.out.facts
        by_cases hlt : k < f
        · cases hbk : bit ws k with
          | true =>
            have hX : X = k := by rw [← HXK.out]; exact nx_yes hlt hbk
            subst hX
            have HG1 := hid (HGT.out wr k HBR2.out hlt)
            rw [hbk] at HG1
            have HC2 := hid (show c + 1 = ct (bit ws) (k + 1) by rw [ct_yes hbk, HCK.out])
            have hc5 : c + 1 ≤ 4096 := by have := HC2.out; have := ct_le (bit ws) (k + 1); omega
            clear hbk
            go_wp2_with fail
            refine HG1.out.mono ?_
            rintro e w6 ⟨rfl, hb⟩
            have BX6 := hid (BXR.out.below hb)
            have HB6 := hid (HBR.out.trans (hb.mono HBR.out.size))
            have HB62 := hid (below_both HBR2.out hb)
            clear BXc0 BXc1 BXc2 hb HG1
            obtain ⟨BXc0, BXc1, BXc2⟩ := BX6.out.facts
            obtain ⟨X2, hX2⟩ : ∃ X, nxF (bit ws) f (k + 1) = X := ⟨_, rfl⟩
            have HN := hid (HNX.out w6 (k + 1) HB62.out (by omega))
            rw [hX2] at HN
            have HX2 := hid hX2
            clear hX2
            go_wp2_with fail
            refine HN.out.mono ?_
            rintro e w7 ⟨rfl, hb⟩
            have HB7 := hid (HB6.out.trans (hb.mono HB6.out.size))
            clear BXc0 BXc1 BXc2 hb HN
            go_wp2
            go_roundw
            case rel => exact ⟨k + 1, c + 1, X2, by omega, by go_num, by go_num, rfl, HC2, HX2, hc5, HB7⟩
            case measure => simp [intOf]; omega
          | false =>
            have hX : X ≠ k := by rw [← HXK.out]; exact nx_ne hlt hbk
            have hd : ((k : Int) == X) = false := by simp; omega
            have HX2 := hid (show nxF (bit ws) f (k + 1) = X by rw [← nx_no hlt hbk]; exact HXK.out)
            have HG1 := hid (HGT.out wr k HBR2.out hlt)
            rw [hbk] at HG1
            have HC2 := hid (show c = ct (bit ws) (k + 1) by rw [ct_no hbk, HCK.out])
            clear hbk
            go_wp2_with fail
            refine HG1.out.mono ?_
            rintro e w6 ⟨rfl, hb⟩
            have HB6 := hid (HBR.out.trans (hb.mono HBR.out.size))
            clear BXc0 BXc1 BXc2 hb HG1
            go_wp2
            go_roundw
            case rel => exact ⟨k + 1, c, X, by omega, by go_num, rfl, rfl, HC2, HX2, hc4, HB6⟩
            case measure => simp [intOf]; omega
        · obtain rfl : k = f := by omega
          have hX : X = -1 := by rw [← HXK.out]; exact nx_end _ _
          subst hX
          have hcc := HCK.out
          obtain ⟨d, hd⟩ : ∃ d, ct (bit ws) k = d := ⟨_, rfl⟩
          rw [hd] at hcc HCT
          subst hcc
          clear hd
          go_wp2_with fail
          refine (HAW.out _ HBR2.out).mono ?_
          rintro e w6 ⟨rfl, hb⟩
          have BX6 := hid (BXR.out.below hb)
          have HB6 := hid (below_both HBR2.out hb)
          clear BXc0 BXc1 BXc2 hb
          obtain ⟨BXc0, BXc1, BXc2⟩ := BX6.out.facts
          go_wp2_with fail
          refine (HCT.out _ HB6.out).mono ?_
          rintro e w7 ⟨rfl, hb⟩
          have BX7 := hid (BX6.out.below hb)
          have HB7 := hid (below_both HB6.out hb)
          clear BXc0 BXc1 BXc2 hb
          obtain ⟨BXc0, BXc1, BXc2⟩ := BX7.out.facts
          go_wp2_with fail
          refine (HGE.out _ HB7.out).mono ?_
          rintro e w8 ⟨rfl, hb⟩
          have HB8 := hid (below_both HB7.out hb)
          clear BXc0 BXc1 BXc2 hb
          go_wp2
          go_ret
          exact ⟨rfl, HB8.out⟩
    · have e3 : chk s ws = 3 := by rcases chk_cases s ws with h | h <;> omega
      rw [e3] at HK
      clear ga e3
      go_enter Tryd.func8, Tryd.ntmps8
      go_wp2_with fail
      refine HF.out.mono ?_
      rintro e w4 ⟨rfl, rfl⟩
      clear BX BXc0 BXc1 BXc2 HF HG z1
      have BX := BX3
      clear BX3
      obtain ⟨BXc0, BXc1, BXc2⟩ := BX.out.facts
      go_wp2_with fail
      refine (HK.out _ HB.out).mono ?_
      rintro e w4 ⟨rfl, hb⟩
      replace HB := hid (below_both HB.out hb)
      clear BXc0 BXc1 BXc2 hb
      go_wp2_with fail
      refine (HAW.out _ HB.out).mono ?_
      rintro e w5 ⟨rfl, hb⟩
      replace HB := hid (below_both HB.out hb)
      clear hb
      go_wp2
      go_ret
      exact ⟨rfl, HB.out⟩
  · rw [not_few hfew] at HF
    clear hfew
    go_enter Tryd.func8, Tryd.ntmps8
    go_wp2_with fail
    refine HF.out.mono ?_
    rintro e w4 ⟨rfl, rfl⟩
    go_wp2_with fail
    refine (HAW.out _ HB.out).mono ?_
    rintro e w5 ⟨rfl, hb⟩
    replace HB := hid (below_both HB.out hb)
    clear hb
    go_wp2
    go_ret
    exact ⟨rfl, HB.out⟩
end Go.Proofs.YtbifhcjkdfocaaaDoor

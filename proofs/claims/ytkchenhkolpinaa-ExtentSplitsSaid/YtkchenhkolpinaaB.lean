/- Contracts that read a list of extents: Check and Same. -/
import Derived.Test.YtkchenhkolpinaaA
import Derived.LoopTactic
namespace Go.Proofs.Ytkchenhkolpinaa
open Go.RowKit

/-- The value v reads as the list l, in memory that is there. -/
def Ext (w : World) (v : Value) (l : List (Int × Int)) : Prop :=
  (∀ e ∈ l, R64 e.1 ∧ R64 e.2) ∧ ∃ A cap, v = .slice A l.length cap ∧ l.length ≤ cap ∧ cap ≤ maxLen ∧
    ∃ b off, (0 < l.length → A = some ⟨b, off, none⟩ ∧ b < w.heap.size) ∧ ∀ i e, l[i]? = some e →
      w.cell? ⟨b, off + i * 2, none⟩ = some (.int .i64 e.1) ∧ w.cell? ⟨b, off + i * 2 + 1, none⟩ = some (.int .i64 e.2)

theorem Ext.below {w w' : World} {v : Value} {l : List (Int × Int)} (h : Ext w v l) (hb : Below w.heap.size w w') : Ext w' v l := by
  obtain ⟨hr, A, cap, hv, h1, h2, b, off, hA, hc⟩ := h
  refine ⟨hr, A, cap, hv, h1, h2, b, off, fun h0 => ⟨(hA h0).1, Nat.lt_of_lt_of_le (hA h0).2 hb.size⟩, fun i e hi => ?_⟩
  have hlt : b < w.heap.size := (hA (Nat.lt_of_le_of_lt (Nat.zero_le _) (List.getElem?_eq_some_iff.1 hi).1)).2
  exact ⟨(hb.cell (p := ⟨b, _, none⟩) hlt).trans (hc i e hi).1, (hb.cell (p := ⟨b, _, none⟩) hlt).trans (hc i e hi).2⟩

def chkAt (size : Int) (l : List (Int × Int)) (k : Nat) : Int :=
  if (l.getD k (0, 0)).2 ≤ 0 then 1
  else if fitsB (l.getD k (0, 0)).1 (l.getD k (0, 0)).2 size = false then 2
  else if 0 < k ∧ (l.getD k (0, 0)).1 ≤ (l.getD (k - 1) (0, 0)).1 + (l.getD (k - 1) (0, 0)).2 then 3 else 0
def chkL (size : Int) (l : List (Int × Int)) : Nat → Int
  | 0 => 0
  | n + 1 => if chkL size l n = 0 then chkAt size l n else chkL size l n
def checkS (size : Int) (l : List (Int × Int)) : Int := if size < 0 ∨ 4096 < size then 2 else chkL size l l.length

theorem chkL_stay {size : Int} {l : List (Int × Int)} {n m : Nat} (h : chkL size l n ≠ 0) (hm : n ≤ m) : chkL size l m = chkL size l n := by
  induction m with
  | zero => obtain rfl : n = 0 := by omega
            rfl
  | succ m ih =>
    by_cases e : n = m + 1
    · rw [e]
    · have := ih (by omega)
      rw [chkL, this, if_neg h]
theorem chkL_end {size : Int} {l : List (Int × Int)} {k : Nat} {r : Int} (h0 : chkL size l k = 0) (hk : k < l.length) (hr : chkAt size l k = r) (hne : r ≠ 0) : chkL size l l.length = r := by
  have : chkL size l (k + 1) = r := by rw [chkL, if_pos h0, hr]
  rw [chkL_stay (by rw [this]; exact hne) hk, this]
theorem chkL_next {size : Int} {l : List (Int × Int)} {k : Nat} (h0 : chkL size l k = 0) (hr : chkAt size l k = 0) : chkL size l (k + 1) = 0 := by
  rw [chkL, if_pos h0, hr]
theorem checkS_in {size : Int} {l : List (Int × Int)} (h0 : 0 ≤ size) (h1 : size ≤ 4096) : checkS size l = chkL size l l.length := by
  unfold checkS; rw [if_neg (by omega)]
theorem chkL_good {size : Int} {l : List (Int × Int)} {k j : Nat} (h0 : chkL size l k = 0) (hj : j < k) : chkAt size l j = 0 := by
  induction k with
  | zero => omega
  | succ k ih =>
    have hk : chkL size l k = 0 := Decidable.byContradiction fun hn => by
      have := chkL_stay (m := k + 1) hn (by omega); rw [h0] at this; exact hn this.symm
    by_cases e : j = k
    · subst e; rw [chkL, if_pos hk] at h0; exact h0
    · exact ih hk (by omega)

theorem ret_int {a b : Int} (h : a = b) : Ending.returned (.int .i64 a) = .returned (.int .i64 b) := by rw [h]

theorem chkAt_1 {size s n : Int} {l : List (Int × Int)} {k : Nat} (hg : Hid (l.getD k (0, 0) = (s, n))) (hn : n ≤ 0) : chkAt size l k = 1 := by
  rw [chkAt, hg.out, if_pos hn]
theorem chkAt_2 {size s n : Int} {l : List (Int × Int)} {k : Nat} (hg : Hid (l.getD k (0, 0) = (s, n))) (hn : 0 < n) (hf : fitsB s n size = false) : chkAt size l k = 2 := by
  rw [chkAt, hg.out, if_neg (by omega), if_pos hf]
theorem chkAt_3 {size s n ps pn : Int} {l : List (Int × Int)} {k : Nat} (hg : Hid (l.getD k (0, 0) = (s, n))) (hn : 0 < n) (hf : fitsB s n size = true) (hk : 0 < k) (hp : Hid (l.getD (k - 1) (0, 0) = (ps, pn))) (hs : s ≤ ps + pn) : chkAt size l k = 3 := by
  rw [chkAt, hg.out, hp.out, if_neg (by omega), if_neg (by simp [hf]), if_pos ⟨hk, hs⟩]
theorem chkAt_0 {size s n ps pn : Int} {l : List (Int × Int)} {k : Nat} (hg : Hid (l.getD k (0, 0) = (s, n))) (hn : 0 < n) (hf : fitsB s n size = true) (hp : Hid (l.getD (k - 1) (0, 0) = (ps, pn))) (hs : ps + pn < s) : chkAt size l k = 0 := by
  rw [chkAt, hg.out, hp.out, if_neg (by omega), if_neg (by simp [hf]), if_neg (fun h => by omega)]
theorem chkAt_00 {size s n : Int} {l : List (Int × Int)} (hg : Hid (l.getD 0 (0, 0) = (s, n))) (hn : 0 < n) (hf : fitsB s n size = true) : chkAt size l 0 = 0 := by
  rw [chkAt, hg.out, if_neg (by omega), if_neg (by simp [hf]), if_neg (fun h => absurd h.1 (by omega))]

theorem box_cell {W w1 : World} {t : TypeId} {cs : Array Value} (hb : Below (W.alloc (.cells cs t)).heap.size (W.alloc (.cells cs t)) w1) (i : Nat) : w1.cell? ⟨W.heap.size, i, none⟩ = cs[i]? := by
  rw [hb.cell (p := ⟨W.heap.size, i, none⟩) (by simp)]
  exact cell_of_row _ _ _ cs t (0, 0) (heap_alloc_new W _)
theorem box_frozen {W w1 : World} {t : TypeId} {cs : Array Value} (hb : Below (W.alloc (.cells cs t)).heap.size (W.alloc (.cells cs t)) w1) (i : Nat) : w1.frozen? ⟨W.heap.size, i, none⟩ = false := by
  rw [hb.frozen (p := ⟨W.heap.size, i, none⟩) (by simp)]
  have h := heap_alloc_new W (.cells cs t)
  unfold World.frozen?
  rw [h]
  simp
theorem below_drewN {B : Nat} {a w : World} (h : Below B a w) (n : Nat) : Below B a (w.drewN n) := ⟨h.os, h.tape, h.output, h.size, h.block⟩
theorem below_more {B : Nat} {W w1 : World} {o : Obj} (hb : Below (W.alloc o).heap.size (W.alloc o) w1) (h : B ≤ W.heap.size) : Below B W w1 :=
  (((Below.refl B W).alloc h o).trans (hb.mono (by simp; omega)))

set_option maxHeartbeats 2000000 in
theorem check_in (l : List (Int × Int)) (v : Value) (size : Int) (w : World) (hv : Ext w v l) (hl : l.length ≤ 10000) (h0 : 0 ≤ size) (h1 : size ≤ 4096) :
    Calls Try.prog 14 #[v, .int .i64 size] w fun e w' => e = .returned (.int .i64 (chkL size l l.length)) ∧ Below w.heap.size w w' := by
  obtain ⟨hr, A, cap, rfl, hcap, hcm, b, off, hA, hc⟩ := hv
  have hd0 : decide (size < 0) = false := by simp; omega
  have hd1 : decide (4096 < size) = false := by simp; omega
  have hfits := fun (s n : Int) (W : World) (hs : R64 s) (hn : R64 n) => fits_any s n size W hs hn h0 h1
  have HF := hid hfits
  clear hfits
  have HR := hid hr
  clear hr
  have HC := hid hc
  clear hc
  go_enter Try.func14, Try.ntmps14
  go_wp2
  go_loopw [4, 15] (fun r i wr => ∃ k : Nat, k ≤ l.length ∧ i = .int .i64 k ∧ r = .int .i64 0 ∧ Hid (chkL size l k = 0) ∧ Below w.heap.size w wr) (fun _ i _ => l.length - (intOf i).toNat)
  case atStart => exact ⟨0, Nat.zero_le _, rfl, rfl, hid rfl, Below.refl _ _⟩
  case round =>
    obtain ⟨k, hk, rfl, rfl, H0, hB⟩ := hrel
    have hBs := hB.size
    by_cases hlt : k < l.length
    · obtain ⟨hA1, hb⟩ := hA (by omega)
      subst hA1
      obtain ⟨⟨s, n⟩, he⟩ : ∃ e, l[k]? = some e := ⟨l[k], List.getElem?_eq_getElem hlt⟩
      have hg : l.getD k (0, 0) = (s, n) := by simp [List.getD, he]
      obtain ⟨⟨hs1, hs2⟩, hn1, hn2⟩ := HR.out (s, n) (List.mem_of_getElem? he)
      have hc1 := (hB.cell (p := ⟨b, off + k * 2, none⟩) hb).trans (HC.out k _ he).1
      have hc2 := (hB.cell (p := ⟨b, off + k * 2 + 1, none⟩) hb).trans (HC.out k _ he).2
      have HG := hid hg
      clear hg he
      dsimp only at hc1 hc2 hs1 hs2 hn1 hn2
      by_cases hn : n ≤ 0
      · go_wp2
        go_ret
        exact ⟨ret_int (chkL_end H0.out hlt (chkAt_1 HG hn) (by omega)).symm, hB.trans ((Below.refl _ _).alloc hB.size _)⟩
      · have hn' : 0 < n := by omega
        by_cases hf : fitsB s n size = false
        · go_wp2_with (go_at_call 34; refine (HF.out _ _ _ ⟨hs1, hs2⟩ ⟨hn1, hn2⟩).mono ?_; rintro e w1 ⟨rfl, hb1⟩; have hf1 := hf)
          go_ret
          exact ⟨ret_int (chkL_end H0.out hlt (chkAt_2 HG hn' hf) (by omega)).symm, hB.trans (below_more hb1 hB.size)⟩
        · have hf' : fitsB s n size = true := by simpa using hf
          have ⟨hf1, hf2⟩ : 0 ≤ s ∧ n ≤ size - s := by simpa [fitsB] using hf'
          have HF' := hid hf'
          clear hf hf' hn
          by_cases hk0 : 0 < k
          · obtain ⟨⟨ps, pn⟩, hpe⟩ : ∃ e, l[k - 1]? = some e := ⟨l[k - 1], List.getElem?_eq_getElem (by omega)⟩
            have hpg : l.getD (k - 1) (0, 0) = (ps, pn) := by simp [List.getD, hpe]
            have HG2 := hid hpg
            have hgood := chkL_good H0.out (j := k - 1) (by omega)
            have hp1 : 0 < pn := by
              rcases Int.lt_or_le 0 pn with hh | hh
              · exact hh
              · rw [chkAt_1 HG2 hh] at hgood; omega
            have hp2 : fitsB ps pn size = true := by
              cases hq : fitsB ps pn size with
              | true => rfl
              | false => rw [chkAt_2 HG2 hp1 hq] at hgood; omega
            have ⟨hp3, hp4⟩ : 0 ≤ ps ∧ pn ≤ size - ps := by simpa [fitsB] using hp2
            have hd1 := (HC.out (k - 1) _ hpe).1
            have hd2 := (HC.out (k - 1) _ hpe).2
            dsimp only at hd1 hd2
            clear hpg hpe hgood hp2
            have hk1 : decide (0 < (k : Int)) = true := by simp; omega
            by_cases hcase : s ≤ ps + pn
            · go_wp2_with (go_at_call 34; refine (HF.out _ _ _ ⟨hs1, hs2⟩ ⟨hn1, hn2⟩).mono ?_; rintro e w1 ⟨rfl, hb1⟩; have hf1 := HF'.out; have hx0 := box_cell hb1 0; have hx1 := (hb1.cell (p := ⟨b, off + (k - 1) * 2, none⟩) (by simp; omega)).trans ((World.cell?_alloc_lt wr _ ⟨b, off + (k - 1) * 2, none⟩ (by simp; omega)).trans ((hB.cell (p := ⟨b, off + (k - 1) * 2, none⟩) hb).trans hd1)); have hx2 := (hb1.cell (p := ⟨b, off + (k - 1) * 2 + 1, none⟩) (by simp; omega)).trans ((World.cell?_alloc_lt wr _ ⟨b, off + (k - 1) * 2 + 1, none⟩ (by simp; omega)).trans ((hB.cell (p := ⟨b, off + (k - 1) * 2 + 1, none⟩) hb).trans hd2)))
              go_quiet (fail)
              go_wp2
              go_ret
              exact ⟨ret_int (chkL_end H0.out hlt (chkAt_3 HG hn' HF'.out hk0 HG2 hcase) (by omega)).symm, below_drewN (hB.trans (below_more hb1 hB.size)) _⟩
            · have hcase' : ps + pn < s := by omega
              clear hcase
              go_wp2_with (go_at_call 34; refine (HF.out _ _ _ ⟨hs1, hs2⟩ ⟨hn1, hn2⟩).mono ?_; rintro e w1 ⟨rfl, hb1⟩; have hf1 := HF'.out; have hx0 := box_cell hb1 0; have hx1 := (hb1.cell (p := ⟨b, off + (k - 1) * 2, none⟩) (by simp; omega)).trans ((World.cell?_alloc_lt wr _ ⟨b, off + (k - 1) * 2, none⟩ (by simp; omega)).trans ((hB.cell (p := ⟨b, off + (k - 1) * 2, none⟩) hb).trans hd1)); have hx2 := (hb1.cell (p := ⟨b, off + (k - 1) * 2 + 1, none⟩) (by simp; omega)).trans ((World.cell?_alloc_lt wr _ ⟨b, off + (k - 1) * 2 + 1, none⟩ (by simp; omega)).trans ((hB.cell (p := ⟨b, off + (k - 1) * 2 + 1, none⟩) hb).trans hd2)))
              go_quiet (fail)
              go_wp2
              go_roundw
              case rel => exact ⟨k + 1, by omega, by go_num, rfl, hid (chkL_next H0.out (chkAt_0 HG hn' HF'.out HG2 hcase')), below_drewN (hB.trans (below_more hb1 hB.size)) _⟩
              case measure => simp [intOf]; omega
          · obtain rfl : k = 0 := by omega
            simp only [Nat.zero_mul, Nat.add_zero] at hc1 hc2
            go_wp2_with (go_at_call 34; refine (HF.out _ _ _ ⟨hs1, hs2⟩ ⟨hn1, hn2⟩).mono ?_; rintro e w1 ⟨rfl, hb1⟩; have hf1 := HF'.out; have hx0 := box_cell hb1 0)
            go_quiet (fail)
            go_wp2
            go_roundw
            case rel => exact ⟨0 + 1, by omega, by go_num, rfl, hid (chkL_next H0.out (chkAt_00 HG hn' HF'.out)), below_drewN (hB.trans (below_more hb1 hB.size)) _⟩
            case measure => simp [intOf]; omega
    · obtain rfl : k = l.length := by omega
      go_wp2
      go_ret
      exact ⟨ret_int H0.out.symm, hB⟩

theorem check_any (l : List (Int × Int)) (v : Value) (size : Int) (w : World) (hv : Ext w v l) (hl : l.length ≤ 10000) (hs : R64 size) :
    Calls Try.prog 14 #[v, .int .i64 size] w fun e w' => e = .returned (.int .i64 (checkS size l)) ∧ Below w.heap.size w w' := by
  by_cases h0 : 0 ≤ size
  · by_cases h1 : size ≤ 4096
    · rw [checkS_in h0 h1]
      exact check_in l v size w hv hl h0 h1
    · have hc : checkS size l = 2 := by rw [checkS, if_pos (by omega)]
      rw [hc]
      clear hc
      obtain ⟨hs1, hs2⟩ := hs
      go_enter Try.func14, Try.ntmps14
      go_wp2
      go_ret
      exact ⟨rfl, Below.refl _ _⟩
  · have hc : checkS size l = 2 := by rw [checkS, if_pos (by omega)]
    rw [hc]
    clear hc
    obtain ⟨hs1, hs2⟩ := hs
    go_enter Try.func14, Try.ntmps14
    go_wp2
    go_ret
    exact ⟨rfl, Below.refl _ _⟩
end Go.Proofs.Ytkchenhkolpinaa

/- The calls of awake, each at its own arguments. -/
import Derived.Test.YtbifhcjkdfocaaaDoorZd
import Derived.Test.YtbifhcjkdfocaaaDoorZe
import Derived.Test.YtbifhcjkdfocaaaDoorZg
namespace Go.Proofs.YtbifhcjkdfocaaaDoor
open Go.RowKit

def wa0 : List Nat := [0, 0]
def wb0 : List Nat := [17293822569102704640, 15]
def wc0 : List Nat := [3458764513820540928, 15]
theorem good70 {ws : List Nat} (hl : ws.length = 2) (h : ∀ i, 70 ≤ i → i < 128 → bit ws i = false) : Good 70 ws := by
  refine ⟨by omega, by omega, by rw [hl]; decide, fun i hi => ?_⟩
  by_cases h2 : i < 128
  · exact h i (by omega) h2
  · exact bit_out (by omega)
theorem all_lt {p : Nat → Bool} {a b : Nat} (h : (List.range b).all (fun i => decide (i < a) || p i) = true) : ∀ i, a ≤ i → i < b → p i = true := fun i h1 h2 => by
  have := List.all_eq_true.1 h i (List.mem_range.2 h2)
  simpa [decide_eq_false (show ¬ i < a by omega)] using this
theorem good_a : Good 70 wa0 := good70 rfl (fun i h1 h2 => by have := all_lt (p := fun i => !bit wa0 i) (a := 70) (b := 128) (by decide +kernel) i h1 h2; simpa using this)
theorem good_b : Good 70 wb0 := good70 rfl (fun i h1 h2 => by have := all_lt (p := fun i => !bit wb0 i) (a := 70) (b := 128) (by decide +kernel) i h1 h2; simpa using this)
theorem good_c : Good 70 wc0 := good70 rfl (fun i h1 h2 => by have := all_lt (p := fun i => !bit wc0 i) (a := 70) (b := 128) (by decide +kernel) i h1 h2; simpa using this)
theorem wide_a : Wide wa0 := fun x hx => by simp [wa0] at hx; omega
theorem wide_b : Wide wb0 := fun x hx => by simp [wb0] at hx; omega
theorem wide_c : Wide wc0 := fun x hx => by simp [wc0] at hx; omega
theorem fe_60 : feErr 70 [(60, 8)] = 0 := by decide
theorem fe_62 : feErr 70 [(62, 2)] = 0 := by decide
theorem fe_69 : feErr 70 [(69, 2)] = 2 := by decide

theorem out_ok {w w' : World} {e : Ending} {p : Nat → Bool} {ws : List Nat} (hg : Good 70 ws) (hw : Wide ws) (hp : ∀ i, i < 70 → p i = bit ws i) (hl : ws.length = 2) (h : MadeB w 0 70 p e w') :
    ∃ A c, e = .returned (.tuple #[.agg #[.int .i64 70, .slice A 2 c], .int .i64 0]) ∧ Bm w' (.agg #[.int .i64 70, .slice A 2 c]) 70 ws ∧ Below w.heap.size w w' := by
  obtain ⟨v, us, rfl, hbm, hif, hb⟩ := h
  rw [if_pos rfl] at hbm hif
  have : us = ws := good_ext hif.1 hg hbm.2.1 hw (fun i hi => by rw [hif.2 i hi, hp i (by omega)])
  subst this
  obtain ⟨A, c, rfl⟩ := hbm.form
  rw [hl] at hbm ⊢
  exact ⟨A, c, rfl, hbm, hb⟩
theorem aw_new (w : World) : Calls Tryd.prog 13 #[.int .i64 70] w fun e w' => ∃ A c, e = .returned (.tuple #[.agg #[.int .i64 70, .slice A 2 c], .int .i64 0]) ∧ Bm w' (.agg #[.int .i64 70, .slice A 2 c]) 70 wa0 ∧ Below w.heap.size w w' :=
  (new_any 70 w).mono fun e w' h => by
    rw [newErr_ok (by omega) (by omega)] at h
    exact out_ok good_a wide_a (fun i hi => by have := all_lt (p := fun i => !bit wa0 i) (a := 0) (b := 70) (by decide +kernel) i (Nat.zero_le _) hi; simpa using this) rfl h
theorem aw_set (v : Value) (w : World) (hv : Bm w v 70 wa0) : Calls Tryd.prog 24 #[v, .agg #[.int .i64 60, .int .i64 8]] w fun e w' => ∃ A c, e = .returned (.tuple #[.agg #[.int .i64 70, .slice A 2 c], .int .i64 0]) ∧ Bm w' (.agg #[.int .i64 70, .slice A 2 c]) 70 wb0 ∧ Below w.heap.size w w' :=
  (set_any 70 60 8 wa0 v w hv ⟨by omega, by omega⟩ ⟨by omega, by omega⟩).mono fun e w' h => by
    rw [chg_good (chk_good good_a), fe_60] at h
    exact out_ok good_b wide_b (fun i hi => by have := all_lt (p := fun i => (bit wa0 i || inL [(60, 8)] i) == bit wb0 i) (a := 0) (b := 70) (by decide +kernel) i (Nat.zero_le _) hi; simpa using this) rfl h
theorem aw_clear (v : Value) (w : World) (hv : Bm w v 70 wb0) : Calls Tryd.prog 26 #[v, .agg #[.int .i64 62, .int .i64 2]] w fun e w' => ∃ A c, e = .returned (.tuple #[.agg #[.int .i64 70, .slice A 2 c], .int .i64 0]) ∧ Bm w' (.agg #[.int .i64 70, .slice A 2 c]) 70 wc0 ∧ Below w.heap.size w w' :=
  (clear_any 70 62 2 wb0 v w hv ⟨by omega, by omega⟩ ⟨by omega, by omega⟩).mono fun e w' h => by
    rw [chg_good (chk_good good_b), fe_62] at h
    exact out_ok good_c wide_c (fun i hi => by have := all_lt (p := fun i => (bit wb0 i && !inL [(62, 2)] i) == bit wc0 i) (a := 0) (b := 70) (by decide +kernel) i (Nat.zero_le _) hi; simpa using this) rfl h
theorem aw_set2 (v : Value) (w : World) (hv : Bm w v 70 wa0) : Calls Tryd.prog 24 #[v, .agg #[.int .i64 69, .int .i64 2]] w fun e w' => ∃ A n c, e = .returned (.tuple #[.agg #[.int .i64 0, .slice A n c], .int .i64 2]) ∧ Below w.heap.size w w' :=
  (set_any 70 69 2 wa0 v w hv ⟨by omega, by omega⟩ ⟨by omega, by omega⟩).mono fun e w' h => by
    rw [chg_good (chk_good good_a), fe_69] at h
    obtain ⟨v, us, rfl, hbm, hif, hb⟩ := h
    rw [if_neg (by omega)] at hbm
    obtain ⟨A, c, rfl⟩ := hbm.form
    exact ⟨A, _, c, rfl, hb⟩
theorem exts_c : exts 70 wc0 = [(60, 2), (64, 4)] := by
  have h := exts_good (s := 70) (ws := wc0) (chk_good good_c)
  rw [show ((70 : Nat) : Int) = 70 from rfl] at h
  rw [h]
  decide +kernel
theorem aw_exts (v : Value) (w : World) (hv : Bm w v 70 wc0) (hT : Tab w) : Calls Tryd.prog 37 #[v] w fun e w' => ∃ va, e = .returned va ∧ Ext w' va [(60, 2), (64, 4)] ∧ Below w.heap.size w w' := by
  have := extents_any 70 wc0 v w hv hT
  rw [exts_c] at this
  exact this
theorem aw_next (q : Int) (r : Int) (hq : q = 0 ∧ r = 60 ∨ q = 68 ∧ r = -1) (v : Value) (w : World) (hv : Bm w v 70 wb0) (hT : Tab w) : Calls Tryd.prog 22 #[v, .int .i64 q] w fun e w' => e = .returned (.int .i64 r) ∧ Below w.heap.size w w' := by
  have h := next_any 70 wb0 v q w hv hT (by unfold R64; omega)
  have hr : nextB 70 wb0 q = r := by
    rcases hq with ⟨rfl, rfl⟩ | ⟨rfl, rfl⟩
    · rw [show (70 : Int) = ((70 : Nat) : Int) from rfl, nextB_good (m := 0) (chk_good good_b) (by decide)]
      decide +kernel
    · rw [show (70 : Int) = ((70 : Nat) : Int) from rfl, nextB_good (m := 68) (chk_good good_b) (by decide)]
      decide +kernel
  rw [hr] at h
  exact h
theorem aw_count (v : Value) (w : World) (hv : Bm w v 70 wb0) : Calls Tryd.prog 20 #[v] w fun e w' => e = .returned (.int .i64 8) ∧ Below w.heap.size w w' := by
  have h := count_any 70 wb0 v w hv
  have hr : cnt 70 wb0 = 8 := by
    rw [show (70 : Int) = ((70 : Nat) : Int) from rfl, cnt_good (chk_good good_b)]
    decide +kernel
  rw [hr] at h
  exact h
theorem aw_check (v : Value) (w : World) (hv : Bm w v 3 [8]) : Calls Tryd.prog 16 #[v] w fun e w' => e = .returned (.int .i64 3) ∧ Below w.heap.size w w' := by
  have h := check_any 3 [8] v w hv
  rw [chk_bad (fun hg => by have := hg.clean 3 (by omega); revert this; decide)] at h
  exact h
theorem aw_same (v u : Value) (w : World) (hv : Ext w v [(60, 2), (64, 4)]) (hu : Ext w u [(60, 2), (64, 4)]) : Calls Tryd.prog 36 #[v, u] w fun e w' => e = .returned (.bool true) ∧ Below w.heap.size w w' :=
  sameExt_true _ v u w hv hu (by decide)
end Go.Proofs.YtbifhcjkdfocaaaDoor

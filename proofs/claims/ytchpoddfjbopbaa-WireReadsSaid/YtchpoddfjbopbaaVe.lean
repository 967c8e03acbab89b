/- SameWrites. -/
import Derived.Test.YtchpoddfjbopbaaVd
namespace Go.Proofs.Ytchpoddfjbopbaa
open Go.RowKit Go.Lib

/-- Two writes are equal, whatever their slices. -/
def sameW (x y : Wri) : Bool := decide (x.v = y.v) && (decide (x.s = y.s) && decide (x.l = y.l))
def sameL (xs ys : List Wri) : Prop := xs.length = ys.length ∧ ∀ (i : Nat) (x y : Wri), xs[i]? = some x → ys[i]? = some y → sameW x y = true
set_option maxHeartbeats 4000000 in
set_option maxRecDepth 100000 in
theorem sameWris_true (xs ys : List Wri) (v u : Value) (w : World) (hv : WrsA w v xs) (hu : WrsA w u ys) (hs : sameL xs ys) :
    Calls Try.prog 41 #[v, u] w (SaysQ true w) := by
  obtain ⟨hX, C1, k1, rfl, hcap1, hcm1, b1, o1, hA1, hc1⟩ := hv
  obtain ⟨hY, C2, k2, rfl, hcap2, hcm2, b2, o2, hA2, hc2⟩ := hu
  unfold maxLen at hcm1 hcm2
  rw [List.length_map] at hcap1 hA1 hcap2 hA2 ⊢
  rw [List.length_map]
  have HC1 := hid hc1
  have HC2 := hid hc2
  have HX := hid hX
  have HY := hid hY
  have HS := hid hs.2
  have d1 : ((xs.length : Int) != (ys.length : Int)) = false := by rw [hs.1]; simp
  have HLEN := hid hs.1
  clear hc1 hc2 hX hY hs
  go_enter Try.func41, Try.ntmps41
  go_wp2
  go_loopw [5] (fun i wr => ∃ k : Nat, k ≤ xs.length ∧ i = .int .i64 (k : Int) ∧ Hid (∃ q, wr = w.drewN q)) (fun i _ => xs.length - (Go.RowKit.intOf i).toNat)
  case atStart => exact ⟨0, by omega, rfl, hid ⟨0, rfl⟩⟩
  case round =>
    obtain ⟨k, hk, rfl, HR⟩ := hrel
    obtain ⟨q, hq⟩ := HR.out
    have hcell : ∀ a, wr.cell? a = w.cell? a := fun a => by rw [hq]; rfl
    have hbw : Below w.heap.size w wr := by rw [hq]; exact ⟨rfl, rfl, rfl, Nat.le_refl _, fun _ _ => rfl⟩
    by_cases hkl : k < xs.length
    · have hl2 : k < ys.length := by have := HLEN.out; omega
      obtain ⟨e1, hb1⟩ := hA1 (by omega)
      obtain ⟨e2, hb2⟩ := hA2 (by omega)
      subst e1 e2
      obtain ⟨x, hx⟩ : ∃ x, xs[k]? = some x := ⟨xs[k], List.getElem?_eq_getElem hkl⟩
      obtain ⟨y, hy⟩ : ∃ y, ys[k]? = some y := ⟨ys[k], List.getElem?_eq_getElem hl2⟩
      have hr1 : ∀ (j : Nat) (z : Value), (cWri x)[j]? = some z → wr.cell? ⟨b1, o1 + k * 3 + j, none⟩ = some z := fun j z hz => (hcell _).trans (HC1.out k _ (by rw [List.getElem?_map, hx]; rfl) j z hz)
      have hr2 : ∀ (j : Nat) (z : Value), (cWri y)[j]? = some z → wr.cell? ⟨b2, o2 + k * 3 + j, none⟩ = some z := fun j z hz => (hcell _).trans (HC2.out k _ (by rw [List.getElem?_map, hy]; rfl) j z hz)
      have hsx := HX.out x (List.mem_of_getElem? hx)
      have hsy := HY.out y (List.mem_of_getElem? hy)
      have hsm := HS.out k x y hx hy
      obtain ⟨x0, x1, x2, x3⟩ := x
      obtain ⟨y0, y1, y2, y3⟩ := y
      unfold sameW at hsm
      simp only [Bool.and_eq_true, decide_eq_true_eq] at hsm
      obtain ⟨h0, h1, h2⟩ := hsm
      subst h0 h1 h2
      have q0 : wr.cell? ⟨b1, o1 + k * 3, none⟩ = some (.int .i64 x0) := hr1 0 _ rfl
      have q1 : wr.cell? ⟨b1, o1 + k * 3 + 1, none⟩ = some (.int .i64 x1) := hr1 1 _ rfl
      have q2 : wr.cell? ⟨b1, o1 + k * 3 + 2, none⟩ = some x2 := hr1 2 _ rfl
      have p0 : wr.cell? ⟨b2, o2 + k * 3, none⟩ = some (.int .i64 x0) := hr2 0 _ rfl
      have p1 : wr.cell? ⟨b2, o2 + k * 3 + 1, none⟩ = some (.int .i64 x1) := hr2 1 _ rfl
      have p2 : wr.cell? ⟨b2, o2 + k * 3 + 2, none⟩ = some y2 := hr2 2 _ rfl
      dsimp only at hsx hsy
      obtain ⟨A1, c1, rfl⟩ := sec_form hsx
      obtain ⟨A2, c2, rfl⟩ := sec_form hsy
      have g0 : (x0 != x0) = false := by simp
      have g1 : (x1 != x1) = false := by simp
      have hbn : ∀ n, Below w.heap.size w (wr.drewN n) := fun n => ⟨hbw.os, hbw.tape, hbw.output, hbw.size, hbw.block⟩
      have HQ := hid (fun (n : Nat) => show Calls Try.prog 77 #[.slice A1 x3.length c1, .slice A2 x3.length c2] (wr.drewN n) (fun e w' => e = .returned (.bool true) ∧ ∃ m, w' = (wr.drewN n).drewN m) from by
        have h := eqSame_any x3 x3 _ _ (wr.drewN n) (hsx.2.below (hbn n)) (hsy.2.below (hbn n)) hsx.1 hsy.1
        rw [decide_eq_true rfl] at h
        exact h)
      have HRn := hid (fun (n : Nat) => show ∃ q', wr.drewN n = w.drewN q' from ⟨q + n, by rw [hq]; simp⟩)
      clear hbn hcell hq hbw HR hr1 hr2 hx hy hsx hsy
      go_wp2_with fail
      go_quiet ((go_at_call 77; exact Calls.quiet_of (HQ.out _)))
      go_wp2
      go_roundw
      case rel => exact ⟨k + 1, by omega, by go_num, hid (HRn.out _)⟩
      case measure => simp [Go.RowKit.intOf]; omega
    · obtain rfl : k = xs.length := by omega
      clear hcell hq hbw
      go_wp2
      go_ret
      exact ⟨rfl, HR.out⟩
end Go.Proofs.Ytchpoddfjbopbaa

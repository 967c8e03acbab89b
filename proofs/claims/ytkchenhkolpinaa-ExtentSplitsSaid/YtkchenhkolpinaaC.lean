/- The reference's Check and Same. -/
import Derived.Test.YtkchenhkolpinaaB
import Derived.Laws.StructEq
import Derived.KernelRfl
namespace Go.Proofs.Ytkchenhkolpinaa
open Go.RowKit

set_option maxHeartbeats 400000 in
theorem within_any (s n size : Int) (w : World) (hs : R64 s) (hn : R64 n) (hp : 0 < n) (h0 : 0 ≤ size) (h1 : size ≤ 4096) :
    Calls Try.prog 35 #[.agg #[.int .i64 s, .int .i64 n], .int .i64 size] w fun e w' => e = .returned (.bool (fitsB s n size)) ∧ Below w.heap.size w w' := by
  obtain ⟨hs1, hs2⟩ := hs
  obtain ⟨hn1, hn2⟩ := hn
  by_cases h : 0 ≤ s
  · by_cases h' : n ≤ size - s
    · have hb : fitsB s n size = true := by simp [fitsB]; omega
      have hx : s ≤ size - n := by omega
      rw [hb]
      clear hb
      go_enter Try.func35, Try.ntmps35
      go_wp2
      go_ret
      exact ⟨rfl, (Below.refl _ _).alloc (Nat.le_refl _) _⟩
    · have hb : fitsB s n size = false := by simp [fitsB]; omega
      rw [hb]
      clear hb
      have hx : ¬ s ≤ size - n := by omega
      by_cases h2 : n ≤ size
      · go_enter Try.func35, Try.ntmps35
        go_wp2
        go_ret
        exact ⟨rfl, (Below.refl _ _).alloc (Nat.le_refl _) _⟩
      · go_enter Try.func35, Try.ntmps35
        go_wp2
        go_ret
        exact ⟨rfl, (Below.refl _ _).alloc (Nat.le_refl _) _⟩
  · have hb : fitsB s n size = false := by simp [fitsB]; omega
    rw [hb]
    clear hb
    go_enter Try.func35, Try.ntmps35
    go_wp2
    go_ret
    exact ⟨rfl, (Below.refl _ _).alloc (Nat.le_refl _) _⟩

/-- The last sector before element k, or -2. -/
def lastOf (l : List (Int × Int)) (k : Nat) : Int := if k = 0 then -2 else (l.getD (k - 1) (0, 0)).1 + (l.getD (k - 1) (0, 0)).2 - 1
theorem lastOf_succ {s n : Int} {l : List (Int × Int)} {k : Nat} (hg : Hid (l.getD k (0, 0) = (s, n))) : s + n - 1 = lastOf l (k + 1) := by
  unfold lastOf; rw [if_neg (by omega), Nat.add_sub_cancel, hg.out]
theorem chkAt_3' {size s n t : Int} {l : List (Int × Int)} {k : Nat} (hg : Hid (l.getD k (0, 0) = (s, n))) (hn : 0 < n) (hf : fitsB s n size = true) (ht : Hid (lastOf l k = t)) (h0 : 0 ≤ s) (hs : s < t + 2) : chkAt size l k = 3 := by
  have ht := ht.out
  unfold lastOf at ht
  by_cases hk : k = 0
  · rw [if_pos hk] at ht; omega
  · rw [if_neg hk] at ht
    rw [chkAt, hg.out, if_neg (by omega), if_neg (by simp [hf]), if_pos ⟨by omega, by dsimp only; omega⟩]
theorem chkAt_0' {size s n t : Int} {l : List (Int × Int)} {k : Nat} (hg : Hid (l.getD k (0, 0) = (s, n))) (hn : 0 < n) (hf : fitsB s n size = true) (ht : Hid (lastOf l k = t)) (hs : t + 2 ≤ s) : chkAt size l k = 0 := by
  have ht := ht.out
  unfold lastOf at ht
  by_cases hk : k = 0
  · rw [chkAt, hg.out, if_neg (by omega), if_neg (by simp [hf]), if_neg (fun h => by omega)]
  · rw [if_neg hk] at ht
    rw [chkAt, hg.out, if_neg (by omega), if_neg (by simp [hf]), if_neg (fun h => by have := h.2; dsimp only at this; omega)]

set_option maxHeartbeats 2000000 in
theorem rcheck_in (l : List (Int × Int)) (v : Value) (size : Int) (w : World) (hv : Ext w v l) (hl : l.length ≤ 10000) (h0 : 0 ≤ size) (h1 : size ≤ 4096) :
    Calls Try.prog 15 #[v, .int .i64 size] w fun e w' => e = .returned (.int .i64 (chkL size l l.length)) ∧ Below w.heap.size w w' := by
  obtain ⟨hr, A, cap, rfl, hcap, hcm, b, off, hA, hc⟩ := hv
  have hd0 : decide (size < 0) = false := by simp; omega
  have hd1 : decide (4096 < size) = false := by simp; omega
  have hfits := fun (s n : Int) (W : World) (hs : R64 s) (hn : R64 n) (hp : 0 < n) => within_any s n size W hs hn hp h0 h1
  have HF := hid hfits
  clear hfits
  have HR := hid hr
  clear hr
  have HC := hid hc
  clear hc
  go_enter Try.func15, Try.ntmps15
  go_wp2
  go_loopw [4, 5, 6] (fun r t i wr => ∃ (k : Nat) (p : Int), k ≤ l.length ∧ i = .int .i64 k ∧ t = .int .i64 p ∧ r = .int .i64 0 ∧ Hid (lastOf l k = p) ∧ -2 ≤ p ∧ p ≤ 4096 ∧ Hid (chkL size l k = 0) ∧ Below w.heap.size w wr) (fun _ _ i _ => l.length - (intOf i).toNat)
  case atStart => exact ⟨0, -2, Nat.zero_le _, rfl, rfl, rfl, hid rfl, by omega, by omega, hid rfl, Below.refl _ _⟩
  case round =>
    obtain ⟨k, p, hk, rfl, rfl, rfl, HL, hp1, hp2, H0, hB⟩ := hrel
    have hBs := hB.size
    by_cases hlt : k < l.length
    · obtain ⟨hA1, hb⟩ := hA (by omega)
      subst hA1
      obtain ⟨⟨s, n⟩, he⟩ : ∃ e, l[k]? = some e := ⟨l[k], List.getElem?_eq_getElem hlt⟩
      have hg : l.getD k (0, 0) = (s, n) := by simp [List.getD, he]
      obtain ⟨⟨hs1, hs2⟩, hn1, hn2⟩ := HR.out (s, n) (List.mem_of_getElem? he)
      have hc1 := (hB.cell (p := ⟨b, off + k * 2, none⟩) hb).trans (HC.out k _ he).1
      have hc2 := (hB.cell (p := ⟨b, off + k * 2 + 1, none⟩) hb).trans (HC.out k _ he).2
      have HG := hid hg
      clear hg he
      dsimp only at hc1 hc2 hs1 hs2 hn1 hn2
      by_cases hn : n ≤ 0
      · go_wp2
        go_ret
        exact ⟨ret_int (chkL_end H0.out hlt (chkAt_1 HG hn) (by omega)).symm, hB⟩
      · have hn' : 0 < n := by omega
        by_cases hf : fitsB s n size = false
        · go_wp2_with (go_at_call 35; refine (HF.out _ _ _ ⟨hs1, hs2⟩ ⟨hn1, hn2⟩ hn').mono ?_; rintro e w1 ⟨rfl, hb1⟩; have hf1 := hf)
          go_ret
          exact ⟨ret_int (chkL_end H0.out hlt (chkAt_2 HG hn' hf) (by omega)).symm, hB.trans (hb1.mono hB.size)⟩
        · have hf' : fitsB s n size = true := by simpa using hf
          have ⟨hf1, hf2⟩ : 0 ≤ s ∧ n ≤ size - s := by simpa [fitsB] using hf'
          have HF' := hid hf'
          clear hf hf' hn
          by_cases hcase : s < p + 2
          · go_wp2_with (go_at_call 35; refine (HF.out _ _ _ ⟨hs1, hs2⟩ ⟨hn1, hn2⟩ hn').mono ?_; rintro e w1 ⟨rfl, hb1⟩; have hff := HF'.out; have hx1 := (hb1.cell (p := ⟨b, off + k * 2, none⟩) (by simp; omega)).trans hc1; have hx2 := (hb1.cell (p := ⟨b, off + k * 2 + 1, none⟩) (by simp; omega)).trans hc2)
            go_ret
            exact ⟨ret_int (chkL_end H0.out hlt (chkAt_3' HG hn' HF'.out HL hf1 hcase) (by omega)).symm, hB.trans (hb1.mono hB.size)⟩
          · have hcase' : p + 2 ≤ s := by omega
            clear hcase
            go_wp2_with (go_at_call 35; refine (HF.out _ _ _ ⟨hs1, hs2⟩ ⟨hn1, hn2⟩ hn').mono ?_; rintro e w1 ⟨rfl, hb1⟩; have hff := HF'.out; have hx1 := (hb1.cell (p := ⟨b, off + k * 2, none⟩) (by simp; omega)).trans hc1; have hx2 := (hb1.cell (p := ⟨b, off + k * 2 + 1, none⟩) (by simp; omega)).trans hc2)
            go_quiet (fail)
            go_wp2
            go_roundw
            case rel => exact ⟨k + 1, s + n - 1, by omega, by go_num, rfl, rfl, hid (lastOf_succ HG).symm, by omega, by omega, hid (chkL_next H0.out (chkAt_0' HG hn' HF'.out HL hcase')), below_drewN (hB.trans (hb1.mono hB.size)) _⟩
            case measure => simp [intOf]; omega
    · obtain rfl : k = l.length := by omega
      go_wp2
      go_ret
      exact ⟨ret_int H0.out.symm, hB⟩

theorem rcheck_any (l : List (Int × Int)) (v : Value) (size : Int) (w : World) (hv : Ext w v l) (hl : l.length ≤ 10000) (hs : R64 size) :
    Calls Try.prog 15 #[v, .int .i64 size] w fun e w' => e = .returned (.int .i64 (checkS size l)) ∧ Below w.heap.size w w' := by
  by_cases h0 : 0 ≤ size
  · by_cases h1 : size ≤ 4096
    · rw [checkS_in h0 h1]
      exact rcheck_in l v size w hv hl h0 h1
    · have hc : checkS size l = 2 := by rw [checkS, if_pos (by omega)]
      rw [hc]
      clear hc
      obtain ⟨hs1, hs2⟩ := hs
      go_enter Try.func15, Try.ntmps15
      go_wp2
      go_ret
      exact ⟨rfl, Below.refl _ _⟩
  · have hc : checkS size l = 2 := by rw [checkS, if_pos (by omega)]
    rw [hc]
    clear hc
    obtain ⟨hs1, hs2⟩ := hs
    go_enter Try.func15, Try.ntmps15
    go_wp2
    go_ret
    exact ⟨rfl, Below.refl _ _⟩

theorem fields44 : Try.prog.underlying 44 = some (.struct (Try.prog.fieldsOf 44)) := by kernel_rfl
theorem stood44 : Try.prog.stoodInHeld 44 = false := by kernel_rfl
@[go_sem] theorem guard44 : Try.prog.eqGuardType Try.prog.depth 44 = false := by kernel_rfl
theorem eq44 (a b c d : Int) (w : World) : (Op.equalIn 10000 44 (.agg #[.int .i64 a, .int .i64 b]) (.agg #[.int .i64 c, .int .i64 d])).run Try.prog w = .ok (a == c && b == d) w := by
  have u3 := Try.underlying3
  rw [show (10000 : Nat) = 9999 + 1 from rfl, run_equalIn_agg w 9999 44 _ _ fields44 stood44]
  simp only [Program.fieldsOf, Try.underlying44]
  go_simp
  by_cases h1 : a = c <;> by_cases h2 : b = d <;> simp [h1, h2]
theorem neq44 (a b c d : Int) (w : World) : (binOp .neq 44 (.agg #[.int .i64 a, .int .i64 b]) (.agg #[.int .i64 c, .int .i64 d])).run Try.prog w = .ok (.bool (!(a == c && b == d))) w := by
  rw [run_neq_struct, eq44]; rfl

theorem ret_bool {a b : Bool} (h : a = b) : Ending.returned (.bool a) = .returned (.bool b) := by rw [h]
theorem list_same {l m : List (Int × Int)} {k : Nat} (h : ∀ j, j < k → l[j]? = m[j]?) (h1 : l.length ≤ k) (h2 : m.length ≤ k) : l = m := by
  apply List.ext_getElem?
  intro j
  rcases Nat.lt_or_ge j k with hj | hj
  · exact h j hj
  · rw [List.getElem?_eq_none (by omega), List.getElem?_eq_none (by omega)]

theorem list_differ {l m : List (Int × Int)} {k : Nat} {s n s' n' : Int} (HE : Hid (l[k]? = some (s, n))) (HE' : Hid (m[k]? = some (s', n'))) (HX : Hid (¬ (s = s' ∧ n = n'))) : decide (l = m) = false := by
  simp only [decide_eq_false_iff_not]
  rintro rfl
  have := HE.out
  rw [HE'.out] at this
  simp only [Option.some.injEq, Prod.mk.injEq] at this
  exact HX.out ⟨this.1.symm, this.2.symm⟩

set_option maxHeartbeats 1000000 in
theorem same_any (l m : List (Int × Int)) (v u : Value) (w : World) (hv : Ext w v l) (hu : Ext w u m) (hl : l.length ≤ 10000) (_hm : m.length ≤ 10000) :
    Calls Try.prog 18 #[v, u] w fun e w' => e = .returned (.bool (decide (l = m))) ∧ Below w.heap.size w w' := by
  obtain ⟨hr, A, cap, rfl, hcap, hcm, b, off, hA, hc⟩ := hv
  obtain ⟨hr', A', cap', rfl, hcap', hcm', b', off', hA', hc'⟩ := hu
  have HC := hid hc
  have HC' := hid hc'
  clear hc hc' hr hr'
  by_cases hlen : l.length = m.length
  · have hne : ((l.length : Int) != (m.length : Int)) = false := by simp [hlen]
    have hle : m.length ≤ l.length := by omega
    have hle' : l.length ≤ m.length := by omega
    clear hlen
    go_enter Try.func18, Try.ntmps18
    go_wp2
    go_loopw [5] (fun i wr => ∃ (k : Nat), k ≤ l.length ∧ i = .int .i64 k ∧ Hid (∀ j, j < k → l[j]? = m[j]?) ∧ ∃ q, wr = w.drewN q) (fun i _ => l.length - (intOf i).toNat)
    case atStart => exact ⟨0, Nat.zero_le _, rfl, hid (fun j hj => by omega), 0, rfl⟩
    case round =>
      obtain ⟨k, hk, rfl, H0, q, rfl⟩ := hrel
      by_cases hlt : k < l.length
      · obtain ⟨hA1, hb⟩ := hA (by omega)
        subst hA1
        obtain ⟨hA1', hb'⟩ := hA' (by omega)
        subst hA1'
        obtain ⟨⟨s, n⟩, he⟩ : ∃ e, l[k]? = some e := ⟨l[k], List.getElem?_eq_getElem hlt⟩
        obtain ⟨⟨s', n'⟩, he'⟩ : ∃ e, m[k]? = some e := ⟨m[k]'(by omega), List.getElem?_eq_getElem (by omega)⟩
        have hc1 := (HC.out k _ he).1
        have hc2 := (HC.out k _ he).2
        have hc3 := (HC'.out k _ he').1
        have hc4 := (HC'.out k _ he').2
        have HE := hid he
        have HE' := hid he'
        have hklt : k < m.length := by omega
        clear he he'
        dsimp only at hc1 hc2 hc3 hc4
        have hq := fun W => neq44 s n s' n' W
        by_cases hx : s = s' ∧ n = n'
        · obtain ⟨hx1, hx2⟩ := hx
          subst hx1
          subst hx2
          go_wp2
          go_quiet (fail)
          go_wp2
          go_roundw
          case rel => exact ⟨k + 1, by omega, by go_num, hid (fun j hj => by
            rcases Nat.lt_or_ge j k with h | h
            · exact H0.out j h
            · obtain rfl : j = k := by omega
              rw [HE.out, HE'.out]), _, rfl⟩
          case measure => simp [intOf]; omega
        · have hbb : (s == s' && n == n') = false := by
            cases hh : (s == s' && n == n') with
            | false => rfl
            | true => simp at hh; exact absurd hh hx
          have HX := hid hx
          clear hx
          go_wp2
          go_quiet (fail)
          go_wp2
          go_ret
          exact ⟨ret_bool (list_differ HE HE' HX).symm, below_drewN (below_drewN (Below.refl _ _) _) _⟩
      · have hd : decide (l = m) = true := by
          simp only [decide_eq_true_eq]
          exact list_same H0.out (by omega) (by omega)
        have HD := hid hd
        clear hd
        obtain rfl : k = l.length := by omega
        go_wp2
        go_ret
        exact ⟨ret_bool HD.out.symm, below_drewN (Below.refl _ _) _⟩
  · have hne : ((l.length : Int) != (m.length : Int)) = true := by rw [bne_iff_ne]; omega
    have hd : decide (l = m) = false := by simp; intro h; exact hlen (by rw [h])
    rw [hd]
    clear hlen hd
    go_enter Try.func18, Try.ntmps18
    go_wp2
    go_ret
    exact ⟨rfl, Below.refl _ _⟩
end Go.Proofs.Ytkchenhkolpinaa

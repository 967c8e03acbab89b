/- Images as arguments; checkSizes, sizesOf, Check, exists, inside. -/
import Derived.Test.YtbcnikmhodkbfaaB
import Derived.Laws.MakeOwn
namespace Go.Proofs.Ytbcnikmhodkbfaa
open Go.RowKit Go.Lib

/-- A volume: the slice that leads to it, and its sectors. -/
structure Vol where
  d : Value
  l : List Sect
def cVol (x : Vol) : List Value := [x.d]
/-- The value v reads as the volumes xs. -/
def Img (w : World) (v : Value) (xs : List Vol) : Prop := (∀ x ∈ xs, Sec w x.d x.l ∧ NilOk x.d) ∧ Arr w v 1 (xs.map cVol)
theorem Img.below {w w' : World} {v : Value} {xs : List Vol} (h : Img w v xs) (hb : Below w.heap.size w w') : Img w' v xs := ⟨fun x hx => ⟨(h.1 x hx).1.below hb, (h.1 x hx).2⟩, h.2.below hb⟩
theorem img_form {w : World} {v : Value} {xs : List Vol} (h : Img w v xs) : ∃ A c, v = .slice A xs.length c := by
  obtain ⟨A, c, e⟩ := arr_form h.2
  rw [List.length_map] at e
  exact ⟨A, c, e⟩
def con (xs : List Vol) : List (List Sect) := xs.map (·.l)
def siz (L : List (List Sect)) : List Int := L.map fun l => (l.length : Int)
def szB (x : Int) : Bool := decide (1 ≤ x ∧ x ≤ 4096)
def chkS (l : List Int) : Int := if l.length < 1 ∨ 8 < l.length then 6 else if l.all szB = true then 0 else 2
theorem ret_eq {a b : Int} (h : a = b) : Ending.returned (.int .i64 a) = .returned (.int .i64 b) := by rw [h]
theorem ret_b {a b : Bool} (h : a = b) : Ending.returned (.bool a) = .returned (.bool b) := by rw [h]
theorem int_eq {k : IntKind} {a b : Int} (h : a = b) : Value.int k a = .int k b := by rw [h]
/-- The cells of a row at its places. -/
theorem arr_at1 {w : World} {A : Option Addr} {n c st : Nat} {rows : List (List Value)} (h : Arr w (.slice A n c) st rows) (hp : 0 < rows.length) : ∃ b off, A = some ⟨b, off, none⟩ ∧ b < w.heap.size ∧ ∀ (i : Nat) (r : List Value), rows[i]? = some r → ∀ (j : Nat) (u : Value), r[j]? = some u → w.cell? ⟨b, off + i * st + j, none⟩ = some u := by
  obtain ⟨A', c', e, h1, h2, b, off, hA, hc⟩ := h
  injection e with e1 e2 e3
  subst e1
  exact ⟨b, off, (hA hp).1, (hA hp).2, hc⟩
theorem arr_cap {w : World} {A : Option Addr} {n c st : Nat} {rows : List (List Value)} (h : Arr w (.slice A n c) st rows) : n = rows.length ∧ n ≤ c ∧ c ≤ 9223372036854775807 := by
  obtain ⟨A', c', e, h1, h2, _⟩ := h
  injection e with e1 e2 e3
  subst e3
  unfold maxLen at h2
  omega

set_option maxHeartbeats 2000000 in
set_option maxRecDepth 100000 in
theorem checkSizes_any (l : List Int) (v : Value) (w : World) (hv : Arr w v 1 (l.map cInt)) :
    Calls Try.prog 43 #[v] w fun e w' => e = .returned (.int .i64 (chkS l)) ∧ w = w' := by
  obtain ⟨A, c, rfl⟩ := arr_form hv
  obtain ⟨_, hc1, hc2⟩ := arr_cap hv
  have HV := hid hv
  rw [List.length_map] at HV hc1 ⊢
  obtain ⟨n, hn⟩ : ∃ n, l.length = n := ⟨_, rfl⟩
  have HN := hid hn
  rw [hn] at HV hc1 ⊢
  clear hv hn
  by_cases hbad : n < 1 ∨ 8 < n
  · have HE : Hid (chkS l = 6) := hid (by unfold chkS; rw [HN.out, if_pos hbad])
    rcases Nat.lt_or_ge n 1 with h | h
    · obtain rfl : n = 0 := by omega
      clear hbad h
      go_enter Try.func43, Try.ntmps43
      go_wp2
      go_ret
      exact ⟨ret_eq HE.out.symm, rfl⟩
    · have d1 : decide ((n : Int) < 1) = false := by simp; omega
      have d2 : decide ((8 : Int) < (n : Int)) = true := by simp; omega
      clear hbad h
      go_enter Try.func43, Try.ntmps43
      go_wp2
      go_ret
      exact ⟨ret_eq HE.out.symm, rfl⟩
  · have d1 : decide ((n : Int) < 1) = false := by simp; omega
    have d2 : decide ((8 : Int) < (n : Int)) = false := by simp; omega
    have hn1 : 1 ≤ n := by omega
    have hn8 : n ≤ 8 := by omega
    obtain ⟨b, off, rfl, hb, hcell⟩ := arr_at1 HV.out (by rw [List.length_map, HN.out]; omega)
    have HC := hid hcell
    have HBAD := hid hbad
    clear hcell hbad
    go_enter Try.func43, Try.ntmps43
    go_wp2_with fail
    go_loop [15] (fun i => ∃ k : Nat, k ≤ n ∧ i = .int .i64 (k : Int) ∧ Hid ((l.take k).all szB = true)) (fun i => n - (Go.RowKit.intOf i).toNat)
    case atStart => exact ⟨0, Nat.zero_le _, rfl, hid rfl⟩
    case round =>
      obtain ⟨k, hk, rfl, HT⟩ := hrel
      by_cases hkn : k < n
      · obtain ⟨x, hx⟩ : ∃ x, l[k]? = some x := ⟨l[k]'(by rw [HN.out]; exact hkn), List.getElem?_eq_getElem _⟩
        have hcx : w.cell? ⟨b, off + k, none⟩ = some (.int .i64 x) := by
          have h := HC.out k _ (by rw [List.getElem?_map, hx]; rfl) 0 _ rfl
          rwa [Nat.mul_one, Nat.add_zero] at h
        have hkc : (k : Int) < (n : Int) := by omega
        have HX := hid hx
        clear hx
        by_cases hz : szB x = true
        · have hz' := of_decide_eq_true hz
          have e1 : decide (x < 1) = false := by simp; omega
          have e2 : decide (4096 < x) = false := by simp; omega
          have HT2 : Hid ((l.take (k + 1)).all szB = true) := hid (by
            obtain ⟨hlt, rfl⟩ := List.getElem?_eq_some_iff.1 HX.out
            rw [List.take_succ_eq_append_getElem hlt, List.all_append, HT.out]; simpa using hz)
          clear hz hz'
          go_wp2
          go_round
          case rel => exact ⟨k + 1, by omega, by go_num, HT2⟩
          case measure => simp [Go.RowKit.intOf]; omega
        · have hz' := of_decide_eq_false (by simpa using hz : szB x = false)
          have HE : Hid (chkS l = 2) := hid (by
            unfold chkS
            rw [HN.out, if_neg HBAD.out, if_neg]
            intro h
            exact hz (List.all_eq_true.1 h x (List.mem_of_getElem? HX.out)))
          clear hz
          by_cases h1 : x < 1
          · have e1 : decide (x < 1) = true := by simpa using h1
            clear hz' h1
            go_wp2
            go_ret
            exact ⟨ret_eq HE.out.symm, rfl⟩
          · have e1 : decide (x < 1) = false := by simpa using h1
            have e2 : decide (4096 < x) = true := by simp; omega
            clear hz' h1
            go_wp2
            go_ret
            exact ⟨ret_eq HE.out.symm, rfl⟩
      · obtain rfl : k = n := by omega
        have HE : Hid (chkS l = 0) := hid (by
          have h := HT.out
          rw [← HN.out, List.take_length] at h
          unfold chkS
          rw [HN.out, if_neg HBAD.out, if_pos h])
        go_wp2
        go_ret
        exact ⟨ret_eq HE.out.symm, rfl⟩

set_option maxHeartbeats 400000 in
theorem szOf_any (A : Option Addr) (n c : Nat) (w : World) : Calls Try.prog 70 #[.slice A n c] w fun e w' => e = .returned (.int .i64 (n : Int)) ∧ w = w' := by
  go_enter Try.func70, Try.ntmps70
  go_wp2
  go_ret
  exact ⟨rfl, rfl⟩
set_option maxHeartbeats 400000 in
theorem exists_any (A : Option Addr) (n c : Nat) (x : Int) (w : World) : Calls Try.prog 51 #[.slice A n c, .int .i64 x] w fun e w' => e = .returned (.bool (decide (0 ≤ x ∧ x < n))) ∧ w = w' := by
  by_cases h0 : 0 ≤ x
  · by_cases h1 : x < (n : Int)
    · have HE : Hid (decide (0 ≤ x ∧ x < n) = true) := hid (decide_eq_true ⟨h0, h1⟩)
      go_enter Try.func51, Try.ntmps51
      go_wp2
      go_ret
      exact ⟨ret_b HE.out.symm, rfl⟩
    · have HE : Hid (decide (0 ≤ x ∧ x < n) = false) := hid (decide_eq_false (fun h => h1 h.2))
      have e1 : decide (x < (n : Int)) = false := by simpa using h1
      clear h1
      go_enter Try.func51, Try.ntmps51
      go_wp2
      go_ret
      exact ⟨ret_b HE.out.symm, rfl⟩
  · have HE : Hid (decide (0 ≤ x ∧ x < n) = false) := hid (decide_eq_false (fun h => h0 h.1))
    have e1 : decide (0 ≤ x) = false := by simpa using h0
    clear h0
    go_enter Try.func51, Try.ntmps51
    go_wp2
    go_ret
    exact ⟨ret_b HE.out.symm, rfl⟩
def insB (n : Nat) (s m : Int) : Bool := decide (0 ≤ s ∧ 0 ≤ m ∧ m ≤ n - s)
set_option maxHeartbeats 400000 in
theorem inside_any (A : Option Addr) (n c : Nat) (s m : Int) (w : World) (hn : n ≤ 1000000) (hs : s ≤ 9223372036854775807) : Calls Try.prog 52 #[.slice A n c, .int .i64 s, .int .i64 m] w fun e w' => e = .returned (.bool (insB n s m)) ∧ w = w' := by
  by_cases h0 : 0 ≤ s
  · by_cases h1 : 0 ≤ m
    · have hw : IntKind.i64.wrap ((n : Int) - s) = (n : Int) - s := IntWalk.i64_in _ (by omega)
      by_cases h2 : m ≤ (n : Int) - s
      · have HE : Hid (insB n s m = true) := hid (decide_eq_true ⟨h0, h1, h2⟩)
        go_enter Try.func52, Try.ntmps52
        go_wp2
        go_ret
        exact ⟨ret_b HE.out.symm, rfl⟩
      · have HE : Hid (insB n s m = false) := hid (decide_eq_false (fun h => h2 h.2.2))
        have e2 : decide (m ≤ (n : Int) - s) = false := by simpa using h2
        clear h2
        go_enter Try.func52, Try.ntmps52
        go_wp2
        go_ret
        exact ⟨ret_b HE.out.symm, rfl⟩
    · have HE : Hid (insB n s m = false) := hid (decide_eq_false (fun h => h1 h.2.1))
      have e1 : decide (0 ≤ m) = false := by simpa using h1
      clear h1
      go_enter Try.func52, Try.ntmps52
      go_wp2
      go_ret
      exact ⟨ret_b HE.out.symm, rfl⟩
  · have HE : Hid (insB n s m = false) := hid (decide_eq_false (fun h => h0 h.1))
    have e1 : decide (0 ≤ s) = false := by simpa using h0
    clear h0
    go_enter Try.func52, Try.ntmps52
    go_wp2
    go_ret
    exact ⟨ret_b HE.out.symm, rfl⟩
end Go.Proofs.Ytbcnikmhodkbfaa

/- putNumber: the bytes of a number over what is left of a stream. -/
import Derived.Test.YtcmmkeadbedooaaH
namespace Go.Proofs.Ytcmmkeadbedooaa
open Go.RowKit Go.Lib

/-- Of what was there, the blocks g and R alone may have changed. -/
structure Upd2 (g R : Nat) (w w' : World) : Prop where
  low : Below 0 w w'
  block : ∀ k, k < w.heap.size → k ≠ g → k ≠ R → w'.heap[k]? = w.heap[k]?
theorem Upd2.refl (g R : Nat) (w : World) : Upd2 g R w w := ⟨Below.refl _ _, fun _ _ _ _ => rfl⟩
theorem Upd2.trans {g R : Nat} {a b c : World} (h : Upd2 g R a b) (k : Upd2 g R b c) : Upd2 g R a c :=
  ⟨h.low.trans k.low, fun i hi hg hr => (k.block i (Nat.lt_of_lt_of_le hi h.low.size) hg hr).trans (h.block i hi hg hr)⟩
theorem Upd2.of {g R : Nat} {a b : World} (h : Upd g a b) : Upd2 g R a b := ⟨h.low, fun k hk hg _ => h.block k hk hg⟩
theorem Upd2.setR {g R : Nat} {a b : World} (h : Upd2 g R a b) (i : Nat) (v : Value) : Upd2 g R a (b.setCell ⟨R, i, none⟩ v) :=
  ⟨h.low.setCell (Nat.zero_le _) v, fun k hk hg hr => (Below.heap_setCell _ _ _ _ hr).trans (h.block k hk hg hr)⟩
theorem Upd2.rowR {g R : Nat} {a b : World} (h : Upd2 g R a b) (cs : Array Value) : Upd2 g R a (b.setRow R cs) :=
  ⟨below_setRow h.low (Nat.zero_le _) cs, fun k hk hg hr => (setRow_other b R k cs hr).trans (h.block k hk hg hr)⟩
theorem Upd2.of_below {g R : Nat} {a b c : World} (h : Upd2 g R a b) (k : Below b.heap.size b c) : Upd2 g R a c :=
  ⟨h.low.trans (k.mono (Nat.zero_le _)), fun i hi hg hr => (k.block i (Nat.lt_of_lt_of_le hi h.low.size)).trans (h.block i hi hg hr)⟩
theorem Upd2.drewN {g R : Nat} {a b : World} (h : Upd2 g R a b) (n : Nat) : Upd2 g R a (b.drewN n) := ⟨⟨h.low.os, h.low.tape, h.low.output, h.low.size, h.low.block⟩, h.block⟩
theorem Upd2.below {g R B : Nat} {a b : World} (h : Upd2 g R a b) (hg : B ≤ g) (hR : B ≤ R) (hB : B ≤ a.heap.size) : Below B a b :=
  ⟨h.low.os, h.low.tape, h.low.output, h.low.size, fun k hk => h.block k (by omega) (by omega) (by omega)⟩
/-- Some places of a list overwritten from place i on. -/
def spl (l : List Nat) (i : Nat) (s : List Nat) : List Nat := l.take i ++ s ++ l.drop (i + s.length)
theorem spl_nil (l : List Nat) (i : Nat) : spl l i [] = l := by unfold spl; simp
theorem spl_len {l s : List Nat} {i : Nat} (h : i + s.length ≤ l.length) : (spl l i s).length = l.length := by
  unfold spl; simp only [List.length_append, List.length_take, List.length_drop]; omega
theorem spl_snoc {l s : List Nat} {i b : Nat} (h : i + s.length < l.length) : spl l i (s ++ [b]) = (spl l i s).set (i + s.length) b := by
  unfold spl
  have hl : (l.take i ++ s).length = i + s.length := by simp only [List.length_append, List.length_take]; omega
  rw [List.set_append_right _ _ (by omega), hl, Nat.sub_self, List.length_append, List.length_singleton]
  obtain ⟨x, t, hx⟩ : ∃ x t, l.drop (i + s.length) = x :: t := ⟨_, _, List.drop_eq_getElem_cons h⟩
  have ht : l.drop (i + (s.length + 1)) = t := by rw [← Nat.add_assoc, ← List.drop_drop, hx]; rfl
  rw [ht, hx]; simp
theorem le_get (n x k : Nat) (hk : k < n) : (le n x)[k]? = some (x / 256 ^ k % 256) := by
  induction n generalizing x k with
  | zero => omega
  | succ n ih =>
    cases k with
    | zero => simp [le]
    | succ k =>
      show (le n (x / 256))[k]? = _
      rw [ih (x / 256) k (by omega), Nat.div_div_eq_div_mul, Nat.pow_succ, Nat.mul_comm]
/-- The box g of a stream whose bytes l lie in the row R, and of which those from place i on are left. -/
def Ls (w : World) (g R i : Nat) (l : List Nat) (u : Value) : Prop :=
  ∃ A, w.heap[g]? = some (.cells #[.slice A (l.length - i) (l.length - i), u] 62) ∧ (i < l.length → A = some ⟨R, i, none⟩) ∧ w.heap[R]? = some (.cells (l.map byteV).toArray 5) ∧ i ≤ l.length ∧ g ≠ R ∧ l.length ≤ 1000000
theorem fromA_row {A : Option Addr} {R i n k : Nat} (h : 0 < n → A = some ⟨R, i, none⟩) (_hk : k ≤ n) : k < n → fromA A n k = some ⟨R, i + k, none⟩ := fun hlt => by
  unfold fromA
  rw [if_neg (by omega), h (by omega)]
  show some (Addr.add _ _) = _
  unfold Addr.add
  split <;> simp_all
theorem next_ls (g R i k : Nat) (l : List Nat) (u : Value) (w : World) (h : Ls w g R i l u) (hk : i + k ≤ l.length) :
    Calls Try.prog 27 #[.pointer (some ⟨g, 0, none⟩), .int .i64 (k : Int)] w fun e w' => (∃ A, e = .returned (.slice A k (l.length - i)) ∧ (0 < k → A = some ⟨R, i, none⟩)) ∧ Ls w' g R (i + k) l u ∧ Upd g w w' := by
  obtain ⟨A, hb, hA, hR, hi, hgR, hl⟩ := h
  refine (next_any g A (l.length - i) (l.length - i) k u w hb (by omega) (Nat.le_refl _)).mono ?_
  rintro e w' ⟨rfl, rfl⟩
  refine ⟨⟨A, rfl, fun h0 => hA (by omega)⟩, ⟨fromA A (l.length - i) k, ?_, ?_, ?_, by omega, hgR, hl⟩, (Upd.refl g w).set 0 _⟩
  · rw [show l.length - (i + k) = l.length - i - k by omega]; exact box_s0 hb _
  · intro h1
    exact fromA_row (fun h0 => hA (by omega)) (by omega) (by omega)
  · exact (Below.heap_setCell _ _ _ _ (Ne.symm hgR)).trans hR

set_option maxHeartbeats 2000000 in
set_option maxRecDepth 100000 in
theorem put_ls (g R i n x : Nat) (l : List Nat) (u : Value) (w : World) (h : Ls w g R i l u) (hn : i + n ≤ l.length) (_hx : x < 9223372036854775808) (hn4 : n ≤ 4) :
    Calls Try.prog 26 #[.pointer (some ⟨g, 0, none⟩), .int .i64 (x : Int), .int .i64 (n : Int)] w fun e w' => (∃ v, e = .returned v) ∧ Ls w' g R (i + n) (spl l i (le n x)) u ∧ Upd2 g R w w' := by
  have HN := hid (next_ls g R i n l u w h hn)
  have hll : l.length ≤ 1000000 := h.choose_spec.2.2.2.2.2
  clear h
  go_enter Try.func26, Try.ntmps26
  go_wp2_with fail
  refine HN.out.mono ?_
  rintro e w1 ⟨⟨A, rfl, hA⟩, hls, hu⟩
  obtain ⟨A1, hb1, hA1, hR1, hi1, hgR, _⟩ := hls
  have HU := hid hu
  have HB1 := hid hb1
  have HA1 := hid hA1
  have HR1 := hid hR1
  clear hu hb1 hA1 hR1 HN
  go_wp2
  go_loopw [13] (fun j wr => ∃ (k : Nat) (m : List Nat), k ≤ n ∧ j = .int .i64 (k : Int) ∧ Hid (m = spl l i ((le n x).take k)) ∧ Hid (wr.heap[R]? = some (.cells (m.map byteV).toArray 5) ∧ wr.heap[g]? = w1.heap[g]? ∧ Upd2 g R w1 wr)) (fun j _ => n - (RowKit.intOf j).toNat)
  case atStart => exact ⟨0, l, by omega, rfl, hid (by rw [List.take_zero, spl_nil]), hid ⟨HR1.out, rfl, Upd2.refl _ _ _⟩⟩
  case round =>
    obtain ⟨k, m, hk, rfl, HM, HP⟩ := hrel
    by_cases hlt : k < n
    · have hA' := hA (by omega)
      subst hA'
      have hml : m.length = l.length := by rw [HM.out]; exact spl_len (by rw [List.length_take, le_length]; omega)
      obtain ⟨y, hy⟩ : ∃ y, m[i + k]? = some y := ⟨m[i + k]'(by omega), List.getElem?_eq_getElem _⟩
      have hc : wr.cell? ⟨R, i + k, none⟩ = some (byteV y) := by rw [cell_of_row _ _ _ _ _ _ HP.out.1]; simp [hy]
      have hf := box_fr HP.out.1 (i + k)
      have hb : le n x = le n x := rfl
      obtain ⟨b, hbb⟩ : ∃ b, x / 256 ^ k % 256 = b := ⟨_, rfl⟩
      have hg := le_get n x k hlt
      rw [hbb] at hg
      clear hy
      have HV : Hid ((x : Int) / 2 ^ (8 * k) % 256 = (b : Int)) := hid (by
        have e1 : ((2 : Int) ^ (8 * k)) = ((256 ^ k : Nat) : Int) := by rw [← pow256]; simp
        rw [e1, ← Int.natCast_ediv]
        omega)
      have HM1 : Hid (m.set (i + k) b = spl l i ((le n x).take (k + 1))) := hid (by
        rw [take_succ' hg, spl_snoc (by rw [List.length_take, le_length]; omega), HM.out, List.length_take, le_length, Nat.min_eq_left (by omega)])
      clear hg hbb hA
      go_wp2
      go_roundw
      case rel =>
        refine ⟨k + 1, m.set (i + k) b, by omega, by go_num, HM1, hid ⟨?_, ?_, HP.out.2.2.setR _ _⟩⟩
        · rw [HV.out, heap_setCell_same wr _ _ _ _ _ HP.out.1]
          congr 2
          apply Array.ext'
          simp [List.map_set, byteV]
        · exact (Below.heap_setCell _ _ _ _ hgR).trans HP.out.2.1
      case measure => simp [RowKit.intOf]; omega
    · obtain rfl : k = n := by omega
      go_wp2
      go_end0
      refine ⟨⟨_, rfl⟩, ?_, ?_⟩
      · have e : m = spl l i (le k x) := by rw [HM.out, List.take_of_length_le (by rw [le_length]; omega)]
        have hml : m.length = l.length := by rw [e]; exact spl_len (by rw [le_length]; omega)
        rw [← e]
        exact ⟨A1, by rw [HP.out.2.1, hml]; exact HB1.out, by rw [hml]; exact HA1.out, HP.out.1, by omega, hgR, by omega⟩
      · exact (Upd2.of HU.out).trans HP.out.2.2
end Go.Proofs.Ytcmmkeadbedooaa

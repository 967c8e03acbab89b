/- bytes.Equal; awake. -/
import Derived.Test.YtchpoddfjbopbaaRf
import Derived.Shelf.Bytes.SlSmallAll
namespace Go.Proofs.Ytchpoddfjbopbaa
open Go.RowKit Go.Lib

def ints (l : List Nat) : List Int := l.map fun (x : Nat) => (x : Int)
set_option maxRecDepth 100000 in
theorem byt_conv {w : World} {A : Option Addr} {n c : Nat} {l : List Nat} (h : Byt w (.slice A n c) l) : (convert 22 9 (.slice A n c)).run Try.prog w = .ok (.string (strOfNums (ints l))) w := by
  obtain ⟨h8, A', c', e, h1, h2, b, off, hA, hc⟩ := h
  injection e with e1 e2 e3
  subst e1 e2 e3
  rcases Nat.eq_zero_or_pos l.length with hn | hn
  · have hl : l = [] := List.eq_nil_of_length_eq_zero hn
    subst hl
    exact run_convert_bytes_zero w 22 5 Try.underlying22 Try.underlying5 A c 9 Try.underlying9
  · obtain ⟨rfl, _⟩ := hA hn
    refine run_convert_bytes_arg (P := Try.prog) w 22 5 Try.underlying22 Try.underlying5 b off l.length c (ints l) (by simp [ints]) (fun i hi => ?_) 9 Try.underlying9
    rw [hc i l[i] (List.getElem?_eq_getElem hi)]
    simp [ints, List.getD, hi]
theorem str_eq {a b : List Nat} (ha : B8 a) (hb : B8 b) : ((strOfNums (ints a)).toList == (strOfNums (ints b)).toList) = decide (a = b) := by
  rw [ByteArray.toList_eq, ByteArray.toList_eq]
  by_cases h : a = b
  · subst h; simp
  · rw [decide_eq_false h]
    rw [beq_eq_false_iff_ne]
    intro he
    apply h
    have h1 := he
    simp only [strOfNums_data, ints, List.map_map] at h1
    clear he h
    induction a generalizing b with
    | nil => cases b with
      | nil => rfl
      | cons y b => simp at h1
    | cons x a ih =>
      cases b with
      | nil => simp at h1
      | cons y b =>
        simp only [List.map_cons, List.cons.injEq] at h1
        have hx := ha x (List.mem_cons_self ..)
        have hy := hb y (List.mem_cons_self ..)
        have h2 := congrArg UInt8.toNat h1.1
        simp at h2
        rw [ih (fun z hz => ha z (List.mem_cons_of_mem _ hz)) (fun z hz => hb z (List.mem_cons_of_mem _ hz)) h1.2, show x = y by omega]

/-- What a call answers that only looks. -/
def Says (b : Bool) (w : World) (e : Ending) (w' : World) : Prop := e = .returned (.bool b) ∧ w = w'
set_option maxHeartbeats 2000000 in
set_option maxRecDepth 100000 in
theorem equal_any (a b : List Nat) (v u : Value) (w : World) (hv : Byt w v a) (hu : Byt w u b) :
    Calls Try.prog 12 #[v, u] w (Says (decide (a = b)) w) := by
  obtain ⟨A, c, rfl⟩ := byt_form hv
  obtain ⟨C, d, rfl⟩ := byt_form hu
  have e1 := byt_conv hv
  have e2 := byt_conv hu
  have e3 := str_eq hv.1 hu.1
  obtain ⟨s, hs⟩ : ∃ s, strOfNums (ints a) = s := ⟨_, rfl⟩
  obtain ⟨t, ht⟩ : ∃ t, strOfNums (ints b) = t := ⟨_, rfl⟩
  obtain ⟨q, hq⟩ : ∃ q, decide (a = b) = q := ⟨_, rfl⟩
  rw [hs] at e1 e3
  rw [ht] at e2 e3
  rw [hq] at e3 ⊢
  clear hs ht hq hv hu
  go_enter Try.func12, Try.ntmps12
  go_wp2
  go_ret
  exact ⟨rfl, rfl⟩
end Go.Proofs.Ytchpoddfjbopbaa

/- Lists of ints as arguments; the reference's PutInts. -/
import Derived.Test.YtchpoddfjbopbaaH
namespace Go.Proofs.Ytchpoddfjbopbaa
open Go.RowKit Go.Lib

/-- The slice value v reads as the numbers l. -/
def Ins (w : World) (v : Value) (l : List Int) : Prop :=
  ∃ A cap, v = .slice A l.length cap ∧ l.length ≤ cap ∧ cap ≤ maxLen ∧ ∃ b off, (0 < l.length → A = some ⟨b, off, none⟩ ∧ b < w.heap.size) ∧ ∀ (i : Nat) (x : Int), l[i]? = some x → w.cell? ⟨b, off + i, none⟩ = some (.int .i64 x)
/-- What is written of the first k. -/
def eSome {α : Type} (E : α → List Nat) (xs : List α) (k : Nat) : List Nat := enc xs.length ++ eMany E (xs.take k)
theorem eSome_zero {α : Type} (E : α → List Nat) (xs : List α) : eSome E xs 0 = enc xs.length := by simp [eSome, eMany]
theorem eSome_all {α : Type} (E : α → List Nat) (xs : List α) : eSome E xs xs.length = eList E xs := by simp [eSome, eList]
theorem eSome_succ {α : Type} {E : α → List Nat} {xs : List α} {k : Nat} {x : α} (h : xs[k]? = some x) : eSome E xs (k + 1) = eSome E xs k ++ E x := by
  obtain ⟨hk, rfl⟩ := List.getElem?_eq_some_iff.1 h
  unfold eSome eMany
  rw [List.take_succ_eq_append_getElem hk, List.map_append, List.flatten_append, ← List.append_assoc]
  simp only [List.map_cons, List.map_nil, List.flatten_cons, List.flatten_nil, List.append_nil]
def eNum (x : Int) : List Nat := enc (cl x)
theorem eNum_len (x : Int) : (eNum x).length ≤ 8 := enc_le8 (cl_le _)
theorem eSome_lenG {α : Type} {E : α → List Nat} (xs : List α) (c : Nat) (hE : ∀ x ∈ xs, (E x).length ≤ c) (k : Nat) (hl : xs.length ≤ 4000) : k ≤ xs.length → (eSome E xs k).length ≤ 8 + c * k := by
  induction k with
  | zero => intro _; rw [eSome_zero]; have := enc_len (n := xs.length) (by omega); omega
  | succ k ih =>
    intro h
    rw [eSome_succ (List.getElem?_eq_getElem (by omega)), List.length_append, Nat.mul_succ]
    have := ih (by omega)
    have h8 := hE (xs[k]'(by omega)) (List.getElem_mem _)
    omega
theorem eSome_len (xs : List Int) (k : Nat) (hl : xs.length ≤ 4000) : k ≤ xs.length → (eSome eNum xs k).length ≤ 8 + 8 * k :=
  eSome_lenG xs 8 (fun x _ => eNum_len x) k hl

set_option maxHeartbeats 2000000 in
set_option maxRecDepth 100000 in
theorem rputInts_any (xs : List Int) (l : List Nat) (v u : Value) (w : World) (hv : Byt w v l) (hn : NilOk v) (hu : Ins w u xs) (hl : l.length ≤ 40000) (hx : xs.length ≤ 4000) :
    Calls Try.prog 18 #[v, u] w (MadeY w (l ++ eList eNum xs)) := by
  have hp := rput_any (xs.length : Int) l v w hv hn (by omega)
  rw [cl_nat (by omega), ← eSome_zero eNum xs] at hp
  have HP := hid hp
  have HR := hid (fun (n : Int) (m : List Nat) (v1 : Value) (w1 : World) (h1 : Byt w1 v1 m) (h2 : NilOk v1) (h3 : m.length ≤ 90000) => rput_any n m v1 w1 h1 h2 h3)
  have HL := hid (fun (k : Nat) (h : k ≤ xs.length) => eSome_len xs k hx h)
  have HS := hid (fun (k : Nat) (x : Int) (h : xs[k]? = some x) => eSome_succ (E := eNum) h)
  rw [← eSome_all eNum xs]
  obtain ⟨F, hF⟩ : ∃ F, eSome eNum xs = F := ⟨_, rfl⟩
  rw [hF] at HP HL HS ⊢
  obtain ⟨C, cc, rfl, hcap, hcm, b, off, hA, hc⟩ := hu
  unfold maxLen at hcm
  have HC := hid hc
  obtain ⟨A, ca, rfl⟩ := byt_form hv
  clear hv hn hc hF hp
  go_enter Try.func18, Try.ntmps18
  go_wp2_with (go_at_call 14; refine HP.out.mono ?_; rintro e w1 ⟨v1, rfl, hv1, hn1, hb1⟩; obtain ⟨a1, c1, hv1e⟩ := byt_form hv1; subst hv1e; have HV1 := hid hv1; have HN1 := hid hn1; have HB1 := hid hb1; clear hv1 hn1 hb1)
  go_loopw [5, 6] (fun v i wr => ∃ k : Nat, k ≤ xs.length ∧ i = .int .i64 (k : Int) ∧ Hid (Byt wr v (l ++ F k)) ∧ Hid (NilOk v) ∧ Hid (Below w.heap.size w wr)) (fun _ i _ => xs.length - (intOf i).toNat)
  case atStart => exact ⟨0, by omega, rfl, by simpa using HV1, by simpa using HN1, HB1⟩
  case round =>
    clear HV1 HN1 HB1
    obtain ⟨k, hk, rfl, HV, HN, HB⟩ := hrel
    by_cases hkl : k < xs.length
    · obtain ⟨hA1, hb⟩ := hA (by omega)
      subst hA1
      obtain ⟨x, hxk⟩ : ∃ x, xs[k]? = some x := ⟨xs[k], List.getElem?_eq_getElem hkl⟩
      have hcl := (HB.out.cell (p := ⟨b, off + k, none⟩) hb).trans (HC.out k x hxk)
      have hlen := HL.out k hk
      have HR1 := hid (HR.out x _ _ wr HV.out HN.out (by rw [List.length_append]; omega))
      have HE : Hid (l ++ F (k + 1) = (l ++ F k) ++ eNum x) := hid (by rw [HS.out k x hxk, List.append_assoc])
      obtain ⟨m, hm⟩ : ∃ m, l ++ F k = m := ⟨_, rfl⟩
      rw [hm] at HV HR1 HE
      clear hm
      obtain ⟨a2, c2, hve⟩ := byt_form HV.out
      subst hve
      clear hxk
      go_wp2_with fail
      refine HR1.out.mono ?_
      rintro e w2 ⟨v2, rfl, hv2, hn2, hb2⟩
      have HV2 : Hid (Byt w2 v2 (l ++ F (k + 1))) := hid (by rw [HE.out]; exact hv2)
      have HN2 := hid hn2
      have HB2 := hid (below_both HB.out hb2)
      clear hv2 hn2 hb2
      go_wp2_with fail
      go_roundw
      case rel => exact ⟨k + 1, by omega, by go_num, HV2, HN2, HB2⟩
      case measure => simp [intOf]; omega
    · obtain rfl : k = xs.length := by omega
      obtain ⟨m, hm⟩ : ∃ m, l ++ F xs.length = m := ⟨_, rfl⟩
      rw [hm] at HV
      have HM := hid hm
      clear hm
      obtain ⟨a2, c2, hve⟩ := byt_form HV.out
      subst hve
      go_wp2
      go_ret
      exact ⟨_, rfl, by rw [HM.out]; exact HV.out, HN.out, HB.out⟩
end Go.Proofs.Ytchpoddfjbopbaa

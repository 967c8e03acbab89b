/- Small helpers of the laws about package extent. -/
import Derived.Test.YtkchenhkolpinaaO
import Derived.Test.YtkchenhkolpinaaP
namespace Go.Proofs.Ytkchenhkolpinaa
open Go.RowKit

theorem ext_len {w : World} {v : Value} {l : List (Int × Int)} (h : Ext w v l) : l.length ≤ 9223372036854775807 := by
  obtain ⟨_, _, cap, _, h1, h2, _⟩ := h
  unfold maxLen at h2
  omega
theorem ext_form {w : World} {v : Value} {l : List (Int × Int)} (h : Ext w v l) : ∃ A cap, v = .slice A l.length cap := by
  obtain ⟨_, A, cap, h, _⟩ := h
  exact ⟨A, cap, h⟩

theorem few_yes {a b : List (Int × Int)} {va vb : Value} {w : World} (ha : Ext w va a) (hb : Ext w vb b) (h : a.length ≤ 20 ∧ b.length ≤ 20) : Calls Try.prog 12 #[va, vb] w fun e w' => e = .returned (.bool true) ∧ w = w' := by
  refine (few_any a b va vb w ha hb (ext_len ha) (ext_len hb)).mono ?_
  rintro e w' ⟨rfl, rfl⟩
  exact ⟨ret_bool (by simpa using h), rfl⟩
theorem few_no {a b : List (Int × Int)} {va vb : Value} {w : World} (ha : Ext w va a) (hb : Ext w vb b) (h : ¬ (a.length ≤ 20 ∧ b.length ≤ 20)) : Calls Try.prog 12 #[va, vb] w fun e w' => e = .returned (.bool false) ∧ w = w' := by
  refine (few_any a b va vb w ha hb (ext_len ha) (ext_len hb)).mono ?_
  rintro e w' ⟨rfl, rfl⟩
  exact ⟨ret_bool (by simpa using h), rfl⟩

end Go.Proofs.Ytkchenhkolpinaa

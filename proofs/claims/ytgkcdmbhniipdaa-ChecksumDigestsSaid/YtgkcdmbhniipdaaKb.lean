/- Arguments that are lists of sectors, and the data that are digested, opened. -/
import Derived.Test.YtgkcdmbhniipdaaKa
import Derived.Test.YtgkcdmbhniipdaaQ
import Derived.Lib.SmallJoins
namespace Go.Proofs.Ytgkcdmbhniipdaa
open Go.ChangeShapes Go.WideShapes Go.ChangeAt Go.RowKit Go.Deep

theorem cells45 : Try.prog.cellsOf 45 = 8 := by kernel_rfl
theorem cells34 : Try.prog.cellsOf 34 = 4 := by kernel_rfl
theorem cells31 : Try.prog.cellsOf 31 = 1 := by kernel_rfl
theorem cells32 : Try.prog.cellsOf 32 = 1 := by kernel_rfl
theorem read31 : Try.prog.readableRec 31 = true := by kernel_rfl
theorem row31 : 31 < Try.prog.types.size := of_decide_eq_true (by kernel_rfl)
theorem read34 : Try.prog.readableRec 34 = true := by kernel_rfl
theorem row34 : 34 < Try.prog.types.size := of_decide_eq_true (by kernel_rfl)

variable {H : Type} {enc : TypeId × Value → H} {W : World}
theorem sector_of {fuel base : Nat} {spare : Nat → Bool} {held : Bool} {cs : List Value} {x : DataW H × List MemPlace} (h : DataW.trod enc Try.prog W base spare held fuel 45 cs = some x) : ∃ s : List Nat, s.length = 8 ∧ B8 s ∧ ∀ (j y : Nat), s[j]? = some y → cs[j]? = some (.int .u8 (y : Int)) := by
  obtain ⟨xs, m, _, _, hlen, hn, hel⟩ := DataW.trod_array Try.underlying45 h
  rw [cells45] at hlen
  obtain ⟨s, hs, hp⟩ := list_of (p := fun j (y : Nat) => y < 256 ∧ cs[j]? = some (.int .u8 (y : Int))) 8 (fun j hj => by
    have h1 := hel j hj
    rw [cells5, Nat.mul_one, List.getElem?_eq_getElem (show j < xs.length by omega)] at h1
    have e : (cs.drop j).take 1 = [cs[j]'(by omega)] := by
      rw [List.drop_eq_getElem_cons (by omega)]
      rfl
    rw [e] at h1
    obtain ⟨y, hy, hyl⟩ := byte_of h1
    exact ⟨y, hyl, by rw [List.getElem?_eq_getElem (show j < cs.length by omega), hy]⟩)
  refine ⟨s, hs, fun y hy => ?_, fun j y hy => (hp j y hy).2⟩
  obtain ⟨j, hj⟩ := List.mem_iff_getElem?.1 hy
  exact (hp j y hj).1
theorem sec_nil (w : World) : Sec w (.slice none 0 0) [] := ⟨(fun s h => by cases h), none, 0, rfl, Nat.le_refl _, by unfold maxLen; omega, 0, 0, fun h => absurd h (by simp), fun i s h => by simp at h⟩
theorem sec_of_fuel {fuel : Nat} {A : Option Addr} {n c : Nat} {x : DataW H × List MemPlace} (hf : DataW.trod enc Try.prog W 0 (fun _ => true) true fuel 31 [.slice A n c] = some x) : ∃ l, Sec W (.slice A n c) l := by
  rcases open_slice Try.underlying31 hf with ⟨hcs, _⟩ | ⟨a, len0, cap0, m, n', D, Pl, hcs, _, hlc, hcm, hm, hx, hi⟩
  · simp at hcs
    obtain ⟨rfl, rfl, rfl⟩ := hcs
    exact ⟨[], sec_nil _⟩
  · simp at hcs
    obtain ⟨rfl, rfl, rfl⟩ := hcs
    simp only [if_true] at hm
    subst hm
    obtain ⟨l, hl', hq⟩ := list_of (p := fun i (s : List Nat) => s.length = 8 ∧ B8 s ∧ ∀ (j y : Nat), s[j]? = some y → W.cell? ((a.add (i * 8)).add j) = some (.int .u8 (y : Int))) n (fun i hi' => by
      obtain ⟨cs', hc, ht⟩ := hi i (by omega)
      rw [cells45] at hc
      obtain ⟨hlen, _, hat⟩ := World.cells?_some hc
      obtain ⟨s, h1, h2, h3⟩ := sector_of ht
      refine ⟨s, h1, h2, fun j y hy => ?_⟩
      have hj := (List.getElem?_eq_some_iff.1 hy).1
      have h4 := hat j (by omega)
      rw [h3 j y hy] at h4
      exact h4)
    refine ⟨l, fun s hs => ?_, some a, _, by rw [hl'], by omega, hcm, ?_⟩
    · obtain ⟨i, hi'⟩ := List.mem_iff_getElem?.1 hs
      exact ⟨(hq i s hi').1, (hq i s hi').2.1⟩
    · rcases Nat.eq_zero_or_pos n with hz | hz
      · exact ⟨0, 0, fun h => by omega, fun i s h => by have := (List.getElem?_eq_some_iff.1 h).1; omega⟩
      · obtain ⟨b, off, spot⟩ := a
        obtain ⟨s, hs⟩ : ∃ s, l[0]? = some s := ⟨l[0]'(by omega), List.getElem?_eq_getElem (by omega)⟩
        obtain ⟨h8, _, hc⟩ := hq 0 s hs
        obtain ⟨y, hy⟩ : ∃ y, s[0]? = some y := ⟨s[0]'(by omega), List.getElem?_eq_getElem (by omega)⟩
        have hc0 := hc 0 y hy
        have hsp : spot = none := by
          have := hc0
          simp [Addr.add] at this
          exact World.cell?_spot this
        subst hsp
        rw [add_at, add_at] at hc0
        refine ⟨b, off, fun _ => ⟨rfl, cell_lt hc0⟩, fun i s hs j x hx => ?_⟩
        have h0 := (hq i s hs).2.2 j x hx
        rw [add_at, add_at] at h0
        exact h0
theorem sec_of_trod {base : Nat} {v : Value} {d : DataW H} {p : List MemPlace} (hv : Value.okWide Try.prog W .any base 31 v) (h : DataW.Trod enc Try.prog W 0 (fun _ => true) true 31 v d p) : ∃ l, Sec W v l := by
  obtain ⟨a0, len0, cap0, rfl⟩ := okWide_slice Try.underlying31 hv
  obtain ⟨fuel, hf⟩ := h
  exact sec_of_fuel hf
theorem data_of_trod {base : Nat} {v : Value} {d : DataW H} {p : List MemPlace} (hv : Value.okWide Try.prog W .any base 34 v) (h : DataW.Trod enc Try.prog W 0 (fun _ => true) true 34 v d p) :
    ∃ (vb vs : Value) (a b : Nat) (l : List Nat) (ll : List (List Nat)), v = .agg #[vb, vs, .int .u64 (a : Int), .int .u64 (b : Int)] ∧ Byt W vb l ∧ Sec W vs ll ∧ a < 18446744073709551616 ∧ b < 18446744073709551616 := by
  obtain ⟨cs0, rfl, hsz⟩ := okWide_struct Try.underlying34 hv
  obtain ⟨fuel, hf⟩ := h
  obtain ⟨y0, y1, y2, y3, m0, _, _, h0, h1, h2, h3⟩ := Joins.trod_struct4 Try.underlying34 hf
  rw [cells34] at hsz
  obtain ⟨L⟩ := cs0
  match L, hsz with
  | [c0, c1, c2, c3], _ =>
    simp only [Value.cells, cells22, cells31, cells32, List.drop, List.take] at h0 h1 h2 h3
    obtain ⟨a, ea, _, wa⟩ := DataW.trod_int Try.underlying32 h2
    obtain ⟨b, eb, _, wb⟩ := DataW.trod_int Try.underlying32 h3
    simp at ea eb
    subst ea eb
    obtain ⟨a, rfl, ha⟩ := u64_nat wa
    obtain ⟨b, rfl, hb⟩ := u64_nat wb
    rcases open_slice Try.underlying22 h0 with ⟨hcs, _⟩ | ⟨q, len0, cap0, m, n', D, Pl, hcs, _⟩
    all_goals
      simp at hcs
      subst hcs
      obtain ⟨l, hbl⟩ := byt_of_fuel h0
      rcases open_slice Try.underlying31 h1 with ⟨hcs, _⟩ | ⟨q', len1, cap1, m', n'', D', Pl', hcs, _⟩
      all_goals
        simp at hcs
        subst hcs
        obtain ⟨ll, hll⟩ := sec_of_fuel h1
        exact ⟨_, _, a, b, l, ll, rfl, hbl, hll, ha, hb⟩
end Go.Proofs.Ytgkcdmbhniipdaa

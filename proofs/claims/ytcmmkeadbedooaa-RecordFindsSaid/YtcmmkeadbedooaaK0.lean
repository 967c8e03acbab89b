/- What Encode needs on lists and of copies. -/
import Derived.Test.YtcmmkeadbedooaaJ
import Derived.Test.YtcmmkeadbedooaaRe
namespace Go.Proofs.Ytcmmkeadbedooaa
open Go.RowKit Go.Lib

theorem own_base {w : World} {base base' E st n : Nat} {v : Value} {xs : List Value} (h : w.ownsRow base E st v n xs) (hb : base' ≤ base) : w.ownsRow base' E st v n xs :=
  ⟨h.1, h.2.imp id fun ⟨g, cap, cur, e, hg, r⟩ => ⟨g, cap, cur, e, by omega, r⟩⟩
theorem spl_pad {M : Nat} {x s : List Nat} (h : x.length + s.length ≤ M) : spl (pad M x) x.length s = pad M (x ++ s) := by
  unfold spl pad
  rw [List.take_left, List.drop_append, List.drop_of_length_le (show x.length ≤ x.length + s.length by omega), List.nil_append, List.drop_replicate, List.length_append, show M - x.length - (x.length + s.length - x.length) = M - (x.length + s.length) by omega]
theorem spl_pad' {M i : Nat} {x s : List Nat} (hi : x.length = i) (h : i + s.length ≤ M) : spl (pad M x) i s = pad M (x ++ s) := by
  subst hi; exact spl_pad h
theorem pad_take {M : Nat} {x : List Nat} : (pad M x).take x.length = x := by unfold pad; rw [List.take_left]
theorem pad_nil (M : Nat) : pad M [] = List.replicate M 0 := by unfold pad; simp
/-- What is left of a row of bytes from place i on. -/
theorem byt_row {w : World} {R i : Nat} {l : List Nat} {A : Option Addr} (h : w.heap[R]? = some (.cells (l.map byteV).toArray 5)) (h8 : B8 l) (hA : i < l.length → A = some ⟨R, i, none⟩) (hl : l.length ≤ 1000000) :
    Byt w (.slice A (l.length - i) (l.length - i)) (l.drop i) := by
  refine ⟨b8_drop h8 i, A, l.length - i, by rw [List.length_drop], by rw [List.length_drop]; exact Nat.le_refl _, by unfold maxLen; omega, R, i, fun h0 => ⟨hA (by rw [List.length_drop] at h0; omega), box_lt h⟩, fun j x hx => ?_⟩
  rw [List.getElem?_drop] at hx
  rw [cell_of_row _ _ _ _ _ _ h]
  simp [hx, byteV]
theorem step_copy_bytes {ops : Array Oper} {o : Oper} {a : Act} {w : World} {K : Act → World → Prop} {Q : Exit → Act → World → Prop} {E : Prop}
    (hgd : o.guard = none) (d x : Operand) (hop : o.op = Op.call { callee := Callee.builtin Builtin.copy, args := #[d, x], argTypes := #[25, 25] })
    (R off : Nat) (l p : List Nat) (dA sA : Option Addr) (dCap sCap : Nat) (hd : a.eval d = .slice dA p.length dCap) (hx : a.eval x = .slice sA p.length sCap)
    (hg : w.heap[R]? = some (.cells (l.map byteV).toArray 5)) (hb : Byt w (.slice sA p.length sCap) p) (hpos : 0 < p.length → dA = some ⟨R, off, none⟩) (hfit : off + p.length ≤ l.length)
    (h : ∀ w', Hid (w'.heap[R]? = some (.cells ((spl l off p).map byteV).toArray 5)) → Upd R w w' → K (a.put o.dst (goInt p.length)) w') :
    if Region.wanted o (yielded ops a.tmps) = true then Oper.wp Try.prog o a w K Q else E := by
  have hw : Region.wanted o (yielded ops a.tmps) = true := by simp [Region.wanted, hgd]
  rw [if_pos hw]
  by_cases h0 : p.length = 0
  · obtain rfl : p = [] := List.eq_nil_of_length_eq_zero h0
    have hrun := run_copy_none (P := Try.prog) w 25 25 o.type 5 dA sA 0 dCap 0 sCap Try.underlying25 size5' rfl
    unfold Oper.wp
    simp only [List.length_nil] at hd hx
    simp [execOp, hop, resolve, invoke, builtin, hd, hx, hrun, Result.andThen]
    exact h w (show _ = _ by rw [spl_nil]; exact hg) (Upd.refl R w)
  · obtain ⟨bb, bo, rfl, hbl, hc⟩ := byt_at hb (by omega)
    obtain rfl := hpos (by omega)
    have hrun := run_copy_rowN (P := Try.prog) w 25 25 o.type 5 R off p.length dCap ⟨bb, bo, none⟩ p.length sCap 1 _ 5 (p.map byteV) Try.underlying25 size5' hg (by simp) (fun j v hj => by
      rw [List.getElem?_map] at hj
      obtain ⟨y, hy, rfl⟩ := Option.map_eq_some_iff.1 hj
      rw [show (⟨bb, bo, none⟩ : Addr).add j = ⟨bb, bo + j, none⟩ by unfold Addr.add; split <;> simp_all]
      exact hc j y hy) (by simpa using hfit) (byteV_one _)
    rw [show Nat.min p.length p.length = p.length from Nat.min_self _] at hrun
    unfold Oper.wp
    simp [execOp, hop, resolve, invoke, builtin, hd, hx, hrun, Result.andThen]
    refine h _ (show _ = _ from ?_) ⟨below_setRow (Below.refl _ _) (Nat.zero_le _) _, fun k hk hg' => setRow_other w R k _ hg'⟩
    have h1 := setRow_heap w R _ ((l.map byteV).take off ++ (p.map byteV ++ (l.map byteV).drop (off + p.length))).toArray 5 (0, 0) hg
    simpa [spl] using h1
end Go.Proofs.Ytcmmkeadbedooaa

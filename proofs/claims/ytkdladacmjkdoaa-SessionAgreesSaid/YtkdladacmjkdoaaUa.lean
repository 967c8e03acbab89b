/- Starts, steps and pairs as arguments opened. -/
import Derived.Test.YtkdladacmjkdoaaU
import Derived.Test.YtkdladacmjkdoaaEa
namespace Go.Proofs.Ytkdladacmjkdoaa
open Go.ChangeShapes Go.WideShapes Go.ChangeAt Go.RowKit Go.Deep
variable {H : Type} {enc : TypeId × Value → H} {W : World}
theorem cells50 : Try.prog.cellsOf 50 = 2 := by kernel_rfl
theorem cells52 : Try.prog.cellsOf 52 = 4 := by kernel_rfl
theorem cells5 : Try.prog.cellsOf 5 = 1 := by kernel_rfl
theorem cells4 : Try.prog.cellsOf 4 = 1 := by kernel_rfl
theorem cells61 : Try.prog.cellsOf 61 = 3 := by kernel_rfl
theorem cells65 : Try.prog.cellsOf 65 = 1 := by kernel_rfl
theorem cells66 : Try.prog.cellsOf 66 = 2 := by kernel_rfl
theorem read52 : Try.prog.readableRec 52 = true := by kernel_rfl
theorem row52 : 52 < Try.prog.types.size := of_decide_eq_true (by kernel_rfl)
theorem read53 : Try.prog.readableRec 53 = true := by kernel_rfl
theorem row53 : 53 < Try.prog.types.size := of_decide_eq_true (by kernel_rfl)
theorem read66 : Try.prog.readableRec 66 = true := by kernel_rfl
theorem row66 : 66 < Try.prog.types.size := of_decide_eq_true (by kernel_rfl)
theorem struct3 {t : TypeId} {f0 f1 f2 : Field} {fuel : Nat} {cs : List Value} {x : DataW H × List MemPlace} (ht : Try.prog.underlying t = some (.struct #[f0, f1, f2])) (h : DataW.trod enc Try.prog W 0 (fun _ => true) true fuel t cs = some x) :
    ∃ y0 y1 y2 n, x.1 = .agg [y0.1, y1.1, y2.1] ∧ cs.length = Try.prog.cellsOf t ∧ DataW.trod enc Try.prog W 0 (fun _ => true) true n f0.type ((cs.drop f0.offset).take (Try.prog.cellsOf f0.type)) = some y0 ∧
      DataW.trod enc Try.prog W 0 (fun _ => true) true n f1.type ((cs.drop f1.offset).take (Try.prog.cellsOf f1.type)) = some y1 ∧ DataW.trod enc Try.prog W 0 (fun _ => true) true n f2.type ((cs.drop f2.offset).take (Try.prog.cellsOf f2.type)) = some y2 := by
  obtain ⟨xs, n, _, rfl, hl, hlen, hf⟩ := DataW.trod_struct ht h
  match xs, hlen with
  | [y0, y1, y2], _ => exact ⟨y0, y1, y2, n, rfl, hl, by simpa using hf 0 f0 rfl, by simpa using hf 1 f1 rfl, by simpa using hf 2 f2 rfl⟩

theorem u8_of {fuel : Nat} {cs : List Value} {x : DataW H × List MemPlace} (h : DataW.trod enc Try.prog W 0 (fun _ => true) true fuel 5 cs = some x) : ∃ y : Int, cs = [.int .u8 y] ∧ 0 ≤ y ∧ y ≤ 255 := by
  obtain ⟨s, e0, _, w0⟩ := DataW.trod_int Try.underlying5 h
  have hb := bounds_u8 w0
  exact ⟨s, e0, by omega, by omega⟩
theorem i8_of {fuel : Nat} {cs : List Value} {x : DataW H × List MemPlace} (h : DataW.trod enc Try.prog W 0 (fun _ => true) true fuel 65 cs = some x) : ∃ y : Int, cs = [.int .i8 y] ∧ -128 ≤ y ∧ y ≤ 127 := by
  obtain ⟨s, e0, _, w0⟩ := DataW.trod_int Try.underlying65 h
  have hb := bounds_i8 w0
  exact ⟨s, e0, by omega, by omega⟩
set_option maxRecDepth 100000 in
theorem pair_u8 {fuel : Nat} {cs : List Value} {x : DataW H × List MemPlace} (h : DataW.trod enc Try.prog W 0 (fun _ => true) true fuel 50 cs = some x) : ∃ a b : Int, cs = [.int .u8 a, .int .u8 b] ∧ (0 ≤ a ∧ a ≤ 255) ∧ (0 ≤ b ∧ b ≤ 255) := by
  obtain ⟨xs, m, _, _, hlen, hn, hel⟩ := DataW.trod_array Try.underlying50 h
  rw [cells50] at hlen
  match cs, hlen with
  | [c0, c1], _ =>
    have h0 := hel 0 (by decide)
    have h1 := hel 1 (by decide)
    rw [cells5, List.getElem?_eq_getElem (show 0 < xs.length by omega)] at h0
    rw [cells5, List.getElem?_eq_getElem (show 1 < xs.length by omega)] at h1
    simp only [List.drop, List.take] at h0 h1
    obtain ⟨a, ea, ha⟩ := u8_of h0
    obtain ⟨b, eb, hb⟩ := u8_of h1
    injection ea with ea _
    injection eb with eb _
    subst ea eb
    exact ⟨a, b, rfl, ha, hb⟩
set_option maxRecDepth 100000 in
theorem more_of_trod {base : Nat} {v : Value} {d : DataW H} {p : List MemPlace} (hv : Value.okWide Try.prog W .any base 66 v) (h : DataW.Trod enc Try.prog W 0 (fun _ => true) true 66 v d p) : ∃ a b : Int, v = .agg #[.int .i8 a, .int .i8 b] ∧ (-128 ≤ a ∧ a ≤ 127) ∧ (-128 ≤ b ∧ b ≤ 127) := by
  have h24 : ∃ cs, v = .agg cs := by
    simp only [Value.okWide, Try.underlying66] at hv
    obtain ⟨cs, h1, _⟩ := hv
    exact ⟨cs, h1⟩
  obtain ⟨cs0, rfl⟩ := h24
  obtain ⟨fuel, hf⟩ := h
  obtain ⟨xs, m, _, _, hlen, hn, hel⟩ := DataW.trod_array Try.underlying66 hf
  rw [cells66] at hlen
  simp only [Value.cells] at hlen hel
  obtain ⟨L0⟩ := cs0
  simp only at hlen hel
  match L0, hlen with
  | [c0, c1], _ =>
    have h0 := hel 0 (by decide)
    have h1 := hel 1 (by decide)
    rw [cells65, List.getElem?_eq_getElem (show 0 < xs.length by omega)] at h0
    rw [cells65, List.getElem?_eq_getElem (show 1 < xs.length by omega)] at h1
    simp only [List.drop, List.take] at h0 h1
    obtain ⟨a, ea, ha⟩ := i8_of h0
    obtain ⟨b, eb, hb⟩ := i8_of h1
    injection ea with ea _
    injection eb with eb _
    subst ea eb
    exact ⟨a, b, rfl, ha, hb⟩
set_option maxRecDepth 100000 in
theorem start_of_trod {base : Nat} {v : Value} {d : DataW H} {p : List MemPlace} (hv : Value.okWide Try.prog W .any base 52 v) (h : DataW.Trod enc Try.prog W 0 (fun _ => true) true 52 v d p) : ∃ e0 e1 n0 n1 : Int, v = .agg #[.int .u8 e0, .int .u8 e1, .int .u8 n0, .int .u8 n1] ∧ (0 ≤ e0 ∧ e0 ≤ 255) ∧ (0 ≤ e1 ∧ e1 ≤ 255) ∧ (0 ≤ n0 ∧ n0 ≤ 255) ∧ (0 ≤ n1 ∧ n1 ≤ 255) := by
  have h24 : ∃ cs, v = .agg cs := by
    simp only [Value.okWide, Try.underlying52] at hv
    obtain ⟨cs, h1, _⟩ := hv
    exact ⟨cs, h1⟩
  obtain ⟨cs0, rfl⟩ := h24
  obtain ⟨fuel, hf⟩ := h
  obtain ⟨y0, y1, m, _, hl, h0, h1⟩ := struct2 Try.underlying52 hf
  rw [cells52] at hl
  simp only [Value.cells] at hl h0 h1
  obtain ⟨L0⟩ := cs0
  simp only at hl h0 h1
  match L0, hl with
  | [c0, c1, c2, c3], _ =>
    simp only [cells50, List.drop, List.take] at h0 h1
    obtain ⟨a, b, e0, ha, hb⟩ := pair_u8 h0
    obtain ⟨c, d, e1, hc, hd⟩ := pair_u8 h1
    injection e0 with e0 e0'
    injection e0' with e0' _
    injection e1 with e1 e1'
    injection e1' with e1' _
    subst e0 e0' e1 e1'
    exact ⟨a, b, c, d, rfl, ha, hb, hc, hd⟩
/-- A step: its kind, whether the other end acts, which message. -/
structure Sp where
  k : Int
  o : Bool
  q : Int
def cP (x : Sp) : List Value := [.int .u8 x.k, .bool x.o, .int .u8 x.q]
def SpOk (x : Sp) : Prop := (0 ≤ x.k ∧ x.k ≤ 255) ∧ (0 ≤ x.q ∧ x.q ≤ 255)
def Sps (w : World) (v : Value) (l : List Sp) : Prop := (∀ x ∈ l, SpOk x) ∧ Arr w v 3 (l.map cP)
theorem Sps.below {w w' : World} {v : Value} {l : List Sp} (h : Sps w v l) (hb : Below w.heap.size w w') : Sps w' v l := ⟨h.1, h.2.below hb⟩
theorem sps_form {w : World} {v : Value} {l : List Sp} (h : Sps w v l) : ∃ A c, v = .slice A l.length c ∧ l.length ≤ 9223372036854775807 := by
  obtain ⟨A, c, e, h1, h2, _⟩ := h.2
  rw [List.length_map] at e h1
  exact ⟨A, c, e, by unfold maxLen at h2; omega⟩
theorem sps_at {w : World} {A : Option Addr} {n c : Nat} {l : List Sp} (h : Sps w (.slice A n c) l) {k : Nat} {x : Sp} (hx : l[k]? = some x) :
    ∃ b off, A = some ⟨b, off, none⟩ ∧ b < w.heap.size ∧ SpOk x ∧ w.cell? ⟨b, off + k * 3, none⟩ = some (.int .u8 x.k) ∧ w.cell? ⟨b, off + k * 3 + 1, none⟩ = some (.bool x.o) ∧ w.cell? ⟨b, off + k * 3 + 2, none⟩ = some (.int .u8 x.q) := by
  have hl := (List.getElem?_eq_some_iff.1 hx).1
  obtain ⟨b, off, e, hb, hc⟩ := arr_at1 h.2 (by rw [List.length_map]; omega)
  have hr : (l.map cP)[k]? = some (cP x) := by rw [List.getElem?_map, hx]; rfl
  exact ⟨b, off, e, hb, h.1 x (List.mem_of_getElem? hx), hc k _ hr 0 _ rfl, hc k _ hr 1 _ rfl, hc k _ hr 2 _ rfl⟩
set_option maxRecDepth 100000 in
theorem sp_of_fuel {fuel : Nat} {cs : List Value} {x : DataW H × List MemPlace} (h : DataW.trod enc Try.prog W 0 (fun _ => true) true fuel 61 cs = some x) : ∃ a : Sp, cs = cP a ∧ SpOk a := by
  obtain ⟨y0, y1, y2, m, _, hl, h0, h1, h2⟩ := struct3 Try.underlying61 h
  rw [cells61] at hl
  match cs, hl with
  | [c0, c1, c2], _ =>
    simp only [cells4, cells5, List.drop, List.take] at h0 h1 h2
    obtain ⟨k, ek, hk⟩ := u8_of h0
    obtain ⟨o, eo, _⟩ := DataW.trod_bool Try.underlying4 h1
    obtain ⟨q, eq, hq⟩ := u8_of h2
    injection ek with ek _
    injection eo with eo _
    injection eq with eq _
    subst ek eo eq
    exact ⟨⟨k, o, q⟩, rfl, hk, hq⟩
set_option maxRecDepth 100000 in
theorem sps_of_trod {base : Nat} {v : Value} {d : DataW H} {p : List MemPlace} (hv : Value.okWide Try.prog W .any base 53 v) (h : DataW.Trod enc Try.prog W 0 (fun _ => true) true 53 v d p) : ∃ l, Sps W v l := by
  obtain ⟨a0, len0, cap0, rfl⟩ := okWide_slice Try.underlying53 hv
  obtain ⟨fuel, hf⟩ := h
  obtain ⟨A, n, k, e, hk⟩ := slice_of Try.underlying53 hf
  rw [e] at hf ⊢
  obtain ⟨l, _, h8, ha⟩ := arr_of_fuel (α := Sp) Try.underlying53 cells61 (by decide) cP SpOk (fun _ _ _ h => sp_of_fuel h) (fun _ _ => rfl) hf
  exact ⟨l, h8, ha⟩
end Go.Proofs.Ytkdladacmjkdoaa

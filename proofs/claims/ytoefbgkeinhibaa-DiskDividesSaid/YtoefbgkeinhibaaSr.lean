/- The third region of awake. -/
import Derived.Test.YtoefbgkeinhibaaSa
namespace Go.Proofs.Ytoefbgkeinhibaa
open Go.RowKit Go.Lib

set_option maxHeartbeats 16000000 in
set_option maxRecDepth 100000 in
theorem aw_r3 (Q : Exit → Act → World → Prop) (HQP : ∀ (c : _) (a : Act) (d : Option Tmp) (v : Value) (w : World), Q (.panic c) (a.put d v) w → Q (.panic c) a w) (W4 W5 : World) (ga gb gc go_ pd : Nat) (A5 : Option Addr) (c5 : Nat) (B5 : Option Addr) (d5 : Nat) (HB45 : Hid (Below W4.heap.size W4 W5)) (HBX : Hid (∀ X, Below W4.heap.size W4 X → X.heap[ga]? = some (.cells #[.int .u8 1, .int .u8 0, .int .u8 0, .int .u8 0, .int .u8 0, .int .u8 0, .int .u8 0, .int .u8 0] 73) ∧ X.heap[gb]? = some (.cells #[.int .u8 2, .int .u8 0, .int .u8 0, .int .u8 0, .int .u8 0, .int .u8 0, .int .u8 0, .int .u8 0] 73) ∧ X.heap[gc]? = some (.cells #[.int .u8 3, .int .u8 0, .int .u8 0, .int .u8 0, .int .u8 0, .int .u8 0, .int .u8 0, .int .u8 0] 73) ∧ X.heap[go_]? = some (.cells #[.int .u8 0, .int .u8 0, .int .u8 0, .int .u8 0, .int .u8 0, .int .u8 0, .int .u8 0, .int .u8 0] 73)))
    (HDD : Hid (∀ X, Below W5.heap.size W5 X → X.heap[pd]? = some (.cells #[.slice A5 3 c5, .slice B5 0 d5] 25) ∧ Dk X (.agg #[.slice A5 3 c5, .slice B5 0 d5]) st3 []))
    (HC0 : ∀ (X : World) (h3 h6 h8 pe : Nat) (A9 : Option Addr) (c9 : Nat) (B9 : Option Addr) (d9 : Nat), Below W5.heap.size W5 X ∧ X.heap[pe]? = some (.cells #[.slice A9 3 c9, .slice B9 3 d9] 25) ∧ Dk X (.agg #[.slice A9 3 c9, .slice B9 3 d9]) st3 ca3 → Q .normal { tmps := #[Value.bool false, Value.pointer (some { block := ga, off := 0 }), Value.pointer (some { block := gb, off := 0 }), Value.pointer (some { block := gc, off := 0 }), Value.pointer (some { block := go_, off := 0 }), Value.pointer (some { block := pd, off := 0 }), Value.int IntKind.i64 0, Value.pointer (some { block := pe, off := 0 }), Value.int IntKind.i64 2, Value.int IntKind.i64 0, undef, undef, undef, undef, undef, undef, undef, undef, undef, undef, undef, Value.agg #[Value.int IntKind.u8 1, Value.int IntKind.u8 0, Value.int IntKind.u8 0, Value.int IntKind.u8 0, Value.int IntKind.u8 0, Value.int IntKind.u8 0, Value.int IntKind.u8 0, Value.int IntKind.u8 0], Value.agg #[Value.int IntKind.u8 2, Value.int IntKind.u8 0, Value.int IntKind.u8 0, Value.int IntKind.u8 0, Value.int IntKind.u8 0, Value.int IntKind.u8 0, Value.int IntKind.u8 0, Value.int IntKind.u8 0], Value.agg #[Value.int IntKind.u8 3, Value.int IntKind.u8 0, Value.int IntKind.u8 0, Value.int IntKind.u8 0, Value.int IntKind.u8 0, Value.int IntKind.u8 0, Value.int IntKind.u8 0, Value.int IntKind.u8 0], Value.agg #[Value.int IntKind.u8 0, Value.int IntKind.u8 0, Value.int IntKind.u8 0, Value.int IntKind.u8 0, Value.int IntKind.u8 0, Value.int IntKind.u8 0, Value.int IntKind.u8 0, Value.int IntKind.u8 0], Value.tuple #[Value.agg #[Value.slice A5 3 c5, Value.slice B5 0 d5], Value.int IntKind.i64 0], Value.tuple #[Value.agg #[Value.slice A5 3 c5, Value.slice B5 0 d5], Value.int IntKind.i64 0], Value.agg #[Value.slice A5 3 c5, Value.slice B5 0 d5], Value.int IntKind.i64 0, Value.tuple #[Value.agg #[Value.slice A9 3 c9, Value.slice B9 3 d9], Value.int IntKind.i64 2, Value.int IntKind.i64 0], Value.agg #[Value.slice A5 3 c5, Value.slice B5 0 d5], Value.agg #[Value.int IntKind.u8 1, Value.int IntKind.u8 0, Value.int IntKind.u8 0, Value.int IntKind.u8 0, Value.int IntKind.u8 0, Value.int IntKind.u8 0, Value.int IntKind.u8 0, Value.int IntKind.u8 0], Value.agg #[Value.int IntKind.u8 2, Value.int IntKind.u8 0, Value.int IntKind.u8 0, Value.int IntKind.u8 0, Value.int IntKind.u8 0, Value.int IntKind.u8 0, Value.int IntKind.u8 0, Value.int IntKind.u8 0], Value.slice (some { block := h3, off := 0 }) 2 2, Value.agg #[Value.int IntKind.i64 0, Value.int IntKind.i64 0, Value.slice (some { block := h3, off := 0 }) 2 2], Value.agg #[Value.int IntKind.u8 3, Value.int IntKind.u8 0, Value.int IntKind.u8 0, Value.int IntKind.u8 0, Value.int IntKind.u8 0, Value.int IntKind.u8 0, Value.int IntKind.u8 0, Value.int IntKind.u8 0], Value.slice (some { block := h6, off := 0 }) 1 1, Value.agg #[Value.int IntKind.i64 0, Value.int IntKind.i64 1, Value.slice (some { block := h6, off := 0 }) 1 1], Value.slice (some { block := h8, off := 0 }) 2 2, Value.tuple #[Value.agg #[Value.slice A9 3 c9, Value.slice B9 3 d9], Value.int IntKind.i64 2, Value.int IntKind.i64 0], Value.agg #[Value.slice A9 3 c9, Value.slice B9 3 d9], Value.int IntKind.i64 2, Value.int IntKind.i64 0, undef, undef, undef, undef, undef, undef, undef, undef, undef, undef, undef, undef, undef, undef, undef, undef, undef, undef, undef, undef, undef, undef, undef, undef, undef, undef, undef, undef, undef, undef, undef, undef, undef, undef, undef, undef, undef, undef, undef, undef, undef, undef, undef, undef, undef, undef, undef, undef, undef, undef, undef, undef, undef, undef, undef, undef, undef, undef, undef, undef, undef, undef, undef, undef, undef, undef, undef, undef, undef, undef, undef, undef, undef, undef, undef, undef, undef, undef, undef, undef, undef, undef, undef, undef, undef, undef, undef, undef, undef, undef, undef, undef, undef, undef, undef, undef, undef, undef, undef, undef, undef, undef, undef, undef, undef, undef, undef, undef, undef, undef, undef, undef, undef, undef, undef, undef, undef, undef, undef, undef, undef, undef, undef], defers := [] } X) :
    Code.wp Try.prog (Code.region 3 #[{ dst := some 30, op := Go.Op.load 25 (Go.Operand.tmp 5), type := 25, pos := "law.go:31", after := #[], guard := none }, { dst := some 31, op := Go.Op.load 73 (Go.Operand.tmp 1), type := 73, pos := "law.go:31", after := #[], guard := none }, { dst := some 32, op := Go.Op.load 73 (Go.Operand.tmp 2), type := 73, pos := "law.go:31", after := #[], guard := none }, { dst := some 33, op := Go.Op.buildSlice 22 2 #[(0, Go.Operand.tmp 31), (1, Go.Operand.tmp 32)], type := 22, pos := "law.go:31", after := #[{ on := 1, ground := Go.Ground.data }, { on := 2, ground := Go.Ground.data }], guard := none }, { dst := some 34, op := Go.Op.call { callee := Go.Callee.value (Go.Operand.func 40), args := #[Go.Operand.const (Go.Value.int Go.IntKind.i64 0), Go.Operand.tmp 33], argTypes := #[3, 22] }, type := 27, pos := "law.go:31", after := #[{ on := 3, ground := Go.Ground.data }], guard := none }, { dst := some 35, op := Go.Op.load 73 (Go.Operand.tmp 3), type := 73, pos := "law.go:31", after := #[], guard := none }, { dst := some 36, op := Go.Op.buildSlice 22 1 #[(0, Go.Operand.tmp 35)], type := 22, pos := "law.go:31", after := #[{ on := 5, ground := Go.Ground.data }], guard := none }, { dst := some 37, op := Go.Op.call { callee := Go.Callee.value (Go.Operand.func 40), args := #[Go.Operand.const (Go.Value.int Go.IntKind.i64 1), Go.Operand.tmp 36], argTypes := #[3, 22] }, type := 27, pos := "law.go:31", after := #[{ on := 6, ground := Go.Ground.data }, { on := 4, ground := Go.Ground.chain }], guard := none }, { dst := some 38, op := Go.Op.buildSlice 32 2 #[(0, Go.Operand.tmp 34), (1, Go.Operand.tmp 37)], type := 32, pos := "law.go:31", after := #[{ on := 4, ground := Go.Ground.data }, { on := 7, ground := Go.Ground.data }], guard := none }, { dst := some 39, op := Go.Op.call { callee := Go.Callee.value (Go.Operand.func 29), args := #[Go.Operand.tmp 30, Go.Operand.tmp 38], argTypes := #[25, 32] }, type := 56, pos := "law.go:31", after := #[{ on := 0, ground := Go.Ground.data }, { on := 8, ground := Go.Ground.data }, { on := 7, ground := Go.Ground.chain }], guard := none }, { dst := some 29, op := Go.Op.move (Go.Operand.tmp 39), type := 56, pos := "law.go:31", after := #[{ on := 9, ground := Go.Ground.data }], guard := none }, { dst := some 40, op := Go.Op.extract (Go.Operand.tmp 29) 0, type := 25, pos := "law.go:31", after := #[{ on := 10, ground := Go.Ground.data }], guard := none }, { dst := some 41, op := Go.Op.extract (Go.Operand.tmp 29) 1, type := 3, pos := "law.go:31", after := #[{ on := 10, ground := Go.Ground.data }, { on := 15, ground := Go.Ground.gcOnly Go.Departure.lateStores }], guard := none }, { dst := some 42, op := Go.Op.extract (Go.Operand.tmp 29) 2, type := 34, pos := "law.go:31", after := #[{ on := 10, ground := Go.Ground.data }, { on := 16, ground := Go.Ground.gcOnly Go.Departure.lateStores }], guard := none }, { dst := some 7, op := Go.Op.alloc 25, type := 0, pos := "law.go:31", after := #[], guard := none }, { dst := none, op := Go.Op.store 25 (Go.Operand.tmp 7) (Go.Operand.tmp 40), type := 0, pos := "law.go:31", after := #[{ on := 14, ground := Go.Ground.data }, { on := 11, ground := Go.Ground.data }, { on := 9, ground := Go.Ground.chain }, { on := 0, ground := Go.Ground.phase }, { on := 1, ground := Go.Ground.phase }, { on := 2, ground := Go.Ground.phase }, { on := 3, ground := Go.Ground.phase }, { on := 4, ground := Go.Ground.phase }, { on := 5, ground := Go.Ground.phase }, { on := 6, ground := Go.Ground.phase }, { on := 7, ground := Go.Ground.phase }, { on := 8, ground := Go.Ground.phase }, { on := 9, ground := Go.Ground.phase }, { on := 10, ground := Go.Ground.phase }, { on := 11, ground := Go.Ground.phase }, { on := 12, ground := Go.Ground.textOnly Go.Departure.lateStores }, { on := 13, ground := Go.Ground.textOnly Go.Departure.lateStores }, { on := 14, ground := Go.Ground.phase }], guard := none }, { dst := some 8, op := Go.Op.assign (Go.Operand.tmp 41), type := 3, pos := "law.go:31", after := #[{ on := 12, ground := Go.Ground.data }, { on := 15, ground := Go.Ground.chain }, { on := 0, ground := Go.Ground.phase }, { on := 1, ground := Go.Ground.phase }, { on := 2, ground := Go.Ground.phase }, { on := 3, ground := Go.Ground.phase }, { on := 4, ground := Go.Ground.phase }, { on := 5, ground := Go.Ground.phase }, { on := 6, ground := Go.Ground.phase }, { on := 7, ground := Go.Ground.phase }, { on := 8, ground := Go.Ground.phase }, { on := 9, ground := Go.Ground.phase }, { on := 10, ground := Go.Ground.phase }, { on := 11, ground := Go.Ground.phase }, { on := 12, ground := Go.Ground.phase }, { on := 13, ground := Go.Ground.textOnly Go.Departure.lateStores }, { on := 14, ground := Go.Ground.phase }, { on := 15, ground := Go.Ground.phase }], guard := none }, { dst := some 9, op := Go.Op.assign (Go.Operand.tmp 42), type := 34, pos := "law.go:31", after := #[{ on := 13, ground := Go.Ground.data }, { on := 16, ground := Go.Ground.chain }, { on := 0, ground := Go.Ground.phase }, { on := 1, ground := Go.Ground.phase }, { on := 2, ground := Go.Ground.phase }, { on := 3, ground := Go.Ground.phase }, { on := 4, ground := Go.Ground.phase }, { on := 5, ground := Go.Ground.phase }, { on := 6, ground := Go.Ground.phase }, { on := 7, ground := Go.Ground.phase }, { on := 8, ground := Go.Ground.phase }, { on := 9, ground := Go.Ground.phase }, { on := 10, ground := Go.Ground.phase }, { on := 11, ground := Go.Ground.phase }, { on := 12, ground := Go.Ground.phase }, { on := 13, ground := Go.Ground.phase }, { on := 14, ground := Go.Ground.phase }, { on := 15, ground := Go.Ground.phase }, { on := 16, ground := Go.Ground.phase }], guard := none }] true) Q { tmps := #[Value.bool false, Value.pointer (some { block := ga, off := 0 }), Value.pointer (some { block := gb, off := 0 }), Value.pointer (some { block := gc, off := 0 }), Value.pointer (some { block := go_, off := 0 }), Value.pointer (some { block := pd, off := 0 }), Value.int IntKind.i64 0, undef, undef, undef, undef, undef, undef, undef, undef, undef, undef, undef, undef, undef, undef, Value.agg #[Value.int IntKind.u8 1, Value.int IntKind.u8 0, Value.int IntKind.u8 0, Value.int IntKind.u8 0, Value.int IntKind.u8 0, Value.int IntKind.u8 0, Value.int IntKind.u8 0, Value.int IntKind.u8 0], Value.agg #[Value.int IntKind.u8 2, Value.int IntKind.u8 0, Value.int IntKind.u8 0, Value.int IntKind.u8 0, Value.int IntKind.u8 0, Value.int IntKind.u8 0, Value.int IntKind.u8 0, Value.int IntKind.u8 0], Value.agg #[Value.int IntKind.u8 3, Value.int IntKind.u8 0, Value.int IntKind.u8 0, Value.int IntKind.u8 0, Value.int IntKind.u8 0, Value.int IntKind.u8 0, Value.int IntKind.u8 0, Value.int IntKind.u8 0], Value.agg #[Value.int IntKind.u8 0, Value.int IntKind.u8 0, Value.int IntKind.u8 0, Value.int IntKind.u8 0, Value.int IntKind.u8 0, Value.int IntKind.u8 0, Value.int IntKind.u8 0, Value.int IntKind.u8 0], Value.tuple #[Value.agg #[Value.slice A5 3 c5, Value.slice B5 0 d5], Value.int IntKind.i64 0], Value.tuple #[Value.agg #[Value.slice A5 3 c5, Value.slice B5 0 d5], Value.int IntKind.i64 0], Value.agg #[Value.slice A5 3 c5, Value.slice B5 0 d5], Value.int IntKind.i64 0, undef, undef, undef, undef, undef, undef, undef, undef, undef, undef, undef, undef, undef, undef, undef, undef, undef, undef, undef, undef, undef, undef, undef, undef, undef, undef, undef, undef, undef, undef, undef, undef, undef, undef, undef, undef, undef, undef, undef, undef, undef, undef, undef, undef, undef, undef, undef, undef, undef, undef, undef, undef, undef, undef, undef, undef, undef, undef, undef, undef, undef, undef, undef, undef, undef, undef, undef, undef, undef, undef, undef, undef, undef, undef, undef, undef, undef, undef, undef, undef, undef, undef, undef, undef, undef, undef, undef, undef, undef, undef, undef, undef, undef, undef, undef, undef, undef, undef, undef, undef, undef, undef, undef, undef, undef, undef, undef, undef, undef, undef, undef, undef, undef, undef, undef, undef, undef, undef, undef, undef, undef, undef, undef, undef, undef, undef, undef, undef, undef, undef, undef, undef, undef, undef, undef, undef, undef], defers := [] } W5 := by
  have HC := hid HC0
  clear HC0
  have HW0 := hid (fun (A : Option Addr) (n c : Nat) (W : World) => (show Calls Try.prog 40 #[.int .i64 0, .slice A n c] W fun e w' => e = .returned (.agg #[.int .i64 0, .int .i64 0, .slice A n c]) ∧ Below W.heap.size W w' from writeOp_any 0 A n c W))
  have HW1 := hid (fun (A : Option Addr) (n c : Nat) (W : World) => (show Calls Try.prog 40 #[.int .i64 1, .slice A n c] W fun e w' => e = .returned (.agg #[.int .i64 0, .int .i64 1, .slice A n c]) ∧ Below W.heap.size W w' from writeOp_any 1 A n c W))
  have HK := hid (fun (X : World) (hX : Below W5.heap.size W5 X) => (show X.cell? ⟨pd, 0, none⟩ = some (.slice A5 3 c5) ∧ X.cell? ⟨pd, 1, none⟩ = some (.slice B5 0 d5) ∧ X.cell? ⟨ga, 0, none⟩ = some (.int .u8 1) ∧ X.cell? ⟨ga, 1, none⟩ = some (.int .u8 0) ∧ X.cell? ⟨ga, 2, none⟩ = some (.int .u8 0) ∧ X.cell? ⟨ga, 3, none⟩ = some (.int .u8 0) ∧ X.cell? ⟨ga, 4, none⟩ = some (.int .u8 0) ∧ X.cell? ⟨ga, 5, none⟩ = some (.int .u8 0) ∧ X.cell? ⟨ga, 6, none⟩ = some (.int .u8 0) ∧ X.cell? ⟨ga, 7, none⟩ = some (.int .u8 0) ∧ X.cell? ⟨gb, 0, none⟩ = some (.int .u8 2) ∧ X.cell? ⟨gb, 1, none⟩ = some (.int .u8 0) ∧ X.cell? ⟨gb, 2, none⟩ = some (.int .u8 0) ∧ X.cell? ⟨gb, 3, none⟩ = some (.int .u8 0) ∧ X.cell? ⟨gb, 4, none⟩ = some (.int .u8 0) ∧ X.cell? ⟨gb, 5, none⟩ = some (.int .u8 0) ∧ X.cell? ⟨gb, 6, none⟩ = some (.int .u8 0) ∧ X.cell? ⟨gb, 7, none⟩ = some (.int .u8 0) ∧ X.cell? ⟨gc, 0, none⟩ = some (.int .u8 3) ∧ X.cell? ⟨gc, 1, none⟩ = some (.int .u8 0) ∧ X.cell? ⟨gc, 2, none⟩ = some (.int .u8 0) ∧ X.cell? ⟨gc, 3, none⟩ = some (.int .u8 0) ∧ X.cell? ⟨gc, 4, none⟩ = some (.int .u8 0) ∧ X.cell? ⟨gc, 5, none⟩ = some (.int .u8 0) ∧ X.cell? ⟨gc, 6, none⟩ = some (.int .u8 0) ∧ X.cell? ⟨gc, 7, none⟩ = some (.int .u8 0) from (by
    obtain ⟨e0, _⟩ := HDD.out X hX
    obtain ⟨e1, e2, e3, _⟩ := HBX.out X (below_both HB45.out hX)
    exact ⟨cell_of_row _ _ 0 _ _ _ e0, cell_of_row _ _ 1 _ _ _ e0, cell_of_row _ _ 0 _ _ _ e1, cell_of_row _ _ 1 _ _ _ e1, cell_of_row _ _ 2 _ _ _ e1, cell_of_row _ _ 3 _ _ _ e1, cell_of_row _ _ 4 _ _ _ e1, cell_of_row _ _ 5 _ _ _ e1, cell_of_row _ _ 6 _ _ _ e1, cell_of_row _ _ 7 _ _ _ e1, cell_of_row _ _ 0 _ _ _ e2, cell_of_row _ _ 1 _ _ _ e2, cell_of_row _ _ 2 _ _ _ e2, cell_of_row _ _ 3 _ _ _ e2, cell_of_row _ _ 4 _ _ _ e2, cell_of_row _ _ 5 _ _ _ e2, cell_of_row _ _ 6 _ _ _ e2, cell_of_row _ _ 7 _ _ _ e2, cell_of_row _ _ 0 _ _ _ e3, cell_of_row _ _ 1 _ _ _ e3, cell_of_row _ _ 2 _ _ _ e3, cell_of_row _ _ 3 _ _ _ e3, cell_of_row _ _ 4 _ _ _ e3, cell_of_row _ _ 5 _ _ _ e3, cell_of_row _ _ 6 _ _ _ e3, cell_of_row _ _ 7 _ _ _ e3⟩)))
  refine region_tail 17 (fun X => X.cell? ⟨pd, 0, none⟩ = some (.slice A5 3 c5) ∧ X.cell? ⟨pd, 1, none⟩ = some (.slice B5 0 d5) ∧ X.cell? ⟨ga, 0, none⟩ = some (.int .u8 1) ∧ X.cell? ⟨ga, 1, none⟩ = some (.int .u8 0) ∧ X.cell? ⟨ga, 2, none⟩ = some (.int .u8 0) ∧ X.cell? ⟨ga, 3, none⟩ = some (.int .u8 0) ∧ X.cell? ⟨ga, 4, none⟩ = some (.int .u8 0) ∧ X.cell? ⟨ga, 5, none⟩ = some (.int .u8 0) ∧ X.cell? ⟨ga, 6, none⟩ = some (.int .u8 0) ∧ X.cell? ⟨ga, 7, none⟩ = some (.int .u8 0) ∧ X.cell? ⟨gb, 0, none⟩ = some (.int .u8 2) ∧ X.cell? ⟨gb, 1, none⟩ = some (.int .u8 0) ∧ X.cell? ⟨gb, 2, none⟩ = some (.int .u8 0) ∧ X.cell? ⟨gb, 3, none⟩ = some (.int .u8 0) ∧ X.cell? ⟨gb, 4, none⟩ = some (.int .u8 0) ∧ X.cell? ⟨gb, 5, none⟩ = some (.int .u8 0) ∧ X.cell? ⟨gb, 6, none⟩ = some (.int .u8 0) ∧ X.cell? ⟨gb, 7, none⟩ = some (.int .u8 0) ∧ X.cell? ⟨gc, 0, none⟩ = some (.int .u8 3) ∧ X.cell? ⟨gc, 1, none⟩ = some (.int .u8 0) ∧ X.cell? ⟨gc, 2, none⟩ = some (.int .u8 0) ∧ X.cell? ⟨gc, 3, none⟩ = some (.int .u8 0) ∧ X.cell? ⟨gc, 4, none⟩ = some (.int .u8 0) ∧ X.cell? ⟨gc, 5, none⟩ = some (.int .u8 0) ∧ X.cell? ⟨gc, 6, none⟩ = some (.int .u8 0) ∧ X.cell? ⟨gc, 7, none⟩ = some (.int .u8 0)) (by kernel_rfl) ?_
  obtain ⟨X0, hX0⟩ : ∃ X, W5.drew = X := ⟨_, rfl⟩
  have hB0 : Below W5.heap.size W5 X0 := by rw [← hX0]; exact (Below.refl W5.heap.size W5).drew
  have hHeld := HK.out X0 hB0
  rw [hX0]
  clear hX0
  refine' wpAnyT_take (i := 0) (oi := ?oiq1) (v := ?vq1) ?hiq1 (by kernel_rfl) (by kernel_rfl) ?hqq1 ?hyq1 hHeld ?restq1
  case hiq1 => (simp only [List.getElem?_toArray, List.getElem?_cons_zero]; rfl)
  case hqq1 => exact fun _ _ _ h => HQP _ _ _ _ _ h
  case hyq1 => (refine Or.inl ⟨by rfl, ?_⟩; intro w' hSw; (try dsimp only at hSw); go_simp; try with_reducible rfl)
  (try simp only [Act.put, List.setIfInBounds_toArray, List.set_cons_zero, List.set_cons_succ])
  refine' wpAnyT_take (i := 1) (oi := ?oiq2) (v := ?vq2) ?hiq2 (by kernel_rfl) (by kernel_rfl) ?hqq2 ?hyq2 hHeld ?restq2
  case hiq2 => (simp only [List.getElem?_toArray, List.getElem?_cons_zero, List.getElem?_cons_succ]; rfl)
  case hqq2 => exact fun _ _ _ h => HQP _ _ _ _ _ h
  case hyq2 => (refine Or.inl ⟨by rfl, ?_⟩; intro w' hSw; (try dsimp only at hSw); go_simp; try with_reducible rfl)
  (try simp only [Act.put, List.setIfInBounds_toArray, List.set_cons_zero, List.set_cons_succ])
  refine' wpAnyT_take (i := 2) (oi := ?oiq3) (v := ?vq3) ?hiq3 (by kernel_rfl) (by kernel_rfl) ?hqq3 ?hyq3 hHeld ?restq3
  case hiq3 => (simp only [List.getElem?_toArray, List.getElem?_cons_zero, List.getElem?_cons_succ]; rfl)
  case hqq3 => exact fun _ _ _ h => HQP _ _ _ _ _ h
  case hyq3 => (refine Or.inl ⟨by rfl, ?_⟩; intro w' hSw; (try dsimp only at hSw); go_simp; try with_reducible rfl)
  (try simp only [Act.put, List.setIfInBounds_toArray, List.set_cons_zero, List.set_cons_succ])
  refine' wpAnyT_take (i := 5) (oi := ?oiq4) (v := ?vq4) ?hiq4 (by kernel_rfl) (by kernel_rfl) ?hqq4 ?hyq4 hHeld ?restq4
  case hiq4 => (simp only [List.getElem?_toArray, List.getElem?_cons_zero, List.getElem?_cons_succ]; rfl)
  case hqq4 => exact fun _ _ _ h => HQP _ _ _ _ _ h
  case hyq4 => (refine Or.inl ⟨by rfl, ?_⟩; intro w' hSw; (try dsimp only at hSw); go_simp; try with_reducible rfl)
  (try simp only [Act.put, List.setIfInBounds_toArray, List.set_cons_zero, List.set_cons_succ])
  refine wpAnyT_all (l := [3, 6, 14]) (by kernel_rfl) (by decide) ?_
  intro i hi
  simp only [List.mem_cons, List.not_mem_nil, or_false] at hi
  rcases hi with rfl | rfl | rfl
  · refine ⟨_, by (simp only [List.getElem?_toArray, List.getElem?_cons_zero, List.getElem?_cons_succ]; rfl), fun K hK => ?_⟩
    go_simp
    obtain ⟨Yq33, hY⟩ : ∃ X, X0.alloc (.cells #[.int .u8 1, .int .u8 0, .int .u8 0, .int .u8 0, .int .u8 0, .int .u8 0, .int .u8 0, .int .u8 0, .int .u8 2, .int .u8 0, .int .u8 0, .int .u8 0, .int .u8 0, .int .u8 0, .int .u8 0, .int .u8 0] 73) = X := ⟨_, rfl⟩
    obtain ⟨h3, hh⟩ : ∃ h, X0.heap.size = h := ⟨_, rfl⟩
    have hbb33 : Below X0.heap.size X0 Yq33 := by rw [← hY]; exact al1 _ _
    have HZh3 : Hid (Yq33.heap[h3]? = some (.cells #[.int .u8 1, .int .u8 0, .int .u8 0, .int .u8 0, .int .u8 0, .int .u8 0, .int .u8 0, .int .u8 0, .int .u8 2, .int .u8 0, .int .u8 0, .int .u8 0, .int .u8 0, .int .u8 0, .int .u8 0, .int .u8 0] 73)) := hid (by rw [← hY, ← hh]; exact heap_alloc_new _ _)
    rw [hY, hh]
    clear hY hh
    clear hHeld
    have hHeld := HK.out Yq33 (below_both hB0 hbb33)
    refine hK.out _ _ (fun _ => hHeld) ?_
    clear hK K
    (try simp only [Act.put, List.setIfInBounds_toArray, List.set_cons_zero, List.set_cons_succ])
    refine wpAnyT_all (l := [4, 6, 14]) (by kernel_rfl) (by decide) ?_
    intro i hi
    simp only [List.mem_cons, List.not_mem_nil, or_false] at hi
    rcases hi with rfl | rfl | rfl
    · refine ⟨_, by (simp only [List.getElem?_toArray, List.getElem?_cons_zero, List.getElem?_cons_succ]; rfl), fun K hK => ?_⟩
      go_simp
      go_at_call 40
      refine (HW0.out (some ⟨h3, 0, none⟩) 2 2 Yq33).mono ?_
      rintro e Yq34 ⟨rfl, hbb34⟩
      clear hHeld
      have hHeld := HK.out Yq34 (below_both hB0 (below_both hbb33 hbb34))
      refine hK.out _ _ (fun _ => hHeld) ?_
      clear hK K
      (try simp only [Act.put, List.setIfInBounds_toArray, List.set_cons_zero, List.set_cons_succ])
      refine wpAnyT_all (l := [6, 14]) (by kernel_rfl) (by decide) ?_
      intro i hi
      simp only [List.mem_cons, List.not_mem_nil, or_false] at hi
      rcases hi with rfl | rfl
      · refine ⟨_, by (simp only [List.getElem?_toArray, List.getElem?_cons_zero, List.getElem?_cons_succ]; rfl), fun K hK => ?_⟩
        go_simp
        obtain ⟨Yq36, hY⟩ : ∃ X, Yq34.alloc (.cells #[.int .u8 3, .int .u8 0, .int .u8 0, .int .u8 0, .int .u8 0, .int .u8 0, .int .u8 0, .int .u8 0] 73) = X := ⟨_, rfl⟩
        obtain ⟨h6, hh⟩ : ∃ h, Yq34.heap.size = h := ⟨_, rfl⟩
        have hbb36 : Below Yq34.heap.size Yq34 Yq36 := by rw [← hY]; exact al1 _ _
        have HZh6 : Hid (Yq36.heap[h6]? = some (.cells #[.int .u8 3, .int .u8 0, .int .u8 0, .int .u8 0, .int .u8 0, .int .u8 0, .int .u8 0, .int .u8 0] 73)) := hid (by rw [← hY, ← hh]; exact heap_alloc_new _ _)
        rw [hY, hh]
        clear hY hh
        clear hHeld
        have hHeld := HK.out Yq36 (below_both hB0 (below_both (below_both hbb33 hbb34) hbb36))
        refine hK.out _ _ (fun _ => hHeld) ?_
        clear hK K
        (try simp only [Act.put, List.setIfInBounds_toArray, List.set_cons_zero, List.set_cons_succ])
        refine wpAnyT_all (l := [7, 14]) (by kernel_rfl) (by decide) ?_
        intro i hi
        simp only [List.mem_cons, List.not_mem_nil, or_false] at hi
        rcases hi with rfl | rfl
        · refine ⟨_, by (simp only [List.getElem?_toArray, List.getElem?_cons_zero, List.getElem?_cons_succ]; rfl), fun K hK => ?_⟩
          go_simp
          go_at_call 40
          refine (HW1.out (some ⟨h6, 0, none⟩) 1 1 Yq36).mono ?_
          rintro e Yq37 ⟨rfl, hbb37⟩
          clear hHeld
          have hHeld := HK.out Yq37 (below_both hB0 (below_both (below_both (below_both hbb33 hbb34) hbb36) hbb37))
          refine hK.out _ _ (fun _ => hHeld) ?_
          clear hK K
          (try simp only [Act.put, List.setIfInBounds_toArray, List.set_cons_zero, List.set_cons_succ])
          refine wpAnyT_all (l := [8, 14]) (by kernel_rfl) (by decide) ?_
          intro i hi
          simp only [List.mem_cons, List.not_mem_nil, or_false] at hi
          rcases hi with rfl | rfl
          · refine ⟨_, by (simp only [List.getElem?_toArray, List.getElem?_cons_zero, List.getElem?_cons_succ]; rfl), fun K hK => ?_⟩
            go_simp
            obtain ⟨Yq38, hY⟩ : ∃ X, Yq37.alloc (.cells #[.int .i64 0, .int .i64 0, .slice (some ⟨h3, 0, none⟩) 2 2, .int .i64 0, .int .i64 1, .slice (some ⟨h6, 0, none⟩) 1 1] 27) = X := ⟨_, rfl⟩
            obtain ⟨h8, hh⟩ : ∃ h, Yq37.heap.size = h := ⟨_, rfl⟩
            have hbb38 : Below Yq37.heap.size Yq37 Yq38 := by rw [← hY]; exact al1 _ _
            have HZh8 : Hid (Yq38.heap[h8]? = some (.cells #[.int .i64 0, .int .i64 0, .slice (some ⟨h3, 0, none⟩) 2 2, .int .i64 0, .int .i64 1, .slice (some ⟨h6, 0, none⟩) 1 1] 27)) := hid (by rw [← hY, ← hh]; exact heap_alloc_new _ _)
            rw [hY, hh]
            clear hY hh
            clear hHeld
            have hHeld := HK.out Yq38 (below_both hB0 (below_both (below_both (below_both (below_both hbb33 hbb34) hbb36) hbb37) hbb38))
            refine hK.out _ _ (fun _ => hHeld) ?_
            clear hK K
            (try simp only [Act.put, List.setIfInBounds_toArray, List.set_cons_zero, List.set_cons_succ])
            refine wpAnyT_all (l := [9, 14]) (by kernel_rfl) (by decide) ?_
            intro i hi
            simp only [List.mem_cons, List.not_mem_nil, or_false] at hi
            rcases hi with rfl | rfl
            · refine ⟨_, by (simp only [List.getElem?_toArray, List.getElem?_cons_zero, List.getElem?_cons_succ]; rfl), fun K hK => ?_⟩
              go_simp
              go_at_call 29
              refine (aw_call3 (HDD.out Yq38 (below_both hB0 (below_both (below_both (below_both (below_both hbb33 hbb34) hbb36) hbb37) hbb38))).2 (((below_both (below_both (below_both hbb34 hbb36) hbb37) hbb38).block _ (box_lt HZh3.out)).trans HZh3.out) (((below_both hbb37 hbb38).block _ (box_lt HZh6.out)).trans HZh6.out) (((Below.refl _ _).block _ (box_lt HZh8.out)).trans HZh8.out)).mono ?_
              rintro e Yq39 ⟨A9, c9, B9, d9, rfl, ho9, hbb39⟩
              have HO9 := hid ho9
              clear ho9
              clear hHeld
              have hHeld := HK.out Yq39 (below_both hB0 (below_both (below_both (below_both (below_both (below_both hbb33 hbb34) hbb36) hbb37) hbb38) hbb39))
              refine hK.out _ _ (fun _ => hHeld) ?_
              clear hK K
              (try simp only [Act.put, List.setIfInBounds_toArray, List.set_cons_zero, List.set_cons_succ])
              refine' wpAnyT_take (i := 10) (oi := ?oiq5) (v := ?vq5) ?hiq5 (by kernel_rfl) (by kernel_rfl) ?hqq5 ?hyq5 hHeld ?restq5
              case hiq5 => (simp only [List.getElem?_toArray, List.getElem?_cons_zero, List.getElem?_cons_succ]; rfl)
              case hqq5 => exact fun _ _ _ h => HQP _ _ _ _ _ h
              case hyq5 => (refine Or.inl ⟨by rfl, ?_⟩; intro w' hSw; (try dsimp only at hSw); go_simp; try with_reducible rfl)
              (try simp only [Act.put, List.setIfInBounds_toArray, List.set_cons_zero, List.set_cons_succ])
              refine' wpAnyT_take (i := 11) (oi := ?oiq6) (v := ?vq6) ?hiq6 (by kernel_rfl) (by kernel_rfl) ?hqq6 ?hyq6 hHeld ?restq6
              case hiq6 => (simp only [List.getElem?_toArray, List.getElem?_cons_zero, List.getElem?_cons_succ]; rfl)
              case hqq6 => exact fun _ _ _ h => HQP _ _ _ _ _ h
              case hyq6 => (refine Or.inl ⟨by rfl, ?_⟩; intro w' hSw; (try dsimp only at hSw); go_simp; try with_reducible rfl)
              (try simp only [Act.put, List.setIfInBounds_toArray, List.set_cons_zero, List.set_cons_succ])
              refine' wpAnyT_take (i := 12) (oi := ?oiq7) (v := ?vq7) ?hiq7 (by kernel_rfl) (by kernel_rfl) ?hqq7 ?hyq7 hHeld ?restq7
              case hiq7 => (simp only [List.getElem?_toArray, List.getElem?_cons_zero, List.getElem?_cons_succ]; rfl)
              case hqq7 => exact fun _ _ _ h => HQP _ _ _ _ _ h
              case hyq7 => (refine Or.inl ⟨by rfl, ?_⟩; intro w' hSw; (try dsimp only at hSw); go_simp; try with_reducible rfl)
              (try simp only [Act.put, List.setIfInBounds_toArray, List.set_cons_zero, List.set_cons_succ])
              refine' wpAnyT_take (i := 13) (oi := ?oiq8) (v := ?vq8) ?hiq8 (by kernel_rfl) (by kernel_rfl) ?hqq8 ?hyq8 hHeld ?restq8
              case hiq8 => (simp only [List.getElem?_toArray, List.getElem?_cons_zero, List.getElem?_cons_succ]; rfl)
              case hqq8 => exact fun _ _ _ h => HQP _ _ _ _ _ h
              case hyq8 => (refine Or.inl ⟨by rfl, ?_⟩; intro w' hSw; (try dsimp only at hSw); go_simp; try with_reducible rfl)
              (try simp only [Act.put, List.setIfInBounds_toArray, List.set_cons_zero, List.set_cons_succ])
              refine' wpAnyT_one (i := 14) (o := ?oiq9) (by kernel_rfl) ?hiq9 (fun K hK => ?stq9)
              case hiq9 => (simp only [List.getElem?_toArray, List.getElem?_cons_zero, List.getElem?_cons_succ]; rfl)
              go_simp
              obtain ⟨Yq7, hY⟩ : ∃ X, Yq39.alloc (.cells #[.slice none 0 0, .slice none 0 0] 25) = X := ⟨_, rfl⟩
              obtain ⟨pe, hh⟩ : ∃ h, Yq39.heap.size = h := ⟨_, rfl⟩
              have hbb7 : Below Yq39.heap.size Yq39 Yq7 := by rw [← hY]; exact al1 _ _
              have HZpe : Hid (Yq7.heap[pe]? = some (.cells #[.slice none 0 0, .slice none 0 0] 25)) := hid (by rw [← hY, ← hh]; exact heap_alloc_new _ _)
              have HPW : Hid (W5.heap.size ≤ pe) := hid (by rw [← hh]; exact (below_both hB0 (below_both (below_both (below_both (below_both (below_both hbb33 hbb34) hbb36) hbb37) hbb38) hbb39)).size)
              rw [hY, hh]
              clear hY hh
              clear hHeld
              have hHeld := HK.out Yq7 (below_both hB0 (below_both (below_both (below_both (below_both (below_both (below_both hbb33 hbb34) hbb36) hbb37) hbb38) hbb39) hbb7))
              refine hK.out _ _ (fun _ => hHeld) ?_
              clear hK K
              (try simp only [Act.put, List.setIfInBounds_toArray, List.set_cons_zero, List.set_cons_succ])
              refine' wpAnyT_one (i := 15) (o := ?oiq10) (by kernel_rfl) ?hiq10 (fun K hK => ?stq10)
              case hiq10 => (simp only [List.getElem?_toArray, List.getElem?_cons_zero, List.getElem?_cons_succ]; rfl)
              have hp15 := (((Below.refl _ _).block _ (box_lt HZpe.out)).trans HZpe.out)
              have p0 := cell_of_row _ _ 0 _ _ _ hp15
              have p1 := cell_of_row _ _ 1 _ _ _ hp15
              have fp0 := box_fr hp15 0
              have fp1 := box_fr hp15 1
              go_simp
              obtain ⟨YqN15, hY⟩ : ∃ X, (Yq7.setCell ⟨pe, 0, none⟩ (.slice A9 3 c9)).setCell ⟨pe, 1, none⟩ (.slice B9 3 d9) = X := ⟨_, rfl⟩
              rw [hY]
              have HP15 : Hid (YqN15.heap[pe]? = some (.cells #[.slice A9 3 c9, .slice B9 3 d9] 25)) := hid (by rw [← hY]; exact disk_set hp15 _ _)
              have HO15 : Hid (OwnG YqN15 0 st3 ca3 (.agg #[.slice A9 3 c9, .slice B9 3 d9])) := hid (by rw [← hY]; exact (HO9.out.keep (keep_below hbb7) (keep_below hbb7) (Nat.zero_le _)).keep (keep_two hp15 (by decide)) (keep_two hp15 (by decide)) (Nat.le_refl _))
              have hpeW : W5.heap.size ≤ pe := HPW.out
              have hbbnone15 : Below W5.heap.size W5 YqN15 := by rw [← hY]; exact ((below_both hB0 (below_both (below_both (below_both (below_both (below_both (below_both hbb33 hbb34) hbb36) hbb37) hbb38) hbb39) hbb7)).setCell hpeW _).setCell hpeW _
              clear hY hp15 p0 p1 fp0 fp1
              clear hHeld
              have hHeld := HK.out YqN15 hbbnone15
              refine hK.out _ _ (fun _ => hHeld) ?_
              clear hK K
              refine' wpAnyT_take (i := 16) (oi := ?oiq11) (v := ?vq11) ?hiq11 (by kernel_rfl) (by kernel_rfl) ?hqq11 ?hyq11 hHeld ?restq11
              case hiq11 => (simp only [List.getElem?_toArray, List.getElem?_cons_zero, List.getElem?_cons_succ]; rfl)
              case hqq11 => exact fun _ _ _ h => HQP _ _ _ _ _ h
              case hyq11 => (refine Or.inl ⟨by rfl, ?_⟩; intro w' hSw; (try dsimp only at hSw); go_simp; try with_reducible rfl)
              (try simp only [Act.put, List.setIfInBounds_toArray, List.set_cons_zero, List.set_cons_succ])
              refine' wpAnyT_one (i := 17) (o := ?oiq12) (by kernel_rfl) ?hiq12 (fun K hK => ?stq12)
              case hiq12 => (simp only [List.getElem?_toArray, List.getElem?_cons_zero, List.getElem?_cons_succ]; rfl)
              go_simp
              refine hK.out _ _ (fun h => absurd h (by decide)) ?_
              clear hK K
              (try simp only [Act.put, List.setIfInBounds_toArray, List.set_cons_zero, List.set_cons_succ])
              refine wpAnyT_done (by kernel_rfl) ?_ _
              exact HC.out YqN15 h3 h6 h8 pe A9 c9 B9 d9 ⟨hbbnone15, HP15.out, HO15.out.dk⟩
            · refine ⟨_, by (simp only [List.getElem?_toArray, List.getElem?_cons_zero, List.getElem?_cons_succ]; rfl), fun K hK => ?_⟩
              go_simp
              obtain ⟨Yq7, hY⟩ : ∃ X, Yq38.alloc (.cells #[.slice none 0 0, .slice none 0 0] 25) = X := ⟨_, rfl⟩
              obtain ⟨pe, hh⟩ : ∃ h, Yq38.heap.size = h := ⟨_, rfl⟩
              have hbb7 : Below Yq38.heap.size Yq38 Yq7 := by rw [← hY]; exact al1 _ _
              have HZpe : Hid (Yq7.heap[pe]? = some (.cells #[.slice none 0 0, .slice none 0 0] 25)) := hid (by rw [← hY, ← hh]; exact heap_alloc_new _ _)
              have HPW : Hid (W5.heap.size ≤ pe) := hid (by rw [← hh]; exact (below_both hB0 (below_both (below_both (below_both (below_both hbb33 hbb34) hbb36) hbb37) hbb38)).size)
              rw [hY, hh]
              clear hY hh
              clear hHeld
              have hHeld := HK.out Yq7 (below_both hB0 (below_both (below_both (below_both (below_both (below_both hbb33 hbb34) hbb36) hbb37) hbb38) hbb7))
              refine hK.out _ _ (fun _ => hHeld) ?_
              clear hK K
              (try simp only [Act.put, List.setIfInBounds_toArray, List.set_cons_zero, List.set_cons_succ])
              refine' wpAnyT_one (i := 9) (o := ?oiq13) (by kernel_rfl) ?hiq13 (fun K hK => ?stq13)
              case hiq13 => (simp only [List.getElem?_toArray, List.getElem?_cons_zero, List.getElem?_cons_succ]; rfl)
              go_simp
              go_at_call 29
              refine (aw_call3 (HDD.out Yq7 (below_both hB0 (below_both (below_both (below_both (below_both (below_both hbb33 hbb34) hbb36) hbb37) hbb38) hbb7))).2 (((below_both (below_both (below_both (below_both hbb34 hbb36) hbb37) hbb38) hbb7).block _ (box_lt HZh3.out)).trans HZh3.out) (((below_both (below_both hbb37 hbb38) hbb7).block _ (box_lt HZh6.out)).trans HZh6.out) ((hbb7.block _ (box_lt HZh8.out)).trans HZh8.out)).mono ?_
              rintro e Yq39 ⟨A9, c9, B9, d9, rfl, ho9, hbb39⟩
              have HO9 := hid ho9
              clear ho9
              clear hHeld
              have hHeld := HK.out Yq39 (below_both hB0 (below_both (below_both (below_both (below_both (below_both (below_both hbb33 hbb34) hbb36) hbb37) hbb38) hbb7) hbb39))
              refine hK.out _ _ (fun _ => hHeld) ?_
              clear hK K
              (try simp only [Act.put, List.setIfInBounds_toArray, List.set_cons_zero, List.set_cons_succ])
              refine' wpAnyT_take (i := 10) (oi := ?oiq14) (v := ?vq14) ?hiq14 (by kernel_rfl) (by kernel_rfl) ?hqq14 ?hyq14 hHeld ?restq14
              case hiq14 => (simp only [List.getElem?_toArray, List.getElem?_cons_zero, List.getElem?_cons_succ]; rfl)
              case hqq14 => exact fun _ _ _ h => HQP _ _ _ _ _ h
              case hyq14 => (refine Or.inl ⟨by rfl, ?_⟩; intro w' hSw; (try dsimp only at hSw); go_simp; try with_reducible rfl)
              (try simp only [Act.put, List.setIfInBounds_toArray, List.set_cons_zero, List.set_cons_succ])
              refine' wpAnyT_take (i := 11) (oi := ?oiq15) (v := ?vq15) ?hiq15 (by kernel_rfl) (by kernel_rfl) ?hqq15 ?hyq15 hHeld ?restq15
              case hiq15 => (simp only [List.getElem?_toArray, List.getElem?_cons_zero, List.getElem?_cons_succ]; rfl)
              case hqq15 => exact fun _ _ _ h => HQP _ _ _ _ _ h
              case hyq15 => (refine Or.inl ⟨by rfl, ?_⟩; intro w' hSw; (try dsimp only at hSw); go_simp; try with_reducible rfl)
              (try simp only [Act.put, List.setIfInBounds_toArray, List.set_cons_zero, List.set_cons_succ])
              refine' wpAnyT_take (i := 12) (oi := ?oiq16) (v := ?vq16) ?hiq16 (by kernel_rfl) (by kernel_rfl) ?hqq16 ?hyq16 hHeld ?restq16
              case hiq16 => (simp only [List.getElem?_toArray, List.getElem?_cons_zero, List.getElem?_cons_succ]; rfl)
              case hqq16 => exact fun _ _ _ h => HQP _ _ _ _ _ h
              case hyq16 => (refine Or.inl ⟨by rfl, ?_⟩; intro w' hSw; (try dsimp only at hSw); go_simp; try with_reducible rfl)
              (try simp only [Act.put, List.setIfInBounds_toArray, List.set_cons_zero, List.set_cons_succ])
              refine' wpAnyT_take (i := 13) (oi := ?oiq17) (v := ?vq17) ?hiq17 (by kernel_rfl) (by kernel_rfl) ?hqq17 ?hyq17 hHeld ?restq17
              case hiq17 => (simp only [List.getElem?_toArray, List.getElem?_cons_zero, List.getElem?_cons_succ]; rfl)
              case hqq17 => exact fun _ _ _ h => HQP _ _ _ _ _ h
              case hyq17 => (refine Or.inl ⟨by rfl, ?_⟩; intro w' hSw; (try dsimp only at hSw); go_simp; try with_reducible rfl)
              (try simp only [Act.put, List.setIfInBounds_toArray, List.set_cons_zero, List.set_cons_succ])
              refine' wpAnyT_one (i := 15) (o := ?oiq18) (by kernel_rfl) ?hiq18 (fun K hK => ?stq18)
              case hiq18 => (simp only [List.getElem?_toArray, List.getElem?_cons_zero, List.getElem?_cons_succ]; rfl)
              have hp15 := ((hbb39.block _ (box_lt HZpe.out)).trans HZpe.out)
              have p0 := cell_of_row _ _ 0 _ _ _ hp15
              have p1 := cell_of_row _ _ 1 _ _ _ hp15
              have fp0 := box_fr hp15 0
              have fp1 := box_fr hp15 1
              go_simp
              obtain ⟨YqN15, hY⟩ : ∃ X, (Yq39.setCell ⟨pe, 0, none⟩ (.slice A9 3 c9)).setCell ⟨pe, 1, none⟩ (.slice B9 3 d9) = X := ⟨_, rfl⟩
              rw [hY]
              have HP15 : Hid (YqN15.heap[pe]? = some (.cells #[.slice A9 3 c9, .slice B9 3 d9] 25)) := hid (by rw [← hY]; exact disk_set hp15 _ _)
              have HO15 : Hid (OwnG YqN15 0 st3 ca3 (.agg #[.slice A9 3 c9, .slice B9 3 d9])) := hid (by rw [← hY]; exact (HO9.out.keep (keep_below (Below.refl _ _)) (keep_below (Below.refl _ _)) (Nat.zero_le _)).keep (keep_two hp15 (by decide)) (keep_two hp15 (by decide)) (Nat.le_refl _))
              have hpeW : W5.heap.size ≤ pe := HPW.out
              have hbbnone15 : Below W5.heap.size W5 YqN15 := by rw [← hY]; exact ((below_both hB0 (below_both (below_both (below_both (below_both (below_both (below_both hbb33 hbb34) hbb36) hbb37) hbb38) hbb7) hbb39)).setCell hpeW _).setCell hpeW _
              clear hY hp15 p0 p1 fp0 fp1
              clear hHeld
              have hHeld := HK.out YqN15 hbbnone15
              refine hK.out _ _ (fun _ => hHeld) ?_
              clear hK K
              refine' wpAnyT_take (i := 16) (oi := ?oiq19) (v := ?vq19) ?hiq19 (by kernel_rfl) (by kernel_rfl) ?hqq19 ?hyq19 hHeld ?restq19
              case hiq19 => (simp only [List.getElem?_toArray, List.getElem?_cons_zero, List.getElem?_cons_succ]; rfl)
              case hqq19 => exact fun _ _ _ h => HQP _ _ _ _ _ h
              case hyq19 => (refine Or.inl ⟨by rfl, ?_⟩; intro w' hSw; (try dsimp only at hSw); go_simp; try with_reducible rfl)
              (try simp only [Act.put, List.setIfInBounds_toArray, List.set_cons_zero, List.set_cons_succ])
              refine' wpAnyT_one (i := 17) (o := ?oiq20) (by kernel_rfl) ?hiq20 (fun K hK => ?stq20)
              case hiq20 => (simp only [List.getElem?_toArray, List.getElem?_cons_zero, List.getElem?_cons_succ]; rfl)
              go_simp
              refine hK.out _ _ (fun h => absurd h (by decide)) ?_
              clear hK K
              (try simp only [Act.put, List.setIfInBounds_toArray, List.set_cons_zero, List.set_cons_succ])
              refine wpAnyT_done (by kernel_rfl) ?_ _
              exact HC.out YqN15 h3 h6 h8 pe A9 c9 B9 d9 ⟨hbbnone15, HP15.out, HO15.out.dk⟩
          · refine ⟨_, by (simp only [List.getElem?_toArray, List.getElem?_cons_zero, List.getElem?_cons_succ]; rfl), fun K hK => ?_⟩
            go_simp
            obtain ⟨Yq7, hY⟩ : ∃ X, Yq37.alloc (.cells #[.slice none 0 0, .slice none 0 0] 25) = X := ⟨_, rfl⟩
            obtain ⟨pe, hh⟩ : ∃ h, Yq37.heap.size = h := ⟨_, rfl⟩
            have hbb7 : Below Yq37.heap.size Yq37 Yq7 := by rw [← hY]; exact al1 _ _
            have HZpe : Hid (Yq7.heap[pe]? = some (.cells #[.slice none 0 0, .slice none 0 0] 25)) := hid (by rw [← hY, ← hh]; exact heap_alloc_new _ _)
            have HPW : Hid (W5.heap.size ≤ pe) := hid (by rw [← hh]; exact (below_both hB0 (below_both (below_both (below_both hbb33 hbb34) hbb36) hbb37)).size)
            rw [hY, hh]
            clear hY hh
            clear hHeld
            have hHeld := HK.out Yq7 (below_both hB0 (below_both (below_both (below_both (below_both hbb33 hbb34) hbb36) hbb37) hbb7))
            refine hK.out _ _ (fun _ => hHeld) ?_
            clear hK K
            (try simp only [Act.put, List.setIfInBounds_toArray, List.set_cons_zero, List.set_cons_succ])
            refine' wpAnyT_one (i := 8) (o := ?oiq21) (by kernel_rfl) ?hiq21 (fun K hK => ?stq21)
            case hiq21 => (simp only [List.getElem?_toArray, List.getElem?_cons_zero, List.getElem?_cons_succ]; rfl)
            go_simp
            obtain ⟨Yq38, hY⟩ : ∃ X, Yq7.alloc (.cells #[.int .i64 0, .int .i64 0, .slice (some ⟨h3, 0, none⟩) 2 2, .int .i64 0, .int .i64 1, .slice (some ⟨h6, 0, none⟩) 1 1] 27) = X := ⟨_, rfl⟩
            obtain ⟨h8, hh⟩ : ∃ h, Yq7.heap.size = h := ⟨_, rfl⟩
            have hbb38 : Below Yq7.heap.size Yq7 Yq38 := by rw [← hY]; exact al1 _ _
            have HZh8 : Hid (Yq38.heap[h8]? = some (.cells #[.int .i64 0, .int .i64 0, .slice (some ⟨h3, 0, none⟩) 2 2, .int .i64 0, .int .i64 1, .slice (some ⟨h6, 0, none⟩) 1 1] 27)) := hid (by rw [← hY, ← hh]; exact heap_alloc_new _ _)
            rw [hY, hh]
            clear hY hh
            clear hHeld
            have hHeld := HK.out Yq38 (below_both hB0 (below_both (below_both (below_both (below_both (below_both hbb33 hbb34) hbb36) hbb37) hbb7) hbb38))
            refine hK.out _ _ (fun _ => hHeld) ?_
            clear hK K
            (try simp only [Act.put, List.setIfInBounds_toArray, List.set_cons_zero, List.set_cons_succ])
            refine' wpAnyT_one (i := 9) (o := ?oiq22) (by kernel_rfl) ?hiq22 (fun K hK => ?stq22)
            case hiq22 => (simp only [List.getElem?_toArray, List.getElem?_cons_zero, List.getElem?_cons_succ]; rfl)
            go_simp
            go_at_call 29
            refine (aw_call3 (HDD.out Yq38 (below_both hB0 (below_both (below_both (below_both (below_both (below_both hbb33 hbb34) hbb36) hbb37) hbb7) hbb38))).2 (((below_both (below_both (below_both (below_both hbb34 hbb36) hbb37) hbb7) hbb38).block _ (box_lt HZh3.out)).trans HZh3.out) (((below_both (below_both hbb37 hbb7) hbb38).block _ (box_lt HZh6.out)).trans HZh6.out) (((Below.refl _ _).block _ (box_lt HZh8.out)).trans HZh8.out)).mono ?_
            rintro e Yq39 ⟨A9, c9, B9, d9, rfl, ho9, hbb39⟩
            have HO9 := hid ho9
            clear ho9
            clear hHeld
            have hHeld := HK.out Yq39 (below_both hB0 (below_both (below_both (below_both (below_both (below_both (below_both hbb33 hbb34) hbb36) hbb37) hbb7) hbb38) hbb39))
            refine hK.out _ _ (fun _ => hHeld) ?_
            clear hK K
            (try simp only [Act.put, List.setIfInBounds_toArray, List.set_cons_zero, List.set_cons_succ])
            refine' wpAnyT_take (i := 10) (oi := ?oiq23) (v := ?vq23) ?hiq23 (by kernel_rfl) (by kernel_rfl) ?hqq23 ?hyq23 hHeld ?restq23
            case hiq23 => (simp only [List.getElem?_toArray, List.getElem?_cons_zero, List.getElem?_cons_succ]; rfl)
            case hqq23 => exact fun _ _ _ h => HQP _ _ _ _ _ h
            case hyq23 => (refine Or.inl ⟨by rfl, ?_⟩; intro w' hSw; (try dsimp only at hSw); go_simp; try with_reducible rfl)
            (try simp only [Act.put, List.setIfInBounds_toArray, List.set_cons_zero, List.set_cons_succ])
            refine' wpAnyT_take (i := 11) (oi := ?oiq24) (v := ?vq24) ?hiq24 (by kernel_rfl) (by kernel_rfl) ?hqq24 ?hyq24 hHeld ?restq24
            case hiq24 => (simp only [List.getElem?_toArray, List.getElem?_cons_zero, List.getElem?_cons_succ]; rfl)
            case hqq24 => exact fun _ _ _ h => HQP _ _ _ _ _ h
            case hyq24 => (refine Or.inl ⟨by rfl, ?_⟩; intro w' hSw; (try dsimp only at hSw); go_simp; try with_reducible rfl)
            (try simp only [Act.put, List.setIfInBounds_toArray, List.set_cons_zero, List.set_cons_succ])
            refine' wpAnyT_take (i := 12) (oi := ?oiq25) (v := ?vq25) ?hiq25 (by kernel_rfl) (by kernel_rfl) ?hqq25 ?hyq25 hHeld ?restq25
            case hiq25 => (simp only [List.getElem?_toArray, List.getElem?_cons_zero, List.getElem?_cons_succ]; rfl)
            case hqq25 => exact fun _ _ _ h => HQP _ _ _ _ _ h
            case hyq25 => (refine Or.inl ⟨by rfl, ?_⟩; intro w' hSw; (try dsimp only at hSw); go_simp; try with_reducible rfl)
            (try simp only [Act.put, List.setIfInBounds_toArray, List.set_cons_zero, List.set_cons_succ])
            refine' wpAnyT_take (i := 13) (oi := ?oiq26) (v := ?vq26) ?hiq26 (by kernel_rfl) (by kernel_rfl) ?hqq26 ?hyq26 hHeld ?restq26
            case hiq26 => (simp only [List.getElem?_toArray, List.getElem?_cons_zero, List.getElem?_cons_succ]; rfl)
            case hqq26 => exact fun _ _ _ h => HQP _ _ _ _ _ h
            case hyq26 => (refine Or.inl ⟨by rfl, ?_⟩; intro w' hSw; (try dsimp only at hSw); go_simp; try with_reducible rfl)
            (try simp only [Act.put, List.setIfInBounds_toArray, List.set_cons_zero, List.set_cons_succ])
            refine' wpAnyT_one (i := 15) (o := ?oiq27) (by kernel_rfl) ?hiq27 (fun K hK => ?stq27)
            case hiq27 => (simp only [List.getElem?_toArray, List.getElem?_cons_zero, List.getElem?_cons_succ]; rfl)
            have hp15 := (((below_both hbb38 hbb39).block _ (box_lt HZpe.out)).trans HZpe.out)
            have p0 := cell_of_row _ _ 0 _ _ _ hp15
            have p1 := cell_of_row _ _ 1 _ _ _ hp15
            have fp0 := box_fr hp15 0
            have fp1 := box_fr hp15 1
            go_simp
            obtain ⟨YqN15, hY⟩ : ∃ X, (Yq39.setCell ⟨pe, 0, none⟩ (.slice A9 3 c9)).setCell ⟨pe, 1, none⟩ (.slice B9 3 d9) = X := ⟨_, rfl⟩
            rw [hY]
            have HP15 : Hid (YqN15.heap[pe]? = some (.cells #[.slice A9 3 c9, .slice B9 3 d9] 25)) := hid (by rw [← hY]; exact disk_set hp15 _ _)
            have HO15 : Hid (OwnG YqN15 0 st3 ca3 (.agg #[.slice A9 3 c9, .slice B9 3 d9])) := hid (by rw [← hY]; exact (HO9.out.keep (keep_below (Below.refl _ _)) (keep_below (Below.refl _ _)) (Nat.zero_le _)).keep (keep_two hp15 (by decide)) (keep_two hp15 (by decide)) (Nat.le_refl _))
            have hpeW : W5.heap.size ≤ pe := HPW.out
            have hbbnone15 : Below W5.heap.size W5 YqN15 := by rw [← hY]; exact ((below_both hB0 (below_both (below_both (below_both (below_both (below_both (below_both hbb33 hbb34) hbb36) hbb37) hbb7) hbb38) hbb39)).setCell hpeW _).setCell hpeW _
            clear hY hp15 p0 p1 fp0 fp1
            clear hHeld
            have hHeld := HK.out YqN15 hbbnone15
            refine hK.out _ _ (fun _ => hHeld) ?_
            clear hK K
            refine' wpAnyT_take (i := 16) (oi := ?oiq28) (v := ?vq28) ?hiq28 (by kernel_rfl) (by kernel_rfl) ?hqq28 ?hyq28 hHeld ?restq28
            case hiq28 => (simp only [List.getElem?_toArray, List.getElem?_cons_zero, List.getElem?_cons_succ]; rfl)
            case hqq28 => exact fun _ _ _ h => HQP _ _ _ _ _ h
            case hyq28 => (refine Or.inl ⟨by rfl, ?_⟩; intro w' hSw; (try dsimp only at hSw); go_simp; try with_reducible rfl)
            (try simp only [Act.put, List.setIfInBounds_toArray, List.set_cons_zero, List.set_cons_succ])
            refine' wpAnyT_one (i := 17) (o := ?oiq29) (by kernel_rfl) ?hiq29 (fun K hK => ?stq29)
            case hiq29 => (simp only [List.getElem?_toArray, List.getElem?_cons_zero, List.getElem?_cons_succ]; rfl)
            go_simp
            refine hK.out _ _ (fun h => absurd h (by decide)) ?_
            clear hK K
            (try simp only [Act.put, List.setIfInBounds_toArray, List.set_cons_zero, List.set_cons_succ])
            refine wpAnyT_done (by kernel_rfl) ?_ _
            exact HC.out YqN15 h3 h6 h8 pe A9 c9 B9 d9 ⟨hbbnone15, HP15.out, HO15.out.dk⟩
        · refine ⟨_, by (simp only [List.getElem?_toArray, List.getElem?_cons_zero, List.getElem?_cons_succ]; rfl), fun K hK => ?_⟩
          go_simp
          obtain ⟨Yq7, hY⟩ : ∃ X, Yq36.alloc (.cells #[.slice none 0 0, .slice none 0 0] 25) = X := ⟨_, rfl⟩
          obtain ⟨pe, hh⟩ : ∃ h, Yq36.heap.size = h := ⟨_, rfl⟩
          have hbb7 : Below Yq36.heap.size Yq36 Yq7 := by rw [← hY]; exact al1 _ _
          have HZpe : Hid (Yq7.heap[pe]? = some (.cells #[.slice none 0 0, .slice none 0 0] 25)) := hid (by rw [← hY, ← hh]; exact heap_alloc_new _ _)
          have HPW : Hid (W5.heap.size ≤ pe) := hid (by rw [← hh]; exact (below_both hB0 (below_both (below_both hbb33 hbb34) hbb36)).size)
          rw [hY, hh]
          clear hY hh
          clear hHeld
          have hHeld := HK.out Yq7 (below_both hB0 (below_both (below_both (below_both hbb33 hbb34) hbb36) hbb7))
          refine hK.out _ _ (fun _ => hHeld) ?_
          clear hK K
          (try simp only [Act.put, List.setIfInBounds_toArray, List.set_cons_zero, List.set_cons_succ])
          refine' wpAnyT_one (i := 7) (o := ?oiq30) (by kernel_rfl) ?hiq30 (fun K hK => ?stq30)
          case hiq30 => (simp only [List.getElem?_toArray, List.getElem?_cons_zero, List.getElem?_cons_succ]; rfl)
          go_simp
          go_at_call 40
          refine (HW1.out (some ⟨h6, 0, none⟩) 1 1 Yq7).mono ?_
          rintro e Yq37 ⟨rfl, hbb37⟩
          clear hHeld
          have hHeld := HK.out Yq37 (below_both hB0 (below_both (below_both (below_both (below_both hbb33 hbb34) hbb36) hbb7) hbb37))
          refine hK.out _ _ (fun _ => hHeld) ?_
          clear hK K
          (try simp only [Act.put, List.setIfInBounds_toArray, List.set_cons_zero, List.set_cons_succ])
          refine' wpAnyT_one (i := 8) (o := ?oiq31) (by kernel_rfl) ?hiq31 (fun K hK => ?stq31)
          case hiq31 => (simp only [List.getElem?_toArray, List.getElem?_cons_zero, List.getElem?_cons_succ]; rfl)
          go_simp
          obtain ⟨Yq38, hY⟩ : ∃ X, Yq37.alloc (.cells #[.int .i64 0, .int .i64 0, .slice (some ⟨h3, 0, none⟩) 2 2, .int .i64 0, .int .i64 1, .slice (some ⟨h6, 0, none⟩) 1 1] 27) = X := ⟨_, rfl⟩
          obtain ⟨h8, hh⟩ : ∃ h, Yq37.heap.size = h := ⟨_, rfl⟩
          have hbb38 : Below Yq37.heap.size Yq37 Yq38 := by rw [← hY]; exact al1 _ _
          have HZh8 : Hid (Yq38.heap[h8]? = some (.cells #[.int .i64 0, .int .i64 0, .slice (some ⟨h3, 0, none⟩) 2 2, .int .i64 0, .int .i64 1, .slice (some ⟨h6, 0, none⟩) 1 1] 27)) := hid (by rw [← hY, ← hh]; exact heap_alloc_new _ _)
          rw [hY, hh]
          clear hY hh
          clear hHeld
          have hHeld := HK.out Yq38 (below_both hB0 (below_both (below_both (below_both (below_both (below_both hbb33 hbb34) hbb36) hbb7) hbb37) hbb38))
          refine hK.out _ _ (fun _ => hHeld) ?_
          clear hK K
          (try simp only [Act.put, List.setIfInBounds_toArray, List.set_cons_zero, List.set_cons_succ])
          refine' wpAnyT_one (i := 9) (o := ?oiq32) (by kernel_rfl) ?hiq32 (fun K hK => ?stq32)
          case hiq32 => (simp only [List.getElem?_toArray, List.getElem?_cons_zero, List.getElem?_cons_succ]; rfl)
          go_simp
          go_at_call 29
          refine (aw_call3 (HDD.out Yq38 (below_both hB0 (below_both (below_both (below_both (below_both (below_both hbb33 hbb34) hbb36) hbb7) hbb37) hbb38))).2 (((below_both (below_both (below_both (below_both hbb34 hbb36) hbb7) hbb37) hbb38).block _ (box_lt HZh3.out)).trans HZh3.out) (((below_both (below_both hbb7 hbb37) hbb38).block _ (box_lt HZh6.out)).trans HZh6.out) (((Below.refl _ _).block _ (box_lt HZh8.out)).trans HZh8.out)).mono ?_
          rintro e Yq39 ⟨A9, c9, B9, d9, rfl, ho9, hbb39⟩
          have HO9 := hid ho9
          clear ho9
          clear hHeld
          have hHeld := HK.out Yq39 (below_both hB0 (below_both (below_both (below_both (below_both (below_both (below_both hbb33 hbb34) hbb36) hbb7) hbb37) hbb38) hbb39))
          refine hK.out _ _ (fun _ => hHeld) ?_
          clear hK K
          (try simp only [Act.put, List.setIfInBounds_toArray, List.set_cons_zero, List.set_cons_succ])
          refine' wpAnyT_take (i := 10) (oi := ?oiq33) (v := ?vq33) ?hiq33 (by kernel_rfl) (by kernel_rfl) ?hqq33 ?hyq33 hHeld ?restq33
          case hiq33 => (simp only [List.getElem?_toArray, List.getElem?_cons_zero, List.getElem?_cons_succ]; rfl)
          case hqq33 => exact fun _ _ _ h => HQP _ _ _ _ _ h
          case hyq33 => (refine Or.inl ⟨by rfl, ?_⟩; intro w' hSw; (try dsimp only at hSw); go_simp; try with_reducible rfl)
          (try simp only [Act.put, List.setIfInBounds_toArray, List.set_cons_zero, List.set_cons_succ])
          refine' wpAnyT_take (i := 11) (oi := ?oiq34) (v := ?vq34) ?hiq34 (by kernel_rfl) (by kernel_rfl) ?hqq34 ?hyq34 hHeld ?restq34
          case hiq34 => (simp only [List.getElem?_toArray, List.getElem?_cons_zero, List.getElem?_cons_succ]; rfl)
          case hqq34 => exact fun _ _ _ h => HQP _ _ _ _ _ h
          case hyq34 => (refine Or.inl ⟨by rfl, ?_⟩; intro w' hSw; (try dsimp only at hSw); go_simp; try with_reducible rfl)
          (try simp only [Act.put, List.setIfInBounds_toArray, List.set_cons_zero, List.set_cons_succ])
          refine' wpAnyT_take (i := 12) (oi := ?oiq35) (v := ?vq35) ?hiq35 (by kernel_rfl) (by kernel_rfl) ?hqq35 ?hyq35 hHeld ?restq35
          case hiq35 => (simp only [List.getElem?_toArray, List.getElem?_cons_zero, List.getElem?_cons_succ]; rfl)
          case hqq35 => exact fun _ _ _ h => HQP _ _ _ _ _ h
          case hyq35 => (refine Or.inl ⟨by rfl, ?_⟩; intro w' hSw; (try dsimp only at hSw); go_simp; try with_reducible rfl)
          (try simp only [Act.put, List.setIfInBounds_toArray, List.set_cons_zero, List.set_cons_succ])
          refine' wpAnyT_take (i := 13) (oi := ?oiq36) (v := ?vq36) ?hiq36 (by kernel_rfl) (by kernel_rfl) ?hqq36 ?hyq36 hHeld ?restq36
          case hiq36 => (simp only [List.getElem?_toArray, List.getElem?_cons_zero, List.getElem?_cons_succ]; rfl)
          case hqq36 => exact fun _ _ _ h => HQP _ _ _ _ _ h
          case hyq36 => (refine Or.inl ⟨by rfl, ?_⟩; intro w' hSw; (try dsimp only at hSw); go_simp; try with_reducible rfl)
          (try simp only [Act.put, List.setIfInBounds_toArray, List.set_cons_zero, List.set_cons_succ])
          refine' wpAnyT_one (i := 15) (o := ?oiq37) (by kernel_rfl) ?hiq37 (fun K hK => ?stq37)
          case hiq37 => (simp only [List.getElem?_toArray, List.getElem?_cons_zero, List.getElem?_cons_succ]; rfl)
          have hp15 := (((below_both (below_both hbb37 hbb38) hbb39).block _ (box_lt HZpe.out)).trans HZpe.out)
          have p0 := cell_of_row _ _ 0 _ _ _ hp15
          have p1 := cell_of_row _ _ 1 _ _ _ hp15
          have fp0 := box_fr hp15 0
          have fp1 := box_fr hp15 1
          go_simp
          obtain ⟨YqN15, hY⟩ : ∃ X, (Yq39.setCell ⟨pe, 0, none⟩ (.slice A9 3 c9)).setCell ⟨pe, 1, none⟩ (.slice B9 3 d9) = X := ⟨_, rfl⟩
          rw [hY]
          have HP15 : Hid (YqN15.heap[pe]? = some (.cells #[.slice A9 3 c9, .slice B9 3 d9] 25)) := hid (by rw [← hY]; exact disk_set hp15 _ _)
          have HO15 : Hid (OwnG YqN15 0 st3 ca3 (.agg #[.slice A9 3 c9, .slice B9 3 d9])) := hid (by rw [← hY]; exact (HO9.out.keep (keep_below (Below.refl _ _)) (keep_below (Below.refl _ _)) (Nat.zero_le _)).keep (keep_two hp15 (by decide)) (keep_two hp15 (by decide)) (Nat.le_refl _))
          have hpeW : W5.heap.size ≤ pe := HPW.out
          have hbbnone15 : Below W5.heap.size W5 YqN15 := by rw [← hY]; exact ((below_both hB0 (below_both (below_both (below_both (below_both (below_both (below_both hbb33 hbb34) hbb36) hbb7) hbb37) hbb38) hbb39)).setCell hpeW _).setCell hpeW _
          clear hY hp15 p0 p1 fp0 fp1
          clear hHeld
          have hHeld := HK.out YqN15 hbbnone15
          refine hK.out _ _ (fun _ => hHeld) ?_
          clear hK K
          refine' wpAnyT_take (i := 16) (oi := ?oiq38) (v := ?vq38) ?hiq38 (by kernel_rfl) (by kernel_rfl) ?hqq38 ?hyq38 hHeld ?restq38
          case hiq38 => (simp only [List.getElem?_toArray, List.getElem?_cons_zero, List.getElem?_cons_succ]; rfl)
          case hqq38 => exact fun _ _ _ h => HQP _ _ _ _ _ h
          case hyq38 => (refine Or.inl ⟨by rfl, ?_⟩; intro w' hSw; (try dsimp only at hSw); go_simp; try with_reducible rfl)
          (try simp only [Act.put, List.setIfInBounds_toArray, List.set_cons_zero, List.set_cons_succ])
          refine' wpAnyT_one (i := 17) (o := ?oiq39) (by kernel_rfl) ?hiq39 (fun K hK => ?stq39)
          case hiq39 => (simp only [List.getElem?_toArray, List.getElem?_cons_zero, List.getElem?_cons_succ]; rfl)
          go_simp
          refine hK.out _ _ (fun h => absurd h (by decide)) ?_
          clear hK K
          (try simp only [Act.put, List.setIfInBounds_toArray, List.set_cons_zero, List.set_cons_succ])
          refine wpAnyT_done (by kernel_rfl) ?_ _
          exact HC.out YqN15 h3 h6 h8 pe A9 c9 B9 d9 ⟨hbbnone15, HP15.out, HO15.out.dk⟩
      · refine ⟨_, by (simp only [List.getElem?_toArray, List.getElem?_cons_zero, List.getElem?_cons_succ]; rfl), fun K hK => ?_⟩
        go_simp
        obtain ⟨Yq7, hY⟩ : ∃ X, Yq34.alloc (.cells #[.slice none 0 0, .slice none 0 0] 25) = X := ⟨_, rfl⟩
        obtain ⟨pe, hh⟩ : ∃ h, Yq34.heap.size = h := ⟨_, rfl⟩
        have hbb7 : Below Yq34.heap.size Yq34 Yq7 := by rw [← hY]; exact al1 _ _
        have HZpe : Hid (Yq7.heap[pe]? = some (.cells #[.slice none 0 0, .slice none 0 0] 25)) := hid (by rw [← hY, ← hh]; exact heap_alloc_new _ _)
        have HPW : Hid (W5.heap.size ≤ pe) := hid (by rw [← hh]; exact (below_both hB0 (below_both hbb33 hbb34)).size)
        rw [hY, hh]
        clear hY hh
        clear hHeld
        have hHeld := HK.out Yq7 (below_both hB0 (below_both (below_both hbb33 hbb34) hbb7))
        refine hK.out _ _ (fun _ => hHeld) ?_
        clear hK K
        (try simp only [Act.put, List.setIfInBounds_toArray, List.set_cons_zero, List.set_cons_succ])
        refine' wpAnyT_one (i := 6) (o := ?oiq40) (by kernel_rfl) ?hiq40 (fun K hK => ?stq40)
        case hiq40 => (simp only [List.getElem?_toArray, List.getElem?_cons_zero, List.getElem?_cons_succ]; rfl)
        go_simp
        obtain ⟨Yq36, hY⟩ : ∃ X, Yq7.alloc (.cells #[.int .u8 3, .int .u8 0, .int .u8 0, .int .u8 0, .int .u8 0, .int .u8 0, .int .u8 0, .int .u8 0] 73) = X := ⟨_, rfl⟩
        obtain ⟨h6, hh⟩ : ∃ h, Yq7.heap.size = h := ⟨_, rfl⟩
        have hbb36 : Below Yq7.heap.size Yq7 Yq36 := by rw [← hY]; exact al1 _ _
        have HZh6 : Hid (Yq36.heap[h6]? = some (.cells #[.int .u8 3, .int .u8 0, .int .u8 0, .int .u8 0, .int .u8 0, .int .u8 0, .int .u8 0, .int .u8 0] 73)) := hid (by rw [← hY, ← hh]; exact heap_alloc_new _ _)
        rw [hY, hh]
        clear hY hh
        clear hHeld
        have hHeld := HK.out Yq36 (below_both hB0 (below_both (below_both (below_both hbb33 hbb34) hbb7) hbb36))
        refine hK.out _ _ (fun _ => hHeld) ?_
        clear hK K
        (try simp only [Act.put, List.setIfInBounds_toArray, List.set_cons_zero, List.set_cons_succ])
        refine' wpAnyT_one (i := 7) (o := ?oiq41) (by kernel_rfl) ?hiq41 (fun K hK => ?stq41)
        case hiq41 => (simp only [List.getElem?_toArray, List.getElem?_cons_zero, List.getElem?_cons_succ]; rfl)
        go_simp
        go_at_call 40
        refine (HW1.out (some ⟨h6, 0, none⟩) 1 1 Yq36).mono ?_
        rintro e Yq37 ⟨rfl, hbb37⟩
        clear hHeld
        have hHeld := HK.out Yq37 (below_both hB0 (below_both (below_both (below_both (below_both hbb33 hbb34) hbb7) hbb36) hbb37))
        refine hK.out _ _ (fun _ => hHeld) ?_
        clear hK K
        (try simp only [Act.put, List.setIfInBounds_toArray, List.set_cons_zero, List.set_cons_succ])
        refine' wpAnyT_one (i := 8) (o := ?oiq42) (by kernel_rfl) ?hiq42 (fun K hK => ?stq42)
        case hiq42 => (simp only [List.getElem?_toArray, List.getElem?_cons_zero, List.getElem?_cons_succ]; rfl)
        go_simp
        obtain ⟨Yq38, hY⟩ : ∃ X, Yq37.alloc (.cells #[.int .i64 0, .int .i64 0, .slice (some ⟨h3, 0, none⟩) 2 2, .int .i64 0, .int .i64 1, .slice (some ⟨h6, 0, none⟩) 1 1] 27) = X := ⟨_, rfl⟩
        obtain ⟨h8, hh⟩ : ∃ h, Yq37.heap.size = h := ⟨_, rfl⟩
        have hbb38 : Below Yq37.heap.size Yq37 Yq38 := by rw [← hY]; exact al1 _ _
        have HZh8 : Hid (Yq38.heap[h8]? = some (.cells #[.int .i64 0, .int .i64 0, .slice (some ⟨h3, 0, none⟩) 2 2, .int .i64 0, .int .i64 1, .slice (some ⟨h6, 0, none⟩) 1 1] 27)) := hid (by rw [← hY, ← hh]; exact heap_alloc_new _ _)
        rw [hY, hh]
        clear hY hh
        clear hHeld
        have hHeld := HK.out Yq38 (below_both hB0 (below_both (below_both (below_both (below_both (below_both hbb33 hbb34) hbb7) hbb36) hbb37) hbb38))
        refine hK.out _ _ (fun _ => hHeld) ?_
        clear hK K
        (try simp only [Act.put, List.setIfInBounds_toArray, List.set_cons_zero, List.set_cons_succ])
        refine' wpAnyT_one (i := 9) (o := ?oiq43) (by kernel_rfl) ?hiq43 (fun K hK => ?stq43)
        case hiq43 => (simp only [List.getElem?_toArray, List.getElem?_cons_zero, List.getElem?_cons_succ]; rfl)
        go_simp
        go_at_call 29
        refine (aw_call3 (HDD.out Yq38 (below_both hB0 (below_both (below_both (below_both (below_both (below_both hbb33 hbb34) hbb7) hbb36) hbb37) hbb38))).2 (((below_both (below_both (below_both (below_both hbb34 hbb7) hbb36) hbb37) hbb38).block _ (box_lt HZh3.out)).trans HZh3.out) (((below_both hbb37 hbb38).block _ (box_lt HZh6.out)).trans HZh6.out) (((Below.refl _ _).block _ (box_lt HZh8.out)).trans HZh8.out)).mono ?_
        rintro e Yq39 ⟨A9, c9, B9, d9, rfl, ho9, hbb39⟩
        have HO9 := hid ho9
        clear ho9
        clear hHeld
        have hHeld := HK.out Yq39 (below_both hB0 (below_both (below_both (below_both (below_both (below_both (below_both hbb33 hbb34) hbb7) hbb36) hbb37) hbb38) hbb39))
        refine hK.out _ _ (fun _ => hHeld) ?_
        clear hK K
        (try simp only [Act.put, List.setIfInBounds_toArray, List.set_cons_zero, List.set_cons_succ])
        refine' wpAnyT_take (i := 10) (oi := ?oiq44) (v := ?vq44) ?hiq44 (by kernel_rfl) (by kernel_rfl) ?hqq44 ?hyq44 hHeld ?restq44
        case hiq44 => (simp only [List.getElem?_toArray, List.getElem?_cons_zero, List.getElem?_cons_succ]; rfl)
        case hqq44 => exact fun _ _ _ h => HQP _ _ _ _ _ h
        case hyq44 => (refine Or.inl ⟨by rfl, ?_⟩; intro w' hSw; (try dsimp only at hSw); go_simp; try with_reducible rfl)
        (try simp only [Act.put, List.setIfInBounds_toArray, List.set_cons_zero, List.set_cons_succ])
        refine' wpAnyT_take (i := 11) (oi := ?oiq45) (v := ?vq45) ?hiq45 (by kernel_rfl) (by kernel_rfl) ?hqq45 ?hyq45 hHeld ?restq45
        case hiq45 => (simp only [List.getElem?_toArray, List.getElem?_cons_zero, List.getElem?_cons_succ]; rfl)
        case hqq45 => exact fun _ _ _ h => HQP _ _ _ _ _ h
        case hyq45 => (refine Or.inl ⟨by rfl, ?_⟩; intro w' hSw; (try dsimp only at hSw); go_simp; try with_reducible rfl)
        (try simp only [Act.put, List.setIfInBounds_toArray, List.set_cons_zero, List.set_cons_succ])
        refine' wpAnyT_take (i := 12) (oi := ?oiq46) (v := ?vq46) ?hiq46 (by kernel_rfl) (by kernel_rfl) ?hqq46 ?hyq46 hHeld ?restq46
        case hiq46 => (simp only [List.getElem?_toArray, List.getElem?_cons_zero, List.getElem?_cons_succ]; rfl)
        case hqq46 => exact fun _ _ _ h => HQP _ _ _ _ _ h
        case hyq46 => (refine Or.inl ⟨by rfl, ?_⟩; intro w' hSw; (try dsimp only at hSw); go_simp; try with_reducible rfl)
        (try simp only [Act.put, List.setIfInBounds_toArray, List.set_cons_zero, List.set_cons_succ])
        refine' wpAnyT_take (i := 13) (oi := ?oiq47) (v := ?vq47) ?hiq47 (by kernel_rfl) (by kernel_rfl) ?hqq47 ?hyq47 hHeld ?restq47
        case hiq47 => (simp only [List.getElem?_toArray, List.getElem?_cons_zero, List.getElem?_cons_succ]; rfl)
        case hqq47 => exact fun _ _ _ h => HQP _ _ _ _ _ h
        case hyq47 => (refine Or.inl ⟨by rfl, ?_⟩; intro w' hSw; (try dsimp only at hSw); go_simp; try with_reducible rfl)
        (try simp only [Act.put, List.setIfInBounds_toArray, List.set_cons_zero, List.set_cons_succ])
        refine' wpAnyT_one (i := 15) (o := ?oiq48) (by kernel_rfl) ?hiq48 (fun K hK => ?stq48)
        case hiq48 => (simp only [List.getElem?_toArray, List.getElem?_cons_zero, List.getElem?_cons_succ]; rfl)
        have hp15 := (((below_both (below_both (below_both hbb36 hbb37) hbb38) hbb39).block _ (box_lt HZpe.out)).trans HZpe.out)
        have p0 := cell_of_row _ _ 0 _ _ _ hp15
        have p1 := cell_of_row _ _ 1 _ _ _ hp15
        have fp0 := box_fr hp15 0
        have fp1 := box_fr hp15 1
        go_simp
        obtain ⟨YqN15, hY⟩ : ∃ X, (Yq39.setCell ⟨pe, 0, none⟩ (.slice A9 3 c9)).setCell ⟨pe, 1, none⟩ (.slice B9 3 d9) = X := ⟨_, rfl⟩
        rw [hY]
        have HP15 : Hid (YqN15.heap[pe]? = some (.cells #[.slice A9 3 c9, .slice B9 3 d9] 25)) := hid (by rw [← hY]; exact disk_set hp15 _ _)
        have HO15 : Hid (OwnG YqN15 0 st3 ca3 (.agg #[.slice A9 3 c9, .slice B9 3 d9])) := hid (by rw [← hY]; exact (HO9.out.keep (keep_below (Below.refl _ _)) (keep_below (Below.refl _ _)) (Nat.zero_le _)).keep (keep_two hp15 (by decide)) (keep_two hp15 (by decide)) (Nat.le_refl _))
        have hpeW : W5.heap.size ≤ pe := HPW.out
        have hbbnone15 : Below W5.heap.size W5 YqN15 := by rw [← hY]; exact ((below_both hB0 (below_both (below_both (below_both (below_both (below_both (below_both hbb33 hbb34) hbb7) hbb36) hbb37) hbb38) hbb39)).setCell hpeW _).setCell hpeW _
        clear hY hp15 p0 p1 fp0 fp1
        clear hHeld
        have hHeld := HK.out YqN15 hbbnone15
        refine hK.out _ _ (fun _ => hHeld) ?_
        clear hK K
        refine' wpAnyT_take (i := 16) (oi := ?oiq49) (v := ?vq49) ?hiq49 (by kernel_rfl) (by kernel_rfl) ?hqq49 ?hyq49 hHeld ?restq49
        case hiq49 => (simp only [List.getElem?_toArray, List.getElem?_cons_zero, List.getElem?_cons_succ]; rfl)
        case hqq49 => exact fun _ _ _ h => HQP _ _ _ _ _ h
        case hyq49 => (refine Or.inl ⟨by rfl, ?_⟩; intro w' hSw; (try dsimp only at hSw); go_simp; try with_reducible rfl)
        (try simp only [Act.put, List.setIfInBounds_toArray, List.set_cons_zero, List.set_cons_succ])
        refine' wpAnyT_one (i := 17) (o := ?oiq50) (by kernel_rfl) ?hiq50 (fun K hK => ?stq50)
        case hiq50 => (simp only [List.getElem?_toArray, List.getElem?_cons_zero, List.getElem?_cons_succ]; rfl)
        go_simp
        refine hK.out _ _ (fun h => absurd h (by decide)) ?_
        clear hK K
        (try simp only [Act.put, List.setIfInBounds_toArray, List.set_cons_zero, List.set_cons_succ])
        refine wpAnyT_done (by kernel_rfl) ?_ _
        exact HC.out YqN15 h3 h6 h8 pe A9 c9 B9 d9 ⟨hbbnone15, HP15.out, HO15.out.dk⟩
    · refine ⟨_, by (simp only [List.getElem?_toArray, List.getElem?_cons_zero, List.getElem?_cons_succ]; rfl), fun K hK => ?_⟩
      go_simp
      obtain ⟨Yq36, hY⟩ : ∃ X, Yq33.alloc (.cells #[.int .u8 3, .int .u8 0, .int .u8 0, .int .u8 0, .int .u8 0, .int .u8 0, .int .u8 0, .int .u8 0] 73) = X := ⟨_, rfl⟩
      obtain ⟨h6, hh⟩ : ∃ h, Yq33.heap.size = h := ⟨_, rfl⟩
      have hbb36 : Below Yq33.heap.size Yq33 Yq36 := by rw [← hY]; exact al1 _ _
      have HZh6 : Hid (Yq36.heap[h6]? = some (.cells #[.int .u8 3, .int .u8 0, .int .u8 0, .int .u8 0, .int .u8 0, .int .u8 0, .int .u8 0, .int .u8 0] 73)) := hid (by rw [← hY, ← hh]; exact heap_alloc_new _ _)
      rw [hY, hh]
      clear hY hh
      clear hHeld
      have hHeld := HK.out Yq36 (below_both hB0 (below_both hbb33 hbb36))
      refine hK.out _ _ (fun _ => hHeld) ?_
      clear hK K
      (try simp only [Act.put, List.setIfInBounds_toArray, List.set_cons_zero, List.set_cons_succ])
      refine wpAnyT_all (l := [4, 14]) (by kernel_rfl) (by decide) ?_
      intro i hi
      simp only [List.mem_cons, List.not_mem_nil, or_false] at hi
      rcases hi with rfl | rfl
      · refine ⟨_, by (simp only [List.getElem?_toArray, List.getElem?_cons_zero, List.getElem?_cons_succ]; rfl), fun K hK => ?_⟩
        go_simp
        go_at_call 40
        refine (HW0.out (some ⟨h3, 0, none⟩) 2 2 Yq36).mono ?_
        rintro e Yq34 ⟨rfl, hbb34⟩
        clear hHeld
        have hHeld := HK.out Yq34 (below_both hB0 (below_both (below_both hbb33 hbb36) hbb34))
        refine hK.out _ _ (fun _ => hHeld) ?_
        clear hK K
        (try simp only [Act.put, List.setIfInBounds_toArray, List.set_cons_zero, List.set_cons_succ])
        refine wpAnyT_all (l := [7, 14]) (by kernel_rfl) (by decide) ?_
        intro i hi
        simp only [List.mem_cons, List.not_mem_nil, or_false] at hi
        rcases hi with rfl | rfl
        · refine ⟨_, by (simp only [List.getElem?_toArray, List.getElem?_cons_zero, List.getElem?_cons_succ]; rfl), fun K hK => ?_⟩
          go_simp
          go_at_call 40
          refine (HW1.out (some ⟨h6, 0, none⟩) 1 1 Yq34).mono ?_
          rintro e Yq37 ⟨rfl, hbb37⟩
          clear hHeld
          have hHeld := HK.out Yq37 (below_both hB0 (below_both (below_both (below_both hbb33 hbb36) hbb34) hbb37))
          refine hK.out _ _ (fun _ => hHeld) ?_
          clear hK K
          (try simp only [Act.put, List.setIfInBounds_toArray, List.set_cons_zero, List.set_cons_succ])
          refine wpAnyT_all (l := [8, 14]) (by kernel_rfl) (by decide) ?_
          intro i hi
          simp only [List.mem_cons, List.not_mem_nil, or_false] at hi
          rcases hi with rfl | rfl
          · refine ⟨_, by (simp only [List.getElem?_toArray, List.getElem?_cons_zero, List.getElem?_cons_succ]; rfl), fun K hK => ?_⟩
            go_simp
            obtain ⟨Yq38, hY⟩ : ∃ X, Yq37.alloc (.cells #[.int .i64 0, .int .i64 0, .slice (some ⟨h3, 0, none⟩) 2 2, .int .i64 0, .int .i64 1, .slice (some ⟨h6, 0, none⟩) 1 1] 27) = X := ⟨_, rfl⟩
            obtain ⟨h8, hh⟩ : ∃ h, Yq37.heap.size = h := ⟨_, rfl⟩
            have hbb38 : Below Yq37.heap.size Yq37 Yq38 := by rw [← hY]; exact al1 _ _
            have HZh8 : Hid (Yq38.heap[h8]? = some (.cells #[.int .i64 0, .int .i64 0, .slice (some ⟨h3, 0, none⟩) 2 2, .int .i64 0, .int .i64 1, .slice (some ⟨h6, 0, none⟩) 1 1] 27)) := hid (by rw [← hY, ← hh]; exact heap_alloc_new _ _)
            rw [hY, hh]
            clear hY hh
            clear hHeld
            have hHeld := HK.out Yq38 (below_both hB0 (below_both (below_both (below_both (below_both hbb33 hbb36) hbb34) hbb37) hbb38))
            refine hK.out _ _ (fun _ => hHeld) ?_
            clear hK K
            (try simp only [Act.put, List.setIfInBounds_toArray, List.set_cons_zero, List.set_cons_succ])
            refine wpAnyT_all (l := [9, 14]) (by kernel_rfl) (by decide) ?_
            intro i hi
            simp only [List.mem_cons, List.not_mem_nil, or_false] at hi
            rcases hi with rfl | rfl
            · refine ⟨_, by (simp only [List.getElem?_toArray, List.getElem?_cons_zero, List.getElem?_cons_succ]; rfl), fun K hK => ?_⟩
              go_simp
              go_at_call 29
              refine (aw_call3 (HDD.out Yq38 (below_both hB0 (below_both (below_both (below_both (below_both hbb33 hbb36) hbb34) hbb37) hbb38))).2 (((below_both (below_both (below_both hbb36 hbb34) hbb37) hbb38).block _ (box_lt HZh3.out)).trans HZh3.out) (((below_both (below_both hbb34 hbb37) hbb38).block _ (box_lt HZh6.out)).trans HZh6.out) (((Below.refl _ _).block _ (box_lt HZh8.out)).trans HZh8.out)).mono ?_
              rintro e Yq39 ⟨A9, c9, B9, d9, rfl, ho9, hbb39⟩
              have HO9 := hid ho9
              clear ho9
              clear hHeld
              have hHeld := HK.out Yq39 (below_both hB0 (below_both (below_both (below_both (below_both (below_both hbb33 hbb36) hbb34) hbb37) hbb38) hbb39))
              refine hK.out _ _ (fun _ => hHeld) ?_
              clear hK K
              (try simp only [Act.put, List.setIfInBounds_toArray, List.set_cons_zero, List.set_cons_succ])
              refine' wpAnyT_take (i := 10) (oi := ?oiq51) (v := ?vq51) ?hiq51 (by kernel_rfl) (by kernel_rfl) ?hqq51 ?hyq51 hHeld ?restq51
              case hiq51 => (simp only [List.getElem?_toArray, List.getElem?_cons_zero, List.getElem?_cons_succ]; rfl)
              case hqq51 => exact fun _ _ _ h => HQP _ _ _ _ _ h
              case hyq51 => (refine Or.inl ⟨by rfl, ?_⟩; intro w' hSw; (try dsimp only at hSw); go_simp; try with_reducible rfl)
              (try simp only [Act.put, List.setIfInBounds_toArray, List.set_cons_zero, List.set_cons_succ])
              refine' wpAnyT_take (i := 11) (oi := ?oiq52) (v := ?vq52) ?hiq52 (by kernel_rfl) (by kernel_rfl) ?hqq52 ?hyq52 hHeld ?restq52
              case hiq52 => (simp only [List.getElem?_toArray, List.getElem?_cons_zero, List.getElem?_cons_succ]; rfl)
              case hqq52 => exact fun _ _ _ h => HQP _ _ _ _ _ h
              case hyq52 => (refine Or.inl ⟨by rfl, ?_⟩; intro w' hSw; (try dsimp only at hSw); go_simp; try with_reducible rfl)
              (try simp only [Act.put, List.setIfInBounds_toArray, List.set_cons_zero, List.set_cons_succ])
              refine' wpAnyT_take (i := 12) (oi := ?oiq53) (v := ?vq53) ?hiq53 (by kernel_rfl) (by kernel_rfl) ?hqq53 ?hyq53 hHeld ?restq53
              case hiq53 => (simp only [List.getElem?_toArray, List.getElem?_cons_zero, List.getElem?_cons_succ]; rfl)
              case hqq53 => exact fun _ _ _ h => HQP _ _ _ _ _ h
              case hyq53 => (refine Or.inl ⟨by rfl, ?_⟩; intro w' hSw; (try dsimp only at hSw); go_simp; try with_reducible rfl)
              (try simp only [Act.put, List.setIfInBounds_toArray, List.set_cons_zero, List.set_cons_succ])
              refine' wpAnyT_take (i := 13) (oi := ?oiq54) (v := ?vq54) ?hiq54 (by kernel_rfl) (by kernel_rfl) ?hqq54 ?hyq54 hHeld ?restq54
              case hiq54 => (simp only [List.getElem?_toArray, List.getElem?_cons_zero, List.getElem?_cons_succ]; rfl)
              case hqq54 => exact fun _ _ _ h => HQP _ _ _ _ _ h
              case hyq54 => (refine Or.inl ⟨by rfl, ?_⟩; intro w' hSw; (try dsimp only at hSw); go_simp; try with_reducible rfl)
              (try simp only [Act.put, List.setIfInBounds_toArray, List.set_cons_zero, List.set_cons_succ])
              refine' wpAnyT_one (i := 14) (o := ?oiq55) (by kernel_rfl) ?hiq55 (fun K hK => ?stq55)
              case hiq55 => (simp only [List.getElem?_toArray, List.getElem?_cons_zero, List.getElem?_cons_succ]; rfl)
              go_simp
              obtain ⟨Yq7, hY⟩ : ∃ X, Yq39.alloc (.cells #[.slice none 0 0, .slice none 0 0] 25) = X := ⟨_, rfl⟩
              obtain ⟨pe, hh⟩ : ∃ h, Yq39.heap.size = h := ⟨_, rfl⟩
              have hbb7 : Below Yq39.heap.size Yq39 Yq7 := by rw [← hY]; exact al1 _ _
              have HZpe : Hid (Yq7.heap[pe]? = some (.cells #[.slice none 0 0, .slice none 0 0] 25)) := hid (by rw [← hY, ← hh]; exact heap_alloc_new _ _)
              have HPW : Hid (W5.heap.size ≤ pe) := hid (by rw [← hh]; exact (below_both hB0 (below_both (below_both (below_both (below_both (below_both hbb33 hbb36) hbb34) hbb37) hbb38) hbb39)).size)
              rw [hY, hh]
              clear hY hh
              clear hHeld
              have hHeld := HK.out Yq7 (below_both hB0 (below_both (below_both (below_both (below_both (below_both (below_both hbb33 hbb36) hbb34) hbb37) hbb38) hbb39) hbb7))
              refine hK.out _ _ (fun _ => hHeld) ?_
              clear hK K
              (try simp only [Act.put, List.setIfInBounds_toArray, List.set_cons_zero, List.set_cons_succ])
              refine' wpAnyT_one (i := 15) (o := ?oiq56) (by kernel_rfl) ?hiq56 (fun K hK => ?stq56)
              case hiq56 => (simp only [List.getElem?_toArray, List.getElem?_cons_zero, List.getElem?_cons_succ]; rfl)
              have hp15 := (((Below.refl _ _).block _ (box_lt HZpe.out)).trans HZpe.out)
              have p0 := cell_of_row _ _ 0 _ _ _ hp15
              have p1 := cell_of_row _ _ 1 _ _ _ hp15
              have fp0 := box_fr hp15 0
              have fp1 := box_fr hp15 1
              go_simp
              obtain ⟨YqN15, hY⟩ : ∃ X, (Yq7.setCell ⟨pe, 0, none⟩ (.slice A9 3 c9)).setCell ⟨pe, 1, none⟩ (.slice B9 3 d9) = X := ⟨_, rfl⟩
              rw [hY]
              have HP15 : Hid (YqN15.heap[pe]? = some (.cells #[.slice A9 3 c9, .slice B9 3 d9] 25)) := hid (by rw [← hY]; exact disk_set hp15 _ _)
              have HO15 : Hid (OwnG YqN15 0 st3 ca3 (.agg #[.slice A9 3 c9, .slice B9 3 d9])) := hid (by rw [← hY]; exact (HO9.out.keep (keep_below hbb7) (keep_below hbb7) (Nat.zero_le _)).keep (keep_two hp15 (by decide)) (keep_two hp15 (by decide)) (Nat.le_refl _))
              have hpeW : W5.heap.size ≤ pe := HPW.out
              have hbbnone15 : Below W5.heap.size W5 YqN15 := by rw [← hY]; exact ((below_both hB0 (below_both (below_both (below_both (below_both (below_both (below_both hbb33 hbb36) hbb34) hbb37) hbb38) hbb39) hbb7)).setCell hpeW _).setCell hpeW _
              clear hY hp15 p0 p1 fp0 fp1
              clear hHeld
              have hHeld := HK.out YqN15 hbbnone15
              refine hK.out _ _ (fun _ => hHeld) ?_
              clear hK K
              refine' wpAnyT_take (i := 16) (oi := ?oiq57) (v := ?vq57) ?hiq57 (by kernel_rfl) (by kernel_rfl) ?hqq57 ?hyq57 hHeld ?restq57
              case hiq57 => (simp only [List.getElem?_toArray, List.getElem?_cons_zero, List.getElem?_cons_succ]; rfl)
              case hqq57 => exact fun _ _ _ h => HQP _ _ _ _ _ h
              case hyq57 => (refine Or.inl ⟨by rfl, ?_⟩; intro w' hSw; (try dsimp only at hSw); go_simp; try with_reducible rfl)
              (try simp only [Act.put, List.setIfInBounds_toArray, List.set_cons_zero, List.set_cons_succ])
              refine' wpAnyT_one (i := 17) (o := ?oiq58) (by kernel_rfl) ?hiq58 (fun K hK => ?stq58)
              case hiq58 => (simp only [List.getElem?_toArray, List.getElem?_cons_zero, List.getElem?_cons_succ]; rfl)
              go_simp
              refine hK.out _ _ (fun h => absurd h (by decide)) ?_
              clear hK K
              (try simp only [Act.put, List.setIfInBounds_toArray, List.set_cons_zero, List.set_cons_succ])
              refine wpAnyT_done (by kernel_rfl) ?_ _
              exact HC.out YqN15 h3 h6 h8 pe A9 c9 B9 d9 ⟨hbbnone15, HP15.out, HO15.out.dk⟩
            · refine ⟨_, by (simp only [List.getElem?_toArray, List.getElem?_cons_zero, List.getElem?_cons_succ]; rfl), fun K hK => ?_⟩
              go_simp
              obtain ⟨Yq7, hY⟩ : ∃ X, Yq38.alloc (.cells #[.slice none 0 0, .slice none 0 0] 25) = X := ⟨_, rfl⟩
              obtain ⟨pe, hh⟩ : ∃ h, Yq38.heap.size = h := ⟨_, rfl⟩
              have hbb7 : Below Yq38.heap.size Yq38 Yq7 := by rw [← hY]; exact al1 _ _
              have HZpe : Hid (Yq7.heap[pe]? = some (.cells #[.slice none 0 0, .slice none 0 0] 25)) := hid (by rw [← hY, ← hh]; exact heap_alloc_new _ _)
              have HPW : Hid (W5.heap.size ≤ pe) := hid (by rw [← hh]; exact (below_both hB0 (below_both (below_both (below_both (below_both hbb33 hbb36) hbb34) hbb37) hbb38)).size)
              rw [hY, hh]
              clear hY hh
              clear hHeld
              have hHeld := HK.out Yq7 (below_both hB0 (below_both (below_both (below_both (below_both (below_both hbb33 hbb36) hbb34) hbb37) hbb38) hbb7))
              refine hK.out _ _ (fun _ => hHeld) ?_
              clear hK K
              (try simp only [Act.put, List.setIfInBounds_toArray, List.set_cons_zero, List.set_cons_succ])
              refine' wpAnyT_one (i := 9) (o := ?oiq59) (by kernel_rfl) ?hiq59 (fun K hK => ?stq59)
              case hiq59 => (simp only [List.getElem?_toArray, List.getElem?_cons_zero, List.getElem?_cons_succ]; rfl)
              go_simp
              go_at_call 29
              refine (aw_call3 (HDD.out Yq7 (below_both hB0 (below_both (below_both (below_both (below_both (below_both hbb33 hbb36) hbb34) hbb37) hbb38) hbb7))).2 (((below_both (below_both (below_both (below_both hbb36 hbb34) hbb37) hbb38) hbb7).block _ (box_lt HZh3.out)).trans HZh3.out) (((below_both (below_both (below_both hbb34 hbb37) hbb38) hbb7).block _ (box_lt HZh6.out)).trans HZh6.out) ((hbb7.block _ (box_lt HZh8.out)).trans HZh8.out)).mono ?_
              rintro e Yq39 ⟨A9, c9, B9, d9, rfl, ho9, hbb39⟩
              have HO9 := hid ho9
              clear ho9
              clear hHeld
              have hHeld := HK.out Yq39 (below_both hB0 (below_both (below_both (below_both (below_both (below_both (below_both hbb33 hbb36) hbb34) hbb37) hbb38) hbb7) hbb39))
              refine hK.out _ _ (fun _ => hHeld) ?_
              clear hK K
              (try simp only [Act.put, List.setIfInBounds_toArray, List.set_cons_zero, List.set_cons_succ])
              refine' wpAnyT_take (i := 10) (oi := ?oiq60) (v := ?vq60) ?hiq60 (by kernel_rfl) (by kernel_rfl) ?hqq60 ?hyq60 hHeld ?restq60
              case hiq60 => (simp only [List.getElem?_toArray, List.getElem?_cons_zero, List.getElem?_cons_succ]; rfl)
              case hqq60 => exact fun _ _ _ h => HQP _ _ _ _ _ h
              case hyq60 => (refine Or.inl ⟨by rfl, ?_⟩; intro w' hSw; (try dsimp only at hSw); go_simp; try with_reducible rfl)
              (try simp only [Act.put, List.setIfInBounds_toArray, List.set_cons_zero, List.set_cons_succ])
              refine' wpAnyT_take (i := 11) (oi := ?oiq61) (v := ?vq61) ?hiq61 (by kernel_rfl) (by kernel_rfl) ?hqq61 ?hyq61 hHeld ?restq61
              case hiq61 => (simp only [List.getElem?_toArray, List.getElem?_cons_zero, List.getElem?_cons_succ]; rfl)
              case hqq61 => exact fun _ _ _ h => HQP _ _ _ _ _ h
              case hyq61 => (refine Or.inl ⟨by rfl, ?_⟩; intro w' hSw; (try dsimp only at hSw); go_simp; try with_reducible rfl)
              (try simp only [Act.put, List.setIfInBounds_toArray, List.set_cons_zero, List.set_cons_succ])
              refine' wpAnyT_take (i := 12) (oi := ?oiq62) (v := ?vq62) ?hiq62 (by kernel_rfl) (by kernel_rfl) ?hqq62 ?hyq62 hHeld ?restq62
              case hiq62 => (simp only [List.getElem?_toArray, List.getElem?_cons_zero, List.getElem?_cons_succ]; rfl)
              case hqq62 => exact fun _ _ _ h => HQP _ _ _ _ _ h
              case hyq62 => (refine Or.inl ⟨by rfl, ?_⟩; intro w' hSw; (try dsimp only at hSw); go_simp; try with_reducible rfl)
              (try simp only [Act.put, List.setIfInBounds_toArray, List.set_cons_zero, List.set_cons_succ])
              refine' wpAnyT_take (i := 13) (oi := ?oiq63) (v := ?vq63) ?hiq63 (by kernel_rfl) (by kernel_rfl) ?hqq63 ?hyq63 hHeld ?restq63
              case hiq63 => (simp only [List.getElem?_toArray, List.getElem?_cons_zero, List.getElem?_cons_succ]; rfl)
              case hqq63 => exact fun _ _ _ h => HQP _ _ _ _ _ h
              case hyq63 => (refine Or.inl ⟨by rfl, ?_⟩; intro w' hSw; (try dsimp only at hSw); go_simp; try with_reducible rfl)
              (try simp only [Act.put, List.setIfInBounds_toArray, List.set_cons_zero, List.set_cons_succ])
              refine' wpAnyT_one (i := 15) (o := ?oiq64) (by kernel_rfl) ?hiq64 (fun K hK => ?stq64)
              case hiq64 => (simp only [List.getElem?_toArray, List.getElem?_cons_zero, List.getElem?_cons_succ]; rfl)
              have hp15 := ((hbb39.block _ (box_lt HZpe.out)).trans HZpe.out)
              have p0 := cell_of_row _ _ 0 _ _ _ hp15
              have p1 := cell_of_row _ _ 1 _ _ _ hp15
              have fp0 := box_fr hp15 0
              have fp1 := box_fr hp15 1
              go_simp
              obtain ⟨YqN15, hY⟩ : ∃ X, (Yq39.setCell ⟨pe, 0, none⟩ (.slice A9 3 c9)).setCell ⟨pe, 1, none⟩ (.slice B9 3 d9) = X := ⟨_, rfl⟩
              rw [hY]
              have HP15 : Hid (YqN15.heap[pe]? = some (.cells #[.slice A9 3 c9, .slice B9 3 d9] 25)) := hid (by rw [← hY]; exact disk_set hp15 _ _)
              have HO15 : Hid (OwnG YqN15 0 st3 ca3 (.agg #[.slice A9 3 c9, .slice B9 3 d9])) := hid (by rw [← hY]; exact (HO9.out.keep (keep_below (Below.refl _ _)) (keep_below (Below.refl _ _)) (Nat.zero_le _)).keep (keep_two hp15 (by decide)) (keep_two hp15 (by decide)) (Nat.le_refl _))
              have hpeW : W5.heap.size ≤ pe := HPW.out
              have hbbnone15 : Below W5.heap.size W5 YqN15 := by rw [← hY]; exact ((below_both hB0 (below_both (below_both (below_both (below_both (below_both (below_both hbb33 hbb36) hbb34) hbb37) hbb38) hbb7) hbb39)).setCell hpeW _).setCell hpeW _
              clear hY hp15 p0 p1 fp0 fp1
              clear hHeld
              have hHeld := HK.out YqN15 hbbnone15
              refine hK.out _ _ (fun _ => hHeld) ?_
              clear hK K
              refine' wpAnyT_take (i := 16) (oi := ?oiq65) (v := ?vq65) ?hiq65 (by kernel_rfl) (by kernel_rfl) ?hqq65 ?hyq65 hHeld ?restq65
              case hiq65 => (simp only [List.getElem?_toArray, List.getElem?_cons_zero, List.getElem?_cons_succ]; rfl)
              case hqq65 => exact fun _ _ _ h => HQP _ _ _ _ _ h
              case hyq65 => (refine Or.inl ⟨by rfl, ?_⟩; intro w' hSw; (try dsimp only at hSw); go_simp; try with_reducible rfl)
              (try simp only [Act.put, List.setIfInBounds_toArray, List.set_cons_zero, List.set_cons_succ])
              refine' wpAnyT_one (i := 17) (o := ?oiq66) (by kernel_rfl) ?hiq66 (fun K hK => ?stq66)
              case hiq66 => (simp only [List.getElem?_toArray, List.getElem?_cons_zero, List.getElem?_cons_succ]; rfl)
              go_simp
              refine hK.out _ _ (fun h => absurd h (by decide)) ?_
              clear hK K
              (try simp only [Act.put, List.setIfInBounds_toArray, List.set_cons_zero, List.set_cons_succ])
              refine wpAnyT_done (by kernel_rfl) ?_ _
              exact HC.out YqN15 h3 h6 h8 pe A9 c9 B9 d9 ⟨hbbnone15, HP15.out, HO15.out.dk⟩
          · refine ⟨_, by (simp only [List.getElem?_toArray, List.getElem?_cons_zero, List.getElem?_cons_succ]; rfl), fun K hK => ?_⟩
            go_simp
            obtain ⟨Yq7, hY⟩ : ∃ X, Yq37.alloc (.cells #[.slice none 0 0, .slice none 0 0] 25) = X := ⟨_, rfl⟩
            obtain ⟨pe, hh⟩ : ∃ h, Yq37.heap.size = h := ⟨_, rfl⟩
            have hbb7 : Below Yq37.heap.size Yq37 Yq7 := by rw [← hY]; exact al1 _ _
            have HZpe : Hid (Yq7.heap[pe]? = some (.cells #[.slice none 0 0, .slice none 0 0] 25)) := hid (by rw [← hY, ← hh]; exact heap_alloc_new _ _)
            have HPW : Hid (W5.heap.size ≤ pe) := hid (by rw [← hh]; exact (below_both hB0 (below_both (below_both (below_both hbb33 hbb36) hbb34) hbb37)).size)
            rw [hY, hh]
            clear hY hh
            clear hHeld
            have hHeld := HK.out Yq7 (below_both hB0 (below_both (below_both (below_both (below_both hbb33 hbb36) hbb34) hbb37) hbb7))
            refine hK.out _ _ (fun _ => hHeld) ?_
            clear hK K
            (try simp only [Act.put, List.setIfInBounds_toArray, List.set_cons_zero, List.set_cons_succ])
            refine' wpAnyT_one (i := 8) (o := ?oiq67) (by kernel_rfl) ?hiq67 (fun K hK => ?stq67)
            case hiq67 => (simp only [List.getElem?_toArray, List.getElem?_cons_zero, List.getElem?_cons_succ]; rfl)
            go_simp
            obtain ⟨Yq38, hY⟩ : ∃ X, Yq7.alloc (.cells #[.int .i64 0, .int .i64 0, .slice (some ⟨h3, 0, none⟩) 2 2, .int .i64 0, .int .i64 1, .slice (some ⟨h6, 0, none⟩) 1 1] 27) = X := ⟨_, rfl⟩
            obtain ⟨h8, hh⟩ : ∃ h, Yq7.heap.size = h := ⟨_, rfl⟩
            have hbb38 : Below Yq7.heap.size Yq7 Yq38 := by rw [← hY]; exact al1 _ _
            have HZh8 : Hid (Yq38.heap[h8]? = some (.cells #[.int .i64 0, .int .i64 0, .slice (some ⟨h3, 0, none⟩) 2 2, .int .i64 0, .int .i64 1, .slice (some ⟨h6, 0, none⟩) 1 1] 27)) := hid (by rw [← hY, ← hh]; exact heap_alloc_new _ _)
            rw [hY, hh]
            clear hY hh
            clear hHeld
            have hHeld := HK.out Yq38 (below_both hB0 (below_both (below_both (below_both (below_both (below_both hbb33 hbb36) hbb34) hbb37) hbb7) hbb38))
            refine hK.out _ _ (fun _ => hHeld) ?_
            clear hK K
            (try simp only [Act.put, List.setIfInBounds_toArray, List.set_cons_zero, List.set_cons_succ])
            refine' wpAnyT_one (i := 9) (o := ?oiq68) (by kernel_rfl) ?hiq68 (fun K hK => ?stq68)
            case hiq68 => (simp only [List.getElem?_toArray, List.getElem?_cons_zero, List.getElem?_cons_succ]; rfl)
            go_simp
            go_at_call 29
            refine (aw_call3 (HDD.out Yq38 (below_both hB0 (below_both (below_both (below_both (below_both (below_both hbb33 hbb36) hbb34) hbb37) hbb7) hbb38))).2 (((below_both (below_both (below_both (below_both hbb36 hbb34) hbb37) hbb7) hbb38).block _ (box_lt HZh3.out)).trans HZh3.out) (((below_both (below_both (below_both hbb34 hbb37) hbb7) hbb38).block _ (box_lt HZh6.out)).trans HZh6.out) (((Below.refl _ _).block _ (box_lt HZh8.out)).trans HZh8.out)).mono ?_
            rintro e Yq39 ⟨A9, c9, B9, d9, rfl, ho9, hbb39⟩
            have HO9 := hid ho9
            clear ho9
            clear hHeld
            have hHeld := HK.out Yq39 (below_both hB0 (below_both (below_both (below_both (below_both (below_both (below_both hbb33 hbb36) hbb34) hbb37) hbb7) hbb38) hbb39))
            refine hK.out _ _ (fun _ => hHeld) ?_
            clear hK K
            (try simp only [Act.put, List.setIfInBounds_toArray, List.set_cons_zero, List.set_cons_succ])
            refine' wpAnyT_take (i := 10) (oi := ?oiq69) (v := ?vq69) ?hiq69 (by kernel_rfl) (by kernel_rfl) ?hqq69 ?hyq69 hHeld ?restq69
            case hiq69 => (simp only [List.getElem?_toArray, List.getElem?_cons_zero, List.getElem?_cons_succ]; rfl)
            case hqq69 => exact fun _ _ _ h => HQP _ _ _ _ _ h
            case hyq69 => (refine Or.inl ⟨by rfl, ?_⟩; intro w' hSw; (try dsimp only at hSw); go_simp; try with_reducible rfl)
            (try simp only [Act.put, List.setIfInBounds_toArray, List.set_cons_zero, List.set_cons_succ])
            refine' wpAnyT_take (i := 11) (oi := ?oiq70) (v := ?vq70) ?hiq70 (by kernel_rfl) (by kernel_rfl) ?hqq70 ?hyq70 hHeld ?restq70
            case hiq70 => (simp only [List.getElem?_toArray, List.getElem?_cons_zero, List.getElem?_cons_succ]; rfl)
            case hqq70 => exact fun _ _ _ h => HQP _ _ _ _ _ h
            case hyq70 => (refine Or.inl ⟨by rfl, ?_⟩; intro w' hSw; (try dsimp only at hSw); go_simp; try with_reducible rfl)
            (try simp only [Act.put, List.setIfInBounds_toArray, List.set_cons_zero, List.set_cons_succ])
            refine' wpAnyT_take (i := 12) (oi := ?oiq71) (v := ?vq71) ?hiq71 (by kernel_rfl) (by kernel_rfl) ?hqq71 ?hyq71 hHeld ?restq71
            case hiq71 => (simp only [List.getElem?_toArray, List.getElem?_cons_zero, List.getElem?_cons_succ]; rfl)
            case hqq71 => exact fun _ _ _ h => HQP _ _ _ _ _ h
            case hyq71 => (refine Or.inl ⟨by rfl, ?_⟩; intro w' hSw; (try dsimp only at hSw); go_simp; try with_reducible rfl)
            (try simp only [Act.put, List.setIfInBounds_toArray, List.set_cons_zero, List.set_cons_succ])
            refine' wpAnyT_take (i := 13) (oi := ?oiq72) (v := ?vq72) ?hiq72 (by kernel_rfl) (by kernel_rfl) ?hqq72 ?hyq72 hHeld ?restq72
            case hiq72 => (simp only [List.getElem?_toArray, List.getElem?_cons_zero, List.getElem?_cons_succ]; rfl)
            case hqq72 => exact fun _ _ _ h => HQP _ _ _ _ _ h
            case hyq72 => (refine Or.inl ⟨by rfl, ?_⟩; intro w' hSw; (try dsimp only at hSw); go_simp; try with_reducible rfl)
            (try simp only [Act.put, List.setIfInBounds_toArray, List.set_cons_zero, List.set_cons_succ])
            refine' wpAnyT_one (i := 15) (o := ?oiq73) (by kernel_rfl) ?hiq73 (fun K hK => ?stq73)
            case hiq73 => (simp only [List.getElem?_toArray, List.getElem?_cons_zero, List.getElem?_cons_succ]; rfl)
            have hp15 := (((below_both hbb38 hbb39).block _ (box_lt HZpe.out)).trans HZpe.out)
            have p0 := cell_of_row _ _ 0 _ _ _ hp15
            have p1 := cell_of_row _ _ 1 _ _ _ hp15
            have fp0 := box_fr hp15 0
            have fp1 := box_fr hp15 1
            go_simp
            obtain ⟨YqN15, hY⟩ : ∃ X, (Yq39.setCell ⟨pe, 0, none⟩ (.slice A9 3 c9)).setCell ⟨pe, 1, none⟩ (.slice B9 3 d9) = X := ⟨_, rfl⟩
            rw [hY]
            have HP15 : Hid (YqN15.heap[pe]? = some (.cells #[.slice A9 3 c9, .slice B9 3 d9] 25)) := hid (by rw [← hY]; exact disk_set hp15 _ _)
            have HO15 : Hid (OwnG YqN15 0 st3 ca3 (.agg #[.slice A9 3 c9, .slice B9 3 d9])) := hid (by rw [← hY]; exact (HO9.out.keep (keep_below (Below.refl _ _)) (keep_below (Below.refl _ _)) (Nat.zero_le _)).keep (keep_two hp15 (by decide)) (keep_two hp15 (by decide)) (Nat.le_refl _))
            have hpeW : W5.heap.size ≤ pe := HPW.out
            have hbbnone15 : Below W5.heap.size W5 YqN15 := by rw [← hY]; exact ((below_both hB0 (below_both (below_both (below_both (below_both (below_both (below_both hbb33 hbb36) hbb34) hbb37) hbb7) hbb38) hbb39)).setCell hpeW _).setCell hpeW _
            clear hY hp15 p0 p1 fp0 fp1
            clear hHeld
            have hHeld := HK.out YqN15 hbbnone15
            refine hK.out _ _ (fun _ => hHeld) ?_
            clear hK K
            refine' wpAnyT_take (i := 16) (oi := ?oiq74) (v := ?vq74) ?hiq74 (by kernel_rfl) (by kernel_rfl) ?hqq74 ?hyq74 hHeld ?restq74
            case hiq74 => (simp only [List.getElem?_toArray, List.getElem?_cons_zero, List.getElem?_cons_succ]; rfl)
            case hqq74 => exact fun _ _ _ h => HQP _ _ _ _ _ h
            case hyq74 => (refine Or.inl ⟨by rfl, ?_⟩; intro w' hSw; (try dsimp only at hSw); go_simp; try with_reducible rfl)
            (try simp only [Act.put, List.setIfInBounds_toArray, List.set_cons_zero, List.set_cons_succ])
            refine' wpAnyT_one (i := 17) (o := ?oiq75) (by kernel_rfl) ?hiq75 (fun K hK => ?stq75)
            case hiq75 => (simp only [List.getElem?_toArray, List.getElem?_cons_zero, List.getElem?_cons_succ]; rfl)
            go_simp
            refine hK.out _ _ (fun h => absurd h (by decide)) ?_
            clear hK K
            (try simp only [Act.put, List.setIfInBounds_toArray, List.set_cons_zero, List.set_cons_succ])
            refine wpAnyT_done (by kernel_rfl) ?_ _
            exact HC.out YqN15 h3 h6 h8 pe A9 c9 B9 d9 ⟨hbbnone15, HP15.out, HO15.out.dk⟩
        · refine ⟨_, by (simp only [List.getElem?_toArray, List.getElem?_cons_zero, List.getElem?_cons_succ]; rfl), fun K hK => ?_⟩
          go_simp
          obtain ⟨Yq7, hY⟩ : ∃ X, Yq34.alloc (.cells #[.slice none 0 0, .slice none 0 0] 25) = X := ⟨_, rfl⟩
          obtain ⟨pe, hh⟩ : ∃ h, Yq34.heap.size = h := ⟨_, rfl⟩
          have hbb7 : Below Yq34.heap.size Yq34 Yq7 := by rw [← hY]; exact al1 _ _
          have HZpe : Hid (Yq7.heap[pe]? = some (.cells #[.slice none 0 0, .slice none 0 0] 25)) := hid (by rw [← hY, ← hh]; exact heap_alloc_new _ _)
          have HPW : Hid (W5.heap.size ≤ pe) := hid (by rw [← hh]; exact (below_both hB0 (below_both (below_both hbb33 hbb36) hbb34)).size)
          rw [hY, hh]
          clear hY hh
          clear hHeld
          have hHeld := HK.out Yq7 (below_both hB0 (below_both (below_both (below_both hbb33 hbb36) hbb34) hbb7))
          refine hK.out _ _ (fun _ => hHeld) ?_
          clear hK K
          (try simp only [Act.put, List.setIfInBounds_toArray, List.set_cons_zero, List.set_cons_succ])
          refine' wpAnyT_one (i := 7) (o := ?oiq76) (by kernel_rfl) ?hiq76 (fun K hK => ?stq76)
          case hiq76 => (simp only [List.getElem?_toArray, List.getElem?_cons_zero, List.getElem?_cons_succ]; rfl)
          go_simp
          go_at_call 40
          refine (HW1.out (some ⟨h6, 0, none⟩) 1 1 Yq7).mono ?_
          rintro e Yq37 ⟨rfl, hbb37⟩
          clear hHeld
          have hHeld := HK.out Yq37 (below_both hB0 (below_both (below_both (below_both (below_both hbb33 hbb36) hbb34) hbb7) hbb37))
          refine hK.out _ _ (fun _ => hHeld) ?_
          clear hK K
          (try simp only [Act.put, List.setIfInBounds_toArray, List.set_cons_zero, List.set_cons_succ])
          refine' wpAnyT_one (i := 8) (o := ?oiq77) (by kernel_rfl) ?hiq77 (fun K hK => ?stq77)
          case hiq77 => (simp only [List.getElem?_toArray, List.getElem?_cons_zero, List.getElem?_cons_succ]; rfl)
          go_simp
          obtain ⟨Yq38, hY⟩ : ∃ X, Yq37.alloc (.cells #[.int .i64 0, .int .i64 0, .slice (some ⟨h3, 0, none⟩) 2 2, .int .i64 0, .int .i64 1, .slice (some ⟨h6, 0, none⟩) 1 1] 27) = X := ⟨_, rfl⟩
          obtain ⟨h8, hh⟩ : ∃ h, Yq37.heap.size = h := ⟨_, rfl⟩
          have hbb38 : Below Yq37.heap.size Yq37 Yq38 := by rw [← hY]; exact al1 _ _
          have HZh8 : Hid (Yq38.heap[h8]? = some (.cells #[.int .i64 0, .int .i64 0, .slice (some ⟨h3, 0, none⟩) 2 2, .int .i64 0, .int .i64 1, .slice (some ⟨h6, 0, none⟩) 1 1] 27)) := hid (by rw [← hY, ← hh]; exact heap_alloc_new _ _)
          rw [hY, hh]
          clear hY hh
          clear hHeld
          have hHeld := HK.out Yq38 (below_both hB0 (below_both (below_both (below_both (below_both (below_both hbb33 hbb36) hbb34) hbb7) hbb37) hbb38))
          refine hK.out _ _ (fun _ => hHeld) ?_
          clear hK K
          (try simp only [Act.put, List.setIfInBounds_toArray, List.set_cons_zero, List.set_cons_succ])
          refine' wpAnyT_one (i := 9) (o := ?oiq78) (by kernel_rfl) ?hiq78 (fun K hK => ?stq78)
          case hiq78 => (simp only [List.getElem?_toArray, List.getElem?_cons_zero, List.getElem?_cons_succ]; rfl)
          go_simp
          go_at_call 29
          refine (aw_call3 (HDD.out Yq38 (below_both hB0 (below_both (below_both (below_both (below_both (below_both hbb33 hbb36) hbb34) hbb7) hbb37) hbb38))).2 (((below_both (below_both (below_both (below_both hbb36 hbb34) hbb7) hbb37) hbb38).block _ (box_lt HZh3.out)).trans HZh3.out) (((below_both (below_both (below_both hbb34 hbb7) hbb37) hbb38).block _ (box_lt HZh6.out)).trans HZh6.out) (((Below.refl _ _).block _ (box_lt HZh8.out)).trans HZh8.out)).mono ?_
          rintro e Yq39 ⟨A9, c9, B9, d9, rfl, ho9, hbb39⟩
          have HO9 := hid ho9
          clear ho9
          clear hHeld
          have hHeld := HK.out Yq39 (below_both hB0 (below_both (below_both (below_both (below_both (below_both (below_both hbb33 hbb36) hbb34) hbb7) hbb37) hbb38) hbb39))
          refine hK.out _ _ (fun _ => hHeld) ?_
          clear hK K
          (try simp only [Act.put, List.setIfInBounds_toArray, List.set_cons_zero, List.set_cons_succ])
          refine' wpAnyT_take (i := 10) (oi := ?oiq79) (v := ?vq79) ?hiq79 (by kernel_rfl) (by kernel_rfl) ?hqq79 ?hyq79 hHeld ?restq79
          case hiq79 => (simp only [List.getElem?_toArray, List.getElem?_cons_zero, List.getElem?_cons_succ]; rfl)
          case hqq79 => exact fun _ _ _ h => HQP _ _ _ _ _ h
          case hyq79 => (refine Or.inl ⟨by rfl, ?_⟩; intro w' hSw; (try dsimp only at hSw); go_simp; try with_reducible rfl)
          (try simp only [Act.put, List.setIfInBounds_toArray, List.set_cons_zero, List.set_cons_succ])
          refine' wpAnyT_take (i := 11) (oi := ?oiq80) (v := ?vq80) ?hiq80 (by kernel_rfl) (by kernel_rfl) ?hqq80 ?hyq80 hHeld ?restq80
          case hiq80 => (simp only [List.getElem?_toArray, List.getElem?_cons_zero, List.getElem?_cons_succ]; rfl)
          case hqq80 => exact fun _ _ _ h => HQP _ _ _ _ _ h
          case hyq80 => (refine Or.inl ⟨by rfl, ?_⟩; intro w' hSw; (try dsimp only at hSw); go_simp; try with_reducible rfl)
          (try simp only [Act.put, List.setIfInBounds_toArray, List.set_cons_zero, List.set_cons_succ])
          refine' wpAnyT_take (i := 12) (oi := ?oiq81) (v := ?vq81) ?hiq81 (by kernel_rfl) (by kernel_rfl) ?hqq81 ?hyq81 hHeld ?restq81
          case hiq81 => (simp only [List.getElem?_toArray, List.getElem?_cons_zero, List.getElem?_cons_succ]; rfl)
          case hqq81 => exact fun _ _ _ h => HQP _ _ _ _ _ h
          case hyq81 => (refine Or.inl ⟨by rfl, ?_⟩; intro w' hSw; (try dsimp only at hSw); go_simp; try with_reducible rfl)
          (try simp only [Act.put, List.setIfInBounds_toArray, List.set_cons_zero, List.set_cons_succ])
          refine' wpAnyT_take (i := 13) (oi := ?oiq82) (v := ?vq82) ?hiq82 (by kernel_rfl) (by kernel_rfl) ?hqq82 ?hyq82 hHeld ?restq82
          case hiq82 => (simp only [List.getElem?_toArray, List.getElem?_cons_zero, List.getElem?_cons_succ]; rfl)
          case hqq82 => exact fun _ _ _ h => HQP _ _ _ _ _ h
          case hyq82 => (refine Or.inl ⟨by rfl, ?_⟩; intro w' hSw; (try dsimp only at hSw); go_simp; try with_reducible rfl)
          (try simp only [Act.put, List.setIfInBounds_toArray, List.set_cons_zero, List.set_cons_succ])
          refine' wpAnyT_one (i := 15) (o := ?oiq83) (by kernel_rfl) ?hiq83 (fun K hK => ?stq83)
          case hiq83 => (simp only [List.getElem?_toArray, List.getElem?_cons_zero, List.getElem?_cons_succ]; rfl)
          have hp15 := (((below_both (below_both hbb37 hbb38) hbb39).block _ (box_lt HZpe.out)).trans HZpe.out)
          have p0 := cell_of_row _ _ 0 _ _ _ hp15
          have p1 := cell_of_row _ _ 1 _ _ _ hp15
          have fp0 := box_fr hp15 0
          have fp1 := box_fr hp15 1
          go_simp
          obtain ⟨YqN15, hY⟩ : ∃ X, (Yq39.setCell ⟨pe, 0, none⟩ (.slice A9 3 c9)).setCell ⟨pe, 1, none⟩ (.slice B9 3 d9) = X := ⟨_, rfl⟩
          rw [hY]
          have HP15 : Hid (YqN15.heap[pe]? = some (.cells #[.slice A9 3 c9, .slice B9 3 d9] 25)) := hid (by rw [← hY]; exact disk_set hp15 _ _)
          have HO15 : Hid (OwnG YqN15 0 st3 ca3 (.agg #[.slice A9 3 c9, .slice B9 3 d9])) := hid (by rw [← hY]; exact (HO9.out.keep (keep_below (Below.refl _ _)) (keep_below (Below.refl _ _)) (Nat.zero_le _)).keep (keep_two hp15 (by decide)) (keep_two hp15 (by decide)) (Nat.le_refl _))
          have hpeW : W5.heap.size ≤ pe := HPW.out
          have hbbnone15 : Below W5.heap.size W5 YqN15 := by rw [← hY]; exact ((below_both hB0 (below_both (below_both (below_both (below_both (below_both (below_both hbb33 hbb36) hbb34) hbb7) hbb37) hbb38) hbb39)).setCell hpeW _).setCell hpeW _
          clear hY hp15 p0 p1 fp0 fp1
          clear hHeld
          have hHeld := HK.out YqN15 hbbnone15
          refine hK.out _ _ (fun _ => hHeld) ?_
          clear hK K
          refine' wpAnyT_take (i := 16) (oi := ?oiq84) (v := ?vq84) ?hiq84 (by kernel_rfl) (by kernel_rfl) ?hqq84 ?hyq84 hHeld ?restq84
          case hiq84 => (simp only [List.getElem?_toArray, List.getElem?_cons_zero, List.getElem?_cons_succ]; rfl)
          case hqq84 => exact fun _ _ _ h => HQP _ _ _ _ _ h
          case hyq84 => (refine Or.inl ⟨by rfl, ?_⟩; intro w' hSw; (try dsimp only at hSw); go_simp; try with_reducible rfl)
          (try simp only [Act.put, List.setIfInBounds_toArray, List.set_cons_zero, List.set_cons_succ])
          refine' wpAnyT_one (i := 17) (o := ?oiq85) (by kernel_rfl) ?hiq85 (fun K hK => ?stq85)
          case hiq85 => (simp only [List.getElem?_toArray, List.getElem?_cons_zero, List.getElem?_cons_succ]; rfl)
          go_simp
          refine hK.out _ _ (fun h => absurd h (by decide)) ?_
          clear hK K
          (try simp only [Act.put, List.setIfInBounds_toArray, List.set_cons_zero, List.set_cons_succ])
          refine wpAnyT_done (by kernel_rfl) ?_ _
          exact HC.out YqN15 h3 h6 h8 pe A9 c9 B9 d9 ⟨hbbnone15, HP15.out, HO15.out.dk⟩
      · refine ⟨_, by (simp only [List.getElem?_toArray, List.getElem?_cons_zero, List.getElem?_cons_succ]; rfl), fun K hK => ?_⟩
        go_simp
        obtain ⟨Yq7, hY⟩ : ∃ X, Yq36.alloc (.cells #[.slice none 0 0, .slice none 0 0] 25) = X := ⟨_, rfl⟩
        obtain ⟨pe, hh⟩ : ∃ h, Yq36.heap.size = h := ⟨_, rfl⟩
        have hbb7 : Below Yq36.heap.size Yq36 Yq7 := by rw [← hY]; exact al1 _ _
        have HZpe : Hid (Yq7.heap[pe]? = some (.cells #[.slice none 0 0, .slice none 0 0] 25)) := hid (by rw [← hY, ← hh]; exact heap_alloc_new _ _)
        have HPW : Hid (W5.heap.size ≤ pe) := hid (by rw [← hh]; exact (below_both hB0 (below_both hbb33 hbb36)).size)
        rw [hY, hh]
        clear hY hh
        clear hHeld
        have hHeld := HK.out Yq7 (below_both hB0 (below_both (below_both hbb33 hbb36) hbb7))
        refine hK.out _ _ (fun _ => hHeld) ?_
        clear hK K
        (try simp only [Act.put, List.setIfInBounds_toArray, List.set_cons_zero, List.set_cons_succ])
        refine' wpAnyT_one (i := 4) (o := ?oiq86) (by kernel_rfl) ?hiq86 (fun K hK => ?stq86)
        case hiq86 => (simp only [List.getElem?_toArray, List.getElem?_cons_zero, List.getElem?_cons_succ]; rfl)
        go_simp
        go_at_call 40
        refine (HW0.out (some ⟨h3, 0, none⟩) 2 2 Yq7).mono ?_
        rintro e Yq34 ⟨rfl, hbb34⟩
        clear hHeld
        have hHeld := HK.out Yq34 (below_both hB0 (below_both (below_both (below_both hbb33 hbb36) hbb7) hbb34))
        refine hK.out _ _ (fun _ => hHeld) ?_
        clear hK K
        (try simp only [Act.put, List.setIfInBounds_toArray, List.set_cons_zero, List.set_cons_succ])
        refine' wpAnyT_one (i := 7) (o := ?oiq87) (by kernel_rfl) ?hiq87 (fun K hK => ?stq87)
        case hiq87 => (simp only [List.getElem?_toArray, List.getElem?_cons_zero, List.getElem?_cons_succ]; rfl)
        go_simp
        go_at_call 40
        refine (HW1.out (some ⟨h6, 0, none⟩) 1 1 Yq34).mono ?_
        rintro e Yq37 ⟨rfl, hbb37⟩
        clear hHeld
        have hHeld := HK.out Yq37 (below_both hB0 (below_both (below_both (below_both (below_both hbb33 hbb36) hbb7) hbb34) hbb37))
        refine hK.out _ _ (fun _ => hHeld) ?_
        clear hK K
        (try simp only [Act.put, List.setIfInBounds_toArray, List.set_cons_zero, List.set_cons_succ])
        refine' wpAnyT_one (i := 8) (o := ?oiq88) (by kernel_rfl) ?hiq88 (fun K hK => ?stq88)
        case hiq88 => (simp only [List.getElem?_toArray, List.getElem?_cons_zero, List.getElem?_cons_succ]; rfl)
        go_simp
        obtain ⟨Yq38, hY⟩ : ∃ X, Yq37.alloc (.cells #[.int .i64 0, .int .i64 0, .slice (some ⟨h3, 0, none⟩) 2 2, .int .i64 0, .int .i64 1, .slice (some ⟨h6, 0, none⟩) 1 1] 27) = X := ⟨_, rfl⟩
        obtain ⟨h8, hh⟩ : ∃ h, Yq37.heap.size = h := ⟨_, rfl⟩
        have hbb38 : Below Yq37.heap.size Yq37 Yq38 := by rw [← hY]; exact al1 _ _
        have HZh8 : Hid (Yq38.heap[h8]? = some (.cells #[.int .i64 0, .int .i64 0, .slice (some ⟨h3, 0, none⟩) 2 2, .int .i64 0, .int .i64 1, .slice (some ⟨h6, 0, none⟩) 1 1] 27)) := hid (by rw [← hY, ← hh]; exact heap_alloc_new _ _)
        rw [hY, hh]
        clear hY hh
        clear hHeld
        have hHeld := HK.out Yq38 (below_both hB0 (below_both (below_both (below_both (below_both (below_both hbb33 hbb36) hbb7) hbb34) hbb37) hbb38))
        refine hK.out _ _ (fun _ => hHeld) ?_
        clear hK K
        (try simp only [Act.put, List.setIfInBounds_toArray, List.set_cons_zero, List.set_cons_succ])
        refine' wpAnyT_one (i := 9) (o := ?oiq89) (by kernel_rfl) ?hiq89 (fun K hK => ?stq89)
        case hiq89 => (simp only [List.getElem?_toArray, List.getElem?_cons_zero, List.getElem?_cons_succ]; rfl)
        go_simp
        go_at_call 29
        refine (aw_call3 (HDD.out Yq38 (below_both hB0 (below_both (below_both (below_both (below_both (below_both hbb33 hbb36) hbb7) hbb34) hbb37) hbb38))).2 (((below_both (below_both (below_both (below_both hbb36 hbb7) hbb34) hbb37) hbb38).block _ (box_lt HZh3.out)).trans HZh3.out) (((below_both (below_both (below_both hbb7 hbb34) hbb37) hbb38).block _ (box_lt HZh6.out)).trans HZh6.out) (((Below.refl _ _).block _ (box_lt HZh8.out)).trans HZh8.out)).mono ?_
        rintro e Yq39 ⟨A9, c9, B9, d9, rfl, ho9, hbb39⟩
        have HO9 := hid ho9
        clear ho9
        clear hHeld
        have hHeld := HK.out Yq39 (below_both hB0 (below_both (below_both (below_both (below_both (below_both (below_both hbb33 hbb36) hbb7) hbb34) hbb37) hbb38) hbb39))
        refine hK.out _ _ (fun _ => hHeld) ?_
        clear hK K
        (try simp only [Act.put, List.setIfInBounds_toArray, List.set_cons_zero, List.set_cons_succ])
        refine' wpAnyT_take (i := 10) (oi := ?oiq90) (v := ?vq90) ?hiq90 (by kernel_rfl) (by kernel_rfl) ?hqq90 ?hyq90 hHeld ?restq90
        case hiq90 => (simp only [List.getElem?_toArray, List.getElem?_cons_zero, List.getElem?_cons_succ]; rfl)
        case hqq90 => exact fun _ _ _ h => HQP _ _ _ _ _ h
        case hyq90 => (refine Or.inl ⟨by rfl, ?_⟩; intro w' hSw; (try dsimp only at hSw); go_simp; try with_reducible rfl)
        (try simp only [Act.put, List.setIfInBounds_toArray, List.set_cons_zero, List.set_cons_succ])
        refine' wpAnyT_take (i := 11) (oi := ?oiq91) (v := ?vq91) ?hiq91 (by kernel_rfl) (by kernel_rfl) ?hqq91 ?hyq91 hHeld ?restq91
        case hiq91 => (simp only [List.getElem?_toArray, List.getElem?_cons_zero, List.getElem?_cons_succ]; rfl)
        case hqq91 => exact fun _ _ _ h => HQP _ _ _ _ _ h
        case hyq91 => (refine Or.inl ⟨by rfl, ?_⟩; intro w' hSw; (try dsimp only at hSw); go_simp; try with_reducible rfl)
        (try simp only [Act.put, List.setIfInBounds_toArray, List.set_cons_zero, List.set_cons_succ])
        refine' wpAnyT_take (i := 12) (oi := ?oiq92) (v := ?vq92) ?hiq92 (by kernel_rfl) (by kernel_rfl) ?hqq92 ?hyq92 hHeld ?restq92
        case hiq92 => (simp only [List.getElem?_toArray, List.getElem?_cons_zero, List.getElem?_cons_succ]; rfl)
        case hqq92 => exact fun _ _ _ h => HQP _ _ _ _ _ h
        case hyq92 => (refine Or.inl ⟨by rfl, ?_⟩; intro w' hSw; (try dsimp only at hSw); go_simp; try with_reducible rfl)
        (try simp only [Act.put, List.setIfInBounds_toArray, List.set_cons_zero, List.set_cons_succ])
        refine' wpAnyT_take (i := 13) (oi := ?oiq93) (v := ?vq93) ?hiq93 (by kernel_rfl) (by kernel_rfl) ?hqq93 ?hyq93 hHeld ?restq93
        case hiq93 => (simp only [List.getElem?_toArray, List.getElem?_cons_zero, List.getElem?_cons_succ]; rfl)
        case hqq93 => exact fun _ _ _ h => HQP _ _ _ _ _ h
        case hyq93 => (refine Or.inl ⟨by rfl, ?_⟩; intro w' hSw; (try dsimp only at hSw); go_simp; try with_reducible rfl)
        (try simp only [Act.put, List.setIfInBounds_toArray, List.set_cons_zero, List.set_cons_succ])
        refine' wpAnyT_one (i := 15) (o := ?oiq94) (by kernel_rfl) ?hiq94 (fun K hK => ?stq94)
        case hiq94 => (simp only [List.getElem?_toArray, List.getElem?_cons_zero, List.getElem?_cons_succ]; rfl)
        have hp15 := (((below_both (below_both (below_both hbb34 hbb37) hbb38) hbb39).block _ (box_lt HZpe.out)).trans HZpe.out)
        have p0 := cell_of_row _ _ 0 _ _ _ hp15
        have p1 := cell_of_row _ _ 1 _ _ _ hp15
        have fp0 := box_fr hp15 0
        have fp1 := box_fr hp15 1
        go_simp
        obtain ⟨YqN15, hY⟩ : ∃ X, (Yq39.setCell ⟨pe, 0, none⟩ (.slice A9 3 c9)).setCell ⟨pe, 1, none⟩ (.slice B9 3 d9) = X := ⟨_, rfl⟩
        rw [hY]
        have HP15 : Hid (YqN15.heap[pe]? = some (.cells #[.slice A9 3 c9, .slice B9 3 d9] 25)) := hid (by rw [← hY]; exact disk_set hp15 _ _)
        have HO15 : Hid (OwnG YqN15 0 st3 ca3 (.agg #[.slice A9 3 c9, .slice B9 3 d9])) := hid (by rw [← hY]; exact (HO9.out.keep (keep_below (Below.refl _ _)) (keep_below (Below.refl _ _)) (Nat.zero_le _)).keep (keep_two hp15 (by decide)) (keep_two hp15 (by decide)) (Nat.le_refl _))
        have hpeW : W5.heap.size ≤ pe := HPW.out
        have hbbnone15 : Below W5.heap.size W5 YqN15 := by rw [← hY]; exact ((below_both hB0 (below_both (below_both (below_both (below_both (below_both (below_both hbb33 hbb36) hbb7) hbb34) hbb37) hbb38) hbb39)).setCell hpeW _).setCell hpeW _
        clear hY hp15 p0 p1 fp0 fp1
        clear hHeld
        have hHeld := HK.out YqN15 hbbnone15
        refine hK.out _ _ (fun _ => hHeld) ?_
        clear hK K
        refine' wpAnyT_take (i := 16) (oi := ?oiq95) (v := ?vq95) ?hiq95 (by kernel_rfl) (by kernel_rfl) ?hqq95 ?hyq95 hHeld ?restq95
        case hiq95 => (simp only [List.getElem?_toArray, List.getElem?_cons_zero, List.getElem?_cons_succ]; rfl)
        case hqq95 => exact fun _ _ _ h => HQP _ _ _ _ _ h
        case hyq95 => (refine Or.inl ⟨by rfl, ?_⟩; intro w' hSw; (try dsimp only at hSw); go_simp; try with_reducible rfl)
        (try simp only [Act.put, List.setIfInBounds_toArray, List.set_cons_zero, List.set_cons_succ])
        refine' wpAnyT_one (i := 17) (o := ?oiq96) (by kernel_rfl) ?hiq96 (fun K hK => ?stq96)
        case hiq96 => (simp only [List.getElem?_toArray, List.getElem?_cons_zero, List.getElem?_cons_succ]; rfl)
        go_simp
        refine hK.out _ _ (fun h => absurd h (by decide)) ?_
        clear hK K
        (try simp only [Act.put, List.setIfInBounds_toArray, List.set_cons_zero, List.set_cons_succ])
        refine wpAnyT_done (by kernel_rfl) ?_ _
        exact HC.out YqN15 h3 h6 h8 pe A9 c9 B9 d9 ⟨hbbnone15, HP15.out, HO15.out.dk⟩
    · refine ⟨_, by (simp only [List.getElem?_toArray, List.getElem?_cons_zero, List.getElem?_cons_succ]; rfl), fun K hK => ?_⟩
      go_simp
      obtain ⟨Yq7, hY⟩ : ∃ X, Yq33.alloc (.cells #[.slice none 0 0, .slice none 0 0] 25) = X := ⟨_, rfl⟩
      obtain ⟨pe, hh⟩ : ∃ h, Yq33.heap.size = h := ⟨_, rfl⟩
      have hbb7 : Below Yq33.heap.size Yq33 Yq7 := by rw [← hY]; exact al1 _ _
      have HZpe : Hid (Yq7.heap[pe]? = some (.cells #[.slice none 0 0, .slice none 0 0] 25)) := hid (by rw [← hY, ← hh]; exact heap_alloc_new _ _)
      have HPW : Hid (W5.heap.size ≤ pe) := hid (by rw [← hh]; exact (below_both hB0 hbb33).size)
      rw [hY, hh]
      clear hY hh
      clear hHeld
      have hHeld := HK.out Yq7 (below_both hB0 (below_both hbb33 hbb7))
      refine hK.out _ _ (fun _ => hHeld) ?_
      clear hK K
      (try simp only [Act.put, List.setIfInBounds_toArray, List.set_cons_zero, List.set_cons_succ])
      refine wpAnyT_all (l := [4, 6]) (by kernel_rfl) (by decide) ?_
      intro i hi
      simp only [List.mem_cons, List.not_mem_nil, or_false] at hi
      rcases hi with rfl | rfl
      · refine ⟨_, by (simp only [List.getElem?_toArray, List.getElem?_cons_zero, List.getElem?_cons_succ]; rfl), fun K hK => ?_⟩
        go_simp
        go_at_call 40
        refine (HW0.out (some ⟨h3, 0, none⟩) 2 2 Yq7).mono ?_
        rintro e Yq34 ⟨rfl, hbb34⟩
        clear hHeld
        have hHeld := HK.out Yq34 (below_both hB0 (below_both (below_both hbb33 hbb7) hbb34))
        refine hK.out _ _ (fun _ => hHeld) ?_
        clear hK K
        (try simp only [Act.put, List.setIfInBounds_toArray, List.set_cons_zero, List.set_cons_succ])
        refine' wpAnyT_one (i := 6) (o := ?oiq97) (by kernel_rfl) ?hiq97 (fun K hK => ?stq97)
        case hiq97 => (simp only [List.getElem?_toArray, List.getElem?_cons_zero, List.getElem?_cons_succ]; rfl)
        go_simp
        obtain ⟨Yq36, hY⟩ : ∃ X, Yq34.alloc (.cells #[.int .u8 3, .int .u8 0, .int .u8 0, .int .u8 0, .int .u8 0, .int .u8 0, .int .u8 0, .int .u8 0] 73) = X := ⟨_, rfl⟩
        obtain ⟨h6, hh⟩ : ∃ h, Yq34.heap.size = h := ⟨_, rfl⟩
        have hbb36 : Below Yq34.heap.size Yq34 Yq36 := by rw [← hY]; exact al1 _ _
        have HZh6 : Hid (Yq36.heap[h6]? = some (.cells #[.int .u8 3, .int .u8 0, .int .u8 0, .int .u8 0, .int .u8 0, .int .u8 0, .int .u8 0, .int .u8 0] 73)) := hid (by rw [← hY, ← hh]; exact heap_alloc_new _ _)
        rw [hY, hh]
        clear hY hh
        clear hHeld
        have hHeld := HK.out Yq36 (below_both hB0 (below_both (below_both (below_both hbb33 hbb7) hbb34) hbb36))
        refine hK.out _ _ (fun _ => hHeld) ?_
        clear hK K
        (try simp only [Act.put, List.setIfInBounds_toArray, List.set_cons_zero, List.set_cons_succ])
        refine' wpAnyT_one (i := 7) (o := ?oiq98) (by kernel_rfl) ?hiq98 (fun K hK => ?stq98)
        case hiq98 => (simp only [List.getElem?_toArray, List.getElem?_cons_zero, List.getElem?_cons_succ]; rfl)
        go_simp
        go_at_call 40
        refine (HW1.out (some ⟨h6, 0, none⟩) 1 1 Yq36).mono ?_
        rintro e Yq37 ⟨rfl, hbb37⟩
        clear hHeld
        have hHeld := HK.out Yq37 (below_both hB0 (below_both (below_both (below_both (below_both hbb33 hbb7) hbb34) hbb36) hbb37))
        refine hK.out _ _ (fun _ => hHeld) ?_
        clear hK K
        (try simp only [Act.put, List.setIfInBounds_toArray, List.set_cons_zero, List.set_cons_succ])
        refine' wpAnyT_one (i := 8) (o := ?oiq99) (by kernel_rfl) ?hiq99 (fun K hK => ?stq99)
        case hiq99 => (simp only [List.getElem?_toArray, List.getElem?_cons_zero, List.getElem?_cons_succ]; rfl)
        go_simp
        obtain ⟨Yq38, hY⟩ : ∃ X, Yq37.alloc (.cells #[.int .i64 0, .int .i64 0, .slice (some ⟨h3, 0, none⟩) 2 2, .int .i64 0, .int .i64 1, .slice (some ⟨h6, 0, none⟩) 1 1] 27) = X := ⟨_, rfl⟩
        obtain ⟨h8, hh⟩ : ∃ h, Yq37.heap.size = h := ⟨_, rfl⟩
        have hbb38 : Below Yq37.heap.size Yq37 Yq38 := by rw [← hY]; exact al1 _ _
        have HZh8 : Hid (Yq38.heap[h8]? = some (.cells #[.int .i64 0, .int .i64 0, .slice (some ⟨h3, 0, none⟩) 2 2, .int .i64 0, .int .i64 1, .slice (some ⟨h6, 0, none⟩) 1 1] 27)) := hid (by rw [← hY, ← hh]; exact heap_alloc_new _ _)
        rw [hY, hh]
        clear hY hh
        clear hHeld
        have hHeld := HK.out Yq38 (below_both hB0 (below_both (below_both (below_both (below_both (below_both hbb33 hbb7) hbb34) hbb36) hbb37) hbb38))
        refine hK.out _ _ (fun _ => hHeld) ?_
        clear hK K
        (try simp only [Act.put, List.setIfInBounds_toArray, List.set_cons_zero, List.set_cons_succ])
        refine' wpAnyT_one (i := 9) (o := ?oiq100) (by kernel_rfl) ?hiq100 (fun K hK => ?stq100)
        case hiq100 => (simp only [List.getElem?_toArray, List.getElem?_cons_zero, List.getElem?_cons_succ]; rfl)
        go_simp
        go_at_call 29
        refine (aw_call3 (HDD.out Yq38 (below_both hB0 (below_both (below_both (below_both (below_both (below_both hbb33 hbb7) hbb34) hbb36) hbb37) hbb38))).2 (((below_both (below_both (below_both (below_both hbb7 hbb34) hbb36) hbb37) hbb38).block _ (box_lt HZh3.out)).trans HZh3.out) (((below_both hbb37 hbb38).block _ (box_lt HZh6.out)).trans HZh6.out) (((Below.refl _ _).block _ (box_lt HZh8.out)).trans HZh8.out)).mono ?_
        rintro e Yq39 ⟨A9, c9, B9, d9, rfl, ho9, hbb39⟩
        have HO9 := hid ho9
        clear ho9
        clear hHeld
        have hHeld := HK.out Yq39 (below_both hB0 (below_both (below_both (below_both (below_both (below_both (below_both hbb33 hbb7) hbb34) hbb36) hbb37) hbb38) hbb39))
        refine hK.out _ _ (fun _ => hHeld) ?_
        clear hK K
        (try simp only [Act.put, List.setIfInBounds_toArray, List.set_cons_zero, List.set_cons_succ])
        refine' wpAnyT_take (i := 10) (oi := ?oiq101) (v := ?vq101) ?hiq101 (by kernel_rfl) (by kernel_rfl) ?hqq101 ?hyq101 hHeld ?restq101
        case hiq101 => (simp only [List.getElem?_toArray, List.getElem?_cons_zero, List.getElem?_cons_succ]; rfl)
        case hqq101 => exact fun _ _ _ h => HQP _ _ _ _ _ h
        case hyq101 => (refine Or.inl ⟨by rfl, ?_⟩; intro w' hSw; (try dsimp only at hSw); go_simp; try with_reducible rfl)
        (try simp only [Act.put, List.setIfInBounds_toArray, List.set_cons_zero, List.set_cons_succ])
        refine' wpAnyT_take (i := 11) (oi := ?oiq102) (v := ?vq102) ?hiq102 (by kernel_rfl) (by kernel_rfl) ?hqq102 ?hyq102 hHeld ?restq102
        case hiq102 => (simp only [List.getElem?_toArray, List.getElem?_cons_zero, List.getElem?_cons_succ]; rfl)
        case hqq102 => exact fun _ _ _ h => HQP _ _ _ _ _ h
        case hyq102 => (refine Or.inl ⟨by rfl, ?_⟩; intro w' hSw; (try dsimp only at hSw); go_simp; try with_reducible rfl)
        (try simp only [Act.put, List.setIfInBounds_toArray, List.set_cons_zero, List.set_cons_succ])
        refine' wpAnyT_take (i := 12) (oi := ?oiq103) (v := ?vq103) ?hiq103 (by kernel_rfl) (by kernel_rfl) ?hqq103 ?hyq103 hHeld ?restq103
        case hiq103 => (simp only [List.getElem?_toArray, List.getElem?_cons_zero, List.getElem?_cons_succ]; rfl)
        case hqq103 => exact fun _ _ _ h => HQP _ _ _ _ _ h
        case hyq103 => (refine Or.inl ⟨by rfl, ?_⟩; intro w' hSw; (try dsimp only at hSw); go_simp; try with_reducible rfl)
        (try simp only [Act.put, List.setIfInBounds_toArray, List.set_cons_zero, List.set_cons_succ])
        refine' wpAnyT_take (i := 13) (oi := ?oiq104) (v := ?vq104) ?hiq104 (by kernel_rfl) (by kernel_rfl) ?hqq104 ?hyq104 hHeld ?restq104
        case hiq104 => (simp only [List.getElem?_toArray, List.getElem?_cons_zero, List.getElem?_cons_succ]; rfl)
        case hqq104 => exact fun _ _ _ h => HQP _ _ _ _ _ h
        case hyq104 => (refine Or.inl ⟨by rfl, ?_⟩; intro w' hSw; (try dsimp only at hSw); go_simp; try with_reducible rfl)
        (try simp only [Act.put, List.setIfInBounds_toArray, List.set_cons_zero, List.set_cons_succ])
        refine' wpAnyT_one (i := 15) (o := ?oiq105) (by kernel_rfl) ?hiq105 (fun K hK => ?stq105)
        case hiq105 => (simp only [List.getElem?_toArray, List.getElem?_cons_zero, List.getElem?_cons_succ]; rfl)
        have hp15 := (((below_both (below_both (below_both (below_both hbb34 hbb36) hbb37) hbb38) hbb39).block _ (box_lt HZpe.out)).trans HZpe.out)
        have p0 := cell_of_row _ _ 0 _ _ _ hp15
        have p1 := cell_of_row _ _ 1 _ _ _ hp15
        have fp0 := box_fr hp15 0
        have fp1 := box_fr hp15 1
        go_simp
        obtain ⟨YqN15, hY⟩ : ∃ X, (Yq39.setCell ⟨pe, 0, none⟩ (.slice A9 3 c9)).setCell ⟨pe, 1, none⟩ (.slice B9 3 d9) = X := ⟨_, rfl⟩
        rw [hY]
        have HP15 : Hid (YqN15.heap[pe]? = some (.cells #[.slice A9 3 c9, .slice B9 3 d9] 25)) := hid (by rw [← hY]; exact disk_set hp15 _ _)
        have HO15 : Hid (OwnG YqN15 0 st3 ca3 (.agg #[.slice A9 3 c9, .slice B9 3 d9])) := hid (by rw [← hY]; exact (HO9.out.keep (keep_below (Below.refl _ _)) (keep_below (Below.refl _ _)) (Nat.zero_le _)).keep (keep_two hp15 (by decide)) (keep_two hp15 (by decide)) (Nat.le_refl _))
        have hpeW : W5.heap.size ≤ pe := HPW.out
        have hbbnone15 : Below W5.heap.size W5 YqN15 := by rw [← hY]; exact ((below_both hB0 (below_both (below_both (below_both (below_both (below_both (below_both hbb33 hbb7) hbb34) hbb36) hbb37) hbb38) hbb39)).setCell hpeW _).setCell hpeW _
        clear hY hp15 p0 p1 fp0 fp1
        clear hHeld
        have hHeld := HK.out YqN15 hbbnone15
        refine hK.out _ _ (fun _ => hHeld) ?_
        clear hK K
        refine' wpAnyT_take (i := 16) (oi := ?oiq106) (v := ?vq106) ?hiq106 (by kernel_rfl) (by kernel_rfl) ?hqq106 ?hyq106 hHeld ?restq106
        case hiq106 => (simp only [List.getElem?_toArray, List.getElem?_cons_zero, List.getElem?_cons_succ]; rfl)
        case hqq106 => exact fun _ _ _ h => HQP _ _ _ _ _ h
        case hyq106 => (refine Or.inl ⟨by rfl, ?_⟩; intro w' hSw; (try dsimp only at hSw); go_simp; try with_reducible rfl)
        (try simp only [Act.put, List.setIfInBounds_toArray, List.set_cons_zero, List.set_cons_succ])
        refine' wpAnyT_one (i := 17) (o := ?oiq107) (by kernel_rfl) ?hiq107 (fun K hK => ?stq107)
        case hiq107 => (simp only [List.getElem?_toArray, List.getElem?_cons_zero, List.getElem?_cons_succ]; rfl)
        go_simp
        refine hK.out _ _ (fun h => absurd h (by decide)) ?_
        clear hK K
        (try simp only [Act.put, List.setIfInBounds_toArray, List.set_cons_zero, List.set_cons_succ])
        refine wpAnyT_done (by kernel_rfl) ?_ _
        exact HC.out YqN15 h3 h6 h8 pe A9 c9 B9 d9 ⟨hbbnone15, HP15.out, HO15.out.dk⟩
      · refine ⟨_, by (simp only [List.getElem?_toArray, List.getElem?_cons_zero, List.getElem?_cons_succ]; rfl), fun K hK => ?_⟩
        go_simp
        obtain ⟨Yq36, hY⟩ : ∃ X, Yq7.alloc (.cells #[.int .u8 3, .int .u8 0, .int .u8 0, .int .u8 0, .int .u8 0, .int .u8 0, .int .u8 0, .int .u8 0] 73) = X := ⟨_, rfl⟩
        obtain ⟨h6, hh⟩ : ∃ h, Yq7.heap.size = h := ⟨_, rfl⟩
        have hbb36 : Below Yq7.heap.size Yq7 Yq36 := by rw [← hY]; exact al1 _ _
        have HZh6 : Hid (Yq36.heap[h6]? = some (.cells #[.int .u8 3, .int .u8 0, .int .u8 0, .int .u8 0, .int .u8 0, .int .u8 0, .int .u8 0, .int .u8 0] 73)) := hid (by rw [← hY, ← hh]; exact heap_alloc_new _ _)
        rw [hY, hh]
        clear hY hh
        clear hHeld
        have hHeld := HK.out Yq36 (below_both hB0 (below_both (below_both hbb33 hbb7) hbb36))
        refine hK.out _ _ (fun _ => hHeld) ?_
        clear hK K
        (try simp only [Act.put, List.setIfInBounds_toArray, List.set_cons_zero, List.set_cons_succ])
        refine' wpAnyT_one (i := 4) (o := ?oiq108) (by kernel_rfl) ?hiq108 (fun K hK => ?stq108)
        case hiq108 => (simp only [List.getElem?_toArray, List.getElem?_cons_zero, List.getElem?_cons_succ]; rfl)
        go_simp
        go_at_call 40
        refine (HW0.out (some ⟨h3, 0, none⟩) 2 2 Yq36).mono ?_
        rintro e Yq34 ⟨rfl, hbb34⟩
        clear hHeld
        have hHeld := HK.out Yq34 (below_both hB0 (below_both (below_both (below_both hbb33 hbb7) hbb36) hbb34))
        refine hK.out _ _ (fun _ => hHeld) ?_
        clear hK K
        (try simp only [Act.put, List.setIfInBounds_toArray, List.set_cons_zero, List.set_cons_succ])
        refine' wpAnyT_one (i := 7) (o := ?oiq109) (by kernel_rfl) ?hiq109 (fun K hK => ?stq109)
        case hiq109 => (simp only [List.getElem?_toArray, List.getElem?_cons_zero, List.getElem?_cons_succ]; rfl)
        go_simp
        go_at_call 40
        refine (HW1.out (some ⟨h6, 0, none⟩) 1 1 Yq34).mono ?_
        rintro e Yq37 ⟨rfl, hbb37⟩
        clear hHeld
        have hHeld := HK.out Yq37 (below_both hB0 (below_both (below_both (below_both (below_both hbb33 hbb7) hbb36) hbb34) hbb37))
        refine hK.out _ _ (fun _ => hHeld) ?_
        clear hK K
        (try simp only [Act.put, List.setIfInBounds_toArray, List.set_cons_zero, List.set_cons_succ])
        refine' wpAnyT_one (i := 8) (o := ?oiq110) (by kernel_rfl) ?hiq110 (fun K hK => ?stq110)
        case hiq110 => (simp only [List.getElem?_toArray, List.getElem?_cons_zero, List.getElem?_cons_succ]; rfl)
        go_simp
        obtain ⟨Yq38, hY⟩ : ∃ X, Yq37.alloc (.cells #[.int .i64 0, .int .i64 0, .slice (some ⟨h3, 0, none⟩) 2 2, .int .i64 0, .int .i64 1, .slice (some ⟨h6, 0, none⟩) 1 1] 27) = X := ⟨_, rfl⟩
        obtain ⟨h8, hh⟩ : ∃ h, Yq37.heap.size = h := ⟨_, rfl⟩
        have hbb38 : Below Yq37.heap.size Yq37 Yq38 := by rw [← hY]; exact al1 _ _
        have HZh8 : Hid (Yq38.heap[h8]? = some (.cells #[.int .i64 0, .int .i64 0, .slice (some ⟨h3, 0, none⟩) 2 2, .int .i64 0, .int .i64 1, .slice (some ⟨h6, 0, none⟩) 1 1] 27)) := hid (by rw [← hY, ← hh]; exact heap_alloc_new _ _)
        rw [hY, hh]
        clear hY hh
        clear hHeld
        have hHeld := HK.out Yq38 (below_both hB0 (below_both (below_both (below_both (below_both (below_both hbb33 hbb7) hbb36) hbb34) hbb37) hbb38))
        refine hK.out _ _ (fun _ => hHeld) ?_
        clear hK K
        (try simp only [Act.put, List.setIfInBounds_toArray, List.set_cons_zero, List.set_cons_succ])
        refine' wpAnyT_one (i := 9) (o := ?oiq111) (by kernel_rfl) ?hiq111 (fun K hK => ?stq111)
        case hiq111 => (simp only [List.getElem?_toArray, List.getElem?_cons_zero, List.getElem?_cons_succ]; rfl)
        go_simp
        go_at_call 29
        refine (aw_call3 (HDD.out Yq38 (below_both hB0 (below_both (below_both (below_both (below_both (below_both hbb33 hbb7) hbb36) hbb34) hbb37) hbb38))).2 (((below_both (below_both (below_both (below_both hbb7 hbb36) hbb34) hbb37) hbb38).block _ (box_lt HZh3.out)).trans HZh3.out) (((below_both (below_both hbb34 hbb37) hbb38).block _ (box_lt HZh6.out)).trans HZh6.out) (((Below.refl _ _).block _ (box_lt HZh8.out)).trans HZh8.out)).mono ?_
        rintro e Yq39 ⟨A9, c9, B9, d9, rfl, ho9, hbb39⟩
        have HO9 := hid ho9
        clear ho9
        clear hHeld
        have hHeld := HK.out Yq39 (below_both hB0 (below_both (below_both (below_both (below_both (below_both (below_both hbb33 hbb7) hbb36) hbb34) hbb37) hbb38) hbb39))
        refine hK.out _ _ (fun _ => hHeld) ?_
        clear hK K
        (try simp only [Act.put, List.setIfInBounds_toArray, List.set_cons_zero, List.set_cons_succ])
        refine' wpAnyT_take (i := 10) (oi := ?oiq112) (v := ?vq112) ?hiq112 (by kernel_rfl) (by kernel_rfl) ?hqq112 ?hyq112 hHeld ?restq112
        case hiq112 => (simp only [List.getElem?_toArray, List.getElem?_cons_zero, List.getElem?_cons_succ]; rfl)
        case hqq112 => exact fun _ _ _ h => HQP _ _ _ _ _ h
        case hyq112 => (refine Or.inl ⟨by rfl, ?_⟩; intro w' hSw; (try dsimp only at hSw); go_simp; try with_reducible rfl)
        (try simp only [Act.put, List.setIfInBounds_toArray, List.set_cons_zero, List.set_cons_succ])
        refine' wpAnyT_take (i := 11) (oi := ?oiq113) (v := ?vq113) ?hiq113 (by kernel_rfl) (by kernel_rfl) ?hqq113 ?hyq113 hHeld ?restq113
        case hiq113 => (simp only [List.getElem?_toArray, List.getElem?_cons_zero, List.getElem?_cons_succ]; rfl)
        case hqq113 => exact fun _ _ _ h => HQP _ _ _ _ _ h
        case hyq113 => (refine Or.inl ⟨by rfl, ?_⟩; intro w' hSw; (try dsimp only at hSw); go_simp; try with_reducible rfl)
        (try simp only [Act.put, List.setIfInBounds_toArray, List.set_cons_zero, List.set_cons_succ])
        refine' wpAnyT_take (i := 12) (oi := ?oiq114) (v := ?vq114) ?hiq114 (by kernel_rfl) (by kernel_rfl) ?hqq114 ?hyq114 hHeld ?restq114
        case hiq114 => (simp only [List.getElem?_toArray, List.getElem?_cons_zero, List.getElem?_cons_succ]; rfl)
        case hqq114 => exact fun _ _ _ h => HQP _ _ _ _ _ h
        case hyq114 => (refine Or.inl ⟨by rfl, ?_⟩; intro w' hSw; (try dsimp only at hSw); go_simp; try with_reducible rfl)
        (try simp only [Act.put, List.setIfInBounds_toArray, List.set_cons_zero, List.set_cons_succ])
        refine' wpAnyT_take (i := 13) (oi := ?oiq115) (v := ?vq115) ?hiq115 (by kernel_rfl) (by kernel_rfl) ?hqq115 ?hyq115 hHeld ?restq115
        case hiq115 => (simp only [List.getElem?_toArray, List.getElem?_cons_zero, List.getElem?_cons_succ]; rfl)
        case hqq115 => exact fun _ _ _ h => HQP _ _ _ _ _ h
        case hyq115 => (refine Or.inl ⟨by rfl, ?_⟩; intro w' hSw; (try dsimp only at hSw); go_simp; try with_reducible rfl)
        (try simp only [Act.put, List.setIfInBounds_toArray, List.set_cons_zero, List.set_cons_succ])
        refine' wpAnyT_one (i := 15) (o := ?oiq116) (by kernel_rfl) ?hiq116 (fun K hK => ?stq116)
        case hiq116 => (simp only [List.getElem?_toArray, List.getElem?_cons_zero, List.getElem?_cons_succ]; rfl)
        have hp15 := (((below_both (below_both (below_both (below_both hbb36 hbb34) hbb37) hbb38) hbb39).block _ (box_lt HZpe.out)).trans HZpe.out)
        have p0 := cell_of_row _ _ 0 _ _ _ hp15
        have p1 := cell_of_row _ _ 1 _ _ _ hp15
        have fp0 := box_fr hp15 0
        have fp1 := box_fr hp15 1
        go_simp
        obtain ⟨YqN15, hY⟩ : ∃ X, (Yq39.setCell ⟨pe, 0, none⟩ (.slice A9 3 c9)).setCell ⟨pe, 1, none⟩ (.slice B9 3 d9) = X := ⟨_, rfl⟩
        rw [hY]
        have HP15 : Hid (YqN15.heap[pe]? = some (.cells #[.slice A9 3 c9, .slice B9 3 d9] 25)) := hid (by rw [← hY]; exact disk_set hp15 _ _)
        have HO15 : Hid (OwnG YqN15 0 st3 ca3 (.agg #[.slice A9 3 c9, .slice B9 3 d9])) := hid (by rw [← hY]; exact (HO9.out.keep (keep_below (Below.refl _ _)) (keep_below (Below.refl _ _)) (Nat.zero_le _)).keep (keep_two hp15 (by decide)) (keep_two hp15 (by decide)) (Nat.le_refl _))
        have hpeW : W5.heap.size ≤ pe := HPW.out
        have hbbnone15 : Below W5.heap.size W5 YqN15 := by rw [← hY]; exact ((below_both hB0 (below_both (below_both (below_both (below_both (below_both (below_both hbb33 hbb7) hbb36) hbb34) hbb37) hbb38) hbb39)).setCell hpeW _).setCell hpeW _
        clear hY hp15 p0 p1 fp0 fp1
        clear hHeld
        have hHeld := HK.out YqN15 hbbnone15
        refine hK.out _ _ (fun _ => hHeld) ?_
        clear hK K
        refine' wpAnyT_take (i := 16) (oi := ?oiq117) (v := ?vq117) ?hiq117 (by kernel_rfl) (by kernel_rfl) ?hqq117 ?hyq117 hHeld ?restq117
        case hiq117 => (simp only [List.getElem?_toArray, List.getElem?_cons_zero, List.getElem?_cons_succ]; rfl)
        case hqq117 => exact fun _ _ _ h => HQP _ _ _ _ _ h
        case hyq117 => (refine Or.inl ⟨by rfl, ?_⟩; intro w' hSw; (try dsimp only at hSw); go_simp; try with_reducible rfl)
        (try simp only [Act.put, List.setIfInBounds_toArray, List.set_cons_zero, List.set_cons_succ])
        refine' wpAnyT_one (i := 17) (o := ?oiq118) (by kernel_rfl) ?hiq118 (fun K hK => ?stq118)
        case hiq118 => (simp only [List.getElem?_toArray, List.getElem?_cons_zero, List.getElem?_cons_succ]; rfl)
        go_simp
        refine hK.out _ _ (fun h => absurd h (by decide)) ?_
        clear hK K
        (try simp only [Act.put, List.setIfInBounds_toArray, List.set_cons_zero, List.set_cons_succ])
        refine wpAnyT_done (by kernel_rfl) ?_ _
        exact HC.out YqN15 h3 h6 h8 pe A9 c9 B9 d9 ⟨hbbnone15, HP15.out, HO15.out.dk⟩
  · refine ⟨_, by (simp only [List.getElem?_toArray, List.getElem?_cons_zero, List.getElem?_cons_succ]; rfl), fun K hK => ?_⟩
    go_simp
    obtain ⟨Yq36, hY⟩ : ∃ X, X0.alloc (.cells #[.int .u8 3, .int .u8 0, .int .u8 0, .int .u8 0, .int .u8 0, .int .u8 0, .int .u8 0, .int .u8 0] 73) = X := ⟨_, rfl⟩
    obtain ⟨h6, hh⟩ : ∃ h, X0.heap.size = h := ⟨_, rfl⟩
    have hbb36 : Below X0.heap.size X0 Yq36 := by rw [← hY]; exact al1 _ _
    have HZh6 : Hid (Yq36.heap[h6]? = some (.cells #[.int .u8 3, .int .u8 0, .int .u8 0, .int .u8 0, .int .u8 0, .int .u8 0, .int .u8 0, .int .u8 0] 73)) := hid (by rw [← hY, ← hh]; exact heap_alloc_new _ _)
    rw [hY, hh]
    clear hY hh
    clear hHeld
    have hHeld := HK.out Yq36 (below_both hB0 hbb36)
    refine hK.out _ _ (fun _ => hHeld) ?_
    clear hK K
    (try simp only [Act.put, List.setIfInBounds_toArray, List.set_cons_zero, List.set_cons_succ])
    refine wpAnyT_all (l := [3, 14]) (by kernel_rfl) (by decide) ?_
    intro i hi
    simp only [List.mem_cons, List.not_mem_nil, or_false] at hi
    rcases hi with rfl | rfl
    · refine ⟨_, by (simp only [List.getElem?_toArray, List.getElem?_cons_zero, List.getElem?_cons_succ]; rfl), fun K hK => ?_⟩
      go_simp
      obtain ⟨Yq33, hY⟩ : ∃ X, Yq36.alloc (.cells #[.int .u8 1, .int .u8 0, .int .u8 0, .int .u8 0, .int .u8 0, .int .u8 0, .int .u8 0, .int .u8 0, .int .u8 2, .int .u8 0, .int .u8 0, .int .u8 0, .int .u8 0, .int .u8 0, .int .u8 0, .int .u8 0] 73) = X := ⟨_, rfl⟩
      obtain ⟨h3, hh⟩ : ∃ h, Yq36.heap.size = h := ⟨_, rfl⟩
      have hbb33 : Below Yq36.heap.size Yq36 Yq33 := by rw [← hY]; exact al1 _ _
      have HZh3 : Hid (Yq33.heap[h3]? = some (.cells #[.int .u8 1, .int .u8 0, .int .u8 0, .int .u8 0, .int .u8 0, .int .u8 0, .int .u8 0, .int .u8 0, .int .u8 2, .int .u8 0, .int .u8 0, .int .u8 0, .int .u8 0, .int .u8 0, .int .u8 0, .int .u8 0] 73)) := hid (by rw [← hY, ← hh]; exact heap_alloc_new _ _)
      rw [hY, hh]
      clear hY hh
      clear hHeld
      have hHeld := HK.out Yq33 (below_both hB0 (below_both hbb36 hbb33))
      refine hK.out _ _ (fun _ => hHeld) ?_
      clear hK K
      (try simp only [Act.put, List.setIfInBounds_toArray, List.set_cons_zero, List.set_cons_succ])
      refine wpAnyT_all (l := [4, 14]) (by kernel_rfl) (by decide) ?_
      intro i hi
      simp only [List.mem_cons, List.not_mem_nil, or_false] at hi
      rcases hi with rfl | rfl
      · refine ⟨_, by (simp only [List.getElem?_toArray, List.getElem?_cons_zero, List.getElem?_cons_succ]; rfl), fun K hK => ?_⟩
        go_simp
        go_at_call 40
        refine (HW0.out (some ⟨h3, 0, none⟩) 2 2 Yq33).mono ?_
        rintro e Yq34 ⟨rfl, hbb34⟩
        clear hHeld
        have hHeld := HK.out Yq34 (below_both hB0 (below_both (below_both hbb36 hbb33) hbb34))
        refine hK.out _ _ (fun _ => hHeld) ?_
        clear hK K
        (try simp only [Act.put, List.setIfInBounds_toArray, List.set_cons_zero, List.set_cons_succ])
        refine wpAnyT_all (l := [7, 14]) (by kernel_rfl) (by decide) ?_
        intro i hi
        simp only [List.mem_cons, List.not_mem_nil, or_false] at hi
        rcases hi with rfl | rfl
        · refine ⟨_, by (simp only [List.getElem?_toArray, List.getElem?_cons_zero, List.getElem?_cons_succ]; rfl), fun K hK => ?_⟩
          go_simp
          go_at_call 40
          refine (HW1.out (some ⟨h6, 0, none⟩) 1 1 Yq34).mono ?_
          rintro e Yq37 ⟨rfl, hbb37⟩
          clear hHeld
          have hHeld := HK.out Yq37 (below_both hB0 (below_both (below_both (below_both hbb36 hbb33) hbb34) hbb37))
          refine hK.out _ _ (fun _ => hHeld) ?_
          clear hK K
          (try simp only [Act.put, List.setIfInBounds_toArray, List.set_cons_zero, List.set_cons_succ])
          refine wpAnyT_all (l := [8, 14]) (by kernel_rfl) (by decide) ?_
          intro i hi
          simp only [List.mem_cons, List.not_mem_nil, or_false] at hi
          rcases hi with rfl | rfl
          · refine ⟨_, by (simp only [List.getElem?_toArray, List.getElem?_cons_zero, List.getElem?_cons_succ]; rfl), fun K hK => ?_⟩
            go_simp
            obtain ⟨Yq38, hY⟩ : ∃ X, Yq37.alloc (.cells #[.int .i64 0, .int .i64 0, .slice (some ⟨h3, 0, none⟩) 2 2, .int .i64 0, .int .i64 1, .slice (some ⟨h6, 0, none⟩) 1 1] 27) = X := ⟨_, rfl⟩
            obtain ⟨h8, hh⟩ : ∃ h, Yq37.heap.size = h := ⟨_, rfl⟩
            have hbb38 : Below Yq37.heap.size Yq37 Yq38 := by rw [← hY]; exact al1 _ _
            have HZh8 : Hid (Yq38.heap[h8]? = some (.cells #[.int .i64 0, .int .i64 0, .slice (some ⟨h3, 0, none⟩) 2 2, .int .i64 0, .int .i64 1, .slice (some ⟨h6, 0, none⟩) 1 1] 27)) := hid (by rw [← hY, ← hh]; exact heap_alloc_new _ _)
            rw [hY, hh]
            clear hY hh
            clear hHeld
            have hHeld := HK.out Yq38 (below_both hB0 (below_both (below_both (below_both (below_both hbb36 hbb33) hbb34) hbb37) hbb38))
            refine hK.out _ _ (fun _ => hHeld) ?_
            clear hK K
            (try simp only [Act.put, List.setIfInBounds_toArray, List.set_cons_zero, List.set_cons_succ])
            refine wpAnyT_all (l := [9, 14]) (by kernel_rfl) (by decide) ?_
            intro i hi
            simp only [List.mem_cons, List.not_mem_nil, or_false] at hi
            rcases hi with rfl | rfl
            · refine ⟨_, by (simp only [List.getElem?_toArray, List.getElem?_cons_zero, List.getElem?_cons_succ]; rfl), fun K hK => ?_⟩
              go_simp
              go_at_call 29
              refine (aw_call3 (HDD.out Yq38 (below_both hB0 (below_both (below_both (below_both (below_both hbb36 hbb33) hbb34) hbb37) hbb38))).2 (((below_both (below_both hbb34 hbb37) hbb38).block _ (box_lt HZh3.out)).trans HZh3.out) (((below_both (below_both (below_both hbb33 hbb34) hbb37) hbb38).block _ (box_lt HZh6.out)).trans HZh6.out) (((Below.refl _ _).block _ (box_lt HZh8.out)).trans HZh8.out)).mono ?_
              rintro e Yq39 ⟨A9, c9, B9, d9, rfl, ho9, hbb39⟩
              have HO9 := hid ho9
              clear ho9
              clear hHeld
              have hHeld := HK.out Yq39 (below_both hB0 (below_both (below_both (below_both (below_both (below_both hbb36 hbb33) hbb34) hbb37) hbb38) hbb39))
              refine hK.out _ _ (fun _ => hHeld) ?_
              clear hK K
              (try simp only [Act.put, List.setIfInBounds_toArray, List.set_cons_zero, List.set_cons_succ])
              refine' wpAnyT_take (i := 10) (oi := ?oiq119) (v := ?vq119) ?hiq119 (by kernel_rfl) (by kernel_rfl) ?hqq119 ?hyq119 hHeld ?restq119
              case hiq119 => (simp only [List.getElem?_toArray, List.getElem?_cons_zero, List.getElem?_cons_succ]; rfl)
              case hqq119 => exact fun _ _ _ h => HQP _ _ _ _ _ h
              case hyq119 => (refine Or.inl ⟨by rfl, ?_⟩; intro w' hSw; (try dsimp only at hSw); go_simp; try with_reducible rfl)
              (try simp only [Act.put, List.setIfInBounds_toArray, List.set_cons_zero, List.set_cons_succ])
              refine' wpAnyT_take (i := 11) (oi := ?oiq120) (v := ?vq120) ?hiq120 (by kernel_rfl) (by kernel_rfl) ?hqq120 ?hyq120 hHeld ?restq120
              case hiq120 => (simp only [List.getElem?_toArray, List.getElem?_cons_zero, List.getElem?_cons_succ]; rfl)
              case hqq120 => exact fun _ _ _ h => HQP _ _ _ _ _ h
              case hyq120 => (refine Or.inl ⟨by rfl, ?_⟩; intro w' hSw; (try dsimp only at hSw); go_simp; try with_reducible rfl)
              (try simp only [Act.put, List.setIfInBounds_toArray, List.set_cons_zero, List.set_cons_succ])
              refine' wpAnyT_take (i := 12) (oi := ?oiq121) (v := ?vq121) ?hiq121 (by kernel_rfl) (by kernel_rfl) ?hqq121 ?hyq121 hHeld ?restq121
              case hiq121 => (simp only [List.getElem?_toArray, List.getElem?_cons_zero, List.getElem?_cons_succ]; rfl)
              case hqq121 => exact fun _ _ _ h => HQP _ _ _ _ _ h
              case hyq121 => (refine Or.inl ⟨by rfl, ?_⟩; intro w' hSw; (try dsimp only at hSw); go_simp; try with_reducible rfl)
              (try simp only [Act.put, List.setIfInBounds_toArray, List.set_cons_zero, List.set_cons_succ])
              refine' wpAnyT_take (i := 13) (oi := ?oiq122) (v := ?vq122) ?hiq122 (by kernel_rfl) (by kernel_rfl) ?hqq122 ?hyq122 hHeld ?restq122
              case hiq122 => (simp only [List.getElem?_toArray, List.getElem?_cons_zero, List.getElem?_cons_succ]; rfl)
              case hqq122 => exact fun _ _ _ h => HQP _ _ _ _ _ h
              case hyq122 => (refine Or.inl ⟨by rfl, ?_⟩; intro w' hSw; (try dsimp only at hSw); go_simp; try with_reducible rfl)
              (try simp only [Act.put, List.setIfInBounds_toArray, List.set_cons_zero, List.set_cons_succ])
              refine' wpAnyT_one (i := 14) (o := ?oiq123) (by kernel_rfl) ?hiq123 (fun K hK => ?stq123)
              case hiq123 => (simp only [List.getElem?_toArray, List.getElem?_cons_zero, List.getElem?_cons_succ]; rfl)
              go_simp
              obtain ⟨Yq7, hY⟩ : ∃ X, Yq39.alloc (.cells #[.slice none 0 0, .slice none 0 0] 25) = X := ⟨_, rfl⟩
              obtain ⟨pe, hh⟩ : ∃ h, Yq39.heap.size = h := ⟨_, rfl⟩
              have hbb7 : Below Yq39.heap.size Yq39 Yq7 := by rw [← hY]; exact al1 _ _
              have HZpe : Hid (Yq7.heap[pe]? = some (.cells #[.slice none 0 0, .slice none 0 0] 25)) := hid (by rw [← hY, ← hh]; exact heap_alloc_new _ _)
              have HPW : Hid (W5.heap.size ≤ pe) := hid (by rw [← hh]; exact (below_both hB0 (below_both (below_both (below_both (below_both (below_both hbb36 hbb33) hbb34) hbb37) hbb38) hbb39)).size)
              rw [hY, hh]
              clear hY hh
              clear hHeld
              have hHeld := HK.out Yq7 (below_both hB0 (below_both (below_both (below_both (below_both (below_both (below_both hbb36 hbb33) hbb34) hbb37) hbb38) hbb39) hbb7))
              refine hK.out _ _ (fun _ => hHeld) ?_
              clear hK K
              (try simp only [Act.put, List.setIfInBounds_toArray, List.set_cons_zero, List.set_cons_succ])
              refine' wpAnyT_one (i := 15) (o := ?oiq124) (by kernel_rfl) ?hiq124 (fun K hK => ?stq124)
              case hiq124 => (simp only [List.getElem?_toArray, List.getElem?_cons_zero, List.getElem?_cons_succ]; rfl)
              have hp15 := (((Below.refl _ _).block _ (box_lt HZpe.out)).trans HZpe.out)
              have p0 := cell_of_row _ _ 0 _ _ _ hp15
              have p1 := cell_of_row _ _ 1 _ _ _ hp15
              have fp0 := box_fr hp15 0
              have fp1 := box_fr hp15 1
              go_simp
              obtain ⟨YqN15, hY⟩ : ∃ X, (Yq7.setCell ⟨pe, 0, none⟩ (.slice A9 3 c9)).setCell ⟨pe, 1, none⟩ (.slice B9 3 d9) = X := ⟨_, rfl⟩
              rw [hY]
              have HP15 : Hid (YqN15.heap[pe]? = some (.cells #[.slice A9 3 c9, .slice B9 3 d9] 25)) := hid (by rw [← hY]; exact disk_set hp15 _ _)
              have HO15 : Hid (OwnG YqN15 0 st3 ca3 (.agg #[.slice A9 3 c9, .slice B9 3 d9])) := hid (by rw [← hY]; exact (HO9.out.keep (keep_below hbb7) (keep_below hbb7) (Nat.zero_le _)).keep (keep_two hp15 (by decide)) (keep_two hp15 (by decide)) (Nat.le_refl _))
              have hpeW : W5.heap.size ≤ pe := HPW.out
              have hbbnone15 : Below W5.heap.size W5 YqN15 := by rw [← hY]; exact ((below_both hB0 (below_both (below_both (below_both (below_both (below_both (below_both hbb36 hbb33) hbb34) hbb37) hbb38) hbb39) hbb7)).setCell hpeW _).setCell hpeW _
              clear hY hp15 p0 p1 fp0 fp1
              clear hHeld
              have hHeld := HK.out YqN15 hbbnone15
              refine hK.out _ _ (fun _ => hHeld) ?_
              clear hK K
              refine' wpAnyT_take (i := 16) (oi := ?oiq125) (v := ?vq125) ?hiq125 (by kernel_rfl) (by kernel_rfl) ?hqq125 ?hyq125 hHeld ?restq125
              case hiq125 => (simp only [List.getElem?_toArray, List.getElem?_cons_zero, List.getElem?_cons_succ]; rfl)
              case hqq125 => exact fun _ _ _ h => HQP _ _ _ _ _ h
              case hyq125 => (refine Or.inl ⟨by rfl, ?_⟩; intro w' hSw; (try dsimp only at hSw); go_simp; try with_reducible rfl)
              (try simp only [Act.put, List.setIfInBounds_toArray, List.set_cons_zero, List.set_cons_succ])
              refine' wpAnyT_one (i := 17) (o := ?oiq126) (by kernel_rfl) ?hiq126 (fun K hK => ?stq126)
              case hiq126 => (simp only [List.getElem?_toArray, List.getElem?_cons_zero, List.getElem?_cons_succ]; rfl)
              go_simp
              refine hK.out _ _ (fun h => absurd h (by decide)) ?_
              clear hK K
              (try simp only [Act.put, List.setIfInBounds_toArray, List.set_cons_zero, List.set_cons_succ])
              refine wpAnyT_done (by kernel_rfl) ?_ _
              exact HC.out YqN15 h3 h6 h8 pe A9 c9 B9 d9 ⟨hbbnone15, HP15.out, HO15.out.dk⟩
            · refine ⟨_, by (simp only [List.getElem?_toArray, List.getElem?_cons_zero, List.getElem?_cons_succ]; rfl), fun K hK => ?_⟩
              go_simp
              obtain ⟨Yq7, hY⟩ : ∃ X, Yq38.alloc (.cells #[.slice none 0 0, .slice none 0 0] 25) = X := ⟨_, rfl⟩
              obtain ⟨pe, hh⟩ : ∃ h, Yq38.heap.size = h := ⟨_, rfl⟩
              have hbb7 : Below Yq38.heap.size Yq38 Yq7 := by rw [← hY]; exact al1 _ _
              have HZpe : Hid (Yq7.heap[pe]? = some (.cells #[.slice none 0 0, .slice none 0 0] 25)) := hid (by rw [← hY, ← hh]; exact heap_alloc_new _ _)
              have HPW : Hid (W5.heap.size ≤ pe) := hid (by rw [← hh]; exact (below_both hB0 (below_both (below_both (below_both (below_both hbb36 hbb33) hbb34) hbb37) hbb38)).size)
              rw [hY, hh]
              clear hY hh
              clear hHeld
              have hHeld := HK.out Yq7 (below_both hB0 (below_both (below_both (below_both (below_both (below_both hbb36 hbb33) hbb34) hbb37) hbb38) hbb7))
              refine hK.out _ _ (fun _ => hHeld) ?_
              clear hK K
              (try simp only [Act.put, List.setIfInBounds_toArray, List.set_cons_zero, List.set_cons_succ])
              refine' wpAnyT_one (i := 9) (o := ?oiq127) (by kernel_rfl) ?hiq127 (fun K hK => ?stq127)
              case hiq127 => (simp only [List.getElem?_toArray, List.getElem?_cons_zero, List.getElem?_cons_succ]; rfl)
              go_simp
              go_at_call 29
              refine (aw_call3 (HDD.out Yq7 (below_both hB0 (below_both (below_both (below_both (below_both (below_both hbb36 hbb33) hbb34) hbb37) hbb38) hbb7))).2 (((below_both (below_both (below_both hbb34 hbb37) hbb38) hbb7).block _ (box_lt HZh3.out)).trans HZh3.out) (((below_both (below_both (below_both (below_both hbb33 hbb34) hbb37) hbb38) hbb7).block _ (box_lt HZh6.out)).trans HZh6.out) ((hbb7.block _ (box_lt HZh8.out)).trans HZh8.out)).mono ?_
              rintro e Yq39 ⟨A9, c9, B9, d9, rfl, ho9, hbb39⟩
              have HO9 := hid ho9
              clear ho9
              clear hHeld
              have hHeld := HK.out Yq39 (below_both hB0 (below_both (below_both (below_both (below_both (below_both (below_both hbb36 hbb33) hbb34) hbb37) hbb38) hbb7) hbb39))
              refine hK.out _ _ (fun _ => hHeld) ?_
              clear hK K
              (try simp only [Act.put, List.setIfInBounds_toArray, List.set_cons_zero, List.set_cons_succ])
              refine' wpAnyT_take (i := 10) (oi := ?oiq128) (v := ?vq128) ?hiq128 (by kernel_rfl) (by kernel_rfl) ?hqq128 ?hyq128 hHeld ?restq128
              case hiq128 => (simp only [List.getElem?_toArray, List.getElem?_cons_zero, List.getElem?_cons_succ]; rfl)
              case hqq128 => exact fun _ _ _ h => HQP _ _ _ _ _ h
              case hyq128 => (refine Or.inl ⟨by rfl, ?_⟩; intro w' hSw; (try dsimp only at hSw); go_simp; try with_reducible rfl)
              (try simp only [Act.put, List.setIfInBounds_toArray, List.set_cons_zero, List.set_cons_succ])
              refine' wpAnyT_take (i := 11) (oi := ?oiq129) (v := ?vq129) ?hiq129 (by kernel_rfl) (by kernel_rfl) ?hqq129 ?hyq129 hHeld ?restq129
              case hiq129 => (simp only [List.getElem?_toArray, List.getElem?_cons_zero, List.getElem?_cons_succ]; rfl)
              case hqq129 => exact fun _ _ _ h => HQP _ _ _ _ _ h
              case hyq129 => (refine Or.inl ⟨by rfl, ?_⟩; intro w' hSw; (try dsimp only at hSw); go_simp; try with_reducible rfl)
              (try simp only [Act.put, List.setIfInBounds_toArray, List.set_cons_zero, List.set_cons_succ])
              refine' wpAnyT_take (i := 12) (oi := ?oiq130) (v := ?vq130) ?hiq130 (by kernel_rfl) (by kernel_rfl) ?hqq130 ?hyq130 hHeld ?restq130
              case hiq130 => (simp only [List.getElem?_toArray, List.getElem?_cons_zero, List.getElem?_cons_succ]; rfl)
              case hqq130 => exact fun _ _ _ h => HQP _ _ _ _ _ h
              case hyq130 => (refine Or.inl ⟨by rfl, ?_⟩; intro w' hSw; (try dsimp only at hSw); go_simp; try with_reducible rfl)
              (try simp only [Act.put, List.setIfInBounds_toArray, List.set_cons_zero, List.set_cons_succ])
              refine' wpAnyT_take (i := 13) (oi := ?oiq131) (v := ?vq131) ?hiq131 (by kernel_rfl) (by kernel_rfl) ?hqq131 ?hyq131 hHeld ?restq131
              case hiq131 => (simp only [List.getElem?_toArray, List.getElem?_cons_zero, List.getElem?_cons_succ]; rfl)
              case hqq131 => exact fun _ _ _ h => HQP _ _ _ _ _ h
              case hyq131 => (refine Or.inl ⟨by rfl, ?_⟩; intro w' hSw; (try dsimp only at hSw); go_simp; try with_reducible rfl)
              (try simp only [Act.put, List.setIfInBounds_toArray, List.set_cons_zero, List.set_cons_succ])
              refine' wpAnyT_one (i := 15) (o := ?oiq132) (by kernel_rfl) ?hiq132 (fun K hK => ?stq132)
              case hiq132 => (simp only [List.getElem?_toArray, List.getElem?_cons_zero, List.getElem?_cons_succ]; rfl)
              have hp15 := ((hbb39.block _ (box_lt HZpe.out)).trans HZpe.out)
              have p0 := cell_of_row _ _ 0 _ _ _ hp15
              have p1 := cell_of_row _ _ 1 _ _ _ hp15
              have fp0 := box_fr hp15 0
              have fp1 := box_fr hp15 1
              go_simp
              obtain ⟨YqN15, hY⟩ : ∃ X, (Yq39.setCell ⟨pe, 0, none⟩ (.slice A9 3 c9)).setCell ⟨pe, 1, none⟩ (.slice B9 3 d9) = X := ⟨_, rfl⟩
              rw [hY]
              have HP15 : Hid (YqN15.heap[pe]? = some (.cells #[.slice A9 3 c9, .slice B9 3 d9] 25)) := hid (by rw [← hY]; exact disk_set hp15 _ _)
              have HO15 : Hid (OwnG YqN15 0 st3 ca3 (.agg #[.slice A9 3 c9, .slice B9 3 d9])) := hid (by rw [← hY]; exact (HO9.out.keep (keep_below (Below.refl _ _)) (keep_below (Below.refl _ _)) (Nat.zero_le _)).keep (keep_two hp15 (by decide)) (keep_two hp15 (by decide)) (Nat.le_refl _))
              have hpeW : W5.heap.size ≤ pe := HPW.out
              have hbbnone15 : Below W5.heap.size W5 YqN15 := by rw [← hY]; exact ((below_both hB0 (below_both (below_both (below_both (below_both (below_both (below_both hbb36 hbb33) hbb34) hbb37) hbb38) hbb7) hbb39)).setCell hpeW _).setCell hpeW _
              clear hY hp15 p0 p1 fp0 fp1
              clear hHeld
              have hHeld := HK.out YqN15 hbbnone15
              refine hK.out _ _ (fun _ => hHeld) ?_
              clear hK K
              refine' wpAnyT_take (i := 16) (oi := ?oiq133) (v := ?vq133) ?hiq133 (by kernel_rfl) (by kernel_rfl) ?hqq133 ?hyq133 hHeld ?restq133
              case hiq133 => (simp only [List.getElem?_toArray, List.getElem?_cons_zero, List.getElem?_cons_succ]; rfl)
              case hqq133 => exact fun _ _ _ h => HQP _ _ _ _ _ h
              case hyq133 => (refine Or.inl ⟨by rfl, ?_⟩; intro w' hSw; (try dsimp only at hSw); go_simp; try with_reducible rfl)
              (try simp only [Act.put, List.setIfInBounds_toArray, List.set_cons_zero, List.set_cons_succ])
              refine' wpAnyT_one (i := 17) (o := ?oiq134) (by kernel_rfl) ?hiq134 (fun K hK => ?stq134)
              case hiq134 => (simp only [List.getElem?_toArray, List.getElem?_cons_zero, List.getElem?_cons_succ]; rfl)
              go_simp
              refine hK.out _ _ (fun h => absurd h (by decide)) ?_
              clear hK K
              (try simp only [Act.put, List.setIfInBounds_toArray, List.set_cons_zero, List.set_cons_succ])
              refine wpAnyT_done (by kernel_rfl) ?_ _
              exact HC.out YqN15 h3 h6 h8 pe A9 c9 B9 d9 ⟨hbbnone15, HP15.out, HO15.out.dk⟩
          · refine ⟨_, by (simp only [List.getElem?_toArray, List.getElem?_cons_zero, List.getElem?_cons_succ]; rfl), fun K hK => ?_⟩
            go_simp
            obtain ⟨Yq7, hY⟩ : ∃ X, Yq37.alloc (.cells #[.slice none 0 0, .slice none 0 0] 25) = X := ⟨_, rfl⟩
            obtain ⟨pe, hh⟩ : ∃ h, Yq37.heap.size = h := ⟨_, rfl⟩
            have hbb7 : Below Yq37.heap.size Yq37 Yq7 := by rw [← hY]; exact al1 _ _
            have HZpe : Hid (Yq7.heap[pe]? = some (.cells #[.slice none 0 0, .slice none 0 0] 25)) := hid (by rw [← hY, ← hh]; exact heap_alloc_new _ _)
            have HPW : Hid (W5.heap.size ≤ pe) := hid (by rw [← hh]; exact (below_both hB0 (below_both (below_both (below_both hbb36 hbb33) hbb34) hbb37)).size)
            rw [hY, hh]
            clear hY hh
            clear hHeld
            have hHeld := HK.out Yq7 (below_both hB0 (below_both (below_both (below_both (below_both hbb36 hbb33) hbb34) hbb37) hbb7))
            refine hK.out _ _ (fun _ => hHeld) ?_
            clear hK K
            (try simp only [Act.put, List.setIfInBounds_toArray, List.set_cons_zero, List.set_cons_succ])
            refine' wpAnyT_one (i := 8) (o := ?oiq135) (by kernel_rfl) ?hiq135 (fun K hK => ?stq135)
            case hiq135 => (simp only [List.getElem?_toArray, List.getElem?_cons_zero, List.getElem?_cons_succ]; rfl)
            go_simp
            obtain ⟨Yq38, hY⟩ : ∃ X, Yq7.alloc (.cells #[.int .i64 0, .int .i64 0, .slice (some ⟨h3, 0, none⟩) 2 2, .int .i64 0, .int .i64 1, .slice (some ⟨h6, 0, none⟩) 1 1] 27) = X := ⟨_, rfl⟩
            obtain ⟨h8, hh⟩ : ∃ h, Yq7.heap.size = h := ⟨_, rfl⟩
            have hbb38 : Below Yq7.heap.size Yq7 Yq38 := by rw [← hY]; exact al1 _ _
            have HZh8 : Hid (Yq38.heap[h8]? = some (.cells #[.int .i64 0, .int .i64 0, .slice (some ⟨h3, 0, none⟩) 2 2, .int .i64 0, .int .i64 1, .slice (some ⟨h6, 0, none⟩) 1 1] 27)) := hid (by rw [← hY, ← hh]; exact heap_alloc_new _ _)
            rw [hY, hh]
            clear hY hh
            clear hHeld
            have hHeld := HK.out Yq38 (below_both hB0 (below_both (below_both (below_both (below_both (below_both hbb36 hbb33) hbb34) hbb37) hbb7) hbb38))
            refine hK.out _ _ (fun _ => hHeld) ?_
            clear hK K
            (try simp only [Act.put, List.setIfInBounds_toArray, List.set_cons_zero, List.set_cons_succ])
            refine' wpAnyT_one (i := 9) (o := ?oiq136) (by kernel_rfl) ?hiq136 (fun K hK => ?stq136)
            case hiq136 => (simp only [List.getElem?_toArray, List.getElem?_cons_zero, List.getElem?_cons_succ]; rfl)
            go_simp
            go_at_call 29
            refine (aw_call3 (HDD.out Yq38 (below_both hB0 (below_both (below_both (below_both (below_both (below_both hbb36 hbb33) hbb34) hbb37) hbb7) hbb38))).2 (((below_both (below_both (below_both hbb34 hbb37) hbb7) hbb38).block _ (box_lt HZh3.out)).trans HZh3.out) (((below_both (below_both (below_both (below_both hbb33 hbb34) hbb37) hbb7) hbb38).block _ (box_lt HZh6.out)).trans HZh6.out) (((Below.refl _ _).block _ (box_lt HZh8.out)).trans HZh8.out)).mono ?_
            rintro e Yq39 ⟨A9, c9, B9, d9, rfl, ho9, hbb39⟩
            have HO9 := hid ho9
            clear ho9
            clear hHeld
            have hHeld := HK.out Yq39 (below_both hB0 (below_both (below_both (below_both (below_both (below_both (below_both hbb36 hbb33) hbb34) hbb37) hbb7) hbb38) hbb39))
            refine hK.out _ _ (fun _ => hHeld) ?_
            clear hK K
            (try simp only [Act.put, List.setIfInBounds_toArray, List.set_cons_zero, List.set_cons_succ])
            refine' wpAnyT_take (i := 10) (oi := ?oiq137) (v := ?vq137) ?hiq137 (by kernel_rfl) (by kernel_rfl) ?hqq137 ?hyq137 hHeld ?restq137
            case hiq137 => (simp only [List.getElem?_toArray, List.getElem?_cons_zero, List.getElem?_cons_succ]; rfl)
            case hqq137 => exact fun _ _ _ h => HQP _ _ _ _ _ h
            case hyq137 => (refine Or.inl ⟨by rfl, ?_⟩; intro w' hSw; (try dsimp only at hSw); go_simp; try with_reducible rfl)
            (try simp only [Act.put, List.setIfInBounds_toArray, List.set_cons_zero, List.set_cons_succ])
            refine' wpAnyT_take (i := 11) (oi := ?oiq138) (v := ?vq138) ?hiq138 (by kernel_rfl) (by kernel_rfl) ?hqq138 ?hyq138 hHeld ?restq138
            case hiq138 => (simp only [List.getElem?_toArray, List.getElem?_cons_zero, List.getElem?_cons_succ]; rfl)
            case hqq138 => exact fun _ _ _ h => HQP _ _ _ _ _ h
            case hyq138 => (refine Or.inl ⟨by rfl, ?_⟩; intro w' hSw; (try dsimp only at hSw); go_simp; try with_reducible rfl)
            (try simp only [Act.put, List.setIfInBounds_toArray, List.set_cons_zero, List.set_cons_succ])
            refine' wpAnyT_take (i := 12) (oi := ?oiq139) (v := ?vq139) ?hiq139 (by kernel_rfl) (by kernel_rfl) ?hqq139 ?hyq139 hHeld ?restq139
            case hiq139 => (simp only [List.getElem?_toArray, List.getElem?_cons_zero, List.getElem?_cons_succ]; rfl)
            case hqq139 => exact fun _ _ _ h => HQP _ _ _ _ _ h
            case hyq139 => (refine Or.inl ⟨by rfl, ?_⟩; intro w' hSw; (try dsimp only at hSw); go_simp; try with_reducible rfl)
            (try simp only [Act.put, List.setIfInBounds_toArray, List.set_cons_zero, List.set_cons_succ])
            refine' wpAnyT_take (i := 13) (oi := ?oiq140) (v := ?vq140) ?hiq140 (by kernel_rfl) (by kernel_rfl) ?hqq140 ?hyq140 hHeld ?restq140
            case hiq140 => (simp only [List.getElem?_toArray, List.getElem?_cons_zero, List.getElem?_cons_succ]; rfl)
            case hqq140 => exact fun _ _ _ h => HQP _ _ _ _ _ h
            case hyq140 => (refine Or.inl ⟨by rfl, ?_⟩; intro w' hSw; (try dsimp only at hSw); go_simp; try with_reducible rfl)
            (try simp only [Act.put, List.setIfInBounds_toArray, List.set_cons_zero, List.set_cons_succ])
            refine' wpAnyT_one (i := 15) (o := ?oiq141) (by kernel_rfl) ?hiq141 (fun K hK => ?stq141)
            case hiq141 => (simp only [List.getElem?_toArray, List.getElem?_cons_zero, List.getElem?_cons_succ]; rfl)
            have hp15 := (((below_both hbb38 hbb39).block _ (box_lt HZpe.out)).trans HZpe.out)
            have p0 := cell_of_row _ _ 0 _ _ _ hp15
            have p1 := cell_of_row _ _ 1 _ _ _ hp15
            have fp0 := box_fr hp15 0
            have fp1 := box_fr hp15 1
            go_simp
            obtain ⟨YqN15, hY⟩ : ∃ X, (Yq39.setCell ⟨pe, 0, none⟩ (.slice A9 3 c9)).setCell ⟨pe, 1, none⟩ (.slice B9 3 d9) = X := ⟨_, rfl⟩
            rw [hY]
            have HP15 : Hid (YqN15.heap[pe]? = some (.cells #[.slice A9 3 c9, .slice B9 3 d9] 25)) := hid (by rw [← hY]; exact disk_set hp15 _ _)
            have HO15 : Hid (OwnG YqN15 0 st3 ca3 (.agg #[.slice A9 3 c9, .slice B9 3 d9])) := hid (by rw [← hY]; exact (HO9.out.keep (keep_below (Below.refl _ _)) (keep_below (Below.refl _ _)) (Nat.zero_le _)).keep (keep_two hp15 (by decide)) (keep_two hp15 (by decide)) (Nat.le_refl _))
            have hpeW : W5.heap.size ≤ pe := HPW.out
            have hbbnone15 : Below W5.heap.size W5 YqN15 := by rw [← hY]; exact ((below_both hB0 (below_both (below_both (below_both (below_both (below_both (below_both hbb36 hbb33) hbb34) hbb37) hbb7) hbb38) hbb39)).setCell hpeW _).setCell hpeW _
            clear hY hp15 p0 p1 fp0 fp1
            clear hHeld
            have hHeld := HK.out YqN15 hbbnone15
            refine hK.out _ _ (fun _ => hHeld) ?_
            clear hK K
            refine' wpAnyT_take (i := 16) (oi := ?oiq142) (v := ?vq142) ?hiq142 (by kernel_rfl) (by kernel_rfl) ?hqq142 ?hyq142 hHeld ?restq142
            case hiq142 => (simp only [List.getElem?_toArray, List.getElem?_cons_zero, List.getElem?_cons_succ]; rfl)
            case hqq142 => exact fun _ _ _ h => HQP _ _ _ _ _ h
            case hyq142 => (refine Or.inl ⟨by rfl, ?_⟩; intro w' hSw; (try dsimp only at hSw); go_simp; try with_reducible rfl)
            (try simp only [Act.put, List.setIfInBounds_toArray, List.set_cons_zero, List.set_cons_succ])
            refine' wpAnyT_one (i := 17) (o := ?oiq143) (by kernel_rfl) ?hiq143 (fun K hK => ?stq143)
            case hiq143 => (simp only [List.getElem?_toArray, List.getElem?_cons_zero, List.getElem?_cons_succ]; rfl)
            go_simp
            refine hK.out _ _ (fun h => absurd h (by decide)) ?_
            clear hK K
            (try simp only [Act.put, List.setIfInBounds_toArray, List.set_cons_zero, List.set_cons_succ])
            refine wpAnyT_done (by kernel_rfl) ?_ _
            exact HC.out YqN15 h3 h6 h8 pe A9 c9 B9 d9 ⟨hbbnone15, HP15.out, HO15.out.dk⟩
        · refine ⟨_, by (simp only [List.getElem?_toArray, List.getElem?_cons_zero, List.getElem?_cons_succ]; rfl), fun K hK => ?_⟩
          go_simp
          obtain ⟨Yq7, hY⟩ : ∃ X, Yq34.alloc (.cells #[.slice none 0 0, .slice none 0 0] 25) = X := ⟨_, rfl⟩
          obtain ⟨pe, hh⟩ : ∃ h, Yq34.heap.size = h := ⟨_, rfl⟩
          have hbb7 : Below Yq34.heap.size Yq34 Yq7 := by rw [← hY]; exact al1 _ _
          have HZpe : Hid (Yq7.heap[pe]? = some (.cells #[.slice none 0 0, .slice none 0 0] 25)) := hid (by rw [← hY, ← hh]; exact heap_alloc_new _ _)
          have HPW : Hid (W5.heap.size ≤ pe) := hid (by rw [← hh]; exact (below_both hB0 (below_both (below_both hbb36 hbb33) hbb34)).size)
          rw [hY, hh]
          clear hY hh
          clear hHeld
          have hHeld := HK.out Yq7 (below_both hB0 (below_both (below_both (below_both hbb36 hbb33) hbb34) hbb7))
          refine hK.out _ _ (fun _ => hHeld) ?_
          clear hK K
          (try simp only [Act.put, List.setIfInBounds_toArray, List.set_cons_zero, List.set_cons_succ])
          refine' wpAnyT_one (i := 7) (o := ?oiq144) (by kernel_rfl) ?hiq144 (fun K hK => ?stq144)
          case hiq144 => (simp only [List.getElem?_toArray, List.getElem?_cons_zero, List.getElem?_cons_succ]; rfl)
          go_simp
          go_at_call 40
          refine (HW1.out (some ⟨h6, 0, none⟩) 1 1 Yq7).mono ?_
          rintro e Yq37 ⟨rfl, hbb37⟩
          clear hHeld
          have hHeld := HK.out Yq37 (below_both hB0 (below_both (below_both (below_both (below_both hbb36 hbb33) hbb34) hbb7) hbb37))
          refine hK.out _ _ (fun _ => hHeld) ?_
          clear hK K
          (try simp only [Act.put, List.setIfInBounds_toArray, List.set_cons_zero, List.set_cons_succ])
          refine' wpAnyT_one (i := 8) (o := ?oiq145) (by kernel_rfl) ?hiq145 (fun K hK => ?stq145)
          case hiq145 => (simp only [List.getElem?_toArray, List.getElem?_cons_zero, List.getElem?_cons_succ]; rfl)
          go_simp
          obtain ⟨Yq38, hY⟩ : ∃ X, Yq37.alloc (.cells #[.int .i64 0, .int .i64 0, .slice (some ⟨h3, 0, none⟩) 2 2, .int .i64 0, .int .i64 1, .slice (some ⟨h6, 0, none⟩) 1 1] 27) = X := ⟨_, rfl⟩
          obtain ⟨h8, hh⟩ : ∃ h, Yq37.heap.size = h := ⟨_, rfl⟩
          have hbb38 : Below Yq37.heap.size Yq37 Yq38 := by rw [← hY]; exact al1 _ _
          have HZh8 : Hid (Yq38.heap[h8]? = some (.cells #[.int .i64 0, .int .i64 0, .slice (some ⟨h3, 0, none⟩) 2 2, .int .i64 0, .int .i64 1, .slice (some ⟨h6, 0, none⟩) 1 1] 27)) := hid (by rw [← hY, ← hh]; exact heap_alloc_new _ _)
          rw [hY, hh]
          clear hY hh
          clear hHeld
          have hHeld := HK.out Yq38 (below_both hB0 (below_both (below_both (below_both (below_both (below_both hbb36 hbb33) hbb34) hbb7) hbb37) hbb38))
          refine hK.out _ _ (fun _ => hHeld) ?_
          clear hK K
          (try simp only [Act.put, List.setIfInBounds_toArray, List.set_cons_zero, List.set_cons_succ])
          refine' wpAnyT_one (i := 9) (o := ?oiq146) (by kernel_rfl) ?hiq146 (fun K hK => ?stq146)
          case hiq146 => (simp only [List.getElem?_toArray, List.getElem?_cons_zero, List.getElem?_cons_succ]; rfl)
          go_simp
          go_at_call 29
          refine (aw_call3 (HDD.out Yq38 (below_both hB0 (below_both (below_both (below_both (below_both (below_both hbb36 hbb33) hbb34) hbb7) hbb37) hbb38))).2 (((below_both (below_both (below_both hbb34 hbb7) hbb37) hbb38).block _ (box_lt HZh3.out)).trans HZh3.out) (((below_both (below_both (below_both (below_both hbb33 hbb34) hbb7) hbb37) hbb38).block _ (box_lt HZh6.out)).trans HZh6.out) (((Below.refl _ _).block _ (box_lt HZh8.out)).trans HZh8.out)).mono ?_
          rintro e Yq39 ⟨A9, c9, B9, d9, rfl, ho9, hbb39⟩
          have HO9 := hid ho9
          clear ho9
          clear hHeld
          have hHeld := HK.out Yq39 (below_both hB0 (below_both (below_both (below_both (below_both (below_both (below_both hbb36 hbb33) hbb34) hbb7) hbb37) hbb38) hbb39))
          refine hK.out _ _ (fun _ => hHeld) ?_
          clear hK K
          (try simp only [Act.put, List.setIfInBounds_toArray, List.set_cons_zero, List.set_cons_succ])
          refine' wpAnyT_take (i := 10) (oi := ?oiq147) (v := ?vq147) ?hiq147 (by kernel_rfl) (by kernel_rfl) ?hqq147 ?hyq147 hHeld ?restq147
          case hiq147 => (simp only [List.getElem?_toArray, List.getElem?_cons_zero, List.getElem?_cons_succ]; rfl)
          case hqq147 => exact fun _ _ _ h => HQP _ _ _ _ _ h
          case hyq147 => (refine Or.inl ⟨by rfl, ?_⟩; intro w' hSw; (try dsimp only at hSw); go_simp; try with_reducible rfl)
          (try simp only [Act.put, List.setIfInBounds_toArray, List.set_cons_zero, List.set_cons_succ])
          refine' wpAnyT_take (i := 11) (oi := ?oiq148) (v := ?vq148) ?hiq148 (by kernel_rfl) (by kernel_rfl) ?hqq148 ?hyq148 hHeld ?restq148
          case hiq148 => (simp only [List.getElem?_toArray, List.getElem?_cons_zero, List.getElem?_cons_succ]; rfl)
          case hqq148 => exact fun _ _ _ h => HQP _ _ _ _ _ h
          case hyq148 => (refine Or.inl ⟨by rfl, ?_⟩; intro w' hSw; (try dsimp only at hSw); go_simp; try with_reducible rfl)
          (try simp only [Act.put, List.setIfInBounds_toArray, List.set_cons_zero, List.set_cons_succ])
          refine' wpAnyT_take (i := 12) (oi := ?oiq149) (v := ?vq149) ?hiq149 (by kernel_rfl) (by kernel_rfl) ?hqq149 ?hyq149 hHeld ?restq149
          case hiq149 => (simp only [List.getElem?_toArray, List.getElem?_cons_zero, List.getElem?_cons_succ]; rfl)
          case hqq149 => exact fun _ _ _ h => HQP _ _ _ _ _ h
          case hyq149 => (refine Or.inl ⟨by rfl, ?_⟩; intro w' hSw; (try dsimp only at hSw); go_simp; try with_reducible rfl)
          (try simp only [Act.put, List.setIfInBounds_toArray, List.set_cons_zero, List.set_cons_succ])
          refine' wpAnyT_take (i := 13) (oi := ?oiq150) (v := ?vq150) ?hiq150 (by kernel_rfl) (by kernel_rfl) ?hqq150 ?hyq150 hHeld ?restq150
          case hiq150 => (simp only [List.getElem?_toArray, List.getElem?_cons_zero, List.getElem?_cons_succ]; rfl)
          case hqq150 => exact fun _ _ _ h => HQP _ _ _ _ _ h
          case hyq150 => (refine Or.inl ⟨by rfl, ?_⟩; intro w' hSw; (try dsimp only at hSw); go_simp; try with_reducible rfl)
          (try simp only [Act.put, List.setIfInBounds_toArray, List.set_cons_zero, List.set_cons_succ])
          refine' wpAnyT_one (i := 15) (o := ?oiq151) (by kernel_rfl) ?hiq151 (fun K hK => ?stq151)
          case hiq151 => (simp only [List.getElem?_toArray, List.getElem?_cons_zero, List.getElem?_cons_succ]; rfl)
          have hp15 := (((below_both (below_both hbb37 hbb38) hbb39).block _ (box_lt HZpe.out)).trans HZpe.out)
          have p0 := cell_of_row _ _ 0 _ _ _ hp15
          have p1 := cell_of_row _ _ 1 _ _ _ hp15
          have fp0 := box_fr hp15 0
          have fp1 := box_fr hp15 1
          go_simp
          obtain ⟨YqN15, hY⟩ : ∃ X, (Yq39.setCell ⟨pe, 0, none⟩ (.slice A9 3 c9)).setCell ⟨pe, 1, none⟩ (.slice B9 3 d9) = X := ⟨_, rfl⟩
          rw [hY]
          have HP15 : Hid (YqN15.heap[pe]? = some (.cells #[.slice A9 3 c9, .slice B9 3 d9] 25)) := hid (by rw [← hY]; exact disk_set hp15 _ _)
          have HO15 : Hid (OwnG YqN15 0 st3 ca3 (.agg #[.slice A9 3 c9, .slice B9 3 d9])) := hid (by rw [← hY]; exact (HO9.out.keep (keep_below (Below.refl _ _)) (keep_below (Below.refl _ _)) (Nat.zero_le _)).keep (keep_two hp15 (by decide)) (keep_two hp15 (by decide)) (Nat.le_refl _))
          have hpeW : W5.heap.size ≤ pe := HPW.out
          have hbbnone15 : Below W5.heap.size W5 YqN15 := by rw [← hY]; exact ((below_both hB0 (below_both (below_both (below_both (below_both (below_both (below_both hbb36 hbb33) hbb34) hbb7) hbb37) hbb38) hbb39)).setCell hpeW _).setCell hpeW _
          clear hY hp15 p0 p1 fp0 fp1
          clear hHeld
          have hHeld := HK.out YqN15 hbbnone15
          refine hK.out _ _ (fun _ => hHeld) ?_
          clear hK K
          refine' wpAnyT_take (i := 16) (oi := ?oiq152) (v := ?vq152) ?hiq152 (by kernel_rfl) (by kernel_rfl) ?hqq152 ?hyq152 hHeld ?restq152
          case hiq152 => (simp only [List.getElem?_toArray, List.getElem?_cons_zero, List.getElem?_cons_succ]; rfl)
          case hqq152 => exact fun _ _ _ h => HQP _ _ _ _ _ h
          case hyq152 => (refine Or.inl ⟨by rfl, ?_⟩; intro w' hSw; (try dsimp only at hSw); go_simp; try with_reducible rfl)
          (try simp only [Act.put, List.setIfInBounds_toArray, List.set_cons_zero, List.set_cons_succ])
          refine' wpAnyT_one (i := 17) (o := ?oiq153) (by kernel_rfl) ?hiq153 (fun K hK => ?stq153)
          case hiq153 => (simp only [List.getElem?_toArray, List.getElem?_cons_zero, List.getElem?_cons_succ]; rfl)
          go_simp
          refine hK.out _ _ (fun h => absurd h (by decide)) ?_
          clear hK K
          (try simp only [Act.put, List.setIfInBounds_toArray, List.set_cons_zero, List.set_cons_succ])
          refine wpAnyT_done (by kernel_rfl) ?_ _
          exact HC.out YqN15 h3 h6 h8 pe A9 c9 B9 d9 ⟨hbbnone15, HP15.out, HO15.out.dk⟩
      · refine ⟨_, by (simp only [List.getElem?_toArray, List.getElem?_cons_zero, List.getElem?_cons_succ]; rfl), fun K hK => ?_⟩
        go_simp
        obtain ⟨Yq7, hY⟩ : ∃ X, Yq33.alloc (.cells #[.slice none 0 0, .slice none 0 0] 25) = X := ⟨_, rfl⟩
        obtain ⟨pe, hh⟩ : ∃ h, Yq33.heap.size = h := ⟨_, rfl⟩
        have hbb7 : Below Yq33.heap.size Yq33 Yq7 := by rw [← hY]; exact al1 _ _
        have HZpe : Hid (Yq7.heap[pe]? = some (.cells #[.slice none 0 0, .slice none 0 0] 25)) := hid (by rw [← hY, ← hh]; exact heap_alloc_new _ _)
        have HPW : Hid (W5.heap.size ≤ pe) := hid (by rw [← hh]; exact (below_both hB0 (below_both hbb36 hbb33)).size)
        rw [hY, hh]
        clear hY hh
        clear hHeld
        have hHeld := HK.out Yq7 (below_both hB0 (below_both (below_both hbb36 hbb33) hbb7))
        refine hK.out _ _ (fun _ => hHeld) ?_
        clear hK K
        (try simp only [Act.put, List.setIfInBounds_toArray, List.set_cons_zero, List.set_cons_succ])
        refine' wpAnyT_one (i := 4) (o := ?oiq154) (by kernel_rfl) ?hiq154 (fun K hK => ?stq154)
        case hiq154 => (simp only [List.getElem?_toArray, List.getElem?_cons_zero, List.getElem?_cons_succ]; rfl)
        go_simp
        go_at_call 40
        refine (HW0.out (some ⟨h3, 0, none⟩) 2 2 Yq7).mono ?_
        rintro e Yq34 ⟨rfl, hbb34⟩
        clear hHeld
        have hHeld := HK.out Yq34 (below_both hB0 (below_both (below_both (below_both hbb36 hbb33) hbb7) hbb34))
        refine hK.out _ _ (fun _ => hHeld) ?_
        clear hK K
        (try simp only [Act.put, List.setIfInBounds_toArray, List.set_cons_zero, List.set_cons_succ])
        refine' wpAnyT_one (i := 7) (o := ?oiq155) (by kernel_rfl) ?hiq155 (fun K hK => ?stq155)
        case hiq155 => (simp only [List.getElem?_toArray, List.getElem?_cons_zero, List.getElem?_cons_succ]; rfl)
        go_simp
        go_at_call 40
        refine (HW1.out (some ⟨h6, 0, none⟩) 1 1 Yq34).mono ?_
        rintro e Yq37 ⟨rfl, hbb37⟩
        clear hHeld
        have hHeld := HK.out Yq37 (below_both hB0 (below_both (below_both (below_both (below_both hbb36 hbb33) hbb7) hbb34) hbb37))
        refine hK.out _ _ (fun _ => hHeld) ?_
        clear hK K
        (try simp only [Act.put, List.setIfInBounds_toArray, List.set_cons_zero, List.set_cons_succ])
        refine' wpAnyT_one (i := 8) (o := ?oiq156) (by kernel_rfl) ?hiq156 (fun K hK => ?stq156)
        case hiq156 => (simp only [List.getElem?_toArray, List.getElem?_cons_zero, List.getElem?_cons_succ]; rfl)
        go_simp
        obtain ⟨Yq38, hY⟩ : ∃ X, Yq37.alloc (.cells #[.int .i64 0, .int .i64 0, .slice (some ⟨h3, 0, none⟩) 2 2, .int .i64 0, .int .i64 1, .slice (some ⟨h6, 0, none⟩) 1 1] 27) = X := ⟨_, rfl⟩
        obtain ⟨h8, hh⟩ : ∃ h, Yq37.heap.size = h := ⟨_, rfl⟩
        have hbb38 : Below Yq37.heap.size Yq37 Yq38 := by rw [← hY]; exact al1 _ _
        have HZh8 : Hid (Yq38.heap[h8]? = some (.cells #[.int .i64 0, .int .i64 0, .slice (some ⟨h3, 0, none⟩) 2 2, .int .i64 0, .int .i64 1, .slice (some ⟨h6, 0, none⟩) 1 1] 27)) := hid (by rw [← hY, ← hh]; exact heap_alloc_new _ _)
        rw [hY, hh]
        clear hY hh
        clear hHeld
        have hHeld := HK.out Yq38 (below_both hB0 (below_both (below_both (below_both (below_both (below_both hbb36 hbb33) hbb7) hbb34) hbb37) hbb38))
        refine hK.out _ _ (fun _ => hHeld) ?_
        clear hK K
        (try simp only [Act.put, List.setIfInBounds_toArray, List.set_cons_zero, List.set_cons_succ])
        refine' wpAnyT_one (i := 9) (o := ?oiq157) (by kernel_rfl) ?hiq157 (fun K hK => ?stq157)
        case hiq157 => (simp only [List.getElem?_toArray, List.getElem?_cons_zero, List.getElem?_cons_succ]; rfl)
        go_simp
        go_at_call 29
        refine (aw_call3 (HDD.out Yq38 (below_both hB0 (below_both (below_both (below_both (below_both (below_both hbb36 hbb33) hbb7) hbb34) hbb37) hbb38))).2 (((below_both (below_both (below_both hbb7 hbb34) hbb37) hbb38).block _ (box_lt HZh3.out)).trans HZh3.out) (((below_both (below_both (below_both (below_both hbb33 hbb7) hbb34) hbb37) hbb38).block _ (box_lt HZh6.out)).trans HZh6.out) (((Below.refl _ _).block _ (box_lt HZh8.out)).trans HZh8.out)).mono ?_
        rintro e Yq39 ⟨A9, c9, B9, d9, rfl, ho9, hbb39⟩
        have HO9 := hid ho9
        clear ho9
        clear hHeld
        have hHeld := HK.out Yq39 (below_both hB0 (below_both (below_both (below_both (below_both (below_both (below_both hbb36 hbb33) hbb7) hbb34) hbb37) hbb38) hbb39))
        refine hK.out _ _ (fun _ => hHeld) ?_
        clear hK K
        (try simp only [Act.put, List.setIfInBounds_toArray, List.set_cons_zero, List.set_cons_succ])
        refine' wpAnyT_take (i := 10) (oi := ?oiq158) (v := ?vq158) ?hiq158 (by kernel_rfl) (by kernel_rfl) ?hqq158 ?hyq158 hHeld ?restq158
        case hiq158 => (simp only [List.getElem?_toArray, List.getElem?_cons_zero, List.getElem?_cons_succ]; rfl)
        case hqq158 => exact fun _ _ _ h => HQP _ _ _ _ _ h
        case hyq158 => (refine Or.inl ⟨by rfl, ?_⟩; intro w' hSw; (try dsimp only at hSw); go_simp; try with_reducible rfl)
        (try simp only [Act.put, List.setIfInBounds_toArray, List.set_cons_zero, List.set_cons_succ])
        refine' wpAnyT_take (i := 11) (oi := ?oiq159) (v := ?vq159) ?hiq159 (by kernel_rfl) (by kernel_rfl) ?hqq159 ?hyq159 hHeld ?restq159
        case hiq159 => (simp only [List.getElem?_toArray, List.getElem?_cons_zero, List.getElem?_cons_succ]; rfl)
        case hqq159 => exact fun _ _ _ h => HQP _ _ _ _ _ h
        case hyq159 => (refine Or.inl ⟨by rfl, ?_⟩; intro w' hSw; (try dsimp only at hSw); go_simp; try with_reducible rfl)
        (try simp only [Act.put, List.setIfInBounds_toArray, List.set_cons_zero, List.set_cons_succ])
        refine' wpAnyT_take (i := 12) (oi := ?oiq160) (v := ?vq160) ?hiq160 (by kernel_rfl) (by kernel_rfl) ?hqq160 ?hyq160 hHeld ?restq160
        case hiq160 => (simp only [List.getElem?_toArray, List.getElem?_cons_zero, List.getElem?_cons_succ]; rfl)
        case hqq160 => exact fun _ _ _ h => HQP _ _ _ _ _ h
        case hyq160 => (refine Or.inl ⟨by rfl, ?_⟩; intro w' hSw; (try dsimp only at hSw); go_simp; try with_reducible rfl)
        (try simp only [Act.put, List.setIfInBounds_toArray, List.set_cons_zero, List.set_cons_succ])
        refine' wpAnyT_take (i := 13) (oi := ?oiq161) (v := ?vq161) ?hiq161 (by kernel_rfl) (by kernel_rfl) ?hqq161 ?hyq161 hHeld ?restq161
        case hiq161 => (simp only [List.getElem?_toArray, List.getElem?_cons_zero, List.getElem?_cons_succ]; rfl)
        case hqq161 => exact fun _ _ _ h => HQP _ _ _ _ _ h
        case hyq161 => (refine Or.inl ⟨by rfl, ?_⟩; intro w' hSw; (try dsimp only at hSw); go_simp; try with_reducible rfl)
        (try simp only [Act.put, List.setIfInBounds_toArray, List.set_cons_zero, List.set_cons_succ])
        refine' wpAnyT_one (i := 15) (o := ?oiq162) (by kernel_rfl) ?hiq162 (fun K hK => ?stq162)
        case hiq162 => (simp only [List.getElem?_toArray, List.getElem?_cons_zero, List.getElem?_cons_succ]; rfl)
        have hp15 := (((below_both (below_both (below_both hbb34 hbb37) hbb38) hbb39).block _ (box_lt HZpe.out)).trans HZpe.out)
        have p0 := cell_of_row _ _ 0 _ _ _ hp15
        have p1 := cell_of_row _ _ 1 _ _ _ hp15
        have fp0 := box_fr hp15 0
        have fp1 := box_fr hp15 1
        go_simp
        obtain ⟨YqN15, hY⟩ : ∃ X, (Yq39.setCell ⟨pe, 0, none⟩ (.slice A9 3 c9)).setCell ⟨pe, 1, none⟩ (.slice B9 3 d9) = X := ⟨_, rfl⟩
        rw [hY]
        have HP15 : Hid (YqN15.heap[pe]? = some (.cells #[.slice A9 3 c9, .slice B9 3 d9] 25)) := hid (by rw [← hY]; exact disk_set hp15 _ _)
        have HO15 : Hid (OwnG YqN15 0 st3 ca3 (.agg #[.slice A9 3 c9, .slice B9 3 d9])) := hid (by rw [← hY]; exact (HO9.out.keep (keep_below (Below.refl _ _)) (keep_below (Below.refl _ _)) (Nat.zero_le _)).keep (keep_two hp15 (by decide)) (keep_two hp15 (by decide)) (Nat.le_refl _))
        have hpeW : W5.heap.size ≤ pe := HPW.out
        have hbbnone15 : Below W5.heap.size W5 YqN15 := by rw [← hY]; exact ((below_both hB0 (below_both (below_both (below_both (below_both (below_both (below_both hbb36 hbb33) hbb7) hbb34) hbb37) hbb38) hbb39)).setCell hpeW _).setCell hpeW _
        clear hY hp15 p0 p1 fp0 fp1
        clear hHeld
        have hHeld := HK.out YqN15 hbbnone15
        refine hK.out _ _ (fun _ => hHeld) ?_
        clear hK K
        refine' wpAnyT_take (i := 16) (oi := ?oiq163) (v := ?vq163) ?hiq163 (by kernel_rfl) (by kernel_rfl) ?hqq163 ?hyq163 hHeld ?restq163
        case hiq163 => (simp only [List.getElem?_toArray, List.getElem?_cons_zero, List.getElem?_cons_succ]; rfl)
        case hqq163 => exact fun _ _ _ h => HQP _ _ _ _ _ h
        case hyq163 => (refine Or.inl ⟨by rfl, ?_⟩; intro w' hSw; (try dsimp only at hSw); go_simp; try with_reducible rfl)
        (try simp only [Act.put, List.setIfInBounds_toArray, List.set_cons_zero, List.set_cons_succ])
        refine' wpAnyT_one (i := 17) (o := ?oiq164) (by kernel_rfl) ?hiq164 (fun K hK => ?stq164)
        case hiq164 => (simp only [List.getElem?_toArray, List.getElem?_cons_zero, List.getElem?_cons_succ]; rfl)
        go_simp
        refine hK.out _ _ (fun h => absurd h (by decide)) ?_
        clear hK K
        (try simp only [Act.put, List.setIfInBounds_toArray, List.set_cons_zero, List.set_cons_succ])
        refine wpAnyT_done (by kernel_rfl) ?_ _
        exact HC.out YqN15 h3 h6 h8 pe A9 c9 B9 d9 ⟨hbbnone15, HP15.out, HO15.out.dk⟩
    · refine ⟨_, by (simp only [List.getElem?_toArray, List.getElem?_cons_zero, List.getElem?_cons_succ]; rfl), fun K hK => ?_⟩
      go_simp
      obtain ⟨Yq7, hY⟩ : ∃ X, Yq36.alloc (.cells #[.slice none 0 0, .slice none 0 0] 25) = X := ⟨_, rfl⟩
      obtain ⟨pe, hh⟩ : ∃ h, Yq36.heap.size = h := ⟨_, rfl⟩
      have hbb7 : Below Yq36.heap.size Yq36 Yq7 := by rw [← hY]; exact al1 _ _
      have HZpe : Hid (Yq7.heap[pe]? = some (.cells #[.slice none 0 0, .slice none 0 0] 25)) := hid (by rw [← hY, ← hh]; exact heap_alloc_new _ _)
      have HPW : Hid (W5.heap.size ≤ pe) := hid (by rw [← hh]; exact (below_both hB0 hbb36).size)
      rw [hY, hh]
      clear hY hh
      clear hHeld
      have hHeld := HK.out Yq7 (below_both hB0 (below_both hbb36 hbb7))
      refine hK.out _ _ (fun _ => hHeld) ?_
      clear hK K
      (try simp only [Act.put, List.setIfInBounds_toArray, List.set_cons_zero, List.set_cons_succ])
      refine' wpAnyT_one (i := 3) (o := ?oiq165) (by kernel_rfl) ?hiq165 (fun K hK => ?stq165)
      case hiq165 => (simp only [List.getElem?_toArray, List.getElem?_cons_zero, List.getElem?_cons_succ]; rfl)
      go_simp
      obtain ⟨Yq33, hY⟩ : ∃ X, Yq7.alloc (.cells #[.int .u8 1, .int .u8 0, .int .u8 0, .int .u8 0, .int .u8 0, .int .u8 0, .int .u8 0, .int .u8 0, .int .u8 2, .int .u8 0, .int .u8 0, .int .u8 0, .int .u8 0, .int .u8 0, .int .u8 0, .int .u8 0] 73) = X := ⟨_, rfl⟩
      obtain ⟨h3, hh⟩ : ∃ h, Yq7.heap.size = h := ⟨_, rfl⟩
      have hbb33 : Below Yq7.heap.size Yq7 Yq33 := by rw [← hY]; exact al1 _ _
      have HZh3 : Hid (Yq33.heap[h3]? = some (.cells #[.int .u8 1, .int .u8 0, .int .u8 0, .int .u8 0, .int .u8 0, .int .u8 0, .int .u8 0, .int .u8 0, .int .u8 2, .int .u8 0, .int .u8 0, .int .u8 0, .int .u8 0, .int .u8 0, .int .u8 0, .int .u8 0] 73)) := hid (by rw [← hY, ← hh]; exact heap_alloc_new _ _)
      rw [hY, hh]
      clear hY hh
      clear hHeld
      have hHeld := HK.out Yq33 (below_both hB0 (below_both (below_both hbb36 hbb7) hbb33))
      refine hK.out _ _ (fun _ => hHeld) ?_
      clear hK K
      (try simp only [Act.put, List.setIfInBounds_toArray, List.set_cons_zero, List.set_cons_succ])
      refine' wpAnyT_one (i := 4) (o := ?oiq166) (by kernel_rfl) ?hiq166 (fun K hK => ?stq166)
      case hiq166 => (simp only [List.getElem?_toArray, List.getElem?_cons_zero, List.getElem?_cons_succ]; rfl)
      go_simp
      go_at_call 40
      refine (HW0.out (some ⟨h3, 0, none⟩) 2 2 Yq33).mono ?_
      rintro e Yq34 ⟨rfl, hbb34⟩
      clear hHeld
      have hHeld := HK.out Yq34 (below_both hB0 (below_both (below_both (below_both hbb36 hbb7) hbb33) hbb34))
      refine hK.out _ _ (fun _ => hHeld) ?_
      clear hK K
      (try simp only [Act.put, List.setIfInBounds_toArray, List.set_cons_zero, List.set_cons_succ])
      refine' wpAnyT_one (i := 7) (o := ?oiq167) (by kernel_rfl) ?hiq167 (fun K hK => ?stq167)
      case hiq167 => (simp only [List.getElem?_toArray, List.getElem?_cons_zero, List.getElem?_cons_succ]; rfl)
      go_simp
      go_at_call 40
      refine (HW1.out (some ⟨h6, 0, none⟩) 1 1 Yq34).mono ?_
      rintro e Yq37 ⟨rfl, hbb37⟩
      clear hHeld
      have hHeld := HK.out Yq37 (below_both hB0 (below_both (below_both (below_both (below_both hbb36 hbb7) hbb33) hbb34) hbb37))
      refine hK.out _ _ (fun _ => hHeld) ?_
      clear hK K
      (try simp only [Act.put, List.setIfInBounds_toArray, List.set_cons_zero, List.set_cons_succ])
      refine' wpAnyT_one (i := 8) (o := ?oiq168) (by kernel_rfl) ?hiq168 (fun K hK => ?stq168)
      case hiq168 => (simp only [List.getElem?_toArray, List.getElem?_cons_zero, List.getElem?_cons_succ]; rfl)
      go_simp
      obtain ⟨Yq38, hY⟩ : ∃ X, Yq37.alloc (.cells #[.int .i64 0, .int .i64 0, .slice (some ⟨h3, 0, none⟩) 2 2, .int .i64 0, .int .i64 1, .slice (some ⟨h6, 0, none⟩) 1 1] 27) = X := ⟨_, rfl⟩
      obtain ⟨h8, hh⟩ : ∃ h, Yq37.heap.size = h := ⟨_, rfl⟩
      have hbb38 : Below Yq37.heap.size Yq37 Yq38 := by rw [← hY]; exact al1 _ _
      have HZh8 : Hid (Yq38.heap[h8]? = some (.cells #[.int .i64 0, .int .i64 0, .slice (some ⟨h3, 0, none⟩) 2 2, .int .i64 0, .int .i64 1, .slice (some ⟨h6, 0, none⟩) 1 1] 27)) := hid (by rw [← hY, ← hh]; exact heap_alloc_new _ _)
      rw [hY, hh]
      clear hY hh
      clear hHeld
      have hHeld := HK.out Yq38 (below_both hB0 (below_both (below_both (below_both (below_both (below_both hbb36 hbb7) hbb33) hbb34) hbb37) hbb38))
      refine hK.out _ _ (fun _ => hHeld) ?_
      clear hK K
      (try simp only [Act.put, List.setIfInBounds_toArray, List.set_cons_zero, List.set_cons_succ])
      refine' wpAnyT_one (i := 9) (o := ?oiq169) (by kernel_rfl) ?hiq169 (fun K hK => ?stq169)
      case hiq169 => (simp only [List.getElem?_toArray, List.getElem?_cons_zero, List.getElem?_cons_succ]; rfl)
      go_simp
      go_at_call 29
      refine (aw_call3 (HDD.out Yq38 (below_both hB0 (below_both (below_both (below_both (below_both (below_both hbb36 hbb7) hbb33) hbb34) hbb37) hbb38))).2 (((below_both (below_both hbb34 hbb37) hbb38).block _ (box_lt HZh3.out)).trans HZh3.out) (((below_both (below_both (below_both (below_both hbb7 hbb33) hbb34) hbb37) hbb38).block _ (box_lt HZh6.out)).trans HZh6.out) (((Below.refl _ _).block _ (box_lt HZh8.out)).trans HZh8.out)).mono ?_
      rintro e Yq39 ⟨A9, c9, B9, d9, rfl, ho9, hbb39⟩
      have HO9 := hid ho9
      clear ho9
      clear hHeld
      have hHeld := HK.out Yq39 (below_both hB0 (below_both (below_both (below_both (below_both (below_both (below_both hbb36 hbb7) hbb33) hbb34) hbb37) hbb38) hbb39))
      refine hK.out _ _ (fun _ => hHeld) ?_
      clear hK K
      (try simp only [Act.put, List.setIfInBounds_toArray, List.set_cons_zero, List.set_cons_succ])
      refine' wpAnyT_take (i := 10) (oi := ?oiq170) (v := ?vq170) ?hiq170 (by kernel_rfl) (by kernel_rfl) ?hqq170 ?hyq170 hHeld ?restq170
      case hiq170 => (simp only [List.getElem?_toArray, List.getElem?_cons_zero, List.getElem?_cons_succ]; rfl)
      case hqq170 => exact fun _ _ _ h => HQP _ _ _ _ _ h
      case hyq170 => (refine Or.inl ⟨by rfl, ?_⟩; intro w' hSw; (try dsimp only at hSw); go_simp; try with_reducible rfl)
      (try simp only [Act.put, List.setIfInBounds_toArray, List.set_cons_zero, List.set_cons_succ])
      refine' wpAnyT_take (i := 11) (oi := ?oiq171) (v := ?vq171) ?hiq171 (by kernel_rfl) (by kernel_rfl) ?hqq171 ?hyq171 hHeld ?restq171
      case hiq171 => (simp only [List.getElem?_toArray, List.getElem?_cons_zero, List.getElem?_cons_succ]; rfl)
      case hqq171 => exact fun _ _ _ h => HQP _ _ _ _ _ h
      case hyq171 => (refine Or.inl ⟨by rfl, ?_⟩; intro w' hSw; (try dsimp only at hSw); go_simp; try with_reducible rfl)
      (try simp only [Act.put, List.setIfInBounds_toArray, List.set_cons_zero, List.set_cons_succ])
      refine' wpAnyT_take (i := 12) (oi := ?oiq172) (v := ?vq172) ?hiq172 (by kernel_rfl) (by kernel_rfl) ?hqq172 ?hyq172 hHeld ?restq172
      case hiq172 => (simp only [List.getElem?_toArray, List.getElem?_cons_zero, List.getElem?_cons_succ]; rfl)
      case hqq172 => exact fun _ _ _ h => HQP _ _ _ _ _ h
      case hyq172 => (refine Or.inl ⟨by rfl, ?_⟩; intro w' hSw; (try dsimp only at hSw); go_simp; try with_reducible rfl)
      (try simp only [Act.put, List.setIfInBounds_toArray, List.set_cons_zero, List.set_cons_succ])
      refine' wpAnyT_take (i := 13) (oi := ?oiq173) (v := ?vq173) ?hiq173 (by kernel_rfl) (by kernel_rfl) ?hqq173 ?hyq173 hHeld ?restq173
      case hiq173 => (simp only [List.getElem?_toArray, List.getElem?_cons_zero, List.getElem?_cons_succ]; rfl)
      case hqq173 => exact fun _ _ _ h => HQP _ _ _ _ _ h
      case hyq173 => (refine Or.inl ⟨by rfl, ?_⟩; intro w' hSw; (try dsimp only at hSw); go_simp; try with_reducible rfl)
      (try simp only [Act.put, List.setIfInBounds_toArray, List.set_cons_zero, List.set_cons_succ])
      refine' wpAnyT_one (i := 15) (o := ?oiq174) (by kernel_rfl) ?hiq174 (fun K hK => ?stq174)
      case hiq174 => (simp only [List.getElem?_toArray, List.getElem?_cons_zero, List.getElem?_cons_succ]; rfl)
      have hp15 := (((below_both (below_both (below_both (below_both hbb33 hbb34) hbb37) hbb38) hbb39).block _ (box_lt HZpe.out)).trans HZpe.out)
      have p0 := cell_of_row _ _ 0 _ _ _ hp15
      have p1 := cell_of_row _ _ 1 _ _ _ hp15
      have fp0 := box_fr hp15 0
      have fp1 := box_fr hp15 1
      go_simp
      obtain ⟨YqN15, hY⟩ : ∃ X, (Yq39.setCell ⟨pe, 0, none⟩ (.slice A9 3 c9)).setCell ⟨pe, 1, none⟩ (.slice B9 3 d9) = X := ⟨_, rfl⟩
      rw [hY]
      have HP15 : Hid (YqN15.heap[pe]? = some (.cells #[.slice A9 3 c9, .slice B9 3 d9] 25)) := hid (by rw [← hY]; exact disk_set hp15 _ _)
      have HO15 : Hid (OwnG YqN15 0 st3 ca3 (.agg #[.slice A9 3 c9, .slice B9 3 d9])) := hid (by rw [← hY]; exact (HO9.out.keep (keep_below (Below.refl _ _)) (keep_below (Below.refl _ _)) (Nat.zero_le _)).keep (keep_two hp15 (by decide)) (keep_two hp15 (by decide)) (Nat.le_refl _))
      have hpeW : W5.heap.size ≤ pe := HPW.out
      have hbbnone15 : Below W5.heap.size W5 YqN15 := by rw [← hY]; exact ((below_both hB0 (below_both (below_both (below_both (below_both (below_both (below_both hbb36 hbb7) hbb33) hbb34) hbb37) hbb38) hbb39)).setCell hpeW _).setCell hpeW _
      clear hY hp15 p0 p1 fp0 fp1
      clear hHeld
      have hHeld := HK.out YqN15 hbbnone15
      refine hK.out _ _ (fun _ => hHeld) ?_
      clear hK K
      refine' wpAnyT_take (i := 16) (oi := ?oiq175) (v := ?vq175) ?hiq175 (by kernel_rfl) (by kernel_rfl) ?hqq175 ?hyq175 hHeld ?restq175
      case hiq175 => (simp only [List.getElem?_toArray, List.getElem?_cons_zero, List.getElem?_cons_succ]; rfl)
      case hqq175 => exact fun _ _ _ h => HQP _ _ _ _ _ h
      case hyq175 => (refine Or.inl ⟨by rfl, ?_⟩; intro w' hSw; (try dsimp only at hSw); go_simp; try with_reducible rfl)
      (try simp only [Act.put, List.setIfInBounds_toArray, List.set_cons_zero, List.set_cons_succ])
      refine' wpAnyT_one (i := 17) (o := ?oiq176) (by kernel_rfl) ?hiq176 (fun K hK => ?stq176)
      case hiq176 => (simp only [List.getElem?_toArray, List.getElem?_cons_zero, List.getElem?_cons_succ]; rfl)
      go_simp
      refine hK.out _ _ (fun h => absurd h (by decide)) ?_
      clear hK K
      (try simp only [Act.put, List.setIfInBounds_toArray, List.set_cons_zero, List.set_cons_succ])
      refine wpAnyT_done (by kernel_rfl) ?_ _
      exact HC.out YqN15 h3 h6 h8 pe A9 c9 B9 d9 ⟨hbbnone15, HP15.out, HO15.out.dk⟩
  · refine ⟨_, by (simp only [List.getElem?_toArray, List.getElem?_cons_zero, List.getElem?_cons_succ]; rfl), fun K hK => ?_⟩
    go_simp
    obtain ⟨Yq7, hY⟩ : ∃ X, X0.alloc (.cells #[.slice none 0 0, .slice none 0 0] 25) = X := ⟨_, rfl⟩
    obtain ⟨pe, hh⟩ : ∃ h, X0.heap.size = h := ⟨_, rfl⟩
    have hbb7 : Below X0.heap.size X0 Yq7 := by rw [← hY]; exact al1 _ _
    have HZpe : Hid (Yq7.heap[pe]? = some (.cells #[.slice none 0 0, .slice none 0 0] 25)) := hid (by rw [← hY, ← hh]; exact heap_alloc_new _ _)
    have HPW : Hid (W5.heap.size ≤ pe) := hid (by rw [← hh]; exact hB0.size)
    rw [hY, hh]
    clear hY hh
    clear hHeld
    have hHeld := HK.out Yq7 (below_both hB0 hbb7)
    refine hK.out _ _ (fun _ => hHeld) ?_
    clear hK K
    (try simp only [Act.put, List.setIfInBounds_toArray, List.set_cons_zero, List.set_cons_succ])
    refine wpAnyT_all (l := [3, 6]) (by kernel_rfl) (by decide) ?_
    intro i hi
    simp only [List.mem_cons, List.not_mem_nil, or_false] at hi
    rcases hi with rfl | rfl
    · refine ⟨_, by (simp only [List.getElem?_toArray, List.getElem?_cons_zero, List.getElem?_cons_succ]; rfl), fun K hK => ?_⟩
      go_simp
      obtain ⟨Yq33, hY⟩ : ∃ X, Yq7.alloc (.cells #[.int .u8 1, .int .u8 0, .int .u8 0, .int .u8 0, .int .u8 0, .int .u8 0, .int .u8 0, .int .u8 0, .int .u8 2, .int .u8 0, .int .u8 0, .int .u8 0, .int .u8 0, .int .u8 0, .int .u8 0, .int .u8 0] 73) = X := ⟨_, rfl⟩
      obtain ⟨h3, hh⟩ : ∃ h, Yq7.heap.size = h := ⟨_, rfl⟩
      have hbb33 : Below Yq7.heap.size Yq7 Yq33 := by rw [← hY]; exact al1 _ _
      have HZh3 : Hid (Yq33.heap[h3]? = some (.cells #[.int .u8 1, .int .u8 0, .int .u8 0, .int .u8 0, .int .u8 0, .int .u8 0, .int .u8 0, .int .u8 0, .int .u8 2, .int .u8 0, .int .u8 0, .int .u8 0, .int .u8 0, .int .u8 0, .int .u8 0, .int .u8 0] 73)) := hid (by rw [← hY, ← hh]; exact heap_alloc_new _ _)
      rw [hY, hh]
      clear hY hh
      clear hHeld
      have hHeld := HK.out Yq33 (below_both hB0 (below_both hbb7 hbb33))
      refine hK.out _ _ (fun _ => hHeld) ?_
      clear hK K
      (try simp only [Act.put, List.setIfInBounds_toArray, List.set_cons_zero, List.set_cons_succ])
      refine wpAnyT_all (l := [4, 6]) (by kernel_rfl) (by decide) ?_
      intro i hi
      simp only [List.mem_cons, List.not_mem_nil, or_false] at hi
      rcases hi with rfl | rfl
      · refine ⟨_, by (simp only [List.getElem?_toArray, List.getElem?_cons_zero, List.getElem?_cons_succ]; rfl), fun K hK => ?_⟩
        go_simp
        go_at_call 40
        refine (HW0.out (some ⟨h3, 0, none⟩) 2 2 Yq33).mono ?_
        rintro e Yq34 ⟨rfl, hbb34⟩
        clear hHeld
        have hHeld := HK.out Yq34 (below_both hB0 (below_both (below_both hbb7 hbb33) hbb34))
        refine hK.out _ _ (fun _ => hHeld) ?_
        clear hK K
        (try simp only [Act.put, List.setIfInBounds_toArray, List.set_cons_zero, List.set_cons_succ])
        refine' wpAnyT_one (i := 6) (o := ?oiq177) (by kernel_rfl) ?hiq177 (fun K hK => ?stq177)
        case hiq177 => (simp only [List.getElem?_toArray, List.getElem?_cons_zero, List.getElem?_cons_succ]; rfl)
        go_simp
        obtain ⟨Yq36, hY⟩ : ∃ X, Yq34.alloc (.cells #[.int .u8 3, .int .u8 0, .int .u8 0, .int .u8 0, .int .u8 0, .int .u8 0, .int .u8 0, .int .u8 0] 73) = X := ⟨_, rfl⟩
        obtain ⟨h6, hh⟩ : ∃ h, Yq34.heap.size = h := ⟨_, rfl⟩
        have hbb36 : Below Yq34.heap.size Yq34 Yq36 := by rw [← hY]; exact al1 _ _
        have HZh6 : Hid (Yq36.heap[h6]? = some (.cells #[.int .u8 3, .int .u8 0, .int .u8 0, .int .u8 0, .int .u8 0, .int .u8 0, .int .u8 0, .int .u8 0] 73)) := hid (by rw [← hY, ← hh]; exact heap_alloc_new _ _)
        rw [hY, hh]
        clear hY hh
        clear hHeld
        have hHeld := HK.out Yq36 (below_both hB0 (below_both (below_both (below_both hbb7 hbb33) hbb34) hbb36))
        refine hK.out _ _ (fun _ => hHeld) ?_
        clear hK K
        (try simp only [Act.put, List.setIfInBounds_toArray, List.set_cons_zero, List.set_cons_succ])
        refine' wpAnyT_one (i := 7) (o := ?oiq178) (by kernel_rfl) ?hiq178 (fun K hK => ?stq178)
        case hiq178 => (simp only [List.getElem?_toArray, List.getElem?_cons_zero, List.getElem?_cons_succ]; rfl)
        go_simp
        go_at_call 40
        refine (HW1.out (some ⟨h6, 0, none⟩) 1 1 Yq36).mono ?_
        rintro e Yq37 ⟨rfl, hbb37⟩
        clear hHeld
        have hHeld := HK.out Yq37 (below_both hB0 (below_both (below_both (below_both (below_both hbb7 hbb33) hbb34) hbb36) hbb37))
        refine hK.out _ _ (fun _ => hHeld) ?_
        clear hK K
        (try simp only [Act.put, List.setIfInBounds_toArray, List.set_cons_zero, List.set_cons_succ])
        refine' wpAnyT_one (i := 8) (o := ?oiq179) (by kernel_rfl) ?hiq179 (fun K hK => ?stq179)
        case hiq179 => (simp only [List.getElem?_toArray, List.getElem?_cons_zero, List.getElem?_cons_succ]; rfl)
        go_simp
        obtain ⟨Yq38, hY⟩ : ∃ X, Yq37.alloc (.cells #[.int .i64 0, .int .i64 0, .slice (some ⟨h3, 0, none⟩) 2 2, .int .i64 0, .int .i64 1, .slice (some ⟨h6, 0, none⟩) 1 1] 27) = X := ⟨_, rfl⟩
        obtain ⟨h8, hh⟩ : ∃ h, Yq37.heap.size = h := ⟨_, rfl⟩
        have hbb38 : Below Yq37.heap.size Yq37 Yq38 := by rw [← hY]; exact al1 _ _
        have HZh8 : Hid (Yq38.heap[h8]? = some (.cells #[.int .i64 0, .int .i64 0, .slice (some ⟨h3, 0, none⟩) 2 2, .int .i64 0, .int .i64 1, .slice (some ⟨h6, 0, none⟩) 1 1] 27)) := hid (by rw [← hY, ← hh]; exact heap_alloc_new _ _)
        rw [hY, hh]
        clear hY hh
        clear hHeld
        have hHeld := HK.out Yq38 (below_both hB0 (below_both (below_both (below_both (below_both (below_both hbb7 hbb33) hbb34) hbb36) hbb37) hbb38))
        refine hK.out _ _ (fun _ => hHeld) ?_
        clear hK K
        (try simp only [Act.put, List.setIfInBounds_toArray, List.set_cons_zero, List.set_cons_succ])
        refine' wpAnyT_one (i := 9) (o := ?oiq180) (by kernel_rfl) ?hiq180 (fun K hK => ?stq180)
        case hiq180 => (simp only [List.getElem?_toArray, List.getElem?_cons_zero, List.getElem?_cons_succ]; rfl)
        go_simp
        go_at_call 29
        refine (aw_call3 (HDD.out Yq38 (below_both hB0 (below_both (below_both (below_both (below_both (below_both hbb7 hbb33) hbb34) hbb36) hbb37) hbb38))).2 (((below_both (below_both (below_both hbb34 hbb36) hbb37) hbb38).block _ (box_lt HZh3.out)).trans HZh3.out) (((below_both hbb37 hbb38).block _ (box_lt HZh6.out)).trans HZh6.out) (((Below.refl _ _).block _ (box_lt HZh8.out)).trans HZh8.out)).mono ?_
        rintro e Yq39 ⟨A9, c9, B9, d9, rfl, ho9, hbb39⟩
        have HO9 := hid ho9
        clear ho9
        clear hHeld
        have hHeld := HK.out Yq39 (below_both hB0 (below_both (below_both (below_both (below_both (below_both (below_both hbb7 hbb33) hbb34) hbb36) hbb37) hbb38) hbb39))
        refine hK.out _ _ (fun _ => hHeld) ?_
        clear hK K
        (try simp only [Act.put, List.setIfInBounds_toArray, List.set_cons_zero, List.set_cons_succ])
        refine' wpAnyT_take (i := 10) (oi := ?oiq181) (v := ?vq181) ?hiq181 (by kernel_rfl) (by kernel_rfl) ?hqq181 ?hyq181 hHeld ?restq181
        case hiq181 => (simp only [List.getElem?_toArray, List.getElem?_cons_zero, List.getElem?_cons_succ]; rfl)
        case hqq181 => exact fun _ _ _ h => HQP _ _ _ _ _ h
        case hyq181 => (refine Or.inl ⟨by rfl, ?_⟩; intro w' hSw; (try dsimp only at hSw); go_simp; try with_reducible rfl)
        (try simp only [Act.put, List.setIfInBounds_toArray, List.set_cons_zero, List.set_cons_succ])
        refine' wpAnyT_take (i := 11) (oi := ?oiq182) (v := ?vq182) ?hiq182 (by kernel_rfl) (by kernel_rfl) ?hqq182 ?hyq182 hHeld ?restq182
        case hiq182 => (simp only [List.getElem?_toArray, List.getElem?_cons_zero, List.getElem?_cons_succ]; rfl)
        case hqq182 => exact fun _ _ _ h => HQP _ _ _ _ _ h
        case hyq182 => (refine Or.inl ⟨by rfl, ?_⟩; intro w' hSw; (try dsimp only at hSw); go_simp; try with_reducible rfl)
        (try simp only [Act.put, List.setIfInBounds_toArray, List.set_cons_zero, List.set_cons_succ])
        refine' wpAnyT_take (i := 12) (oi := ?oiq183) (v := ?vq183) ?hiq183 (by kernel_rfl) (by kernel_rfl) ?hqq183 ?hyq183 hHeld ?restq183
        case hiq183 => (simp only [List.getElem?_toArray, List.getElem?_cons_zero, List.getElem?_cons_succ]; rfl)
        case hqq183 => exact fun _ _ _ h => HQP _ _ _ _ _ h
        case hyq183 => (refine Or.inl ⟨by rfl, ?_⟩; intro w' hSw; (try dsimp only at hSw); go_simp; try with_reducible rfl)
        (try simp only [Act.put, List.setIfInBounds_toArray, List.set_cons_zero, List.set_cons_succ])
        refine' wpAnyT_take (i := 13) (oi := ?oiq184) (v := ?vq184) ?hiq184 (by kernel_rfl) (by kernel_rfl) ?hqq184 ?hyq184 hHeld ?restq184
        case hiq184 => (simp only [List.getElem?_toArray, List.getElem?_cons_zero, List.getElem?_cons_succ]; rfl)
        case hqq184 => exact fun _ _ _ h => HQP _ _ _ _ _ h
        case hyq184 => (refine Or.inl ⟨by rfl, ?_⟩; intro w' hSw; (try dsimp only at hSw); go_simp; try with_reducible rfl)
        (try simp only [Act.put, List.setIfInBounds_toArray, List.set_cons_zero, List.set_cons_succ])
        refine' wpAnyT_one (i := 15) (o := ?oiq185) (by kernel_rfl) ?hiq185 (fun K hK => ?stq185)
        case hiq185 => (simp only [List.getElem?_toArray, List.getElem?_cons_zero, List.getElem?_cons_succ]; rfl)
        have hp15 := (((below_both (below_both (below_both (below_both (below_both hbb33 hbb34) hbb36) hbb37) hbb38) hbb39).block _ (box_lt HZpe.out)).trans HZpe.out)
        have p0 := cell_of_row _ _ 0 _ _ _ hp15
        have p1 := cell_of_row _ _ 1 _ _ _ hp15
        have fp0 := box_fr hp15 0
        have fp1 := box_fr hp15 1
        go_simp
        obtain ⟨YqN15, hY⟩ : ∃ X, (Yq39.setCell ⟨pe, 0, none⟩ (.slice A9 3 c9)).setCell ⟨pe, 1, none⟩ (.slice B9 3 d9) = X := ⟨_, rfl⟩
        rw [hY]
        have HP15 : Hid (YqN15.heap[pe]? = some (.cells #[.slice A9 3 c9, .slice B9 3 d9] 25)) := hid (by rw [← hY]; exact disk_set hp15 _ _)
        have HO15 : Hid (OwnG YqN15 0 st3 ca3 (.agg #[.slice A9 3 c9, .slice B9 3 d9])) := hid (by rw [← hY]; exact (HO9.out.keep (keep_below (Below.refl _ _)) (keep_below (Below.refl _ _)) (Nat.zero_le _)).keep (keep_two hp15 (by decide)) (keep_two hp15 (by decide)) (Nat.le_refl _))
        have hpeW : W5.heap.size ≤ pe := HPW.out
        have hbbnone15 : Below W5.heap.size W5 YqN15 := by rw [← hY]; exact ((below_both hB0 (below_both (below_both (below_both (below_both (below_both (below_both hbb7 hbb33) hbb34) hbb36) hbb37) hbb38) hbb39)).setCell hpeW _).setCell hpeW _
        clear hY hp15 p0 p1 fp0 fp1
        clear hHeld
        have hHeld := HK.out YqN15 hbbnone15
        refine hK.out _ _ (fun _ => hHeld) ?_
        clear hK K
        refine' wpAnyT_take (i := 16) (oi := ?oiq186) (v := ?vq186) ?hiq186 (by kernel_rfl) (by kernel_rfl) ?hqq186 ?hyq186 hHeld ?restq186
        case hiq186 => (simp only [List.getElem?_toArray, List.getElem?_cons_zero, List.getElem?_cons_succ]; rfl)
        case hqq186 => exact fun _ _ _ h => HQP _ _ _ _ _ h
        case hyq186 => (refine Or.inl ⟨by rfl, ?_⟩; intro w' hSw; (try dsimp only at hSw); go_simp; try with_reducible rfl)
        (try simp only [Act.put, List.setIfInBounds_toArray, List.set_cons_zero, List.set_cons_succ])
        refine' wpAnyT_one (i := 17) (o := ?oiq187) (by kernel_rfl) ?hiq187 (fun K hK => ?stq187)
        case hiq187 => (simp only [List.getElem?_toArray, List.getElem?_cons_zero, List.getElem?_cons_succ]; rfl)
        go_simp
        refine hK.out _ _ (fun h => absurd h (by decide)) ?_
        clear hK K
        (try simp only [Act.put, List.setIfInBounds_toArray, List.set_cons_zero, List.set_cons_succ])
        refine wpAnyT_done (by kernel_rfl) ?_ _
        exact HC.out YqN15 h3 h6 h8 pe A9 c9 B9 d9 ⟨hbbnone15, HP15.out, HO15.out.dk⟩
      · refine ⟨_, by (simp only [List.getElem?_toArray, List.getElem?_cons_zero, List.getElem?_cons_succ]; rfl), fun K hK => ?_⟩
        go_simp
        obtain ⟨Yq36, hY⟩ : ∃ X, Yq33.alloc (.cells #[.int .u8 3, .int .u8 0, .int .u8 0, .int .u8 0, .int .u8 0, .int .u8 0, .int .u8 0, .int .u8 0] 73) = X := ⟨_, rfl⟩
        obtain ⟨h6, hh⟩ : ∃ h, Yq33.heap.size = h := ⟨_, rfl⟩
        have hbb36 : Below Yq33.heap.size Yq33 Yq36 := by rw [← hY]; exact al1 _ _
        have HZh6 : Hid (Yq36.heap[h6]? = some (.cells #[.int .u8 3, .int .u8 0, .int .u8 0, .int .u8 0, .int .u8 0, .int .u8 0, .int .u8 0, .int .u8 0] 73)) := hid (by rw [← hY, ← hh]; exact heap_alloc_new _ _)
        rw [hY, hh]
        clear hY hh
        clear hHeld
        have hHeld := HK.out Yq36 (below_both hB0 (below_both (below_both hbb7 hbb33) hbb36))
        refine hK.out _ _ (fun _ => hHeld) ?_
        clear hK K
        (try simp only [Act.put, List.setIfInBounds_toArray, List.set_cons_zero, List.set_cons_succ])
        refine' wpAnyT_one (i := 4) (o := ?oiq188) (by kernel_rfl) ?hiq188 (fun K hK => ?stq188)
        case hiq188 => (simp only [List.getElem?_toArray, List.getElem?_cons_zero, List.getElem?_cons_succ]; rfl)
        go_simp
        go_at_call 40
        refine (HW0.out (some ⟨h3, 0, none⟩) 2 2 Yq36).mono ?_
        rintro e Yq34 ⟨rfl, hbb34⟩
        clear hHeld
        have hHeld := HK.out Yq34 (below_both hB0 (below_both (below_both (below_both hbb7 hbb33) hbb36) hbb34))
        refine hK.out _ _ (fun _ => hHeld) ?_
        clear hK K
        (try simp only [Act.put, List.setIfInBounds_toArray, List.set_cons_zero, List.set_cons_succ])
        refine' wpAnyT_one (i := 7) (o := ?oiq189) (by kernel_rfl) ?hiq189 (fun K hK => ?stq189)
        case hiq189 => (simp only [List.getElem?_toArray, List.getElem?_cons_zero, List.getElem?_cons_succ]; rfl)
        go_simp
        go_at_call 40
        refine (HW1.out (some ⟨h6, 0, none⟩) 1 1 Yq34).mono ?_
        rintro e Yq37 ⟨rfl, hbb37⟩
        clear hHeld
        have hHeld := HK.out Yq37 (below_both hB0 (below_both (below_both (below_both (below_both hbb7 hbb33) hbb36) hbb34) hbb37))
        refine hK.out _ _ (fun _ => hHeld) ?_
        clear hK K
        (try simp only [Act.put, List.setIfInBounds_toArray, List.set_cons_zero, List.set_cons_succ])
        refine' wpAnyT_one (i := 8) (o := ?oiq190) (by kernel_rfl) ?hiq190 (fun K hK => ?stq190)
        case hiq190 => (simp only [List.getElem?_toArray, List.getElem?_cons_zero, List.getElem?_cons_succ]; rfl)
        go_simp
        obtain ⟨Yq38, hY⟩ : ∃ X, Yq37.alloc (.cells #[.int .i64 0, .int .i64 0, .slice (some ⟨h3, 0, none⟩) 2 2, .int .i64 0, .int .i64 1, .slice (some ⟨h6, 0, none⟩) 1 1] 27) = X := ⟨_, rfl⟩
        obtain ⟨h8, hh⟩ : ∃ h, Yq37.heap.size = h := ⟨_, rfl⟩
        have hbb38 : Below Yq37.heap.size Yq37 Yq38 := by rw [← hY]; exact al1 _ _
        have HZh8 : Hid (Yq38.heap[h8]? = some (.cells #[.int .i64 0, .int .i64 0, .slice (some ⟨h3, 0, none⟩) 2 2, .int .i64 0, .int .i64 1, .slice (some ⟨h6, 0, none⟩) 1 1] 27)) := hid (by rw [← hY, ← hh]; exact heap_alloc_new _ _)
        rw [hY, hh]
        clear hY hh
        clear hHeld
        have hHeld := HK.out Yq38 (below_both hB0 (below_both (below_both (below_both (below_both (below_both hbb7 hbb33) hbb36) hbb34) hbb37) hbb38))
        refine hK.out _ _ (fun _ => hHeld) ?_
        clear hK K
        (try simp only [Act.put, List.setIfInBounds_toArray, List.set_cons_zero, List.set_cons_succ])
        refine' wpAnyT_one (i := 9) (o := ?oiq191) (by kernel_rfl) ?hiq191 (fun K hK => ?stq191)
        case hiq191 => (simp only [List.getElem?_toArray, List.getElem?_cons_zero, List.getElem?_cons_succ]; rfl)
        go_simp
        go_at_call 29
        refine (aw_call3 (HDD.out Yq38 (below_both hB0 (below_both (below_both (below_both (below_both (below_both hbb7 hbb33) hbb36) hbb34) hbb37) hbb38))).2 (((below_both (below_both (below_both hbb36 hbb34) hbb37) hbb38).block _ (box_lt HZh3.out)).trans HZh3.out) (((below_both (below_both hbb34 hbb37) hbb38).block _ (box_lt HZh6.out)).trans HZh6.out) (((Below.refl _ _).block _ (box_lt HZh8.out)).trans HZh8.out)).mono ?_
        rintro e Yq39 ⟨A9, c9, B9, d9, rfl, ho9, hbb39⟩
        have HO9 := hid ho9
        clear ho9
        clear hHeld
        have hHeld := HK.out Yq39 (below_both hB0 (below_both (below_both (below_both (below_both (below_both (below_both hbb7 hbb33) hbb36) hbb34) hbb37) hbb38) hbb39))
        refine hK.out _ _ (fun _ => hHeld) ?_
        clear hK K
        (try simp only [Act.put, List.setIfInBounds_toArray, List.set_cons_zero, List.set_cons_succ])
        refine' wpAnyT_take (i := 10) (oi := ?oiq192) (v := ?vq192) ?hiq192 (by kernel_rfl) (by kernel_rfl) ?hqq192 ?hyq192 hHeld ?restq192
        case hiq192 => (simp only [List.getElem?_toArray, List.getElem?_cons_zero, List.getElem?_cons_succ]; rfl)
        case hqq192 => exact fun _ _ _ h => HQP _ _ _ _ _ h
        case hyq192 => (refine Or.inl ⟨by rfl, ?_⟩; intro w' hSw; (try dsimp only at hSw); go_simp; try with_reducible rfl)
        (try simp only [Act.put, List.setIfInBounds_toArray, List.set_cons_zero, List.set_cons_succ])
        refine' wpAnyT_take (i := 11) (oi := ?oiq193) (v := ?vq193) ?hiq193 (by kernel_rfl) (by kernel_rfl) ?hqq193 ?hyq193 hHeld ?restq193
        case hiq193 => (simp only [List.getElem?_toArray, List.getElem?_cons_zero, List.getElem?_cons_succ]; rfl)
        case hqq193 => exact fun _ _ _ h => HQP _ _ _ _ _ h
        case hyq193 => (refine Or.inl ⟨by rfl, ?_⟩; intro w' hSw; (try dsimp only at hSw); go_simp; try with_reducible rfl)
        (try simp only [Act.put, List.setIfInBounds_toArray, List.set_cons_zero, List.set_cons_succ])
        refine' wpAnyT_take (i := 12) (oi := ?oiq194) (v := ?vq194) ?hiq194 (by kernel_rfl) (by kernel_rfl) ?hqq194 ?hyq194 hHeld ?restq194
        case hiq194 => (simp only [List.getElem?_toArray, List.getElem?_cons_zero, List.getElem?_cons_succ]; rfl)
        case hqq194 => exact fun _ _ _ h => HQP _ _ _ _ _ h
        case hyq194 => (refine Or.inl ⟨by rfl, ?_⟩; intro w' hSw; (try dsimp only at hSw); go_simp; try with_reducible rfl)
        (try simp only [Act.put, List.setIfInBounds_toArray, List.set_cons_zero, List.set_cons_succ])
        refine' wpAnyT_take (i := 13) (oi := ?oiq195) (v := ?vq195) ?hiq195 (by kernel_rfl) (by kernel_rfl) ?hqq195 ?hyq195 hHeld ?restq195
        case hiq195 => (simp only [List.getElem?_toArray, List.getElem?_cons_zero, List.getElem?_cons_succ]; rfl)
        case hqq195 => exact fun _ _ _ h => HQP _ _ _ _ _ h
        case hyq195 => (refine Or.inl ⟨by rfl, ?_⟩; intro w' hSw; (try dsimp only at hSw); go_simp; try with_reducible rfl)
        (try simp only [Act.put, List.setIfInBounds_toArray, List.set_cons_zero, List.set_cons_succ])
        refine' wpAnyT_one (i := 15) (o := ?oiq196) (by kernel_rfl) ?hiq196 (fun K hK => ?stq196)
        case hiq196 => (simp only [List.getElem?_toArray, List.getElem?_cons_zero, List.getElem?_cons_succ]; rfl)
        have hp15 := (((below_both (below_both (below_both (below_both (below_both hbb33 hbb36) hbb34) hbb37) hbb38) hbb39).block _ (box_lt HZpe.out)).trans HZpe.out)
        have p0 := cell_of_row _ _ 0 _ _ _ hp15
        have p1 := cell_of_row _ _ 1 _ _ _ hp15
        have fp0 := box_fr hp15 0
        have fp1 := box_fr hp15 1
        go_simp
        obtain ⟨YqN15, hY⟩ : ∃ X, (Yq39.setCell ⟨pe, 0, none⟩ (.slice A9 3 c9)).setCell ⟨pe, 1, none⟩ (.slice B9 3 d9) = X := ⟨_, rfl⟩
        rw [hY]
        have HP15 : Hid (YqN15.heap[pe]? = some (.cells #[.slice A9 3 c9, .slice B9 3 d9] 25)) := hid (by rw [← hY]; exact disk_set hp15 _ _)
        have HO15 : Hid (OwnG YqN15 0 st3 ca3 (.agg #[.slice A9 3 c9, .slice B9 3 d9])) := hid (by rw [← hY]; exact (HO9.out.keep (keep_below (Below.refl _ _)) (keep_below (Below.refl _ _)) (Nat.zero_le _)).keep (keep_two hp15 (by decide)) (keep_two hp15 (by decide)) (Nat.le_refl _))
        have hpeW : W5.heap.size ≤ pe := HPW.out
        have hbbnone15 : Below W5.heap.size W5 YqN15 := by rw [← hY]; exact ((below_both hB0 (below_both (below_both (below_both (below_both (below_both (below_both hbb7 hbb33) hbb36) hbb34) hbb37) hbb38) hbb39)).setCell hpeW _).setCell hpeW _
        clear hY hp15 p0 p1 fp0 fp1
        clear hHeld
        have hHeld := HK.out YqN15 hbbnone15
        refine hK.out _ _ (fun _ => hHeld) ?_
        clear hK K
        refine' wpAnyT_take (i := 16) (oi := ?oiq197) (v := ?vq197) ?hiq197 (by kernel_rfl) (by kernel_rfl) ?hqq197 ?hyq197 hHeld ?restq197
        case hiq197 => (simp only [List.getElem?_toArray, List.getElem?_cons_zero, List.getElem?_cons_succ]; rfl)
        case hqq197 => exact fun _ _ _ h => HQP _ _ _ _ _ h
        case hyq197 => (refine Or.inl ⟨by rfl, ?_⟩; intro w' hSw; (try dsimp only at hSw); go_simp; try with_reducible rfl)
        (try simp only [Act.put, List.setIfInBounds_toArray, List.set_cons_zero, List.set_cons_succ])
        refine' wpAnyT_one (i := 17) (o := ?oiq198) (by kernel_rfl) ?hiq198 (fun K hK => ?stq198)
        case hiq198 => (simp only [List.getElem?_toArray, List.getElem?_cons_zero, List.getElem?_cons_succ]; rfl)
        go_simp
        refine hK.out _ _ (fun h => absurd h (by decide)) ?_
        clear hK K
        (try simp only [Act.put, List.setIfInBounds_toArray, List.set_cons_zero, List.set_cons_succ])
        refine wpAnyT_done (by kernel_rfl) ?_ _
        exact HC.out YqN15 h3 h6 h8 pe A9 c9 B9 d9 ⟨hbbnone15, HP15.out, HO15.out.dk⟩
    · refine ⟨_, by (simp only [List.getElem?_toArray, List.getElem?_cons_zero, List.getElem?_cons_succ]; rfl), fun K hK => ?_⟩
      go_simp
      obtain ⟨Yq36, hY⟩ : ∃ X, Yq7.alloc (.cells #[.int .u8 3, .int .u8 0, .int .u8 0, .int .u8 0, .int .u8 0, .int .u8 0, .int .u8 0, .int .u8 0] 73) = X := ⟨_, rfl⟩
      obtain ⟨h6, hh⟩ : ∃ h, Yq7.heap.size = h := ⟨_, rfl⟩
      have hbb36 : Below Yq7.heap.size Yq7 Yq36 := by rw [← hY]; exact al1 _ _
      have HZh6 : Hid (Yq36.heap[h6]? = some (.cells #[.int .u8 3, .int .u8 0, .int .u8 0, .int .u8 0, .int .u8 0, .int .u8 0, .int .u8 0, .int .u8 0] 73)) := hid (by rw [← hY, ← hh]; exact heap_alloc_new _ _)
      rw [hY, hh]
      clear hY hh
      clear hHeld
      have hHeld := HK.out Yq36 (below_both hB0 (below_both hbb7 hbb36))
      refine hK.out _ _ (fun _ => hHeld) ?_
      clear hK K
      (try simp only [Act.put, List.setIfInBounds_toArray, List.set_cons_zero, List.set_cons_succ])
      refine' wpAnyT_one (i := 3) (o := ?oiq199) (by kernel_rfl) ?hiq199 (fun K hK => ?stq199)
      case hiq199 => (simp only [List.getElem?_toArray, List.getElem?_cons_zero, List.getElem?_cons_succ]; rfl)
      go_simp
      obtain ⟨Yq33, hY⟩ : ∃ X, Yq36.alloc (.cells #[.int .u8 1, .int .u8 0, .int .u8 0, .int .u8 0, .int .u8 0, .int .u8 0, .int .u8 0, .int .u8 0, .int .u8 2, .int .u8 0, .int .u8 0, .int .u8 0, .int .u8 0, .int .u8 0, .int .u8 0, .int .u8 0] 73) = X := ⟨_, rfl⟩
      obtain ⟨h3, hh⟩ : ∃ h, Yq36.heap.size = h := ⟨_, rfl⟩
      have hbb33 : Below Yq36.heap.size Yq36 Yq33 := by rw [← hY]; exact al1 _ _
      have HZh3 : Hid (Yq33.heap[h3]? = some (.cells #[.int .u8 1, .int .u8 0, .int .u8 0, .int .u8 0, .int .u8 0, .int .u8 0, .int .u8 0, .int .u8 0, .int .u8 2, .int .u8 0, .int .u8 0, .int .u8 0, .int .u8 0, .int .u8 0, .int .u8 0, .int .u8 0] 73)) := hid (by rw [← hY, ← hh]; exact heap_alloc_new _ _)
      rw [hY, hh]
      clear hY hh
      clear hHeld
      have hHeld := HK.out Yq33 (below_both hB0 (below_both (below_both hbb7 hbb36) hbb33))
      refine hK.out _ _ (fun _ => hHeld) ?_
      clear hK K
      (try simp only [Act.put, List.setIfInBounds_toArray, List.set_cons_zero, List.set_cons_succ])
      refine' wpAnyT_one (i := 4) (o := ?oiq200) (by kernel_rfl) ?hiq200 (fun K hK => ?stq200)
      case hiq200 => (simp only [List.getElem?_toArray, List.getElem?_cons_zero, List.getElem?_cons_succ]; rfl)
      go_simp
      go_at_call 40
      refine (HW0.out (some ⟨h3, 0, none⟩) 2 2 Yq33).mono ?_
      rintro e Yq34 ⟨rfl, hbb34⟩
      clear hHeld
      have hHeld := HK.out Yq34 (below_both hB0 (below_both (below_both (below_both hbb7 hbb36) hbb33) hbb34))
      refine hK.out _ _ (fun _ => hHeld) ?_
      clear hK K
      (try simp only [Act.put, List.setIfInBounds_toArray, List.set_cons_zero, List.set_cons_succ])
      refine' wpAnyT_one (i := 7) (o := ?oiq201) (by kernel_rfl) ?hiq201 (fun K hK => ?stq201)
      case hiq201 => (simp only [List.getElem?_toArray, List.getElem?_cons_zero, List.getElem?_cons_succ]; rfl)
      go_simp
      go_at_call 40
      refine (HW1.out (some ⟨h6, 0, none⟩) 1 1 Yq34).mono ?_
      rintro e Yq37 ⟨rfl, hbb37⟩
      clear hHeld
      have hHeld := HK.out Yq37 (below_both hB0 (below_both (below_both (below_both (below_both hbb7 hbb36) hbb33) hbb34) hbb37))
      refine hK.out _ _ (fun _ => hHeld) ?_
      clear hK K
      (try simp only [Act.put, List.setIfInBounds_toArray, List.set_cons_zero, List.set_cons_succ])
      refine' wpAnyT_one (i := 8) (o := ?oiq202) (by kernel_rfl) ?hiq202 (fun K hK => ?stq202)
      case hiq202 => (simp only [List.getElem?_toArray, List.getElem?_cons_zero, List.getElem?_cons_succ]; rfl)
      go_simp
      obtain ⟨Yq38, hY⟩ : ∃ X, Yq37.alloc (.cells #[.int .i64 0, .int .i64 0, .slice (some ⟨h3, 0, none⟩) 2 2, .int .i64 0, .int .i64 1, .slice (some ⟨h6, 0, none⟩) 1 1] 27) = X := ⟨_, rfl⟩
      obtain ⟨h8, hh⟩ : ∃ h, Yq37.heap.size = h := ⟨_, rfl⟩
      have hbb38 : Below Yq37.heap.size Yq37 Yq38 := by rw [← hY]; exact al1 _ _
      have HZh8 : Hid (Yq38.heap[h8]? = some (.cells #[.int .i64 0, .int .i64 0, .slice (some ⟨h3, 0, none⟩) 2 2, .int .i64 0, .int .i64 1, .slice (some ⟨h6, 0, none⟩) 1 1] 27)) := hid (by rw [← hY, ← hh]; exact heap_alloc_new _ _)
      rw [hY, hh]
      clear hY hh
      clear hHeld
      have hHeld := HK.out Yq38 (below_both hB0 (below_both (below_both (below_both (below_both (below_both hbb7 hbb36) hbb33) hbb34) hbb37) hbb38))
      refine hK.out _ _ (fun _ => hHeld) ?_
      clear hK K
      (try simp only [Act.put, List.setIfInBounds_toArray, List.set_cons_zero, List.set_cons_succ])
      refine' wpAnyT_one (i := 9) (o := ?oiq203) (by kernel_rfl) ?hiq203 (fun K hK => ?stq203)
      case hiq203 => (simp only [List.getElem?_toArray, List.getElem?_cons_zero, List.getElem?_cons_succ]; rfl)
      go_simp
      go_at_call 29
      refine (aw_call3 (HDD.out Yq38 (below_both hB0 (below_both (below_both (below_both (below_both (below_both hbb7 hbb36) hbb33) hbb34) hbb37) hbb38))).2 (((below_both (below_both hbb34 hbb37) hbb38).block _ (box_lt HZh3.out)).trans HZh3.out) (((below_both (below_both (below_both hbb33 hbb34) hbb37) hbb38).block _ (box_lt HZh6.out)).trans HZh6.out) (((Below.refl _ _).block _ (box_lt HZh8.out)).trans HZh8.out)).mono ?_
      rintro e Yq39 ⟨A9, c9, B9, d9, rfl, ho9, hbb39⟩
      have HO9 := hid ho9
      clear ho9
      clear hHeld
      have hHeld := HK.out Yq39 (below_both hB0 (below_both (below_both (below_both (below_both (below_both (below_both hbb7 hbb36) hbb33) hbb34) hbb37) hbb38) hbb39))
      refine hK.out _ _ (fun _ => hHeld) ?_
      clear hK K
      (try simp only [Act.put, List.setIfInBounds_toArray, List.set_cons_zero, List.set_cons_succ])
      refine' wpAnyT_take (i := 10) (oi := ?oiq204) (v := ?vq204) ?hiq204 (by kernel_rfl) (by kernel_rfl) ?hqq204 ?hyq204 hHeld ?restq204
      case hiq204 => (simp only [List.getElem?_toArray, List.getElem?_cons_zero, List.getElem?_cons_succ]; rfl)
      case hqq204 => exact fun _ _ _ h => HQP _ _ _ _ _ h
      case hyq204 => (refine Or.inl ⟨by rfl, ?_⟩; intro w' hSw; (try dsimp only at hSw); go_simp; try with_reducible rfl)
      (try simp only [Act.put, List.setIfInBounds_toArray, List.set_cons_zero, List.set_cons_succ])
      refine' wpAnyT_take (i := 11) (oi := ?oiq205) (v := ?vq205) ?hiq205 (by kernel_rfl) (by kernel_rfl) ?hqq205 ?hyq205 hHeld ?restq205
      case hiq205 => (simp only [List.getElem?_toArray, List.getElem?_cons_zero, List.getElem?_cons_succ]; rfl)
      case hqq205 => exact fun _ _ _ h => HQP _ _ _ _ _ h
      case hyq205 => (refine Or.inl ⟨by rfl, ?_⟩; intro w' hSw; (try dsimp only at hSw); go_simp; try with_reducible rfl)
      (try simp only [Act.put, List.setIfInBounds_toArray, List.set_cons_zero, List.set_cons_succ])
      refine' wpAnyT_take (i := 12) (oi := ?oiq206) (v := ?vq206) ?hiq206 (by kernel_rfl) (by kernel_rfl) ?hqq206 ?hyq206 hHeld ?restq206
      case hiq206 => (simp only [List.getElem?_toArray, List.getElem?_cons_zero, List.getElem?_cons_succ]; rfl)
      case hqq206 => exact fun _ _ _ h => HQP _ _ _ _ _ h
      case hyq206 => (refine Or.inl ⟨by rfl, ?_⟩; intro w' hSw; (try dsimp only at hSw); go_simp; try with_reducible rfl)
      (try simp only [Act.put, List.setIfInBounds_toArray, List.set_cons_zero, List.set_cons_succ])
      refine' wpAnyT_take (i := 13) (oi := ?oiq207) (v := ?vq207) ?hiq207 (by kernel_rfl) (by kernel_rfl) ?hqq207 ?hyq207 hHeld ?restq207
      case hiq207 => (simp only [List.getElem?_toArray, List.getElem?_cons_zero, List.getElem?_cons_succ]; rfl)
      case hqq207 => exact fun _ _ _ h => HQP _ _ _ _ _ h
      case hyq207 => (refine Or.inl ⟨by rfl, ?_⟩; intro w' hSw; (try dsimp only at hSw); go_simp; try with_reducible rfl)
      (try simp only [Act.put, List.setIfInBounds_toArray, List.set_cons_zero, List.set_cons_succ])
      refine' wpAnyT_one (i := 15) (o := ?oiq208) (by kernel_rfl) ?hiq208 (fun K hK => ?stq208)
      case hiq208 => (simp only [List.getElem?_toArray, List.getElem?_cons_zero, List.getElem?_cons_succ]; rfl)
      have hp15 := (((below_both (below_both (below_both (below_both (below_both hbb36 hbb33) hbb34) hbb37) hbb38) hbb39).block _ (box_lt HZpe.out)).trans HZpe.out)
      have p0 := cell_of_row _ _ 0 _ _ _ hp15
      have p1 := cell_of_row _ _ 1 _ _ _ hp15
      have fp0 := box_fr hp15 0
      have fp1 := box_fr hp15 1
      go_simp
      obtain ⟨YqN15, hY⟩ : ∃ X, (Yq39.setCell ⟨pe, 0, none⟩ (.slice A9 3 c9)).setCell ⟨pe, 1, none⟩ (.slice B9 3 d9) = X := ⟨_, rfl⟩
      rw [hY]
      have HP15 : Hid (YqN15.heap[pe]? = some (.cells #[.slice A9 3 c9, .slice B9 3 d9] 25)) := hid (by rw [← hY]; exact disk_set hp15 _ _)
      have HO15 : Hid (OwnG YqN15 0 st3 ca3 (.agg #[.slice A9 3 c9, .slice B9 3 d9])) := hid (by rw [← hY]; exact (HO9.out.keep (keep_below (Below.refl _ _)) (keep_below (Below.refl _ _)) (Nat.zero_le _)).keep (keep_two hp15 (by decide)) (keep_two hp15 (by decide)) (Nat.le_refl _))
      have hpeW : W5.heap.size ≤ pe := HPW.out
      have hbbnone15 : Below W5.heap.size W5 YqN15 := by rw [← hY]; exact ((below_both hB0 (below_both (below_both (below_both (below_both (below_both (below_both hbb7 hbb36) hbb33) hbb34) hbb37) hbb38) hbb39)).setCell hpeW _).setCell hpeW _
      clear hY hp15 p0 p1 fp0 fp1
      clear hHeld
      have hHeld := HK.out YqN15 hbbnone15
      refine hK.out _ _ (fun _ => hHeld) ?_
      clear hK K
      refine' wpAnyT_take (i := 16) (oi := ?oiq209) (v := ?vq209) ?hiq209 (by kernel_rfl) (by kernel_rfl) ?hqq209 ?hyq209 hHeld ?restq209
      case hiq209 => (simp only [List.getElem?_toArray, List.getElem?_cons_zero, List.getElem?_cons_succ]; rfl)
      case hqq209 => exact fun _ _ _ h => HQP _ _ _ _ _ h
      case hyq209 => (refine Or.inl ⟨by rfl, ?_⟩; intro w' hSw; (try dsimp only at hSw); go_simp; try with_reducible rfl)
      (try simp only [Act.put, List.setIfInBounds_toArray, List.set_cons_zero, List.set_cons_succ])
      refine' wpAnyT_one (i := 17) (o := ?oiq210) (by kernel_rfl) ?hiq210 (fun K hK => ?stq210)
      case hiq210 => (simp only [List.getElem?_toArray, List.getElem?_cons_zero, List.getElem?_cons_succ]; rfl)
      go_simp
      refine hK.out _ _ (fun h => absurd h (by decide)) ?_
      clear hK K
      (try simp only [Act.put, List.setIfInBounds_toArray, List.set_cons_zero, List.set_cons_succ])
      refine wpAnyT_done (by kernel_rfl) ?_ _
      exact HC.out YqN15 h3 h6 h8 pe A9 c9 B9 d9 ⟨hbbnone15, HP15.out, HO15.out.dk⟩
end Go.Proofs.Ytoefbgkeinhibaa

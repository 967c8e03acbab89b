/- The seventh region of awake. -/
import Derived.Test.YtoefbgkeinhibaaSa
namespace Go.Proofs.Ytoefbgkeinhibaa
open Go.RowKit Go.Lib

set_option maxHeartbeats 16000000 in
set_option maxRecDepth 100000 in
theorem aw_r7 (Q : Exit → Act → World → Prop) (HQP : ∀ (c : _) (a : Act) (d : Option Tmp) (v : Value) (w : World), Q (.panic c) (a.put d v) w → Q (.panic c) a w) (W4 W6 W7 W8 : World) (ga gb gc go_ pd pe h3 h6 h8 c5 d5 c7 c9 d9 : Nat) (A5 B5 A7 A9 B9 : Option Addr) (HB48 : Hid (Below W4.heap.size W4 W8)) (HB68 : Hid (Below W6.heap.size W6 W8)) (HBX : Hid (∀ X, Below W4.heap.size W4 X → X.heap[ga]? = some (.cells #[.int .u8 1, .int .u8 0, .int .u8 0, .int .u8 0, .int .u8 0, .int .u8 0, .int .u8 0, .int .u8 0] 73) ∧ X.heap[gb]? = some (.cells #[.int .u8 2, .int .u8 0, .int .u8 0, .int .u8 0, .int .u8 0, .int .u8 0, .int .u8 0, .int .u8 0] 73) ∧ X.heap[gc]? = some (.cells #[.int .u8 3, .int .u8 0, .int .u8 0, .int .u8 0, .int .u8 0, .int .u8 0, .int .u8 0, .int .u8 0] 73) ∧ X.heap[go_]? = some (.cells #[.int .u8 0, .int .u8 0, .int .u8 0, .int .u8 0, .int .u8 0, .int .u8 0, .int .u8 0, .int .u8 0] 73)))
    (HEE : Hid (∀ X, Below W6.heap.size W6 X → X.heap[pe]? = some (.cells #[.slice A9 3 c9, .slice B9 3 d9] 25) ∧ Dk X (.agg #[.slice A9 3 c9, .slice B9 3 d9]) st3 ca3))
    (HC0 : ∀ (X : World) (k1 k2 k3 k4 k5 : Nat) (A74 : Option Addr) (c74 : Nat) (A84 : Option Addr) (c84 : Nat) (A94 : Option Addr) (c94 : Nat), Below W8.heap.size W8 X → Q .normal { tmps := #[Value.bool false, Value.pointer (some { block := ga, off := 0 }), Value.pointer (some { block := gb, off := 0 }), Value.pointer (some { block := gc, off := 0 }), Value.pointer (some { block := go_, off := 0 }), Value.pointer (some { block := pd, off := 0 }), Value.int IntKind.i64 0, Value.pointer (some { block := pe, off := 0 }), Value.int IntKind.i64 2, Value.int IntKind.i64 0, Value.slice A7 3 c7, Value.int IntKind.i64 0, undef, undef, undef, undef, undef, undef, undef, undef, undef, Value.agg #[Value.int IntKind.u8 1, Value.int IntKind.u8 0, Value.int IntKind.u8 0, Value.int IntKind.u8 0, Value.int IntKind.u8 0, Value.int IntKind.u8 0, Value.int IntKind.u8 0, Value.int IntKind.u8 0], Value.agg #[Value.int IntKind.u8 2, Value.int IntKind.u8 0, Value.int IntKind.u8 0, Value.int IntKind.u8 0, Value.int IntKind.u8 0, Value.int IntKind.u8 0, Value.int IntKind.u8 0, Value.int IntKind.u8 0], Value.agg #[Value.int IntKind.u8 3, Value.int IntKind.u8 0, Value.int IntKind.u8 0, Value.int IntKind.u8 0, Value.int IntKind.u8 0, Value.int IntKind.u8 0, Value.int IntKind.u8 0, Value.int IntKind.u8 0], Value.agg #[Value.int IntKind.u8 0, Value.int IntKind.u8 0, Value.int IntKind.u8 0, Value.int IntKind.u8 0, Value.int IntKind.u8 0, Value.int IntKind.u8 0, Value.int IntKind.u8 0, Value.int IntKind.u8 0], Value.tuple #[Value.agg #[Value.slice A5 3 c5, Value.slice B5 0 d5], Value.int IntKind.i64 0], Value.tuple #[Value.agg #[Value.slice A5 3 c5, Value.slice B5 0 d5], Value.int IntKind.i64 0], Value.agg #[Value.slice A5 3 c5, Value.slice B5 0 d5], Value.int IntKind.i64 0, Value.tuple #[Value.agg #[Value.slice A9 3 c9, Value.slice B9 3 d9], Value.int IntKind.i64 2, Value.int IntKind.i64 0], Value.agg #[Value.slice A5 3 c5, Value.slice B5 0 d5], Value.agg #[Value.int IntKind.u8 1, Value.int IntKind.u8 0, Value.int IntKind.u8 0, Value.int IntKind.u8 0, Value.int IntKind.u8 0, Value.int IntKind.u8 0, Value.int IntKind.u8 0, Value.int IntKind.u8 0], Value.agg #[Value.int IntKind.u8 2, Value.int IntKind.u8 0, Value.int IntKind.u8 0, Value.int IntKind.u8 0, Value.int IntKind.u8 0, Value.int IntKind.u8 0, Value.int IntKind.u8 0, Value.int IntKind.u8 0], Value.slice (some { block := h3, off := 0 }) 2 2, Value.agg #[Value.int IntKind.i64 0, Value.int IntKind.i64 0, Value.slice (some { block := h3, off := 0 }) 2 2], Value.agg #[Value.int IntKind.u8 3, Value.int IntKind.u8 0, Value.int IntKind.u8 0, Value.int IntKind.u8 0, Value.int IntKind.u8 0, Value.int IntKind.u8 0, Value.int IntKind.u8 0, Value.int IntKind.u8 0], Value.slice (some { block := h6, off := 0 }) 1 1, Value.agg #[Value.int IntKind.i64 0, Value.int IntKind.i64 1, Value.slice (some { block := h6, off := 0 }) 1 1], Value.slice (some { block := h8, off := 0 }) 2 2, Value.tuple #[Value.agg #[Value.slice A9 3 c9, Value.slice B9 3 d9], Value.int IntKind.i64 2, Value.int IntKind.i64 0], Value.agg #[Value.slice A9 3 c9, Value.slice B9 3 d9], Value.int IntKind.i64 2, Value.int IntKind.i64 0, Value.tuple #[Value.slice A7 3 c7, Value.int IntKind.i64 0], Value.agg #[Value.slice A9 3 c9, Value.slice B9 3 d9], Value.agg #[Value.int IntKind.i64 0, Value.int IntKind.i64 3], Value.tuple #[Value.slice A7 3 c7, Value.int IntKind.i64 0], Value.slice A7 3 c7, Value.int IntKind.i64 0, Value.int IntKind.i64 0, Value.bool false, Value.bool false, Value.int IntKind.i64 0, Value.bool false, Value.bool false, Value.bool false, Value.int IntKind.i64 0, Value.bool false, Value.bool false, Value.bool false, Value.int IntKind.i64 2, Value.bool false, Value.bool false, Value.bool false, Value.slice A7 3 c7, Value.agg #[Value.int IntKind.u8 1, Value.int IntKind.u8 0, Value.int IntKind.u8 0, Value.int IntKind.u8 0, Value.int IntKind.u8 0, Value.int IntKind.u8 0, Value.int IntKind.u8 0, Value.int IntKind.u8 0], Value.agg #[Value.int IntKind.u8 3, Value.int IntKind.u8 0, Value.int IntKind.u8 0, Value.int IntKind.u8 0, Value.int IntKind.u8 0, Value.int IntKind.u8 0, Value.int IntKind.u8 0, Value.int IntKind.u8 0], Value.agg #[Value.int IntKind.u8 0, Value.int IntKind.u8 0, Value.int IntKind.u8 0, Value.int IntKind.u8 0, Value.int IntKind.u8 0, Value.int IntKind.u8 0, Value.int IntKind.u8 0, Value.int IntKind.u8 0], Value.slice (some { block := W7.heap.size, off := 0 }) 3 3, Value.bool true, Value.bool false, Value.bool false, Value.agg #[Value.slice A9 3 c9, Value.slice B9 3 d9], Value.slice (some { block := k1, off := 0 }) 2 2, Value.slice A74 3 c74, Value.agg #[Value.int IntKind.u8 1, Value.int IntKind.u8 0, Value.int IntKind.u8 0, Value.int IntKind.u8 0, Value.int IntKind.u8 0, Value.int IntKind.u8 0, Value.int IntKind.u8 0, Value.int IntKind.u8 0], Value.agg #[Value.int IntKind.u8 2, Value.int IntKind.u8 0, Value.int IntKind.u8 0, Value.int IntKind.u8 0, Value.int IntKind.u8 0, Value.int IntKind.u8 0, Value.int IntKind.u8 0, Value.int IntKind.u8 0], Value.agg #[Value.int IntKind.u8 0, Value.int IntKind.u8 0, Value.int IntKind.u8 0, Value.int IntKind.u8 0, Value.int IntKind.u8 0, Value.int IntKind.u8 0, Value.int IntKind.u8 0, Value.int IntKind.u8 0], Value.slice (some { block := k2, off := 0 }) 3 3, Value.bool true, Value.bool false, Value.bool false, Value.agg #[Value.slice A9 3 c9, Value.slice B9 3 d9], Value.slice (some { block := k3, off := 0 }) 2 2, Value.slice A84 3 c84, Value.agg #[Value.int IntKind.u8 0, Value.int IntKind.u8 0, Value.int IntKind.u8 0, Value.int IntKind.u8 0, Value.int IntKind.u8 0, Value.int IntKind.u8 0, Value.int IntKind.u8 0, Value.int IntKind.u8 0], Value.agg #[Value.int IntKind.u8 3, Value.int IntKind.u8 0, Value.int IntKind.u8 0, Value.int IntKind.u8 0, Value.int IntKind.u8 0, Value.int IntKind.u8 0, Value.int IntKind.u8 0, Value.int IntKind.u8 0], Value.agg #[Value.int IntKind.u8 0, Value.int IntKind.u8 0, Value.int IntKind.u8 0, Value.int IntKind.u8 0, Value.int IntKind.u8 0, Value.int IntKind.u8 0, Value.int IntKind.u8 0, Value.int IntKind.u8 0], Value.slice (some { block := k4, off := 0 }) 3 3, Value.bool true, Value.bool false, Value.bool false, Value.bool false, Value.agg #[Value.slice A9 3 c9, Value.slice B9 3 d9], Value.slice A94 3 c94, Value.agg #[Value.int IntKind.u8 0, Value.int IntKind.u8 0, Value.int IntKind.u8 0, Value.int IntKind.u8 0, Value.int IntKind.u8 0, Value.int IntKind.u8 0, Value.int IntKind.u8 0, Value.int IntKind.u8 0], Value.agg #[Value.int IntKind.u8 0, Value.int IntKind.u8 0, Value.int IntKind.u8 0, Value.int IntKind.u8 0, Value.int IntKind.u8 0, Value.int IntKind.u8 0, Value.int IntKind.u8 0, Value.int IntKind.u8 0], Value.agg #[Value.int IntKind.u8 0, Value.int IntKind.u8 0, Value.int IntKind.u8 0, Value.int IntKind.u8 0, Value.int IntKind.u8 0, Value.int IntKind.u8 0, Value.int IntKind.u8 0, Value.int IntKind.u8 0], Value.slice (some { block := k5, off := 0 }) 3 3, Value.bool true, Value.bool false, Value.bool false, undef, undef, undef, undef, undef, undef, undef, undef, undef, undef, undef, undef, undef, undef, undef, undef, undef, undef, undef, undef, undef, undef, undef, undef, undef, undef, undef, undef, undef, undef, undef, undef, undef, undef, undef, undef, undef, undef, undef, undef, undef, undef, undef, undef, undef, undef, undef, undef, undef, undef, undef, undef, undef, undef, undef, undef, undef, undef, undef, undef, undef, undef, undef, undef], defers := [] } X) :
    Code.wp Try.prog (Code.region 7 #[{ dst := some 72, op := Go.Op.load 25 (Go.Operand.tmp 7), type := 25, pos := "law.go:36", after := #[], guard := none }, { dst := some 73, op := Go.Op.buildSlice 55 2 #[(0, Go.Operand.const (Go.Value.int Go.IntKind.i64 1)), (1, Go.Operand.const (Go.Value.int Go.IntKind.i64 1))], type := 55, pos := "law.go:36", after := #[], guard := none }, { dst := some 74, op := Go.Op.call { callee := Go.Callee.value (Go.Operand.func 41), args := #[Go.Operand.tmp 72, Go.Operand.tmp 73], argTypes := #[25, 55] }, type := 22, pos := "law.go:36", after := #[{ on := 0, ground := Go.Ground.data }, { on := 1, ground := Go.Ground.data }], guard := none }, { dst := some 75, op := Go.Op.load 73 (Go.Operand.tmp 1), type := 73, pos := "law.go:36", after := #[], guard := none }, { dst := some 76, op := Go.Op.load 73 (Go.Operand.tmp 2), type := 73, pos := "law.go:36", after := #[], guard := none }, { dst := some 77, op := Go.Op.load 73 (Go.Operand.tmp 4), type := 73, pos := "law.go:36", after := #[], guard := none }, { dst := some 78, op := Go.Op.buildSlice 22 3 #[(0, Go.Operand.tmp 75), (1, Go.Operand.tmp 76), (2, Go.Operand.tmp 77)], type := 22, pos := "law.go:36", after := #[{ on := 3, ground := Go.Ground.data }, { on := 4, ground := Go.Ground.data }, { on := 5, ground := Go.Ground.data }], guard := none }, { dst := some 79, op := Go.Op.call { callee := Go.Callee.value (Go.Operand.func 19), args := #[Go.Operand.tmp 74, Go.Operand.tmp 78], argTypes := #[22, 22] }, type := 4, pos := "law.go:36", after := #[{ on := 2, ground := Go.Ground.data }, { on := 6, ground := Go.Ground.data }, { on := 2, ground := Go.Ground.chain }], guard := none }, { dst := some 80, op := Go.Op.unOp Go.UnOp.not 4 (Go.Operand.tmp 79), type := 4, pos := "law.go:36", after := #[{ on := 7, ground := Go.Ground.data }], guard := none }, { dst := some 81, op := Go.Op.move (Go.Operand.tmp 80), type := 4, pos := "law.go:36", after := #[{ on := 8, ground := Go.Ground.data }, { on := 7, ground := Go.Ground.chain }], guard := none }, { dst := some 82, op := Go.Op.load 25 (Go.Operand.tmp 7), type := 25, pos := "law.go:36", after := #[{ on := 9, ground := Go.Ground.guard }], guard := some (9, false) }, { dst := some 83, op := Go.Op.buildSlice 55 2 #[(0, Go.Operand.const (Go.Value.int Go.IntKind.i64 4)), (1, Go.Operand.const (Go.Value.int Go.IntKind.i64 5))], type := 55, pos := "law.go:36", after := #[{ on := 9, ground := Go.Ground.guard }], guard := some (9, false) }, { dst := some 84, op := Go.Op.call { callee := Go.Callee.value (Go.Operand.func 41), args := #[Go.Operand.tmp 82, Go.Operand.tmp 83], argTypes := #[25, 55] }, type := 22, pos := "law.go:36", after := #[{ on := 10, ground := Go.Ground.data }, { on := 11, ground := Go.Ground.data }, { on := 9, ground := Go.Ground.chain }, { on := 9, ground := Go.Ground.guard }], guard := some (9, false) }, { dst := some 85, op := Go.Op.load 73 (Go.Operand.tmp 4), type := 73, pos := "law.go:36", after := #[{ on := 9, ground := Go.Ground.guard }], guard := some (9, false) }, { dst := some 86, op := Go.Op.load 73 (Go.Operand.tmp 3), type := 73, pos := "law.go:36", after := #[{ on := 9, ground := Go.Ground.guard }], guard := some (9, false) }, { dst := some 87, op := Go.Op.load 73 (Go.Operand.tmp 4), type := 73, pos := "law.go:36", after := #[{ on := 9, ground := Go.Ground.guard }], guard := some (9, false) }, { dst := some 88, op := Go.Op.buildSlice 22 3 #[(0, Go.Operand.tmp 85), (1, Go.Operand.tmp 86), (2, Go.Operand.tmp 87)], type := 22, pos := "law.go:36", after := #[{ on := 13, ground := Go.Ground.data }, { on := 14, ground := Go.Ground.data }, { on := 15, ground := Go.Ground.data }, { on := 9, ground := Go.Ground.guard }], guard := some (9, false) }, { dst := some 89, op := Go.Op.call { callee := Go.Callee.value (Go.Operand.func 19), args := #[Go.Operand.tmp 84, Go.Operand.tmp 88], argTypes := #[22, 22] }, type := 4, pos := "law.go:36", after := #[{ on := 12, ground := Go.Ground.data }, { on := 16, ground := Go.Ground.data }, { on := 12, ground := Go.Ground.chain }, { on := 9, ground := Go.Ground.guard }], guard := some (9, false) }, { dst := some 90, op := Go.Op.unOp Go.UnOp.not 4 (Go.Operand.tmp 89), type := 4, pos := "law.go:36", after := #[{ on := 17, ground := Go.Ground.data }, { on := 9, ground := Go.Ground.guard }], guard := some (9, false) }, { dst := some 91, op := Go.Op.pick (Go.Operand.tmp 81) (Go.Operand.const (Go.Value.bool true)) (Go.Operand.tmp 90), type := 4, pos := "law.go:36", after := #[{ on := 9, ground := Go.Ground.data }, { on := 18, ground := Go.Ground.data }], guard := none }, { dst := some 92, op := Go.Op.move (Go.Operand.tmp 91), type := 4, pos := "law.go:36", after := #[{ on := 19, ground := Go.Ground.data }, { on := 17, ground := Go.Ground.chain }], guard := none }, { dst := some 93, op := Go.Op.load 25 (Go.Operand.tmp 7), type := 25, pos := "law.go:36", after := #[{ on := 20, ground := Go.Ground.guard }], guard := some (20, false) }, { dst := some 94, op := Go.Op.call { callee := Go.Callee.value (Go.Operand.func 41), args := #[Go.Operand.tmp 93, Go.Operand.const (Go.Value.slice none 0 0)], argTypes := #[25, 55] }, type := 22, pos := "law.go:36", after := #[{ on := 21, ground := Go.Ground.data }, { on := 20, ground := Go.Ground.chain }, { on := 20, ground := Go.Ground.guard }], guard := some (20, false) }, { dst := some 95, op := Go.Op.load 73 (Go.Operand.tmp 4), type := 73, pos := "law.go:36", after := #[{ on := 20, ground := Go.Ground.guard }], guard := some (20, false) }, { dst := some 96, op := Go.Op.load 73 (Go.Operand.tmp 4), type := 73, pos := "law.go:36", after := #[{ on := 20, ground := Go.Ground.guard }], guard := some (20, false) }, { dst := some 97, op := Go.Op.load 73 (Go.Operand.tmp 4), type := 73, pos := "law.go:36", after := #[{ on := 20, ground := Go.Ground.guard }], guard := some (20, false) }, { dst := some 98, op := Go.Op.buildSlice 22 3 #[(0, Go.Operand.tmp 95), (1, Go.Operand.tmp 96), (2, Go.Operand.tmp 97)], type := 22, pos := "law.go:36", after := #[{ on := 23, ground := Go.Ground.data }, { on := 24, ground := Go.Ground.data }, { on := 25, ground := Go.Ground.data }, { on := 20, ground := Go.Ground.guard }], guard := some (20, false) }, { dst := some 99, op := Go.Op.call { callee := Go.Callee.value (Go.Operand.func 19), args := #[Go.Operand.tmp 94, Go.Operand.tmp 98], argTypes := #[22, 22] }, type := 4, pos := "law.go:36", after := #[{ on := 22, ground := Go.Ground.data }, { on := 26, ground := Go.Ground.data }, { on := 22, ground := Go.Ground.chain }, { on := 20, ground := Go.Ground.guard }], guard := some (20, false) }, { dst := some 100, op := Go.Op.unOp Go.UnOp.not 4 (Go.Operand.tmp 99), type := 4, pos := "law.go:36", after := #[{ on := 27, ground := Go.Ground.data }, { on := 20, ground := Go.Ground.guard }], guard := some (20, false) }, { dst := some 101, op := Go.Op.pick (Go.Operand.tmp 92) (Go.Operand.const (Go.Value.bool true)) (Go.Operand.tmp 100), type := 4, pos := "law.go:36", after := #[{ on := 20, ground := Go.Ground.data }, { on := 28, ground := Go.Ground.data }], guard := none }] true) Q { tmps := #[Value.bool false, Value.pointer (some { block := ga, off := 0 }), Value.pointer (some { block := gb, off := 0 }), Value.pointer (some { block := gc, off := 0 }), Value.pointer (some { block := go_, off := 0 }), Value.pointer (some { block := pd, off := 0 }), Value.int IntKind.i64 0, Value.pointer (some { block := pe, off := 0 }), Value.int IntKind.i64 2, Value.int IntKind.i64 0, Value.slice A7 3 c7, Value.int IntKind.i64 0, undef, undef, undef, undef, undef, undef, undef, undef, undef, Value.agg #[Value.int IntKind.u8 1, Value.int IntKind.u8 0, Value.int IntKind.u8 0, Value.int IntKind.u8 0, Value.int IntKind.u8 0, Value.int IntKind.u8 0, Value.int IntKind.u8 0, Value.int IntKind.u8 0], Value.agg #[Value.int IntKind.u8 2, Value.int IntKind.u8 0, Value.int IntKind.u8 0, Value.int IntKind.u8 0, Value.int IntKind.u8 0, Value.int IntKind.u8 0, Value.int IntKind.u8 0, Value.int IntKind.u8 0], Value.agg #[Value.int IntKind.u8 3, Value.int IntKind.u8 0, Value.int IntKind.u8 0, Value.int IntKind.u8 0, Value.int IntKind.u8 0, Value.int IntKind.u8 0, Value.int IntKind.u8 0, Value.int IntKind.u8 0], Value.agg #[Value.int IntKind.u8 0, Value.int IntKind.u8 0, Value.int IntKind.u8 0, Value.int IntKind.u8 0, Value.int IntKind.u8 0, Value.int IntKind.u8 0, Value.int IntKind.u8 0, Value.int IntKind.u8 0], Value.tuple #[Value.agg #[Value.slice A5 3 c5, Value.slice B5 0 d5], Value.int IntKind.i64 0], Value.tuple #[Value.agg #[Value.slice A5 3 c5, Value.slice B5 0 d5], Value.int IntKind.i64 0], Value.agg #[Value.slice A5 3 c5, Value.slice B5 0 d5], Value.int IntKind.i64 0, Value.tuple #[Value.agg #[Value.slice A9 3 c9, Value.slice B9 3 d9], Value.int IntKind.i64 2, Value.int IntKind.i64 0], Value.agg #[Value.slice A5 3 c5, Value.slice B5 0 d5], Value.agg #[Value.int IntKind.u8 1, Value.int IntKind.u8 0, Value.int IntKind.u8 0, Value.int IntKind.u8 0, Value.int IntKind.u8 0, Value.int IntKind.u8 0, Value.int IntKind.u8 0, Value.int IntKind.u8 0], Value.agg #[Value.int IntKind.u8 2, Value.int IntKind.u8 0, Value.int IntKind.u8 0, Value.int IntKind.u8 0, Value.int IntKind.u8 0, Value.int IntKind.u8 0, Value.int IntKind.u8 0, Value.int IntKind.u8 0], Value.slice (some { block := h3, off := 0 }) 2 2, Value.agg #[Value.int IntKind.i64 0, Value.int IntKind.i64 0, Value.slice (some { block := h3, off := 0 }) 2 2], Value.agg #[Value.int IntKind.u8 3, Value.int IntKind.u8 0, Value.int IntKind.u8 0, Value.int IntKind.u8 0, Value.int IntKind.u8 0, Value.int IntKind.u8 0, Value.int IntKind.u8 0, Value.int IntKind.u8 0], Value.slice (some { block := h6, off := 0 }) 1 1, Value.agg #[Value.int IntKind.i64 0, Value.int IntKind.i64 1, Value.slice (some { block := h6, off := 0 }) 1 1], Value.slice (some { block := h8, off := 0 }) 2 2, Value.tuple #[Value.agg #[Value.slice A9 3 c9, Value.slice B9 3 d9], Value.int IntKind.i64 2, Value.int IntKind.i64 0], Value.agg #[Value.slice A9 3 c9, Value.slice B9 3 d9], Value.int IntKind.i64 2, Value.int IntKind.i64 0, Value.tuple #[Value.slice A7 3 c7, Value.int IntKind.i64 0], Value.agg #[Value.slice A9 3 c9, Value.slice B9 3 d9], Value.agg #[Value.int IntKind.i64 0, Value.int IntKind.i64 3], Value.tuple #[Value.slice A7 3 c7, Value.int IntKind.i64 0], Value.slice A7 3 c7, Value.int IntKind.i64 0, Value.int IntKind.i64 0, Value.bool false, Value.bool false, Value.int IntKind.i64 0, Value.bool false, Value.bool false, Value.bool false, Value.int IntKind.i64 0, Value.bool false, Value.bool false, Value.bool false, Value.int IntKind.i64 2, Value.bool false, Value.bool false, Value.bool false, Value.slice A7 3 c7, Value.agg #[Value.int IntKind.u8 1, Value.int IntKind.u8 0, Value.int IntKind.u8 0, Value.int IntKind.u8 0, Value.int IntKind.u8 0, Value.int IntKind.u8 0, Value.int IntKind.u8 0, Value.int IntKind.u8 0], Value.agg #[Value.int IntKind.u8 3, Value.int IntKind.u8 0, Value.int IntKind.u8 0, Value.int IntKind.u8 0, Value.int IntKind.u8 0, Value.int IntKind.u8 0, Value.int IntKind.u8 0, Value.int IntKind.u8 0], Value.agg #[Value.int IntKind.u8 0, Value.int IntKind.u8 0, Value.int IntKind.u8 0, Value.int IntKind.u8 0, Value.int IntKind.u8 0, Value.int IntKind.u8 0, Value.int IntKind.u8 0, Value.int IntKind.u8 0], Value.slice (some { block := W7.heap.size, off := 0 }) 3 3, Value.bool true, Value.bool false, Value.bool false, undef, undef, undef, undef, undef, undef, undef, undef, undef, undef, undef, undef, undef, undef, undef, undef, undef, undef, undef, undef, undef, undef, undef, undef, undef, undef, undef, undef, undef, undef, undef, undef, undef, undef, undef, undef, undef, undef, undef, undef, undef, undef, undef, undef, undef, undef, undef, undef, undef, undef, undef, undef, undef, undef, undef, undef, undef, undef, undef, undef, undef, undef, undef, undef, undef, undef, undef, undef, undef, undef, undef, undef, undef, undef, undef, undef, undef, undef, undef, undef, undef, undef, undef, undef, undef, undef, undef, undef, undef, undef, undef, undef, undef, undef], defers := [] } W8 := by
  have HC := hid HC0
  clear HC0
  have HK7 := hid (fun (X : World) (hX : Below W8.heap.size W8 X) => (show X.cell? ⟨pe, 0, none⟩ = some (.slice A9 3 c9) ∧ X.cell? ⟨pe, 1, none⟩ = some (.slice B9 3 d9) ∧ X.cell? ⟨ga, 0, none⟩ = some (.int .u8 1) ∧ X.cell? ⟨ga, 1, none⟩ = some (.int .u8 0) ∧ X.cell? ⟨ga, 2, none⟩ = some (.int .u8 0) ∧ X.cell? ⟨ga, 3, none⟩ = some (.int .u8 0) ∧ X.cell? ⟨ga, 4, none⟩ = some (.int .u8 0) ∧ X.cell? ⟨ga, 5, none⟩ = some (.int .u8 0) ∧ X.cell? ⟨ga, 6, none⟩ = some (.int .u8 0) ∧ X.cell? ⟨ga, 7, none⟩ = some (.int .u8 0) ∧ X.cell? ⟨gb, 0, none⟩ = some (.int .u8 2) ∧ X.cell? ⟨gb, 1, none⟩ = some (.int .u8 0) ∧ X.cell? ⟨gb, 2, none⟩ = some (.int .u8 0) ∧ X.cell? ⟨gb, 3, none⟩ = some (.int .u8 0) ∧ X.cell? ⟨gb, 4, none⟩ = some (.int .u8 0) ∧ X.cell? ⟨gb, 5, none⟩ = some (.int .u8 0) ∧ X.cell? ⟨gb, 6, none⟩ = some (.int .u8 0) ∧ X.cell? ⟨gb, 7, none⟩ = some (.int .u8 0) ∧ X.cell? ⟨gc, 0, none⟩ = some (.int .u8 3) ∧ X.cell? ⟨gc, 1, none⟩ = some (.int .u8 0) ∧ X.cell? ⟨gc, 2, none⟩ = some (.int .u8 0) ∧ X.cell? ⟨gc, 3, none⟩ = some (.int .u8 0) ∧ X.cell? ⟨gc, 4, none⟩ = some (.int .u8 0) ∧ X.cell? ⟨gc, 5, none⟩ = some (.int .u8 0) ∧ X.cell? ⟨gc, 6, none⟩ = some (.int .u8 0) ∧ X.cell? ⟨gc, 7, none⟩ = some (.int .u8 0) ∧ X.cell? ⟨go_, 0, none⟩ = some (.int .u8 0) ∧ X.cell? ⟨go_, 1, none⟩ = some (.int .u8 0) ∧ X.cell? ⟨go_, 2, none⟩ = some (.int .u8 0) ∧ X.cell? ⟨go_, 3, none⟩ = some (.int .u8 0) ∧ X.cell? ⟨go_, 4, none⟩ = some (.int .u8 0) ∧ X.cell? ⟨go_, 5, none⟩ = some (.int .u8 0) ∧ X.cell? ⟨go_, 6, none⟩ = some (.int .u8 0) ∧ X.cell? ⟨go_, 7, none⟩ = some (.int .u8 0) from (by
    obtain ⟨e0, _⟩ := HEE.out X (below_both HB68.out hX)
    obtain ⟨e1, e2, e3, e4⟩ := HBX.out X (below_both HB48.out hX)
    exact ⟨cell_of_row _ _ 0 _ _ _ e0, cell_of_row _ _ 1 _ _ _ e0, cell_of_row _ _ 0 _ _ _ e1, cell_of_row _ _ 1 _ _ _ e1, cell_of_row _ _ 2 _ _ _ e1, cell_of_row _ _ 3 _ _ _ e1, cell_of_row _ _ 4 _ _ _ e1, cell_of_row _ _ 5 _ _ _ e1, cell_of_row _ _ 6 _ _ _ e1, cell_of_row _ _ 7 _ _ _ e1, cell_of_row _ _ 0 _ _ _ e2, cell_of_row _ _ 1 _ _ _ e2, cell_of_row _ _ 2 _ _ _ e2, cell_of_row _ _ 3 _ _ _ e2, cell_of_row _ _ 4 _ _ _ e2, cell_of_row _ _ 5 _ _ _ e2, cell_of_row _ _ 6 _ _ _ e2, cell_of_row _ _ 7 _ _ _ e2, cell_of_row _ _ 0 _ _ _ e3, cell_of_row _ _ 1 _ _ _ e3, cell_of_row _ _ 2 _ _ _ e3, cell_of_row _ _ 3 _ _ _ e3, cell_of_row _ _ 4 _ _ _ e3, cell_of_row _ _ 5 _ _ _ e3, cell_of_row _ _ 6 _ _ _ e3, cell_of_row _ _ 7 _ _ _ e3, cell_of_row _ _ 0 _ _ _ e4, cell_of_row _ _ 1 _ _ _ e4, cell_of_row _ _ 2 _ _ _ e4, cell_of_row _ _ 3 _ _ _ e4, cell_of_row _ _ 4 _ _ _ e4, cell_of_row _ _ 5 _ _ _ e4, cell_of_row _ _ 6 _ _ _ e4, cell_of_row _ _ 7 _ _ _ e4⟩)))
  refine region_tail 29 (fun X => X.cell? ⟨pe, 0, none⟩ = some (.slice A9 3 c9) ∧ X.cell? ⟨pe, 1, none⟩ = some (.slice B9 3 d9) ∧ X.cell? ⟨ga, 0, none⟩ = some (.int .u8 1) ∧ X.cell? ⟨ga, 1, none⟩ = some (.int .u8 0) ∧ X.cell? ⟨ga, 2, none⟩ = some (.int .u8 0) ∧ X.cell? ⟨ga, 3, none⟩ = some (.int .u8 0) ∧ X.cell? ⟨ga, 4, none⟩ = some (.int .u8 0) ∧ X.cell? ⟨ga, 5, none⟩ = some (.int .u8 0) ∧ X.cell? ⟨ga, 6, none⟩ = some (.int .u8 0) ∧ X.cell? ⟨ga, 7, none⟩ = some (.int .u8 0) ∧ X.cell? ⟨gb, 0, none⟩ = some (.int .u8 2) ∧ X.cell? ⟨gb, 1, none⟩ = some (.int .u8 0) ∧ X.cell? ⟨gb, 2, none⟩ = some (.int .u8 0) ∧ X.cell? ⟨gb, 3, none⟩ = some (.int .u8 0) ∧ X.cell? ⟨gb, 4, none⟩ = some (.int .u8 0) ∧ X.cell? ⟨gb, 5, none⟩ = some (.int .u8 0) ∧ X.cell? ⟨gb, 6, none⟩ = some (.int .u8 0) ∧ X.cell? ⟨gb, 7, none⟩ = some (.int .u8 0) ∧ X.cell? ⟨gc, 0, none⟩ = some (.int .u8 3) ∧ X.cell? ⟨gc, 1, none⟩ = some (.int .u8 0) ∧ X.cell? ⟨gc, 2, none⟩ = some (.int .u8 0) ∧ X.cell? ⟨gc, 3, none⟩ = some (.int .u8 0) ∧ X.cell? ⟨gc, 4, none⟩ = some (.int .u8 0) ∧ X.cell? ⟨gc, 5, none⟩ = some (.int .u8 0) ∧ X.cell? ⟨gc, 6, none⟩ = some (.int .u8 0) ∧ X.cell? ⟨gc, 7, none⟩ = some (.int .u8 0) ∧ X.cell? ⟨go_, 0, none⟩ = some (.int .u8 0) ∧ X.cell? ⟨go_, 1, none⟩ = some (.int .u8 0) ∧ X.cell? ⟨go_, 2, none⟩ = some (.int .u8 0) ∧ X.cell? ⟨go_, 3, none⟩ = some (.int .u8 0) ∧ X.cell? ⟨go_, 4, none⟩ = some (.int .u8 0) ∧ X.cell? ⟨go_, 5, none⟩ = some (.int .u8 0) ∧ X.cell? ⟨go_, 6, none⟩ = some (.int .u8 0) ∧ X.cell? ⟨go_, 7, none⟩ = some (.int .u8 0)) (by kernel_rfl) ?_
  obtain ⟨X0, hX0⟩ : ∃ X, W8.drew = X := ⟨_, rfl⟩
  have hB0 : Below W8.heap.size W8 X0 := by rw [← hX0]; exact (Below.refl W8.heap.size W8).drew
  have hHeld := HK7.out X0 hB0
  rw [hX0]
  clear hX0
  refine' wpAnyT_take (i := 0) (oi := ?oir1) (v := ?vr1) ?hir1 (by kernel_rfl) (by kernel_rfl) ?hqr1 ?hyr1 hHeld ?restr1
  case hir1 => (simp only [List.getElem?_toArray, List.getElem?_cons_zero]; rfl)
  case hqr1 => exact fun _ _ _ h => HQP _ _ _ _ _ h
  case hyr1 => (refine Or.inl ⟨by rfl, ?_⟩; intro w' hSw; (try dsimp only at hSw); go_simp; try with_reducible rfl)
  (try simp only [Act.put, List.setIfInBounds_toArray, List.set_cons_zero, List.set_cons_succ])
  refine' wpAnyT_take (i := 3) (oi := ?oir2) (v := ?vr2) ?hir2 (by kernel_rfl) (by kernel_rfl) ?hqr2 ?hyr2 hHeld ?restr2
  case hir2 => (simp only [List.getElem?_toArray, List.getElem?_cons_zero, List.getElem?_cons_succ]; rfl)
  case hqr2 => exact fun _ _ _ h => HQP _ _ _ _ _ h
  case hyr2 => (refine Or.inl ⟨by rfl, ?_⟩; intro w' hSw; (try dsimp only at hSw); go_simp; try with_reducible rfl)
  (try simp only [Act.put, List.setIfInBounds_toArray, List.set_cons_zero, List.set_cons_succ])
  refine' wpAnyT_take (i := 4) (oi := ?oir3) (v := ?vr3) ?hir3 (by kernel_rfl) (by kernel_rfl) ?hqr3 ?hyr3 hHeld ?restr3
  case hir3 => (simp only [List.getElem?_toArray, List.getElem?_cons_zero, List.getElem?_cons_succ]; rfl)
  case hqr3 => exact fun _ _ _ h => HQP _ _ _ _ _ h
  case hyr3 => (refine Or.inl ⟨by rfl, ?_⟩; intro w' hSw; (try dsimp only at hSw); go_simp; try with_reducible rfl)
  (try simp only [Act.put, List.setIfInBounds_toArray, List.set_cons_zero, List.set_cons_succ])
  refine' wpAnyT_take (i := 5) (oi := ?oir4) (v := ?vr4) ?hir4 (by kernel_rfl) (by kernel_rfl) ?hqr4 ?hyr4 hHeld ?restr4
  case hir4 => (simp only [List.getElem?_toArray, List.getElem?_cons_zero, List.getElem?_cons_succ]; rfl)
  case hqr4 => exact fun _ _ _ h => HQP _ _ _ _ _ h
  case hyr4 => (refine Or.inl ⟨by rfl, ?_⟩; intro w' hSw; (try dsimp only at hSw); go_simp; try with_reducible rfl)
  (try simp only [Act.put, List.setIfInBounds_toArray, List.set_cons_zero, List.set_cons_succ])
  refine wpAnyT_all (l := [1, 6]) (by kernel_rfl) (by decide) ?_
  intro i hi
  simp only [List.mem_cons, List.not_mem_nil, or_false] at hi
  rcases hi with rfl | rfl
  · refine ⟨_, by (simp only [List.getElem?_toArray, List.getElem?_cons_zero, List.getElem?_cons_succ]; rfl), fun K hK => ?_⟩
    go_simp
    obtain ⟨Yr73, hY⟩ : ∃ X, X0.alloc (.cells #[.int .i64 1, .int .i64 1] 3) = X := ⟨_, rfl⟩
    obtain ⟨k1, hh⟩ : ∃ h, X0.heap.size = h := ⟨_, rfl⟩
    have hbb73 : Below X0.heap.size X0 Yr73 := by rw [← hY]; exact al1 _ _
    have HZk1 : Hid (Yr73.heap[k1]? = some (.cells #[.int .i64 1, .int .i64 1] 3)) := hid (by rw [← hY, ← hh]; exact heap_alloc_new _ _)
    rw [hY, hh]
    clear hY hh
    clear hHeld
    have hHeld := HK7.out Yr73 (below_both hB0 hbb73)
    refine hK.out _ _ (fun _ => hHeld) ?_
    clear hK K
    (try simp only [Act.put, List.setIfInBounds_toArray, List.set_cons_zero, List.set_cons_succ])
    refine wpAnyT_all (l := [2, 6]) (by kernel_rfl) (by decide) ?_
    intro i hi
    simp only [List.mem_cons, List.not_mem_nil, or_false] at hi
    rcases hi with rfl | rfl
    · refine ⟨_, by (simp only [List.getElem?_toArray, List.getElem?_cons_zero, List.getElem?_cons_succ]; rfl), fun K hK => ?_⟩
      go_simp
      go_at_call 41
      refine (aw_crash (l := [sA, sB, zs]) (HEE.out Yr73 (below_both HB68.out (below_both hB0 hbb73))).2 (ints_lit (l := [1, 1]) r11 (by decide) (((Below.refl _ _).block _ (box_lt HZk1.out)).trans HZk1.out)) (by decide) aw_c1).mono ?_
      rintro e Yr74 ⟨A74, c74, rfl, hs74, hbb74⟩
      have HS74 := hid hs74
      clear hs74
      clear hHeld
      have hHeld := HK7.out Yr74 (below_both hB0 (below_both hbb73 hbb74))
      refine hK.out _ _ (fun _ => hHeld) ?_
      clear hK K
      (try simp only [Act.put, List.setIfInBounds_toArray, List.set_cons_zero, List.set_cons_succ])
      refine' wpAnyT_one (i := 6) (o := ?oir5) (by kernel_rfl) ?hir5 (fun K hK => ?str5)
      case hir5 => (simp only [List.getElem?_toArray, List.getElem?_cons_zero, List.getElem?_cons_succ]; rfl)
      go_simp
      obtain ⟨Yr78, hY⟩ : ∃ X, Yr74.alloc (.cells #[.int .u8 1, .int .u8 0, .int .u8 0, .int .u8 0, .int .u8 0, .int .u8 0, .int .u8 0, .int .u8 0, .int .u8 2, .int .u8 0, .int .u8 0, .int .u8 0, .int .u8 0, .int .u8 0, .int .u8 0, .int .u8 0, .int .u8 0, .int .u8 0, .int .u8 0, .int .u8 0, .int .u8 0, .int .u8 0, .int .u8 0, .int .u8 0] 73) = X := ⟨_, rfl⟩
      obtain ⟨k2, hh⟩ : ∃ h, Yr74.heap.size = h := ⟨_, rfl⟩
      have hbb78 : Below Yr74.heap.size Yr74 Yr78 := by rw [← hY]; exact al1 _ _
      have HZk2 : Hid (Yr78.heap[k2]? = some (.cells #[.int .u8 1, .int .u8 0, .int .u8 0, .int .u8 0, .int .u8 0, .int .u8 0, .int .u8 0, .int .u8 0, .int .u8 2, .int .u8 0, .int .u8 0, .int .u8 0, .int .u8 0, .int .u8 0, .int .u8 0, .int .u8 0, .int .u8 0, .int .u8 0, .int .u8 0, .int .u8 0, .int .u8 0, .int .u8 0, .int .u8 0, .int .u8 0] 73)) := hid (by rw [← hY, ← hh]; exact heap_alloc_new _ _)
      rw [hY, hh]
      clear hY hh
      clear hHeld
      have hHeld := HK7.out Yr78 (below_both hB0 (below_both (below_both hbb73 hbb74) hbb78))
      refine hK.out _ _ (fun _ => hHeld) ?_
      clear hK K
      (try simp only [Act.put, List.setIfInBounds_toArray, List.set_cons_zero, List.set_cons_succ])
      refine' wpAnyT_one (i := 7) (o := ?oir6) (by kernel_rfl) ?hir6 (fun K hK => ?str6)
      case hir6 => (simp only [List.getElem?_toArray, List.getElem?_cons_zero, List.getElem?_cons_succ]; rfl)
      go_simp
      go_at_call 19
      refine (aw_same (HS74.out.below hbb78) (sec_lit (l := [sA, sB, zs]) (secABC (by decide)) (by decide) (((Below.refl _ _).block _ (box_lt HZk2.out)).trans HZk2.out))).mono ?_
      rintro e Yr79 ⟨rfl, hbb79⟩
      clear hHeld
      have hHeld := HK7.out Yr79 (below_both hB0 (below_both (below_both (below_both hbb73 hbb74) hbb78) hbb79))
      refine hK.out _ _ (fun _ => hHeld) ?_
      clear hK K
      (try simp only [Act.put, List.setIfInBounds_toArray, List.set_cons_zero, List.set_cons_succ])
      refine' wpAnyT_take (i := 8) (oi := ?oir7) (v := ?vr7) ?hir7 (by kernel_rfl) (by kernel_rfl) ?hqr7 ?hyr7 hHeld ?restr7
      case hir7 => (simp only [List.getElem?_toArray, List.getElem?_cons_zero, List.getElem?_cons_succ]; rfl)
      case hqr7 => exact fun _ _ _ h => HQP _ _ _ _ _ h
      case hyr7 => (refine Or.inl ⟨by rfl, ?_⟩; intro w' hSw; (try dsimp only at hSw); go_simp; try with_reducible rfl)
      (try simp only [Act.put, List.setIfInBounds_toArray, List.set_cons_zero, List.set_cons_succ])
      refine' wpAnyT_take (i := 9) (oi := ?oir8) (v := ?vr8) ?hir8 (by kernel_rfl) (by kernel_rfl) ?hqr8 ?hyr8 hHeld ?restr8
      case hir8 => (simp only [List.getElem?_toArray, List.getElem?_cons_zero, List.getElem?_cons_succ]; rfl)
      case hqr8 => exact fun _ _ _ h => HQP _ _ _ _ _ h
      case hyr8 => (refine Or.inl ⟨by rfl, ?_⟩; intro w' hSw; (try dsimp only at hSw); go_simp; try with_reducible rfl)
      (try simp only [Act.put, List.setIfInBounds_toArray, List.set_cons_zero, List.set_cons_succ])
      refine' wpAnyT_take (i := 10) (oi := ?oir9) (v := ?vr9) ?hir9 (by kernel_rfl) (by kernel_rfl) ?hqr9 ?hyr9 hHeld ?restr9
      case hir9 => (simp only [List.getElem?_toArray, List.getElem?_cons_zero, List.getElem?_cons_succ]; rfl)
      case hqr9 => exact fun _ _ _ h => HQP _ _ _ _ _ h
      case hyr9 => (refine Or.inl ⟨by rfl, ?_⟩; intro w' hSw; (try dsimp only at hSw); go_simp; try with_reducible rfl)
      (try simp only [Act.put, List.setIfInBounds_toArray, List.set_cons_zero, List.set_cons_succ])
      refine' wpAnyT_take (i := 13) (oi := ?oir10) (v := ?vr10) ?hir10 (by kernel_rfl) (by kernel_rfl) ?hqr10 ?hyr10 hHeld ?restr10
      case hir10 => (simp only [List.getElem?_toArray, List.getElem?_cons_zero, List.getElem?_cons_succ]; rfl)
      case hqr10 => exact fun _ _ _ h => HQP _ _ _ _ _ h
      case hyr10 => (refine Or.inl ⟨by rfl, ?_⟩; intro w' hSw; (try dsimp only at hSw); go_simp; try with_reducible rfl)
      (try simp only [Act.put, List.setIfInBounds_toArray, List.set_cons_zero, List.set_cons_succ])
      refine' wpAnyT_take (i := 14) (oi := ?oir11) (v := ?vr11) ?hir11 (by kernel_rfl) (by kernel_rfl) ?hqr11 ?hyr11 hHeld ?restr11
      case hir11 => (simp only [List.getElem?_toArray, List.getElem?_cons_zero, List.getElem?_cons_succ]; rfl)
      case hqr11 => exact fun _ _ _ h => HQP _ _ _ _ _ h
      case hyr11 => (refine Or.inl ⟨by rfl, ?_⟩; intro w' hSw; (try dsimp only at hSw); go_simp; try with_reducible rfl)
      (try simp only [Act.put, List.setIfInBounds_toArray, List.set_cons_zero, List.set_cons_succ])
      refine' wpAnyT_take (i := 15) (oi := ?oir12) (v := ?vr12) ?hir12 (by kernel_rfl) (by kernel_rfl) ?hqr12 ?hyr12 hHeld ?restr12
      case hir12 => (simp only [List.getElem?_toArray, List.getElem?_cons_zero, List.getElem?_cons_succ]; rfl)
      case hqr12 => exact fun _ _ _ h => HQP _ _ _ _ _ h
      case hyr12 => (refine Or.inl ⟨by rfl, ?_⟩; intro w' hSw; (try dsimp only at hSw); go_simp; try with_reducible rfl)
      (try simp only [Act.put, List.setIfInBounds_toArray, List.set_cons_zero, List.set_cons_succ])
      refine wpAnyT_all (l := [11, 16]) (by kernel_rfl) (by decide) ?_
      intro i hi
      simp only [List.mem_cons, List.not_mem_nil, or_false] at hi
      rcases hi with rfl | rfl
      · refine ⟨_, by (simp only [List.getElem?_toArray, List.getElem?_cons_zero, List.getElem?_cons_succ]; rfl), fun K hK => ?_⟩
        go_simp
        obtain ⟨Yr83, hY⟩ : ∃ X, Yr79.alloc (.cells #[.int .i64 4, .int .i64 5] 3) = X := ⟨_, rfl⟩
        obtain ⟨k3, hh⟩ : ∃ h, Yr79.heap.size = h := ⟨_, rfl⟩
        have hbb83 : Below Yr79.heap.size Yr79 Yr83 := by rw [← hY]; exact al1 _ _
        have HZk3 : Hid (Yr83.heap[k3]? = some (.cells #[.int .i64 4, .int .i64 5] 3)) := hid (by rw [← hY, ← hh]; exact heap_alloc_new _ _)
        rw [hY, hh]
        clear hY hh
        clear hHeld
        have hHeld := HK7.out Yr83 (below_both hB0 (below_both (below_both (below_both (below_both hbb73 hbb74) hbb78) hbb79) hbb83))
        refine hK.out _ _ (fun _ => hHeld) ?_
        clear hK K
        (try simp only [Act.put, List.setIfInBounds_toArray, List.set_cons_zero, List.set_cons_succ])
        refine wpAnyT_all (l := [12, 16]) (by kernel_rfl) (by decide) ?_
        intro i hi
        simp only [List.mem_cons, List.not_mem_nil, or_false] at hi
        rcases hi with rfl | rfl
        · refine ⟨_, by (simp only [List.getElem?_toArray, List.getElem?_cons_zero, List.getElem?_cons_succ]; rfl), fun K hK => ?_⟩
          go_simp
          go_at_call 41
          refine (aw_crash (l := [zs, sC, zs]) (HEE.out Yr83 (below_both HB68.out (below_both hB0 (below_both (below_both (below_both (below_both hbb73 hbb74) hbb78) hbb79) hbb83)))).2 (ints_lit (l := [4, 5]) r45 (by decide) (((Below.refl _ _).block _ (box_lt HZk3.out)).trans HZk3.out)) (by decide) aw_c2).mono ?_
          rintro e Yr84 ⟨A84, c84, rfl, hs84, hbb84⟩
          have HS84 := hid hs84
          clear hs84
          clear hHeld
          have hHeld := HK7.out Yr84 (below_both hB0 (below_both (below_both (below_both (below_both (below_both hbb73 hbb74) hbb78) hbb79) hbb83) hbb84))
          refine hK.out _ _ (fun _ => hHeld) ?_
          clear hK K
          (try simp only [Act.put, List.setIfInBounds_toArray, List.set_cons_zero, List.set_cons_succ])
          refine' wpAnyT_one (i := 16) (o := ?oir13) (by kernel_rfl) ?hir13 (fun K hK => ?str13)
          case hir13 => (simp only [List.getElem?_toArray, List.getElem?_cons_zero, List.getElem?_cons_succ]; rfl)
          go_simp
          obtain ⟨Yr88, hY⟩ : ∃ X, Yr84.alloc (.cells #[.int .u8 0, .int .u8 0, .int .u8 0, .int .u8 0, .int .u8 0, .int .u8 0, .int .u8 0, .int .u8 0, .int .u8 3, .int .u8 0, .int .u8 0, .int .u8 0, .int .u8 0, .int .u8 0, .int .u8 0, .int .u8 0, .int .u8 0, .int .u8 0, .int .u8 0, .int .u8 0, .int .u8 0, .int .u8 0, .int .u8 0, .int .u8 0] 73) = X := ⟨_, rfl⟩
          obtain ⟨k4, hh⟩ : ∃ h, Yr84.heap.size = h := ⟨_, rfl⟩
          have hbb88 : Below Yr84.heap.size Yr84 Yr88 := by rw [← hY]; exact al1 _ _
          have HZk4 : Hid (Yr88.heap[k4]? = some (.cells #[.int .u8 0, .int .u8 0, .int .u8 0, .int .u8 0, .int .u8 0, .int .u8 0, .int .u8 0, .int .u8 0, .int .u8 3, .int .u8 0, .int .u8 0, .int .u8 0, .int .u8 0, .int .u8 0, .int .u8 0, .int .u8 0, .int .u8 0, .int .u8 0, .int .u8 0, .int .u8 0, .int .u8 0, .int .u8 0, .int .u8 0, .int .u8 0] 73)) := hid (by rw [← hY, ← hh]; exact heap_alloc_new _ _)
          rw [hY, hh]
          clear hY hh
          clear hHeld
          have hHeld := HK7.out Yr88 (below_both hB0 (below_both (below_both (below_both (below_both (below_both (below_both hbb73 hbb74) hbb78) hbb79) hbb83) hbb84) hbb88))
          refine hK.out _ _ (fun _ => hHeld) ?_
          clear hK K
          (try simp only [Act.put, List.setIfInBounds_toArray, List.set_cons_zero, List.set_cons_succ])
          refine' wpAnyT_one (i := 17) (o := ?oir14) (by kernel_rfl) ?hir14 (fun K hK => ?str14)
          case hir14 => (simp only [List.getElem?_toArray, List.getElem?_cons_zero, List.getElem?_cons_succ]; rfl)
          go_simp
          go_at_call 19
          refine (aw_same (HS84.out.below hbb88) (sec_lit (l := [zs, sC, zs]) (secABC (by decide)) (by decide) (((Below.refl _ _).block _ (box_lt HZk4.out)).trans HZk4.out))).mono ?_
          rintro e Yr89 ⟨rfl, hbb89⟩
          clear hHeld
          have hHeld := HK7.out Yr89 (below_both hB0 (below_both (below_both (below_both (below_both (below_both (below_both (below_both hbb73 hbb74) hbb78) hbb79) hbb83) hbb84) hbb88) hbb89))
          refine hK.out _ _ (fun _ => hHeld) ?_
          clear hK K
          (try simp only [Act.put, List.setIfInBounds_toArray, List.set_cons_zero, List.set_cons_succ])
          refine' wpAnyT_take (i := 18) (oi := ?oir15) (v := ?vr15) ?hir15 (by kernel_rfl) (by kernel_rfl) ?hqr15 ?hyr15 hHeld ?restr15
          case hir15 => (simp only [List.getElem?_toArray, List.getElem?_cons_zero, List.getElem?_cons_succ]; rfl)
          case hqr15 => exact fun _ _ _ h => HQP _ _ _ _ _ h
          case hyr15 => (refine Or.inl ⟨by rfl, ?_⟩; intro w' hSw; (try dsimp only at hSw); go_simp; try with_reducible rfl)
          (try simp only [Act.put, List.setIfInBounds_toArray, List.set_cons_zero, List.set_cons_succ])
          refine' wpAnyT_take (i := 19) (oi := ?oir16) (v := ?vr16) ?hir16 (by kernel_rfl) (by kernel_rfl) ?hqr16 ?hyr16 hHeld ?restr16
          case hir16 => (simp only [List.getElem?_toArray, List.getElem?_cons_zero, List.getElem?_cons_succ]; rfl)
          case hqr16 => exact fun _ _ _ h => HQP _ _ _ _ _ h
          case hyr16 => (refine Or.inl ⟨by rfl, ?_⟩; intro w' hSw; (try dsimp only at hSw); go_simp; try with_reducible rfl)
          (try simp only [Act.put, List.setIfInBounds_toArray, List.set_cons_zero, List.set_cons_succ])
          refine' wpAnyT_take (i := 20) (oi := ?oir17) (v := ?vr17) ?hir17 (by kernel_rfl) (by kernel_rfl) ?hqr17 ?hyr17 hHeld ?restr17
          case hir17 => (simp only [List.getElem?_toArray, List.getElem?_cons_zero, List.getElem?_cons_succ]; rfl)
          case hqr17 => exact fun _ _ _ h => HQP _ _ _ _ _ h
          case hyr17 => (refine Or.inl ⟨by rfl, ?_⟩; intro w' hSw; (try dsimp only at hSw); go_simp; try with_reducible rfl)
          (try simp only [Act.put, List.setIfInBounds_toArray, List.set_cons_zero, List.set_cons_succ])
          refine' wpAnyT_take (i := 21) (oi := ?oir18) (v := ?vr18) ?hir18 (by kernel_rfl) (by kernel_rfl) ?hqr18 ?hyr18 hHeld ?restr18
          case hir18 => (simp only [List.getElem?_toArray, List.getElem?_cons_zero, List.getElem?_cons_succ]; rfl)
          case hqr18 => exact fun _ _ _ h => HQP _ _ _ _ _ h
          case hyr18 => (refine Or.inl ⟨by rfl, ?_⟩; intro w' hSw; (try dsimp only at hSw); go_simp; try with_reducible rfl)
          (try simp only [Act.put, List.setIfInBounds_toArray, List.set_cons_zero, List.set_cons_succ])
          refine' wpAnyT_take (i := 23) (oi := ?oir19) (v := ?vr19) ?hir19 (by kernel_rfl) (by kernel_rfl) ?hqr19 ?hyr19 hHeld ?restr19
          case hir19 => (simp only [List.getElem?_toArray, List.getElem?_cons_zero, List.getElem?_cons_succ]; rfl)
          case hqr19 => exact fun _ _ _ h => HQP _ _ _ _ _ h
          case hyr19 => (refine Or.inl ⟨by rfl, ?_⟩; intro w' hSw; (try dsimp only at hSw); go_simp; try with_reducible rfl)
          (try simp only [Act.put, List.setIfInBounds_toArray, List.set_cons_zero, List.set_cons_succ])
          refine' wpAnyT_take (i := 24) (oi := ?oir20) (v := ?vr20) ?hir20 (by kernel_rfl) (by kernel_rfl) ?hqr20 ?hyr20 hHeld ?restr20
          case hir20 => (simp only [List.getElem?_toArray, List.getElem?_cons_zero, List.getElem?_cons_succ]; rfl)
          case hqr20 => exact fun _ _ _ h => HQP _ _ _ _ _ h
          case hyr20 => (refine Or.inl ⟨by rfl, ?_⟩; intro w' hSw; (try dsimp only at hSw); go_simp; try with_reducible rfl)
          (try simp only [Act.put, List.setIfInBounds_toArray, List.set_cons_zero, List.set_cons_succ])
          refine' wpAnyT_take (i := 25) (oi := ?oir21) (v := ?vr21) ?hir21 (by kernel_rfl) (by kernel_rfl) ?hqr21 ?hyr21 hHeld ?restr21
          case hir21 => (simp only [List.getElem?_toArray, List.getElem?_cons_zero, List.getElem?_cons_succ]; rfl)
          case hqr21 => exact fun _ _ _ h => HQP _ _ _ _ _ h
          case hyr21 => (refine Or.inl ⟨by rfl, ?_⟩; intro w' hSw; (try dsimp only at hSw); go_simp; try with_reducible rfl)
          (try simp only [Act.put, List.setIfInBounds_toArray, List.set_cons_zero, List.set_cons_succ])
          refine wpAnyT_all (l := [22, 26]) (by kernel_rfl) (by decide) ?_
          intro i hi
          simp only [List.mem_cons, List.not_mem_nil, or_false] at hi
          rcases hi with rfl | rfl
          · refine ⟨_, by (simp only [List.getElem?_toArray, List.getElem?_cons_zero, List.getElem?_cons_succ]; rfl), fun K hK => ?_⟩
            go_simp
            go_at_call 41
            refine (aw_crash (l := [zs, zs, zs]) (HEE.out Yr89 (below_both HB68.out (below_both hB0 (below_both (below_both (below_both (below_both (below_both (below_both (below_both hbb73 hbb74) hbb78) hbb79) hbb83) hbb84) hbb88) hbb89)))).2 (ints_none0 _) (by decide) aw_c3).mono ?_
            rintro e Yr94 ⟨A94, c94, rfl, hs94, hbb94⟩
            have HS94 := hid hs94
            clear hs94
            clear hHeld
            have hHeld := HK7.out Yr94 (below_both hB0 (below_both (below_both (below_both (below_both (below_both (below_both (below_both (below_both hbb73 hbb74) hbb78) hbb79) hbb83) hbb84) hbb88) hbb89) hbb94))
            refine hK.out _ _ (fun _ => hHeld) ?_
            clear hK K
            (try simp only [Act.put, List.setIfInBounds_toArray, List.set_cons_zero, List.set_cons_succ])
            refine' wpAnyT_one (i := 26) (o := ?oir22) (by kernel_rfl) ?hir22 (fun K hK => ?str22)
            case hir22 => (simp only [List.getElem?_toArray, List.getElem?_cons_zero, List.getElem?_cons_succ]; rfl)
            go_simp
            obtain ⟨Yr98, hY⟩ : ∃ X, Yr94.alloc (.cells #[.int .u8 0, .int .u8 0, .int .u8 0, .int .u8 0, .int .u8 0, .int .u8 0, .int .u8 0, .int .u8 0, .int .u8 0, .int .u8 0, .int .u8 0, .int .u8 0, .int .u8 0, .int .u8 0, .int .u8 0, .int .u8 0, .int .u8 0, .int .u8 0, .int .u8 0, .int .u8 0, .int .u8 0, .int .u8 0, .int .u8 0, .int .u8 0] 73) = X := ⟨_, rfl⟩
            obtain ⟨k5, hh⟩ : ∃ h, Yr94.heap.size = h := ⟨_, rfl⟩
            have hbb98 : Below Yr94.heap.size Yr94 Yr98 := by rw [← hY]; exact al1 _ _
            have HZk5 : Hid (Yr98.heap[k5]? = some (.cells #[.int .u8 0, .int .u8 0, .int .u8 0, .int .u8 0, .int .u8 0, .int .u8 0, .int .u8 0, .int .u8 0, .int .u8 0, .int .u8 0, .int .u8 0, .int .u8 0, .int .u8 0, .int .u8 0, .int .u8 0, .int .u8 0, .int .u8 0, .int .u8 0, .int .u8 0, .int .u8 0, .int .u8 0, .int .u8 0, .int .u8 0, .int .u8 0] 73)) := hid (by rw [← hY, ← hh]; exact heap_alloc_new _ _)
            rw [hY, hh]
            clear hY hh
            clear hHeld
            have hHeld := HK7.out Yr98 (below_both hB0 (below_both (below_both (below_both (below_both (below_both (below_both (below_both (below_both (below_both hbb73 hbb74) hbb78) hbb79) hbb83) hbb84) hbb88) hbb89) hbb94) hbb98))
            refine hK.out _ _ (fun _ => hHeld) ?_
            clear hK K
            (try simp only [Act.put, List.setIfInBounds_toArray, List.set_cons_zero, List.set_cons_succ])
            refine' wpAnyT_one (i := 27) (o := ?oir23) (by kernel_rfl) ?hir23 (fun K hK => ?str23)
            case hir23 => (simp only [List.getElem?_toArray, List.getElem?_cons_zero, List.getElem?_cons_succ]; rfl)
            go_simp
            go_at_call 19
            refine (aw_same (HS94.out.below hbb98) (sec_lit (l := [zs, zs, zs]) (secABC (by decide)) (by decide) (((Below.refl _ _).block _ (box_lt HZk5.out)).trans HZk5.out))).mono ?_
            rintro e Yr99 ⟨rfl, hbb99⟩
            clear hHeld
            have hHeld := HK7.out Yr99 (below_both hB0 (below_both (below_both (below_both (below_both (below_both (below_both (below_both (below_both (below_both (below_both hbb73 hbb74) hbb78) hbb79) hbb83) hbb84) hbb88) hbb89) hbb94) hbb98) hbb99))
            refine hK.out _ _ (fun _ => hHeld) ?_
            clear hK K
            (try simp only [Act.put, List.setIfInBounds_toArray, List.set_cons_zero, List.set_cons_succ])
            refine' wpAnyT_take (i := 28) (oi := ?oir24) (v := ?vr24) ?hir24 (by kernel_rfl) (by kernel_rfl) ?hqr24 ?hyr24 hHeld ?restr24
            case hir24 => (simp only [List.getElem?_toArray, List.getElem?_cons_zero, List.getElem?_cons_succ]; rfl)
            case hqr24 => exact fun _ _ _ h => HQP _ _ _ _ _ h
            case hyr24 => (refine Or.inl ⟨by rfl, ?_⟩; intro w' hSw; (try dsimp only at hSw); go_simp; try with_reducible rfl)
            (try simp only [Act.put, List.setIfInBounds_toArray, List.set_cons_zero, List.set_cons_succ])
            refine' wpAnyT_one (i := 29) (o := ?oir25) (by kernel_rfl) ?hir25 (fun K hK => ?str25)
            case hir25 => (simp only [List.getElem?_toArray, List.getElem?_cons_zero, List.getElem?_cons_succ]; rfl)
            go_simp
            refine hK.out _ _ (fun h => absurd h (by decide)) ?_
            clear hK K
            (try simp only [Act.put, List.setIfInBounds_toArray, List.set_cons_zero, List.set_cons_succ])
            refine wpAnyT_done (by kernel_rfl) ?_ _
            exact HC.out Yr99 k1 k2 k3 k4 k5 A74 c74 A84 c84 A94 c94 (below_both hB0 (below_both (below_both (below_both (below_both (below_both (below_both (below_both (below_both (below_both (below_both hbb73 hbb74) hbb78) hbb79) hbb83) hbb84) hbb88) hbb89) hbb94) hbb98) hbb99))
          · refine ⟨_, by (simp only [List.getElem?_toArray, List.getElem?_cons_zero, List.getElem?_cons_succ]; rfl), fun K hK => ?_⟩
            go_simp
            obtain ⟨Yr98, hY⟩ : ∃ X, Yr89.alloc (.cells #[.int .u8 0, .int .u8 0, .int .u8 0, .int .u8 0, .int .u8 0, .int .u8 0, .int .u8 0, .int .u8 0, .int .u8 0, .int .u8 0, .int .u8 0, .int .u8 0, .int .u8 0, .int .u8 0, .int .u8 0, .int .u8 0, .int .u8 0, .int .u8 0, .int .u8 0, .int .u8 0, .int .u8 0, .int .u8 0, .int .u8 0, .int .u8 0] 73) = X := ⟨_, rfl⟩
            obtain ⟨k5, hh⟩ : ∃ h, Yr89.heap.size = h := ⟨_, rfl⟩
            have hbb98 : Below Yr89.heap.size Yr89 Yr98 := by rw [← hY]; exact al1 _ _
            have HZk5 : Hid (Yr98.heap[k5]? = some (.cells #[.int .u8 0, .int .u8 0, .int .u8 0, .int .u8 0, .int .u8 0, .int .u8 0, .int .u8 0, .int .u8 0, .int .u8 0, .int .u8 0, .int .u8 0, .int .u8 0, .int .u8 0, .int .u8 0, .int .u8 0, .int .u8 0, .int .u8 0, .int .u8 0, .int .u8 0, .int .u8 0, .int .u8 0, .int .u8 0, .int .u8 0, .int .u8 0] 73)) := hid (by rw [← hY, ← hh]; exact heap_alloc_new _ _)
            rw [hY, hh]
            clear hY hh
            clear hHeld
            have hHeld := HK7.out Yr98 (below_both hB0 (below_both (below_both (below_both (below_both (below_both (below_both (below_both (below_both hbb73 hbb74) hbb78) hbb79) hbb83) hbb84) hbb88) hbb89) hbb98))
            refine hK.out _ _ (fun _ => hHeld) ?_
            clear hK K
            (try simp only [Act.put, List.setIfInBounds_toArray, List.set_cons_zero, List.set_cons_succ])
            refine' wpAnyT_one (i := 22) (o := ?oir26) (by kernel_rfl) ?hir26 (fun K hK => ?str26)
            case hir26 => (simp only [List.getElem?_toArray, List.getElem?_cons_zero, List.getElem?_cons_succ]; rfl)
            go_simp
            go_at_call 41
            refine (aw_crash (l := [zs, zs, zs]) (HEE.out Yr98 (below_both HB68.out (below_both hB0 (below_both (below_both (below_both (below_both (below_both (below_both (below_both (below_both hbb73 hbb74) hbb78) hbb79) hbb83) hbb84) hbb88) hbb89) hbb98)))).2 (ints_none0 _) (by decide) aw_c3).mono ?_
            rintro e Yr94 ⟨A94, c94, rfl, hs94, hbb94⟩
            have HS94 := hid hs94
            clear hs94
            clear hHeld
            have hHeld := HK7.out Yr94 (below_both hB0 (below_both (below_both (below_both (below_both (below_both (below_both (below_both (below_both (below_both hbb73 hbb74) hbb78) hbb79) hbb83) hbb84) hbb88) hbb89) hbb98) hbb94))
            refine hK.out _ _ (fun _ => hHeld) ?_
            clear hK K
            (try simp only [Act.put, List.setIfInBounds_toArray, List.set_cons_zero, List.set_cons_succ])
            refine' wpAnyT_one (i := 27) (o := ?oir27) (by kernel_rfl) ?hir27 (fun K hK => ?str27)
            case hir27 => (simp only [List.getElem?_toArray, List.getElem?_cons_zero, List.getElem?_cons_succ]; rfl)
            go_simp
            go_at_call 19
            refine (aw_same (HS94.out.below (Below.refl _ _)) (sec_lit (l := [zs, zs, zs]) (secABC (by decide)) (by decide) ((hbb94.block _ (box_lt HZk5.out)).trans HZk5.out))).mono ?_
            rintro e Yr99 ⟨rfl, hbb99⟩
            clear hHeld
            have hHeld := HK7.out Yr99 (below_both hB0 (below_both (below_both (below_both (below_both (below_both (below_both (below_both (below_both (below_both (below_both hbb73 hbb74) hbb78) hbb79) hbb83) hbb84) hbb88) hbb89) hbb98) hbb94) hbb99))
            refine hK.out _ _ (fun _ => hHeld) ?_
            clear hK K
            (try simp only [Act.put, List.setIfInBounds_toArray, List.set_cons_zero, List.set_cons_succ])
            refine' wpAnyT_take (i := 28) (oi := ?oir28) (v := ?vr28) ?hir28 (by kernel_rfl) (by kernel_rfl) ?hqr28 ?hyr28 hHeld ?restr28
            case hir28 => (simp only [List.getElem?_toArray, List.getElem?_cons_zero, List.getElem?_cons_succ]; rfl)
            case hqr28 => exact fun _ _ _ h => HQP _ _ _ _ _ h
            case hyr28 => (refine Or.inl ⟨by rfl, ?_⟩; intro w' hSw; (try dsimp only at hSw); go_simp; try with_reducible rfl)
            (try simp only [Act.put, List.setIfInBounds_toArray, List.set_cons_zero, List.set_cons_succ])
            refine' wpAnyT_one (i := 29) (o := ?oir29) (by kernel_rfl) ?hir29 (fun K hK => ?str29)
            case hir29 => (simp only [List.getElem?_toArray, List.getElem?_cons_zero, List.getElem?_cons_succ]; rfl)
            go_simp
            refine hK.out _ _ (fun h => absurd h (by decide)) ?_
            clear hK K
            (try simp only [Act.put, List.setIfInBounds_toArray, List.set_cons_zero, List.set_cons_succ])
            refine wpAnyT_done (by kernel_rfl) ?_ _
            exact HC.out Yr99 k1 k2 k3 k4 k5 A74 c74 A84 c84 A94 c94 (below_both hB0 (below_both (below_both (below_both (below_both (below_both (below_both (below_both (below_both (below_both (below_both hbb73 hbb74) hbb78) hbb79) hbb83) hbb84) hbb88) hbb89) hbb98) hbb94) hbb99))
        · refine ⟨_, by (simp only [List.getElem?_toArray, List.getElem?_cons_zero, List.getElem?_cons_succ]; rfl), fun K hK => ?_⟩
          go_simp
          obtain ⟨Yr88, hY⟩ : ∃ X, Yr83.alloc (.cells #[.int .u8 0, .int .u8 0, .int .u8 0, .int .u8 0, .int .u8 0, .int .u8 0, .int .u8 0, .int .u8 0, .int .u8 3, .int .u8 0, .int .u8 0, .int .u8 0, .int .u8 0, .int .u8 0, .int .u8 0, .int .u8 0, .int .u8 0, .int .u8 0, .int .u8 0, .int .u8 0, .int .u8 0, .int .u8 0, .int .u8 0, .int .u8 0] 73) = X := ⟨_, rfl⟩
          obtain ⟨k4, hh⟩ : ∃ h, Yr83.heap.size = h := ⟨_, rfl⟩
          have hbb88 : Below Yr83.heap.size Yr83 Yr88 := by rw [← hY]; exact al1 _ _
          have HZk4 : Hid (Yr88.heap[k4]? = some (.cells #[.int .u8 0, .int .u8 0, .int .u8 0, .int .u8 0, .int .u8 0, .int .u8 0, .int .u8 0, .int .u8 0, .int .u8 3, .int .u8 0, .int .u8 0, .int .u8 0, .int .u8 0, .int .u8 0, .int .u8 0, .int .u8 0, .int .u8 0, .int .u8 0, .int .u8 0, .int .u8 0, .int .u8 0, .int .u8 0, .int .u8 0, .int .u8 0] 73)) := hid (by rw [← hY, ← hh]; exact heap_alloc_new _ _)
          rw [hY, hh]
          clear hY hh
          clear hHeld
          have hHeld := HK7.out Yr88 (below_both hB0 (below_both (below_both (below_both (below_both (below_both hbb73 hbb74) hbb78) hbb79) hbb83) hbb88))
          refine hK.out _ _ (fun _ => hHeld) ?_
          clear hK K
          (try simp only [Act.put, List.setIfInBounds_toArray, List.set_cons_zero, List.set_cons_succ])
          refine' wpAnyT_one (i := 12) (o := ?oir30) (by kernel_rfl) ?hir30 (fun K hK => ?str30)
          case hir30 => (simp only [List.getElem?_toArray, List.getElem?_cons_zero, List.getElem?_cons_succ]; rfl)
          go_simp
          go_at_call 41
          refine (aw_crash (l := [zs, sC, zs]) (HEE.out Yr88 (below_both HB68.out (below_both hB0 (below_both (below_both (below_both (below_both (below_both hbb73 hbb74) hbb78) hbb79) hbb83) hbb88)))).2 (ints_lit (l := [4, 5]) r45 (by decide) ((hbb88.block _ (box_lt HZk3.out)).trans HZk3.out)) (by decide) aw_c2).mono ?_
          rintro e Yr84 ⟨A84, c84, rfl, hs84, hbb84⟩
          have HS84 := hid hs84
          clear hs84
          clear hHeld
          have hHeld := HK7.out Yr84 (below_both hB0 (below_both (below_both (below_both (below_both (below_both (below_both hbb73 hbb74) hbb78) hbb79) hbb83) hbb88) hbb84))
          refine hK.out _ _ (fun _ => hHeld) ?_
          clear hK K
          (try simp only [Act.put, List.setIfInBounds_toArray, List.set_cons_zero, List.set_cons_succ])
          refine' wpAnyT_one (i := 17) (o := ?oir31) (by kernel_rfl) ?hir31 (fun K hK => ?str31)
          case hir31 => (simp only [List.getElem?_toArray, List.getElem?_cons_zero, List.getElem?_cons_succ]; rfl)
          go_simp
          go_at_call 19
          refine (aw_same (HS84.out.below (Below.refl _ _)) (sec_lit (l := [zs, sC, zs]) (secABC (by decide)) (by decide) ((hbb84.block _ (box_lt HZk4.out)).trans HZk4.out))).mono ?_
          rintro e Yr89 ⟨rfl, hbb89⟩
          clear hHeld
          have hHeld := HK7.out Yr89 (below_both hB0 (below_both (below_both (below_both (below_both (below_both (below_both (below_both hbb73 hbb74) hbb78) hbb79) hbb83) hbb88) hbb84) hbb89))
          refine hK.out _ _ (fun _ => hHeld) ?_
          clear hK K
          (try simp only [Act.put, List.setIfInBounds_toArray, List.set_cons_zero, List.set_cons_succ])
          refine' wpAnyT_take (i := 18) (oi := ?oir32) (v := ?vr32) ?hir32 (by kernel_rfl) (by kernel_rfl) ?hqr32 ?hyr32 hHeld ?restr32
          case hir32 => (simp only [List.getElem?_toArray, List.getElem?_cons_zero, List.getElem?_cons_succ]; rfl)
          case hqr32 => exact fun _ _ _ h => HQP _ _ _ _ _ h
          case hyr32 => (refine Or.inl ⟨by rfl, ?_⟩; intro w' hSw; (try dsimp only at hSw); go_simp; try with_reducible rfl)
          (try simp only [Act.put, List.setIfInBounds_toArray, List.set_cons_zero, List.set_cons_succ])
          refine' wpAnyT_take (i := 19) (oi := ?oir33) (v := ?vr33) ?hir33 (by kernel_rfl) (by kernel_rfl) ?hqr33 ?hyr33 hHeld ?restr33
          case hir33 => (simp only [List.getElem?_toArray, List.getElem?_cons_zero, List.getElem?_cons_succ]; rfl)
          case hqr33 => exact fun _ _ _ h => HQP _ _ _ _ _ h
          case hyr33 => (refine Or.inl ⟨by rfl, ?_⟩; intro w' hSw; (try dsimp only at hSw); go_simp; try with_reducible rfl)
          (try simp only [Act.put, List.setIfInBounds_toArray, List.set_cons_zero, List.set_cons_succ])
          refine' wpAnyT_take (i := 20) (oi := ?oir34) (v := ?vr34) ?hir34 (by kernel_rfl) (by kernel_rfl) ?hqr34 ?hyr34 hHeld ?restr34
          case hir34 => (simp only [List.getElem?_toArray, List.getElem?_cons_zero, List.getElem?_cons_succ]; rfl)
          case hqr34 => exact fun _ _ _ h => HQP _ _ _ _ _ h
          case hyr34 => (refine Or.inl ⟨by rfl, ?_⟩; intro w' hSw; (try dsimp only at hSw); go_simp; try with_reducible rfl)
          (try simp only [Act.put, List.setIfInBounds_toArray, List.set_cons_zero, List.set_cons_succ])
          refine' wpAnyT_take (i := 21) (oi := ?oir35) (v := ?vr35) ?hir35 (by kernel_rfl) (by kernel_rfl) ?hqr35 ?hyr35 hHeld ?restr35
          case hir35 => (simp only [List.getElem?_toArray, List.getElem?_cons_zero, List.getElem?_cons_succ]; rfl)
          case hqr35 => exact fun _ _ _ h => HQP _ _ _ _ _ h
          case hyr35 => (refine Or.inl ⟨by rfl, ?_⟩; intro w' hSw; (try dsimp only at hSw); go_simp; try with_reducible rfl)
          (try simp only [Act.put, List.setIfInBounds_toArray, List.set_cons_zero, List.set_cons_succ])
          refine' wpAnyT_take (i := 23) (oi := ?oir36) (v := ?vr36) ?hir36 (by kernel_rfl) (by kernel_rfl) ?hqr36 ?hyr36 hHeld ?restr36
          case hir36 => (simp only [List.getElem?_toArray, List.getElem?_cons_zero, List.getElem?_cons_succ]; rfl)
          case hqr36 => exact fun _ _ _ h => HQP _ _ _ _ _ h
          case hyr36 => (refine Or.inl ⟨by rfl, ?_⟩; intro w' hSw; (try dsimp only at hSw); go_simp; try with_reducible rfl)
          (try simp only [Act.put, List.setIfInBounds_toArray, List.set_cons_zero, List.set_cons_succ])
          refine' wpAnyT_take (i := 24) (oi := ?oir37) (v := ?vr37) ?hir37 (by kernel_rfl) (by kernel_rfl) ?hqr37 ?hyr37 hHeld ?restr37
          case hir37 => (simp only [List.getElem?_toArray, List.getElem?_cons_zero, List.getElem?_cons_succ]; rfl)
          case hqr37 => exact fun _ _ _ h => HQP _ _ _ _ _ h
          case hyr37 => (refine Or.inl ⟨by rfl, ?_⟩; intro w' hSw; (try dsimp only at hSw); go_simp; try with_reducible rfl)
          (try simp only [Act.put, List.setIfInBounds_toArray, List.set_cons_zero, List.set_cons_succ])
          refine' wpAnyT_take (i := 25) (oi := ?oir38) (v := ?vr38) ?hir38 (by kernel_rfl) (by kernel_rfl) ?hqr38 ?hyr38 hHeld ?restr38
          case hir38 => (simp only [List.getElem?_toArray, List.getElem?_cons_zero, List.getElem?_cons_succ]; rfl)
          case hqr38 => exact fun _ _ _ h => HQP _ _ _ _ _ h
          case hyr38 => (refine Or.inl ⟨by rfl, ?_⟩; intro w' hSw; (try dsimp only at hSw); go_simp; try with_reducible rfl)
          (try simp only [Act.put, List.setIfInBounds_toArray, List.set_cons_zero, List.set_cons_succ])
          refine wpAnyT_all (l := [22, 26]) (by kernel_rfl) (by decide) ?_
          intro i hi
          simp only [List.mem_cons, List.not_mem_nil, or_false] at hi
          rcases hi with rfl | rfl
          · refine ⟨_, by (simp only [List.getElem?_toArray, List.getElem?_cons_zero, List.getElem?_cons_succ]; rfl), fun K hK => ?_⟩
            go_simp
            go_at_call 41
            refine (aw_crash (l := [zs, zs, zs]) (HEE.out Yr89 (below_both HB68.out (below_both hB0 (below_both (below_both (below_both (below_both (below_both (below_both (below_both hbb73 hbb74) hbb78) hbb79) hbb83) hbb88) hbb84) hbb89)))).2 (ints_none0 _) (by decide) aw_c3).mono ?_
            rintro e Yr94 ⟨A94, c94, rfl, hs94, hbb94⟩
            have HS94 := hid hs94
            clear hs94
            clear hHeld
            have hHeld := HK7.out Yr94 (below_both hB0 (below_both (below_both (below_both (below_both (below_both (below_both (below_both (below_both hbb73 hbb74) hbb78) hbb79) hbb83) hbb88) hbb84) hbb89) hbb94))
            refine hK.out _ _ (fun _ => hHeld) ?_
            clear hK K
            (try simp only [Act.put, List.setIfInBounds_toArray, List.set_cons_zero, List.set_cons_succ])
            refine' wpAnyT_one (i := 26) (o := ?oir39) (by kernel_rfl) ?hir39 (fun K hK => ?str39)
            case hir39 => (simp only [List.getElem?_toArray, List.getElem?_cons_zero, List.getElem?_cons_succ]; rfl)
            go_simp
            obtain ⟨Yr98, hY⟩ : ∃ X, Yr94.alloc (.cells #[.int .u8 0, .int .u8 0, .int .u8 0, .int .u8 0, .int .u8 0, .int .u8 0, .int .u8 0, .int .u8 0, .int .u8 0, .int .u8 0, .int .u8 0, .int .u8 0, .int .u8 0, .int .u8 0, .int .u8 0, .int .u8 0, .int .u8 0, .int .u8 0, .int .u8 0, .int .u8 0, .int .u8 0, .int .u8 0, .int .u8 0, .int .u8 0] 73) = X := ⟨_, rfl⟩
            obtain ⟨k5, hh⟩ : ∃ h, Yr94.heap.size = h := ⟨_, rfl⟩
            have hbb98 : Below Yr94.heap.size Yr94 Yr98 := by rw [← hY]; exact al1 _ _
            have HZk5 : Hid (Yr98.heap[k5]? = some (.cells #[.int .u8 0, .int .u8 0, .int .u8 0, .int .u8 0, .int .u8 0, .int .u8 0, .int .u8 0, .int .u8 0, .int .u8 0, .int .u8 0, .int .u8 0, .int .u8 0, .int .u8 0, .int .u8 0, .int .u8 0, .int .u8 0, .int .u8 0, .int .u8 0, .int .u8 0, .int .u8 0, .int .u8 0, .int .u8 0, .int .u8 0, .int .u8 0] 73)) := hid (by rw [← hY, ← hh]; exact heap_alloc_new _ _)
            rw [hY, hh]
            clear hY hh
            clear hHeld
            have hHeld := HK7.out Yr98 (below_both hB0 (below_both (below_both (below_both (below_both (below_both (below_both (below_both (below_both (below_both hbb73 hbb74) hbb78) hbb79) hbb83) hbb88) hbb84) hbb89) hbb94) hbb98))
            refine hK.out _ _ (fun _ => hHeld) ?_
            clear hK K
            (try simp only [Act.put, List.setIfInBounds_toArray, List.set_cons_zero, List.set_cons_succ])
            refine' wpAnyT_one (i := 27) (o := ?oir40) (by kernel_rfl) ?hir40 (fun K hK => ?str40)
            case hir40 => (simp only [List.getElem?_toArray, List.getElem?_cons_zero, List.getElem?_cons_succ]; rfl)
            go_simp
            go_at_call 19
            refine (aw_same (HS94.out.below hbb98) (sec_lit (l := [zs, zs, zs]) (secABC (by decide)) (by decide) (((Below.refl _ _).block _ (box_lt HZk5.out)).trans HZk5.out))).mono ?_
            rintro e Yr99 ⟨rfl, hbb99⟩
            clear hHeld
            have hHeld := HK7.out Yr99 (below_both hB0 (below_both (below_both (below_both (below_both (below_both (below_both (below_both (below_both (below_both (below_both hbb73 hbb74) hbb78) hbb79) hbb83) hbb88) hbb84) hbb89) hbb94) hbb98) hbb99))
            refine hK.out _ _ (fun _ => hHeld) ?_
            clear hK K
            (try simp only [Act.put, List.setIfInBounds_toArray, List.set_cons_zero, List.set_cons_succ])
            refine' wpAnyT_take (i := 28) (oi := ?oir41) (v := ?vr41) ?hir41 (by kernel_rfl) (by kernel_rfl) ?hqr41 ?hyr41 hHeld ?restr41
            case hir41 => (simp only [List.getElem?_toArray, List.getElem?_cons_zero, List.getElem?_cons_succ]; rfl)
            case hqr41 => exact fun _ _ _ h => HQP _ _ _ _ _ h
            case hyr41 => (refine Or.inl ⟨by rfl, ?_⟩; intro w' hSw; (try dsimp only at hSw); go_simp; try with_reducible rfl)
            (try simp only [Act.put, List.setIfInBounds_toArray, List.set_cons_zero, List.set_cons_succ])
            refine' wpAnyT_one (i := 29) (o := ?oir42) (by kernel_rfl) ?hir42 (fun K hK => ?str42)
            case hir42 => (simp only [List.getElem?_toArray, List.getElem?_cons_zero, List.getElem?_cons_succ]; rfl)
            go_simp
            refine hK.out _ _ (fun h => absurd h (by decide)) ?_
            clear hK K
            (try simp only [Act.put, List.setIfInBounds_toArray, List.set_cons_zero, List.set_cons_succ])
            refine wpAnyT_done (by kernel_rfl) ?_ _
            exact HC.out Yr99 k1 k2 k3 k4 k5 A74 c74 A84 c84 A94 c94 (below_both hB0 (below_both (below_both (below_both (below_both (below_both (below_both (below_both (below_both (below_both (below_both hbb73 hbb74) hbb78) hbb79) hbb83) hbb88) hbb84) hbb89) hbb94) hbb98) hbb99))
          · refine ⟨_, by (simp only [List.getElem?_toArray, List.getElem?_cons_zero, List.getElem?_cons_succ]; rfl), fun K hK => ?_⟩
            go_simp
            obtain ⟨Yr98, hY⟩ : ∃ X, Yr89.alloc (.cells #[.int .u8 0, .int .u8 0, .int .u8 0, .int .u8 0, .int .u8 0, .int .u8 0, .int .u8 0, .int .u8 0, .int .u8 0, .int .u8 0, .int .u8 0, .int .u8 0, .int .u8 0, .int .u8 0, .int .u8 0, .int .u8 0, .int .u8 0, .int .u8 0, .int .u8 0, .int .u8 0, .int .u8 0, .int .u8 0, .int .u8 0, .int .u8 0] 73) = X := ⟨_, rfl⟩
            obtain ⟨k5, hh⟩ : ∃ h, Yr89.heap.size = h := ⟨_, rfl⟩
            have hbb98 : Below Yr89.heap.size Yr89 Yr98 := by rw [← hY]; exact al1 _ _
            have HZk5 : Hid (Yr98.heap[k5]? = some (.cells #[.int .u8 0, .int .u8 0, .int .u8 0, .int .u8 0, .int .u8 0, .int .u8 0, .int .u8 0, .int .u8 0, .int .u8 0, .int .u8 0, .int .u8 0, .int .u8 0, .int .u8 0, .int .u8 0, .int .u8 0, .int .u8 0, .int .u8 0, .int .u8 0, .int .u8 0, .int .u8 0, .int .u8 0, .int .u8 0, .int .u8 0, .int .u8 0] 73)) := hid (by rw [← hY, ← hh]; exact heap_alloc_new _ _)
            rw [hY, hh]
            clear hY hh
            clear hHeld
            have hHeld := HK7.out Yr98 (below_both hB0 (below_both (below_both (below_both (below_both (below_both (below_both (below_both (below_both hbb73 hbb74) hbb78) hbb79) hbb83) hbb88) hbb84) hbb89) hbb98))
            refine hK.out _ _ (fun _ => hHeld) ?_
            clear hK K
            (try simp only [Act.put, List.setIfInBounds_toArray, List.set_cons_zero, List.set_cons_succ])
            refine' wpAnyT_one (i := 22) (o := ?oir43) (by kernel_rfl) ?hir43 (fun K hK => ?str43)
            case hir43 => (simp only [List.getElem?_toArray, List.getElem?_cons_zero, List.getElem?_cons_succ]; rfl)
            go_simp
            go_at_call 41
            refine (aw_crash (l := [zs, zs, zs]) (HEE.out Yr98 (below_both HB68.out (below_both hB0 (below_both (below_both (below_both (below_both (below_both (below_both (below_both (below_both hbb73 hbb74) hbb78) hbb79) hbb83) hbb88) hbb84) hbb89) hbb98)))).2 (ints_none0 _) (by decide) aw_c3).mono ?_
            rintro e Yr94 ⟨A94, c94, rfl, hs94, hbb94⟩
            have HS94 := hid hs94
            clear hs94
            clear hHeld
            have hHeld := HK7.out Yr94 (below_both hB0 (below_both (below_both (below_both (below_both (below_both (below_both (below_both (below_both (below_both hbb73 hbb74) hbb78) hbb79) hbb83) hbb88) hbb84) hbb89) hbb98) hbb94))
            refine hK.out _ _ (fun _ => hHeld) ?_
            clear hK K
            (try simp only [Act.put, List.setIfInBounds_toArray, List.set_cons_zero, List.set_cons_succ])
            refine' wpAnyT_one (i := 27) (o := ?oir44) (by kernel_rfl) ?hir44 (fun K hK => ?str44)
            case hir44 => (simp only [List.getElem?_toArray, List.getElem?_cons_zero, List.getElem?_cons_succ]; rfl)
            go_simp
            go_at_call 19
            refine (aw_same (HS94.out.below (Below.refl _ _)) (sec_lit (l := [zs, zs, zs]) (secABC (by decide)) (by decide) ((hbb94.block _ (box_lt HZk5.out)).trans HZk5.out))).mono ?_
            rintro e Yr99 ⟨rfl, hbb99⟩
            clear hHeld
            have hHeld := HK7.out Yr99 (below_both hB0 (below_both (below_both (below_both (below_both (below_both (below_both (below_both (below_both (below_both (below_both hbb73 hbb74) hbb78) hbb79) hbb83) hbb88) hbb84) hbb89) hbb98) hbb94) hbb99))
            refine hK.out _ _ (fun _ => hHeld) ?_
            clear hK K
            (try simp only [Act.put, List.setIfInBounds_toArray, List.set_cons_zero, List.set_cons_succ])
            refine' wpAnyT_take (i := 28) (oi := ?oir45) (v := ?vr45) ?hir45 (by kernel_rfl) (by kernel_rfl) ?hqr45 ?hyr45 hHeld ?restr45
            case hir45 => (simp only [List.getElem?_toArray, List.getElem?_cons_zero, List.getElem?_cons_succ]; rfl)
            case hqr45 => exact fun _ _ _ h => HQP _ _ _ _ _ h
            case hyr45 => (refine Or.inl ⟨by rfl, ?_⟩; intro w' hSw; (try dsimp only at hSw); go_simp; try with_reducible rfl)
            (try simp only [Act.put, List.setIfInBounds_toArray, List.set_cons_zero, List.set_cons_succ])
            refine' wpAnyT_one (i := 29) (o := ?oir46) (by kernel_rfl) ?hir46 (fun K hK => ?str46)
            case hir46 => (simp only [List.getElem?_toArray, List.getElem?_cons_zero, List.getElem?_cons_succ]; rfl)
            go_simp
            refine hK.out _ _ (fun h => absurd h (by decide)) ?_
            clear hK K
            (try simp only [Act.put, List.setIfInBounds_toArray, List.set_cons_zero, List.set_cons_succ])
            refine wpAnyT_done (by kernel_rfl) ?_ _
            exact HC.out Yr99 k1 k2 k3 k4 k5 A74 c74 A84 c84 A94 c94 (below_both hB0 (below_both (below_both (below_both (below_both (below_both (below_both (below_both (below_both (below_both (below_both hbb73 hbb74) hbb78) hbb79) hbb83) hbb88) hbb84) hbb89) hbb98) hbb94) hbb99))
      · refine ⟨_, by (simp only [List.getElem?_toArray, List.getElem?_cons_zero, List.getElem?_cons_succ]; rfl), fun K hK => ?_⟩
        go_simp
        obtain ⟨Yr88, hY⟩ : ∃ X, Yr79.alloc (.cells #[.int .u8 0, .int .u8 0, .int .u8 0, .int .u8 0, .int .u8 0, .int .u8 0, .int .u8 0, .int .u8 0, .int .u8 3, .int .u8 0, .int .u8 0, .int .u8 0, .int .u8 0, .int .u8 0, .int .u8 0, .int .u8 0, .int .u8 0, .int .u8 0, .int .u8 0, .int .u8 0, .int .u8 0, .int .u8 0, .int .u8 0, .int .u8 0] 73) = X := ⟨_, rfl⟩
        obtain ⟨k4, hh⟩ : ∃ h, Yr79.heap.size = h := ⟨_, rfl⟩
        have hbb88 : Below Yr79.heap.size Yr79 Yr88 := by rw [← hY]; exact al1 _ _
        have HZk4 : Hid (Yr88.heap[k4]? = some (.cells #[.int .u8 0, .int .u8 0, .int .u8 0, .int .u8 0, .int .u8 0, .int .u8 0, .int .u8 0, .int .u8 0, .int .u8 3, .int .u8 0, .int .u8 0, .int .u8 0, .int .u8 0, .int .u8 0, .int .u8 0, .int .u8 0, .int .u8 0, .int .u8 0, .int .u8 0, .int .u8 0, .int .u8 0, .int .u8 0, .int .u8 0, .int .u8 0] 73)) := hid (by rw [← hY, ← hh]; exact heap_alloc_new _ _)
        rw [hY, hh]
        clear hY hh
        clear hHeld
        have hHeld := HK7.out Yr88 (below_both hB0 (below_both (below_both (below_both (below_both hbb73 hbb74) hbb78) hbb79) hbb88))
        refine hK.out _ _ (fun _ => hHeld) ?_
        clear hK K
        (try simp only [Act.put, List.setIfInBounds_toArray, List.set_cons_zero, List.set_cons_succ])
        refine' wpAnyT_one (i := 11) (o := ?oir47) (by kernel_rfl) ?hir47 (fun K hK => ?str47)
        case hir47 => (simp only [List.getElem?_toArray, List.getElem?_cons_zero, List.getElem?_cons_succ]; rfl)
        go_simp
        obtain ⟨Yr83, hY⟩ : ∃ X, Yr88.alloc (.cells #[.int .i64 4, .int .i64 5] 3) = X := ⟨_, rfl⟩
        obtain ⟨k3, hh⟩ : ∃ h, Yr88.heap.size = h := ⟨_, rfl⟩
        have hbb83 : Below Yr88.heap.size Yr88 Yr83 := by rw [← hY]; exact al1 _ _
        have HZk3 : Hid (Yr83.heap[k3]? = some (.cells #[.int .i64 4, .int .i64 5] 3)) := hid (by rw [← hY, ← hh]; exact heap_alloc_new _ _)
        rw [hY, hh]
        clear hY hh
        clear hHeld
        have hHeld := HK7.out Yr83 (below_both hB0 (below_both (below_both (below_both (below_both (below_both hbb73 hbb74) hbb78) hbb79) hbb88) hbb83))
        refine hK.out _ _ (fun _ => hHeld) ?_
        clear hK K
        (try simp only [Act.put, List.setIfInBounds_toArray, List.set_cons_zero, List.set_cons_succ])
        refine' wpAnyT_one (i := 12) (o := ?oir48) (by kernel_rfl) ?hir48 (fun K hK => ?str48)
        case hir48 => (simp only [List.getElem?_toArray, List.getElem?_cons_zero, List.getElem?_cons_succ]; rfl)
        go_simp
        go_at_call 41
        refine (aw_crash (l := [zs, sC, zs]) (HEE.out Yr83 (below_both HB68.out (below_both hB0 (below_both (below_both (below_both (below_both (below_both hbb73 hbb74) hbb78) hbb79) hbb88) hbb83)))).2 (ints_lit (l := [4, 5]) r45 (by decide) (((Below.refl _ _).block _ (box_lt HZk3.out)).trans HZk3.out)) (by decide) aw_c2).mono ?_
        rintro e Yr84 ⟨A84, c84, rfl, hs84, hbb84⟩
        have HS84 := hid hs84
        clear hs84
        clear hHeld
        have hHeld := HK7.out Yr84 (below_both hB0 (below_both (below_both (below_both (below_both (below_both (below_both hbb73 hbb74) hbb78) hbb79) hbb88) hbb83) hbb84))
        refine hK.out _ _ (fun _ => hHeld) ?_
        clear hK K
        (try simp only [Act.put, List.setIfInBounds_toArray, List.set_cons_zero, List.set_cons_succ])
        refine' wpAnyT_one (i := 17) (o := ?oir49) (by kernel_rfl) ?hir49 (fun K hK => ?str49)
        case hir49 => (simp only [List.getElem?_toArray, List.getElem?_cons_zero, List.getElem?_cons_succ]; rfl)
        go_simp
        go_at_call 19
        refine (aw_same (HS84.out.below (Below.refl _ _)) (sec_lit (l := [zs, sC, zs]) (secABC (by decide)) (by decide) (((below_both hbb83 hbb84).block _ (box_lt HZk4.out)).trans HZk4.out))).mono ?_
        rintro e Yr89 ⟨rfl, hbb89⟩
        clear hHeld
        have hHeld := HK7.out Yr89 (below_both hB0 (below_both (below_both (below_both (below_both (below_both (below_both (below_both hbb73 hbb74) hbb78) hbb79) hbb88) hbb83) hbb84) hbb89))
        refine hK.out _ _ (fun _ => hHeld) ?_
        clear hK K
        (try simp only [Act.put, List.setIfInBounds_toArray, List.set_cons_zero, List.set_cons_succ])
        refine' wpAnyT_take (i := 18) (oi := ?oir50) (v := ?vr50) ?hir50 (by kernel_rfl) (by kernel_rfl) ?hqr50 ?hyr50 hHeld ?restr50
        case hir50 => (simp only [List.getElem?_toArray, List.getElem?_cons_zero, List.getElem?_cons_succ]; rfl)
        case hqr50 => exact fun _ _ _ h => HQP _ _ _ _ _ h
        case hyr50 => (refine Or.inl ⟨by rfl, ?_⟩; intro w' hSw; (try dsimp only at hSw); go_simp; try with_reducible rfl)
        (try simp only [Act.put, List.setIfInBounds_toArray, List.set_cons_zero, List.set_cons_succ])
        refine' wpAnyT_take (i := 19) (oi := ?oir51) (v := ?vr51) ?hir51 (by kernel_rfl) (by kernel_rfl) ?hqr51 ?hyr51 hHeld ?restr51
        case hir51 => (simp only [List.getElem?_toArray, List.getElem?_cons_zero, List.getElem?_cons_succ]; rfl)
        case hqr51 => exact fun _ _ _ h => HQP _ _ _ _ _ h
        case hyr51 => (refine Or.inl ⟨by rfl, ?_⟩; intro w' hSw; (try dsimp only at hSw); go_simp; try with_reducible rfl)
        (try simp only [Act.put, List.setIfInBounds_toArray, List.set_cons_zero, List.set_cons_succ])
        refine' wpAnyT_take (i := 20) (oi := ?oir52) (v := ?vr52) ?hir52 (by kernel_rfl) (by kernel_rfl) ?hqr52 ?hyr52 hHeld ?restr52
        case hir52 => (simp only [List.getElem?_toArray, List.getElem?_cons_zero, List.getElem?_cons_succ]; rfl)
        case hqr52 => exact fun _ _ _ h => HQP _ _ _ _ _ h
        case hyr52 => (refine Or.inl ⟨by rfl, ?_⟩; intro w' hSw; (try dsimp only at hSw); go_simp; try with_reducible rfl)
        (try simp only [Act.put, List.setIfInBounds_toArray, List.set_cons_zero, List.set_cons_succ])
        refine' wpAnyT_take (i := 21) (oi := ?oir53) (v := ?vr53) ?hir53 (by kernel_rfl) (by kernel_rfl) ?hqr53 ?hyr53 hHeld ?restr53
        case hir53 => (simp only [List.getElem?_toArray, List.getElem?_cons_zero, List.getElem?_cons_succ]; rfl)
        case hqr53 => exact fun _ _ _ h => HQP _ _ _ _ _ h
        case hyr53 => (refine Or.inl ⟨by rfl, ?_⟩; intro w' hSw; (try dsimp only at hSw); go_simp; try with_reducible rfl)
        (try simp only [Act.put, List.setIfInBounds_toArray, List.set_cons_zero, List.set_cons_succ])
        refine' wpAnyT_take (i := 23) (oi := ?oir54) (v := ?vr54) ?hir54 (by kernel_rfl) (by kernel_rfl) ?hqr54 ?hyr54 hHeld ?restr54
        case hir54 => (simp only [List.getElem?_toArray, List.getElem?_cons_zero, List.getElem?_cons_succ]; rfl)
        case hqr54 => exact fun _ _ _ h => HQP _ _ _ _ _ h
        case hyr54 => (refine Or.inl ⟨by rfl, ?_⟩; intro w' hSw; (try dsimp only at hSw); go_simp; try with_reducible rfl)
        (try simp only [Act.put, List.setIfInBounds_toArray, List.set_cons_zero, List.set_cons_succ])
        refine' wpAnyT_take (i := 24) (oi := ?oir55) (v := ?vr55) ?hir55 (by kernel_rfl) (by kernel_rfl) ?hqr55 ?hyr55 hHeld ?restr55
        case hir55 => (simp only [List.getElem?_toArray, List.getElem?_cons_zero, List.getElem?_cons_succ]; rfl)
        case hqr55 => exact fun _ _ _ h => HQP _ _ _ _ _ h
        case hyr55 => (refine Or.inl ⟨by rfl, ?_⟩; intro w' hSw; (try dsimp only at hSw); go_simp; try with_reducible rfl)
        (try simp only [Act.put, List.setIfInBounds_toArray, List.set_cons_zero, List.set_cons_succ])
        refine' wpAnyT_take (i := 25) (oi := ?oir56) (v := ?vr56) ?hir56 (by kernel_rfl) (by kernel_rfl) ?hqr56 ?hyr56 hHeld ?restr56
        case hir56 => (simp only [List.getElem?_toArray, List.getElem?_cons_zero, List.getElem?_cons_succ]; rfl)
        case hqr56 => exact fun _ _ _ h => HQP _ _ _ _ _ h
        case hyr56 => (refine Or.inl ⟨by rfl, ?_⟩; intro w' hSw; (try dsimp only at hSw); go_simp; try with_reducible rfl)
        (try simp only [Act.put, List.setIfInBounds_toArray, List.set_cons_zero, List.set_cons_succ])
        refine wpAnyT_all (l := [22, 26]) (by kernel_rfl) (by decide) ?_
        intro i hi
        simp only [List.mem_cons, List.not_mem_nil, or_false] at hi
        rcases hi with rfl | rfl
        · refine ⟨_, by (simp only [List.getElem?_toArray, List.getElem?_cons_zero, List.getElem?_cons_succ]; rfl), fun K hK => ?_⟩
          go_simp
          go_at_call 41
          refine (aw_crash (l := [zs, zs, zs]) (HEE.out Yr89 (below_both HB68.out (below_both hB0 (below_both (below_both (below_both (below_both (below_both (below_both (below_both hbb73 hbb74) hbb78) hbb79) hbb88) hbb83) hbb84) hbb89)))).2 (ints_none0 _) (by decide) aw_c3).mono ?_
          rintro e Yr94 ⟨A94, c94, rfl, hs94, hbb94⟩
          have HS94 := hid hs94
          clear hs94
          clear hHeld
          have hHeld := HK7.out Yr94 (below_both hB0 (below_both (below_both (below_both (below_both (below_both (below_both (below_both (below_both hbb73 hbb74) hbb78) hbb79) hbb88) hbb83) hbb84) hbb89) hbb94))
          refine hK.out _ _ (fun _ => hHeld) ?_
          clear hK K
          (try simp only [Act.put, List.setIfInBounds_toArray, List.set_cons_zero, List.set_cons_succ])
          refine' wpAnyT_one (i := 26) (o := ?oir57) (by kernel_rfl) ?hir57 (fun K hK => ?str57)
          case hir57 => (simp only [List.getElem?_toArray, List.getElem?_cons_zero, List.getElem?_cons_succ]; rfl)
          go_simp
          obtain ⟨Yr98, hY⟩ : ∃ X, Yr94.alloc (.cells #[.int .u8 0, .int .u8 0, .int .u8 0, .int .u8 0, .int .u8 0, .int .u8 0, .int .u8 0, .int .u8 0, .int .u8 0, .int .u8 0, .int .u8 0, .int .u8 0, .int .u8 0, .int .u8 0, .int .u8 0, .int .u8 0, .int .u8 0, .int .u8 0, .int .u8 0, .int .u8 0, .int .u8 0, .int .u8 0, .int .u8 0, .int .u8 0] 73) = X := ⟨_, rfl⟩
          obtain ⟨k5, hh⟩ : ∃ h, Yr94.heap.size = h := ⟨_, rfl⟩
          have hbb98 : Below Yr94.heap.size Yr94 Yr98 := by rw [← hY]; exact al1 _ _
          have HZk5 : Hid (Yr98.heap[k5]? = some (.cells #[.int .u8 0, .int .u8 0, .int .u8 0, .int .u8 0, .int .u8 0, .int .u8 0, .int .u8 0, .int .u8 0, .int .u8 0, .int .u8 0, .int .u8 0, .int .u8 0, .int .u8 0, .int .u8 0, .int .u8 0, .int .u8 0, .int .u8 0, .int .u8 0, .int .u8 0, .int .u8 0, .int .u8 0, .int .u8 0, .int .u8 0, .int .u8 0] 73)) := hid (by rw [← hY, ← hh]; exact heap_alloc_new _ _)
          rw [hY, hh]
          clear hY hh
          clear hHeld
          have hHeld := HK7.out Yr98 (below_both hB0 (below_both (below_both (below_both (below_both (below_both (below_both (below_both (below_both (below_both hbb73 hbb74) hbb78) hbb79) hbb88) hbb83) hbb84) hbb89) hbb94) hbb98))
          refine hK.out _ _ (fun _ => hHeld) ?_
          clear hK K
          (try simp only [Act.put, List.setIfInBounds_toArray, List.set_cons_zero, List.set_cons_succ])
          refine' wpAnyT_one (i := 27) (o := ?oir58) (by kernel_rfl) ?hir58 (fun K hK => ?str58)
          case hir58 => (simp only [List.getElem?_toArray, List.getElem?_cons_zero, List.getElem?_cons_succ]; rfl)
          go_simp
          go_at_call 19
          refine (aw_same (HS94.out.below hbb98) (sec_lit (l := [zs, zs, zs]) (secABC (by decide)) (by decide) (((Below.refl _ _).block _ (box_lt HZk5.out)).trans HZk5.out))).mono ?_
          rintro e Yr99 ⟨rfl, hbb99⟩
          clear hHeld
          have hHeld := HK7.out Yr99 (below_both hB0 (below_both (below_both (below_both (below_both (below_both (below_both (below_both (below_both (below_both (below_both hbb73 hbb74) hbb78) hbb79) hbb88) hbb83) hbb84) hbb89) hbb94) hbb98) hbb99))
          refine hK.out _ _ (fun _ => hHeld) ?_
          clear hK K
          (try simp only [Act.put, List.setIfInBounds_toArray, List.set_cons_zero, List.set_cons_succ])
          refine' wpAnyT_take (i := 28) (oi := ?oir59) (v := ?vr59) ?hir59 (by kernel_rfl) (by kernel_rfl) ?hqr59 ?hyr59 hHeld ?restr59
          case hir59 => (simp only [List.getElem?_toArray, List.getElem?_cons_zero, List.getElem?_cons_succ]; rfl)
          case hqr59 => exact fun _ _ _ h => HQP _ _ _ _ _ h
          case hyr59 => (refine Or.inl ⟨by rfl, ?_⟩; intro w' hSw; (try dsimp only at hSw); go_simp; try with_reducible rfl)
          (try simp only [Act.put, List.setIfInBounds_toArray, List.set_cons_zero, List.set_cons_succ])
          refine' wpAnyT_one (i := 29) (o := ?oir60) (by kernel_rfl) ?hir60 (fun K hK => ?str60)
          case hir60 => (simp only [List.getElem?_toArray, List.getElem?_cons_zero, List.getElem?_cons_succ]; rfl)
          go_simp
          refine hK.out _ _ (fun h => absurd h (by decide)) ?_
          clear hK K
          (try simp only [Act.put, List.setIfInBounds_toArray, List.set_cons_zero, List.set_cons_succ])
          refine wpAnyT_done (by kernel_rfl) ?_ _
          exact HC.out Yr99 k1 k2 k3 k4 k5 A74 c74 A84 c84 A94 c94 (below_both hB0 (below_both (below_both (below_both (below_both (below_both (below_both (below_both (below_both (below_both (below_both hbb73 hbb74) hbb78) hbb79) hbb88) hbb83) hbb84) hbb89) hbb94) hbb98) hbb99))
        · refine ⟨_, by (simp only [List.getElem?_toArray, List.getElem?_cons_zero, List.getElem?_cons_succ]; rfl), fun K hK => ?_⟩
          go_simp
          obtain ⟨Yr98, hY⟩ : ∃ X, Yr89.alloc (.cells #[.int .u8 0, .int .u8 0, .int .u8 0, .int .u8 0, .int .u8 0, .int .u8 0, .int .u8 0, .int .u8 0, .int .u8 0, .int .u8 0, .int .u8 0, .int .u8 0, .int .u8 0, .int .u8 0, .int .u8 0, .int .u8 0, .int .u8 0, .int .u8 0, .int .u8 0, .int .u8 0, .int .u8 0, .int .u8 0, .int .u8 0, .int .u8 0] 73) = X := ⟨_, rfl⟩
          obtain ⟨k5, hh⟩ : ∃ h, Yr89.heap.size = h := ⟨_, rfl⟩
          have hbb98 : Below Yr89.heap.size Yr89 Yr98 := by rw [← hY]; exact al1 _ _
          have HZk5 : Hid (Yr98.heap[k5]? = some (.cells #[.int .u8 0, .int .u8 0, .int .u8 0, .int .u8 0, .int .u8 0, .int .u8 0, .int .u8 0, .int .u8 0, .int .u8 0, .int .u8 0, .int .u8 0, .int .u8 0, .int .u8 0, .int .u8 0, .int .u8 0, .int .u8 0, .int .u8 0, .int .u8 0, .int .u8 0, .int .u8 0, .int .u8 0, .int .u8 0, .int .u8 0, .int .u8 0] 73)) := hid (by rw [← hY, ← hh]; exact heap_alloc_new _ _)
          rw [hY, hh]
          clear hY hh
          clear hHeld
          have hHeld := HK7.out Yr98 (below_both hB0 (below_both (below_both (below_both (below_both (below_both (below_both (below_both (below_both hbb73 hbb74) hbb78) hbb79) hbb88) hbb83) hbb84) hbb89) hbb98))
          refine hK.out _ _ (fun _ => hHeld) ?_
          clear hK K
          (try simp only [Act.put, List.setIfInBounds_toArray, List.set_cons_zero, List.set_cons_succ])
          refine' wpAnyT_one (i := 22) (o := ?oir61) (by kernel_rfl) ?hir61 (fun K hK => ?str61)
          case hir61 => (simp only [List.getElem?_toArray, List.getElem?_cons_zero, List.getElem?_cons_succ]; rfl)
          go_simp
          go_at_call 41
          refine (aw_crash (l := [zs, zs, zs]) (HEE.out Yr98 (below_both HB68.out (below_both hB0 (below_both (below_both (below_both (below_both (below_both (below_both (below_both (below_both hbb73 hbb74) hbb78) hbb79) hbb88) hbb83) hbb84) hbb89) hbb98)))).2 (ints_none0 _) (by decide) aw_c3).mono ?_
          rintro e Yr94 ⟨A94, c94, rfl, hs94, hbb94⟩
          have HS94 := hid hs94
          clear hs94
          clear hHeld
          have hHeld := HK7.out Yr94 (below_both hB0 (below_both (below_both (below_both (below_both (below_both (below_both (below_both (below_both (below_both hbb73 hbb74) hbb78) hbb79) hbb88) hbb83) hbb84) hbb89) hbb98) hbb94))
          refine hK.out _ _ (fun _ => hHeld) ?_
          clear hK K
          (try simp only [Act.put, List.setIfInBounds_toArray, List.set_cons_zero, List.set_cons_succ])
          refine' wpAnyT_one (i := 27) (o := ?oir62) (by kernel_rfl) ?hir62 (fun K hK => ?str62)
          case hir62 => (simp only [List.getElem?_toArray, List.getElem?_cons_zero, List.getElem?_cons_succ]; rfl)
          go_simp
          go_at_call 19
          refine (aw_same (HS94.out.below (Below.refl _ _)) (sec_lit (l := [zs, zs, zs]) (secABC (by decide)) (by decide) ((hbb94.block _ (box_lt HZk5.out)).trans HZk5.out))).mono ?_
          rintro e Yr99 ⟨rfl, hbb99⟩
          clear hHeld
          have hHeld := HK7.out Yr99 (below_both hB0 (below_both (below_both (below_both (below_both (below_both (below_both (below_both (below_both (below_both (below_both hbb73 hbb74) hbb78) hbb79) hbb88) hbb83) hbb84) hbb89) hbb98) hbb94) hbb99))
          refine hK.out _ _ (fun _ => hHeld) ?_
          clear hK K
          (try simp only [Act.put, List.setIfInBounds_toArray, List.set_cons_zero, List.set_cons_succ])
          refine' wpAnyT_take (i := 28) (oi := ?oir63) (v := ?vr63) ?hir63 (by kernel_rfl) (by kernel_rfl) ?hqr63 ?hyr63 hHeld ?restr63
          case hir63 => (simp only [List.getElem?_toArray, List.getElem?_cons_zero, List.getElem?_cons_succ]; rfl)
          case hqr63 => exact fun _ _ _ h => HQP _ _ _ _ _ h
          case hyr63 => (refine Or.inl ⟨by rfl, ?_⟩; intro w' hSw; (try dsimp only at hSw); go_simp; try with_reducible rfl)
          (try simp only [Act.put, List.setIfInBounds_toArray, List.set_cons_zero, List.set_cons_succ])
          refine' wpAnyT_one (i := 29) (o := ?oir64) (by kernel_rfl) ?hir64 (fun K hK => ?str64)
          case hir64 => (simp only [List.getElem?_toArray, List.getElem?_cons_zero, List.getElem?_cons_succ]; rfl)
          go_simp
          refine hK.out _ _ (fun h => absurd h (by decide)) ?_
          clear hK K
          (try simp only [Act.put, List.setIfInBounds_toArray, List.set_cons_zero, List.set_cons_succ])
          refine wpAnyT_done (by kernel_rfl) ?_ _
          exact HC.out Yr99 k1 k2 k3 k4 k5 A74 c74 A84 c84 A94 c94 (below_both hB0 (below_both (below_both (below_both (below_both (below_both (below_both (below_both (below_both (below_both (below_both hbb73 hbb74) hbb78) hbb79) hbb88) hbb83) hbb84) hbb89) hbb98) hbb94) hbb99))
    · refine ⟨_, by (simp only [List.getElem?_toArray, List.getElem?_cons_zero, List.getElem?_cons_succ]; rfl), fun K hK => ?_⟩
      go_simp
      obtain ⟨Yr78, hY⟩ : ∃ X, Yr73.alloc (.cells #[.int .u8 1, .int .u8 0, .int .u8 0, .int .u8 0, .int .u8 0, .int .u8 0, .int .u8 0, .int .u8 0, .int .u8 2, .int .u8 0, .int .u8 0, .int .u8 0, .int .u8 0, .int .u8 0, .int .u8 0, .int .u8 0, .int .u8 0, .int .u8 0, .int .u8 0, .int .u8 0, .int .u8 0, .int .u8 0, .int .u8 0, .int .u8 0] 73) = X := ⟨_, rfl⟩
      obtain ⟨k2, hh⟩ : ∃ h, Yr73.heap.size = h := ⟨_, rfl⟩
      have hbb78 : Below Yr73.heap.size Yr73 Yr78 := by rw [← hY]; exact al1 _ _
      have HZk2 : Hid (Yr78.heap[k2]? = some (.cells #[.int .u8 1, .int .u8 0, .int .u8 0, .int .u8 0, .int .u8 0, .int .u8 0, .int .u8 0, .int .u8 0, .int .u8 2, .int .u8 0, .int .u8 0, .int .u8 0, .int .u8 0, .int .u8 0, .int .u8 0, .int .u8 0, .int .u8 0, .int .u8 0, .int .u8 0, .int .u8 0, .int .u8 0, .int .u8 0, .int .u8 0, .int .u8 0] 73)) := hid (by rw [← hY, ← hh]; exact heap_alloc_new _ _)
      rw [hY, hh]
      clear hY hh
      clear hHeld
      have hHeld := HK7.out Yr78 (below_both hB0 (below_both hbb73 hbb78))
      refine hK.out _ _ (fun _ => hHeld) ?_
      clear hK K
      (try simp only [Act.put, List.setIfInBounds_toArray, List.set_cons_zero, List.set_cons_succ])
      refine' wpAnyT_one (i := 2) (o := ?oir65) (by kernel_rfl) ?hir65 (fun K hK => ?str65)
      case hir65 => (simp only [List.getElem?_toArray, List.getElem?_cons_zero, List.getElem?_cons_succ]; rfl)
      go_simp
      go_at_call 41
      refine (aw_crash (l := [sA, sB, zs]) (HEE.out Yr78 (below_both HB68.out (below_both hB0 (below_both hbb73 hbb78)))).2 (ints_lit (l := [1, 1]) r11 (by decide) ((hbb78.block _ (box_lt HZk1.out)).trans HZk1.out)) (by decide) aw_c1).mono ?_
      rintro e Yr74 ⟨A74, c74, rfl, hs74, hbb74⟩
      have HS74 := hid hs74
      clear hs74
      clear hHeld
      have hHeld := HK7.out Yr74 (below_both hB0 (below_both (below_both hbb73 hbb78) hbb74))
      refine hK.out _ _ (fun _ => hHeld) ?_
      clear hK K
      (try simp only [Act.put, List.setIfInBounds_toArray, List.set_cons_zero, List.set_cons_succ])
      refine' wpAnyT_one (i := 7) (o := ?oir66) (by kernel_rfl) ?hir66 (fun K hK => ?str66)
      case hir66 => (simp only [List.getElem?_toArray, List.getElem?_cons_zero, List.getElem?_cons_succ]; rfl)
      go_simp
      go_at_call 19
      refine (aw_same (HS74.out.below (Below.refl _ _)) (sec_lit (l := [sA, sB, zs]) (secABC (by decide)) (by decide) ((hbb74.block _ (box_lt HZk2.out)).trans HZk2.out))).mono ?_
      rintro e Yr79 ⟨rfl, hbb79⟩
      clear hHeld
      have hHeld := HK7.out Yr79 (below_both hB0 (below_both (below_both (below_both hbb73 hbb78) hbb74) hbb79))
      refine hK.out _ _ (fun _ => hHeld) ?_
      clear hK K
      (try simp only [Act.put, List.setIfInBounds_toArray, List.set_cons_zero, List.set_cons_succ])
      refine' wpAnyT_take (i := 8) (oi := ?oir67) (v := ?vr67) ?hir67 (by kernel_rfl) (by kernel_rfl) ?hqr67 ?hyr67 hHeld ?restr67
      case hir67 => (simp only [List.getElem?_toArray, List.getElem?_cons_zero, List.getElem?_cons_succ]; rfl)
      case hqr67 => exact fun _ _ _ h => HQP _ _ _ _ _ h
      case hyr67 => (refine Or.inl ⟨by rfl, ?_⟩; intro w' hSw; (try dsimp only at hSw); go_simp; try with_reducible rfl)
      (try simp only [Act.put, List.setIfInBounds_toArray, List.set_cons_zero, List.set_cons_succ])
      refine' wpAnyT_take (i := 9) (oi := ?oir68) (v := ?vr68) ?hir68 (by kernel_rfl) (by kernel_rfl) ?hqr68 ?hyr68 hHeld ?restr68
      case hir68 => (simp only [List.getElem?_toArray, List.getElem?_cons_zero, List.getElem?_cons_succ]; rfl)
      case hqr68 => exact fun _ _ _ h => HQP _ _ _ _ _ h
      case hyr68 => (refine Or.inl ⟨by rfl, ?_⟩; intro w' hSw; (try dsimp only at hSw); go_simp; try with_reducible rfl)
      (try simp only [Act.put, List.setIfInBounds_toArray, List.set_cons_zero, List.set_cons_succ])
      refine' wpAnyT_take (i := 10) (oi := ?oir69) (v := ?vr69) ?hir69 (by kernel_rfl) (by kernel_rfl) ?hqr69 ?hyr69 hHeld ?restr69
      case hir69 => (simp only [List.getElem?_toArray, List.getElem?_cons_zero, List.getElem?_cons_succ]; rfl)
      case hqr69 => exact fun _ _ _ h => HQP _ _ _ _ _ h
      case hyr69 => (refine Or.inl ⟨by rfl, ?_⟩; intro w' hSw; (try dsimp only at hSw); go_simp; try with_reducible rfl)
      (try simp only [Act.put, List.setIfInBounds_toArray, List.set_cons_zero, List.set_cons_succ])
      refine' wpAnyT_take (i := 13) (oi := ?oir70) (v := ?vr70) ?hir70 (by kernel_rfl) (by kernel_rfl) ?hqr70 ?hyr70 hHeld ?restr70
      case hir70 => (simp only [List.getElem?_toArray, List.getElem?_cons_zero, List.getElem?_cons_succ]; rfl)
      case hqr70 => exact fun _ _ _ h => HQP _ _ _ _ _ h
      case hyr70 => (refine Or.inl ⟨by rfl, ?_⟩; intro w' hSw; (try dsimp only at hSw); go_simp; try with_reducible rfl)
      (try simp only [Act.put, List.setIfInBounds_toArray, List.set_cons_zero, List.set_cons_succ])
      refine' wpAnyT_take (i := 14) (oi := ?oir71) (v := ?vr71) ?hir71 (by kernel_rfl) (by kernel_rfl) ?hqr71 ?hyr71 hHeld ?restr71
      case hir71 => (simp only [List.getElem?_toArray, List.getElem?_cons_zero, List.getElem?_cons_succ]; rfl)
      case hqr71 => exact fun _ _ _ h => HQP _ _ _ _ _ h
      case hyr71 => (refine Or.inl ⟨by rfl, ?_⟩; intro w' hSw; (try dsimp only at hSw); go_simp; try with_reducible rfl)
      (try simp only [Act.put, List.setIfInBounds_toArray, List.set_cons_zero, List.set_cons_succ])
      refine' wpAnyT_take (i := 15) (oi := ?oir72) (v := ?vr72) ?hir72 (by kernel_rfl) (by kernel_rfl) ?hqr72 ?hyr72 hHeld ?restr72
      case hir72 => (simp only [List.getElem?_toArray, List.getElem?_cons_zero, List.getElem?_cons_succ]; rfl)
      case hqr72 => exact fun _ _ _ h => HQP _ _ _ _ _ h
      case hyr72 => (refine Or.inl ⟨by rfl, ?_⟩; intro w' hSw; (try dsimp only at hSw); go_simp; try with_reducible rfl)
      (try simp only [Act.put, List.setIfInBounds_toArray, List.set_cons_zero, List.set_cons_succ])
      refine wpAnyT_all (l := [11, 16]) (by kernel_rfl) (by decide) ?_
      intro i hi
      simp only [List.mem_cons, List.not_mem_nil, or_false] at hi
      rcases hi with rfl | rfl
      · refine ⟨_, by (simp only [List.getElem?_toArray, List.getElem?_cons_zero, List.getElem?_cons_succ]; rfl), fun K hK => ?_⟩
        go_simp
        obtain ⟨Yr83, hY⟩ : ∃ X, Yr79.alloc (.cells #[.int .i64 4, .int .i64 5] 3) = X := ⟨_, rfl⟩
        obtain ⟨k3, hh⟩ : ∃ h, Yr79.heap.size = h := ⟨_, rfl⟩
        have hbb83 : Below Yr79.heap.size Yr79 Yr83 := by rw [← hY]; exact al1 _ _
        have HZk3 : Hid (Yr83.heap[k3]? = some (.cells #[.int .i64 4, .int .i64 5] 3)) := hid (by rw [← hY, ← hh]; exact heap_alloc_new _ _)
        rw [hY, hh]
        clear hY hh
        clear hHeld
        have hHeld := HK7.out Yr83 (below_both hB0 (below_both (below_both (below_both (below_both hbb73 hbb78) hbb74) hbb79) hbb83))
        refine hK.out _ _ (fun _ => hHeld) ?_
        clear hK K
        (try simp only [Act.put, List.setIfInBounds_toArray, List.set_cons_zero, List.set_cons_succ])
        refine wpAnyT_all (l := [12, 16]) (by kernel_rfl) (by decide) ?_
        intro i hi
        simp only [List.mem_cons, List.not_mem_nil, or_false] at hi
        rcases hi with rfl | rfl
        · refine ⟨_, by (simp only [List.getElem?_toArray, List.getElem?_cons_zero, List.getElem?_cons_succ]; rfl), fun K hK => ?_⟩
          go_simp
          go_at_call 41
          refine (aw_crash (l := [zs, sC, zs]) (HEE.out Yr83 (below_both HB68.out (below_both hB0 (below_both (below_both (below_both (below_both hbb73 hbb78) hbb74) hbb79) hbb83)))).2 (ints_lit (l := [4, 5]) r45 (by decide) (((Below.refl _ _).block _ (box_lt HZk3.out)).trans HZk3.out)) (by decide) aw_c2).mono ?_
          rintro e Yr84 ⟨A84, c84, rfl, hs84, hbb84⟩
          have HS84 := hid hs84
          clear hs84
          clear hHeld
          have hHeld := HK7.out Yr84 (below_both hB0 (below_both (below_both (below_both (below_both (below_both hbb73 hbb78) hbb74) hbb79) hbb83) hbb84))
          refine hK.out _ _ (fun _ => hHeld) ?_
          clear hK K
          (try simp only [Act.put, List.setIfInBounds_toArray, List.set_cons_zero, List.set_cons_succ])
          refine' wpAnyT_one (i := 16) (o := ?oir73) (by kernel_rfl) ?hir73 (fun K hK => ?str73)
          case hir73 => (simp only [List.getElem?_toArray, List.getElem?_cons_zero, List.getElem?_cons_succ]; rfl)
          go_simp
          obtain ⟨Yr88, hY⟩ : ∃ X, Yr84.alloc (.cells #[.int .u8 0, .int .u8 0, .int .u8 0, .int .u8 0, .int .u8 0, .int .u8 0, .int .u8 0, .int .u8 0, .int .u8 3, .int .u8 0, .int .u8 0, .int .u8 0, .int .u8 0, .int .u8 0, .int .u8 0, .int .u8 0, .int .u8 0, .int .u8 0, .int .u8 0, .int .u8 0, .int .u8 0, .int .u8 0, .int .u8 0, .int .u8 0] 73) = X := ⟨_, rfl⟩
          obtain ⟨k4, hh⟩ : ∃ h, Yr84.heap.size = h := ⟨_, rfl⟩
          have hbb88 : Below Yr84.heap.size Yr84 Yr88 := by rw [← hY]; exact al1 _ _
          have HZk4 : Hid (Yr88.heap[k4]? = some (.cells #[.int .u8 0, .int .u8 0, .int .u8 0, .int .u8 0, .int .u8 0, .int .u8 0, .int .u8 0, .int .u8 0, .int .u8 3, .int .u8 0, .int .u8 0, .int .u8 0, .int .u8 0, .int .u8 0, .int .u8 0, .int .u8 0, .int .u8 0, .int .u8 0, .int .u8 0, .int .u8 0, .int .u8 0, .int .u8 0, .int .u8 0, .int .u8 0] 73)) := hid (by rw [← hY, ← hh]; exact heap_alloc_new _ _)
          rw [hY, hh]
          clear hY hh
          clear hHeld
          have hHeld := HK7.out Yr88 (below_both hB0 (below_both (below_both (below_both (below_both (below_both (below_both hbb73 hbb78) hbb74) hbb79) hbb83) hbb84) hbb88))
          refine hK.out _ _ (fun _ => hHeld) ?_
          clear hK K
          (try simp only [Act.put, List.setIfInBounds_toArray, List.set_cons_zero, List.set_cons_succ])
          refine' wpAnyT_one (i := 17) (o := ?oir74) (by kernel_rfl) ?hir74 (fun K hK => ?str74)
          case hir74 => (simp only [List.getElem?_toArray, List.getElem?_cons_zero, List.getElem?_cons_succ]; rfl)
          go_simp
          go_at_call 19
          refine (aw_same (HS84.out.below hbb88) (sec_lit (l := [zs, sC, zs]) (secABC (by decide)) (by decide) (((Below.refl _ _).block _ (box_lt HZk4.out)).trans HZk4.out))).mono ?_
          rintro e Yr89 ⟨rfl, hbb89⟩
          clear hHeld
          have hHeld := HK7.out Yr89 (below_both hB0 (below_both (below_both (below_both (below_both (below_both (below_both (below_both hbb73 hbb78) hbb74) hbb79) hbb83) hbb84) hbb88) hbb89))
          refine hK.out _ _ (fun _ => hHeld) ?_
          clear hK K
          (try simp only [Act.put, List.setIfInBounds_toArray, List.set_cons_zero, List.set_cons_succ])
          refine' wpAnyT_take (i := 18) (oi := ?oir75) (v := ?vr75) ?hir75 (by kernel_rfl) (by kernel_rfl) ?hqr75 ?hyr75 hHeld ?restr75
          case hir75 => (simp only [List.getElem?_toArray, List.getElem?_cons_zero, List.getElem?_cons_succ]; rfl)
          case hqr75 => exact fun _ _ _ h => HQP _ _ _ _ _ h
          case hyr75 => (refine Or.inl ⟨by rfl, ?_⟩; intro w' hSw; (try dsimp only at hSw); go_simp; try with_reducible rfl)
          (try simp only [Act.put, List.setIfInBounds_toArray, List.set_cons_zero, List.set_cons_succ])
          refine' wpAnyT_take (i := 19) (oi := ?oir76) (v := ?vr76) ?hir76 (by kernel_rfl) (by kernel_rfl) ?hqr76 ?hyr76 hHeld ?restr76
          case hir76 => (simp only [List.getElem?_toArray, List.getElem?_cons_zero, List.getElem?_cons_succ]; rfl)
          case hqr76 => exact fun _ _ _ h => HQP _ _ _ _ _ h
          case hyr76 => (refine Or.inl ⟨by rfl, ?_⟩; intro w' hSw; (try dsimp only at hSw); go_simp; try with_reducible rfl)
          (try simp only [Act.put, List.setIfInBounds_toArray, List.set_cons_zero, List.set_cons_succ])
          refine' wpAnyT_take (i := 20) (oi := ?oir77) (v := ?vr77) ?hir77 (by kernel_rfl) (by kernel_rfl) ?hqr77 ?hyr77 hHeld ?restr77
          case hir77 => (simp only [List.getElem?_toArray, List.getElem?_cons_zero, List.getElem?_cons_succ]; rfl)
          case hqr77 => exact fun _ _ _ h => HQP _ _ _ _ _ h
          case hyr77 => (refine Or.inl ⟨by rfl, ?_⟩; intro w' hSw; (try dsimp only at hSw); go_simp; try with_reducible rfl)
          (try simp only [Act.put, List.setIfInBounds_toArray, List.set_cons_zero, List.set_cons_succ])
          refine' wpAnyT_take (i := 21) (oi := ?oir78) (v := ?vr78) ?hir78 (by kernel_rfl) (by kernel_rfl) ?hqr78 ?hyr78 hHeld ?restr78
          case hir78 => (simp only [List.getElem?_toArray, List.getElem?_cons_zero, List.getElem?_cons_succ]; rfl)
          case hqr78 => exact fun _ _ _ h => HQP _ _ _ _ _ h
          case hyr78 => (refine Or.inl ⟨by rfl, ?_⟩; intro w' hSw; (try dsimp only at hSw); go_simp; try with_reducible rfl)
          (try simp only [Act.put, List.setIfInBounds_toArray, List.set_cons_zero, List.set_cons_succ])
          refine' wpAnyT_take (i := 23) (oi := ?oir79) (v := ?vr79) ?hir79 (by kernel_rfl) (by kernel_rfl) ?hqr79 ?hyr79 hHeld ?restr79
          case hir79 => (simp only [List.getElem?_toArray, List.getElem?_cons_zero, List.getElem?_cons_succ]; rfl)
          case hqr79 => exact fun _ _ _ h => HQP _ _ _ _ _ h
          case hyr79 => (refine Or.inl ⟨by rfl, ?_⟩; intro w' hSw; (try dsimp only at hSw); go_simp; try with_reducible rfl)
          (try simp only [Act.put, List.setIfInBounds_toArray, List.set_cons_zero, List.set_cons_succ])
          refine' wpAnyT_take (i := 24) (oi := ?oir80) (v := ?vr80) ?hir80 (by kernel_rfl) (by kernel_rfl) ?hqr80 ?hyr80 hHeld ?restr80
          case hir80 => (simp only [List.getElem?_toArray, List.getElem?_cons_zero, List.getElem?_cons_succ]; rfl)
          case hqr80 => exact fun _ _ _ h => HQP _ _ _ _ _ h
          case hyr80 => (refine Or.inl ⟨by rfl, ?_⟩; intro w' hSw; (try dsimp only at hSw); go_simp; try with_reducible rfl)
          (try simp only [Act.put, List.setIfInBounds_toArray, List.set_cons_zero, List.set_cons_succ])
          refine' wpAnyT_take (i := 25) (oi := ?oir81) (v := ?vr81) ?hir81 (by kernel_rfl) (by kernel_rfl) ?hqr81 ?hyr81 hHeld ?restr81
          case hir81 => (simp only [List.getElem?_toArray, List.getElem?_cons_zero, List.getElem?_cons_succ]; rfl)
          case hqr81 => exact fun _ _ _ h => HQP _ _ _ _ _ h
          case hyr81 => (refine Or.inl ⟨by rfl, ?_⟩; intro w' hSw; (try dsimp only at hSw); go_simp; try with_reducible rfl)
          (try simp only [Act.put, List.setIfInBounds_toArray, List.set_cons_zero, List.set_cons_succ])
          refine wpAnyT_all (l := [22, 26]) (by kernel_rfl) (by decide) ?_
          intro i hi
          simp only [List.mem_cons, List.not_mem_nil, or_false] at hi
          rcases hi with rfl | rfl
          · refine ⟨_, by (simp only [List.getElem?_toArray, List.getElem?_cons_zero, List.getElem?_cons_succ]; rfl), fun K hK => ?_⟩
            go_simp
            go_at_call 41
            refine (aw_crash (l := [zs, zs, zs]) (HEE.out Yr89 (below_both HB68.out (below_both hB0 (below_both (below_both (below_both (below_both (below_both (below_both (below_both hbb73 hbb78) hbb74) hbb79) hbb83) hbb84) hbb88) hbb89)))).2 (ints_none0 _) (by decide) aw_c3).mono ?_
            rintro e Yr94 ⟨A94, c94, rfl, hs94, hbb94⟩
            have HS94 := hid hs94
            clear hs94
            clear hHeld
            have hHeld := HK7.out Yr94 (below_both hB0 (below_both (below_both (below_both (below_both (below_both (below_both (below_both (below_both hbb73 hbb78) hbb74) hbb79) hbb83) hbb84) hbb88) hbb89) hbb94))
            refine hK.out _ _ (fun _ => hHeld) ?_
            clear hK K
            (try simp only [Act.put, List.setIfInBounds_toArray, List.set_cons_zero, List.set_cons_succ])
            refine' wpAnyT_one (i := 26) (o := ?oir82) (by kernel_rfl) ?hir82 (fun K hK => ?str82)
            case hir82 => (simp only [List.getElem?_toArray, List.getElem?_cons_zero, List.getElem?_cons_succ]; rfl)
            go_simp
            obtain ⟨Yr98, hY⟩ : ∃ X, Yr94.alloc (.cells #[.int .u8 0, .int .u8 0, .int .u8 0, .int .u8 0, .int .u8 0, .int .u8 0, .int .u8 0, .int .u8 0, .int .u8 0, .int .u8 0, .int .u8 0, .int .u8 0, .int .u8 0, .int .u8 0, .int .u8 0, .int .u8 0, .int .u8 0, .int .u8 0, .int .u8 0, .int .u8 0, .int .u8 0, .int .u8 0, .int .u8 0, .int .u8 0] 73) = X := ⟨_, rfl⟩
            obtain ⟨k5, hh⟩ : ∃ h, Yr94.heap.size = h := ⟨_, rfl⟩
            have hbb98 : Below Yr94.heap.size Yr94 Yr98 := by rw [← hY]; exact al1 _ _
            have HZk5 : Hid (Yr98.heap[k5]? = some (.cells #[.int .u8 0, .int .u8 0, .int .u8 0, .int .u8 0, .int .u8 0, .int .u8 0, .int .u8 0, .int .u8 0, .int .u8 0, .int .u8 0, .int .u8 0, .int .u8 0, .int .u8 0, .int .u8 0, .int .u8 0, .int .u8 0, .int .u8 0, .int .u8 0, .int .u8 0, .int .u8 0, .int .u8 0, .int .u8 0, .int .u8 0, .int .u8 0] 73)) := hid (by rw [← hY, ← hh]; exact heap_alloc_new _ _)
            rw [hY, hh]
            clear hY hh
            clear hHeld
            have hHeld := HK7.out Yr98 (below_both hB0 (below_both (below_both (below_both (below_both (below_both (below_both (below_both (below_both (below_both hbb73 hbb78) hbb74) hbb79) hbb83) hbb84) hbb88) hbb89) hbb94) hbb98))
            refine hK.out _ _ (fun _ => hHeld) ?_
            clear hK K
            (try simp only [Act.put, List.setIfInBounds_toArray, List.set_cons_zero, List.set_cons_succ])
            refine' wpAnyT_one (i := 27) (o := ?oir83) (by kernel_rfl) ?hir83 (fun K hK => ?str83)
            case hir83 => (simp only [List.getElem?_toArray, List.getElem?_cons_zero, List.getElem?_cons_succ]; rfl)
            go_simp
            go_at_call 19
            refine (aw_same (HS94.out.below hbb98) (sec_lit (l := [zs, zs, zs]) (secABC (by decide)) (by decide) (((Below.refl _ _).block _ (box_lt HZk5.out)).trans HZk5.out))).mono ?_
            rintro e Yr99 ⟨rfl, hbb99⟩
            clear hHeld
            have hHeld := HK7.out Yr99 (below_both hB0 (below_both (below_both (below_both (below_both (below_both (below_both (below_both (below_both (below_both (below_both hbb73 hbb78) hbb74) hbb79) hbb83) hbb84) hbb88) hbb89) hbb94) hbb98) hbb99))
            refine hK.out _ _ (fun _ => hHeld) ?_
            clear hK K
            (try simp only [Act.put, List.setIfInBounds_toArray, List.set_cons_zero, List.set_cons_succ])
            refine' wpAnyT_take (i := 28) (oi := ?oir84) (v := ?vr84) ?hir84 (by kernel_rfl) (by kernel_rfl) ?hqr84 ?hyr84 hHeld ?restr84
            case hir84 => (simp only [List.getElem?_toArray, List.getElem?_cons_zero, List.getElem?_cons_succ]; rfl)
            case hqr84 => exact fun _ _ _ h => HQP _ _ _ _ _ h
            case hyr84 => (refine Or.inl ⟨by rfl, ?_⟩; intro w' hSw; (try dsimp only at hSw); go_simp; try with_reducible rfl)
            (try simp only [Act.put, List.setIfInBounds_toArray, List.set_cons_zero, List.set_cons_succ])
            refine' wpAnyT_one (i := 29) (o := ?oir85) (by kernel_rfl) ?hir85 (fun K hK => ?str85)
            case hir85 => (simp only [List.getElem?_toArray, List.getElem?_cons_zero, List.getElem?_cons_succ]; rfl)
            go_simp
            refine hK.out _ _ (fun h => absurd h (by decide)) ?_
            clear hK K
            (try simp only [Act.put, List.setIfInBounds_toArray, List.set_cons_zero, List.set_cons_succ])
            refine wpAnyT_done (by kernel_rfl) ?_ _
            exact HC.out Yr99 k1 k2 k3 k4 k5 A74 c74 A84 c84 A94 c94 (below_both hB0 (below_both (below_both (below_both (below_both (below_both (below_both (below_both (below_both (below_both (below_both hbb73 hbb78) hbb74) hbb79) hbb83) hbb84) hbb88) hbb89) hbb94) hbb98) hbb99))
          · refine ⟨_, by (simp only [List.getElem?_toArray, List.getElem?_cons_zero, List.getElem?_cons_succ]; rfl), fun K hK => ?_⟩
            go_simp
            obtain ⟨Yr98, hY⟩ : ∃ X, Yr89.alloc (.cells #[.int .u8 0, .int .u8 0, .int .u8 0, .int .u8 0, .int .u8 0, .int .u8 0, .int .u8 0, .int .u8 0, .int .u8 0, .int .u8 0, .int .u8 0, .int .u8 0, .int .u8 0, .int .u8 0, .int .u8 0, .int .u8 0, .int .u8 0, .int .u8 0, .int .u8 0, .int .u8 0, .int .u8 0, .int .u8 0, .int .u8 0, .int .u8 0] 73) = X := ⟨_, rfl⟩
            obtain ⟨k5, hh⟩ : ∃ h, Yr89.heap.size = h := ⟨_, rfl⟩
            have hbb98 : Below Yr89.heap.size Yr89 Yr98 := by rw [← hY]; exact al1 _ _
            have HZk5 : Hid (Yr98.heap[k5]? = some (.cells #[.int .u8 0, .int .u8 0, .int .u8 0, .int .u8 0, .int .u8 0, .int .u8 0, .int .u8 0, .int .u8 0, .int .u8 0, .int .u8 0, .int .u8 0, .int .u8 0, .int .u8 0, .int .u8 0, .int .u8 0, .int .u8 0, .int .u8 0, .int .u8 0, .int .u8 0, .int .u8 0, .int .u8 0, .int .u8 0, .int .u8 0, .int .u8 0] 73)) := hid (by rw [← hY, ← hh]; exact heap_alloc_new _ _)
            rw [hY, hh]
            clear hY hh
            clear hHeld
            have hHeld := HK7.out Yr98 (below_both hB0 (below_both (below_both (below_both (below_both (below_both (below_both (below_both (below_both hbb73 hbb78) hbb74) hbb79) hbb83) hbb84) hbb88) hbb89) hbb98))
            refine hK.out _ _ (fun _ => hHeld) ?_
            clear hK K
            (try simp only [Act.put, List.setIfInBounds_toArray, List.set_cons_zero, List.set_cons_succ])
            refine' wpAnyT_one (i := 22) (o := ?oir86) (by kernel_rfl) ?hir86 (fun K hK => ?str86)
            case hir86 => (simp only [List.getElem?_toArray, List.getElem?_cons_zero, List.getElem?_cons_succ]; rfl)
            go_simp
            go_at_call 41
            refine (aw_crash (l := [zs, zs, zs]) (HEE.out Yr98 (below_both HB68.out (below_both hB0 (below_both (below_both (below_both (below_both (below_both (below_both (below_both (below_both hbb73 hbb78) hbb74) hbb79) hbb83) hbb84) hbb88) hbb89) hbb98)))).2 (ints_none0 _) (by decide) aw_c3).mono ?_
            rintro e Yr94 ⟨A94, c94, rfl, hs94, hbb94⟩
            have HS94 := hid hs94
            clear hs94
            clear hHeld
            have hHeld := HK7.out Yr94 (below_both hB0 (below_both (below_both (below_both (below_both (below_both (below_both (below_both (below_both (below_both hbb73 hbb78) hbb74) hbb79) hbb83) hbb84) hbb88) hbb89) hbb98) hbb94))
            refine hK.out _ _ (fun _ => hHeld) ?_
            clear hK K
            (try simp only [Act.put, List.setIfInBounds_toArray, List.set_cons_zero, List.set_cons_succ])
            refine' wpAnyT_one (i := 27) (o := ?oir87) (by kernel_rfl) ?hir87 (fun K hK => ?str87)
            case hir87 => (simp only [List.getElem?_toArray, List.getElem?_cons_zero, List.getElem?_cons_succ]; rfl)
            go_simp
            go_at_call 19
            refine (aw_same (HS94.out.below (Below.refl _ _)) (sec_lit (l := [zs, zs, zs]) (secABC (by decide)) (by decide) ((hbb94.block _ (box_lt HZk5.out)).trans HZk5.out))).mono ?_
            rintro e Yr99 ⟨rfl, hbb99⟩
            clear hHeld
            have hHeld := HK7.out Yr99 (below_both hB0 (below_both (below_both (below_both (below_both (below_both (below_both (below_both (below_both (below_both (below_both hbb73 hbb78) hbb74) hbb79) hbb83) hbb84) hbb88) hbb89) hbb98) hbb94) hbb99))
            refine hK.out _ _ (fun _ => hHeld) ?_
            clear hK K
            (try simp only [Act.put, List.setIfInBounds_toArray, List.set_cons_zero, List.set_cons_succ])
            refine' wpAnyT_take (i := 28) (oi := ?oir88) (v := ?vr88) ?hir88 (by kernel_rfl) (by kernel_rfl) ?hqr88 ?hyr88 hHeld ?restr88
            case hir88 => (simp only [List.getElem?_toArray, List.getElem?_cons_zero, List.getElem?_cons_succ]; rfl)
            case hqr88 => exact fun _ _ _ h => HQP _ _ _ _ _ h
            case hyr88 => (refine Or.inl ⟨by rfl, ?_⟩; intro w' hSw; (try dsimp only at hSw); go_simp; try with_reducible rfl)
            (try simp only [Act.put, List.setIfInBounds_toArray, List.set_cons_zero, List.set_cons_succ])
            refine' wpAnyT_one (i := 29) (o := ?oir89) (by kernel_rfl) ?hir89 (fun K hK => ?str89)
            case hir89 => (simp only [List.getElem?_toArray, List.getElem?_cons_zero, List.getElem?_cons_succ]; rfl)
            go_simp
            refine hK.out _ _ (fun h => absurd h (by decide)) ?_
            clear hK K
            (try simp only [Act.put, List.setIfInBounds_toArray, List.set_cons_zero, List.set_cons_succ])
            refine wpAnyT_done (by kernel_rfl) ?_ _
            exact HC.out Yr99 k1 k2 k3 k4 k5 A74 c74 A84 c84 A94 c94 (below_both hB0 (below_both (below_both (below_both (below_both (below_both (below_both (below_both (below_both (below_both (below_both hbb73 hbb78) hbb74) hbb79) hbb83) hbb84) hbb88) hbb89) hbb98) hbb94) hbb99))
        · refine ⟨_, by (simp only [List.getElem?_toArray, List.getElem?_cons_zero, List.getElem?_cons_succ]; rfl), fun K hK => ?_⟩
          go_simp
          obtain ⟨Yr88, hY⟩ : ∃ X, Yr83.alloc (.cells #[.int .u8 0, .int .u8 0, .int .u8 0, .int .u8 0, .int .u8 0, .int .u8 0, .int .u8 0, .int .u8 0, .int .u8 3, .int .u8 0, .int .u8 0, .int .u8 0, .int .u8 0, .int .u8 0, .int .u8 0, .int .u8 0, .int .u8 0, .int .u8 0, .int .u8 0, .int .u8 0, .int .u8 0, .int .u8 0, .int .u8 0, .int .u8 0] 73) = X := ⟨_, rfl⟩
          obtain ⟨k4, hh⟩ : ∃ h, Yr83.heap.size = h := ⟨_, rfl⟩
          have hbb88 : Below Yr83.heap.size Yr83 Yr88 := by rw [← hY]; exact al1 _ _
          have HZk4 : Hid (Yr88.heap[k4]? = some (.cells #[.int .u8 0, .int .u8 0, .int .u8 0, .int .u8 0, .int .u8 0, .int .u8 0, .int .u8 0, .int .u8 0, .int .u8 3, .int .u8 0, .int .u8 0, .int .u8 0, .int .u8 0, .int .u8 0, .int .u8 0, .int .u8 0, .int .u8 0, .int .u8 0, .int .u8 0, .int .u8 0, .int .u8 0, .int .u8 0, .int .u8 0, .int .u8 0] 73)) := hid (by rw [← hY, ← hh]; exact heap_alloc_new _ _)
          rw [hY, hh]
          clear hY hh
          clear hHeld
          have hHeld := HK7.out Yr88 (below_both hB0 (below_both (below_both (below_both (below_both (below_both hbb73 hbb78) hbb74) hbb79) hbb83) hbb88))
          refine hK.out _ _ (fun _ => hHeld) ?_
          clear hK K
          (try simp only [Act.put, List.setIfInBounds_toArray, List.set_cons_zero, List.set_cons_succ])
          refine' wpAnyT_one (i := 12) (o := ?oir90) (by kernel_rfl) ?hir90 (fun K hK => ?str90)
          case hir90 => (simp only [List.getElem?_toArray, List.getElem?_cons_zero, List.getElem?_cons_succ]; rfl)
          go_simp
          go_at_call 41
          refine (aw_crash (l := [zs, sC, zs]) (HEE.out Yr88 (below_both HB68.out (below_both hB0 (below_both (below_both (below_both (below_both (below_both hbb73 hbb78) hbb74) hbb79) hbb83) hbb88)))).2 (ints_lit (l := [4, 5]) r45 (by decide) ((hbb88.block _ (box_lt HZk3.out)).trans HZk3.out)) (by decide) aw_c2).mono ?_
          rintro e Yr84 ⟨A84, c84, rfl, hs84, hbb84⟩
          have HS84 := hid hs84
          clear hs84
          clear hHeld
          have hHeld := HK7.out Yr84 (below_both hB0 (below_both (below_both (below_both (below_both (below_both (below_both hbb73 hbb78) hbb74) hbb79) hbb83) hbb88) hbb84))
          refine hK.out _ _ (fun _ => hHeld) ?_
          clear hK K
          (try simp only [Act.put, List.setIfInBounds_toArray, List.set_cons_zero, List.set_cons_succ])
          refine' wpAnyT_one (i := 17) (o := ?oir91) (by kernel_rfl) ?hir91 (fun K hK => ?str91)
          case hir91 => (simp only [List.getElem?_toArray, List.getElem?_cons_zero, List.getElem?_cons_succ]; rfl)
          go_simp
          go_at_call 19
          refine (aw_same (HS84.out.below (Below.refl _ _)) (sec_lit (l := [zs, sC, zs]) (secABC (by decide)) (by decide) ((hbb84.block _ (box_lt HZk4.out)).trans HZk4.out))).mono ?_
          rintro e Yr89 ⟨rfl, hbb89⟩
          clear hHeld
          have hHeld := HK7.out Yr89 (below_both hB0 (below_both (below_both (below_both (below_both (below_both (below_both (below_both hbb73 hbb78) hbb74) hbb79) hbb83) hbb88) hbb84) hbb89))
          refine hK.out _ _ (fun _ => hHeld) ?_
          clear hK K
          (try simp only [Act.put, List.setIfInBounds_toArray, List.set_cons_zero, List.set_cons_succ])
          refine' wpAnyT_take (i := 18) (oi := ?oir92) (v := ?vr92) ?hir92 (by kernel_rfl) (by kernel_rfl) ?hqr92 ?hyr92 hHeld ?restr92
          case hir92 => (simp only [List.getElem?_toArray, List.getElem?_cons_zero, List.getElem?_cons_succ]; rfl)
          case hqr92 => exact fun _ _ _ h => HQP _ _ _ _ _ h
          case hyr92 => (refine Or.inl ⟨by rfl, ?_⟩; intro w' hSw; (try dsimp only at hSw); go_simp; try with_reducible rfl)
          (try simp only [Act.put, List.setIfInBounds_toArray, List.set_cons_zero, List.set_cons_succ])
          refine' wpAnyT_take (i := 19) (oi := ?oir93) (v := ?vr93) ?hir93 (by kernel_rfl) (by kernel_rfl) ?hqr93 ?hyr93 hHeld ?restr93
          case hir93 => (simp only [List.getElem?_toArray, List.getElem?_cons_zero, List.getElem?_cons_succ]; rfl)
          case hqr93 => exact fun _ _ _ h => HQP _ _ _ _ _ h
          case hyr93 => (refine Or.inl ⟨by rfl, ?_⟩; intro w' hSw; (try dsimp only at hSw); go_simp; try with_reducible rfl)
          (try simp only [Act.put, List.setIfInBounds_toArray, List.set_cons_zero, List.set_cons_succ])
          refine' wpAnyT_take (i := 20) (oi := ?oir94) (v := ?vr94) ?hir94 (by kernel_rfl) (by kernel_rfl) ?hqr94 ?hyr94 hHeld ?restr94
          case hir94 => (simp only [List.getElem?_toArray, List.getElem?_cons_zero, List.getElem?_cons_succ]; rfl)
          case hqr94 => exact fun _ _ _ h => HQP _ _ _ _ _ h
          case hyr94 => (refine Or.inl ⟨by rfl, ?_⟩; intro w' hSw; (try dsimp only at hSw); go_simp; try with_reducible rfl)
          (try simp only [Act.put, List.setIfInBounds_toArray, List.set_cons_zero, List.set_cons_succ])
          refine' wpAnyT_take (i := 21) (oi := ?oir95) (v := ?vr95) ?hir95 (by kernel_rfl) (by kernel_rfl) ?hqr95 ?hyr95 hHeld ?restr95
          case hir95 => (simp only [List.getElem?_toArray, List.getElem?_cons_zero, List.getElem?_cons_succ]; rfl)
          case hqr95 => exact fun _ _ _ h => HQP _ _ _ _ _ h
          case hyr95 => (refine Or.inl ⟨by rfl, ?_⟩; intro w' hSw; (try dsimp only at hSw); go_simp; try with_reducible rfl)
          (try simp only [Act.put, List.setIfInBounds_toArray, List.set_cons_zero, List.set_cons_succ])
          refine' wpAnyT_take (i := 23) (oi := ?oir96) (v := ?vr96) ?hir96 (by kernel_rfl) (by kernel_rfl) ?hqr96 ?hyr96 hHeld ?restr96
          case hir96 => (simp only [List.getElem?_toArray, List.getElem?_cons_zero, List.getElem?_cons_succ]; rfl)
          case hqr96 => exact fun _ _ _ h => HQP _ _ _ _ _ h
          case hyr96 => (refine Or.inl ⟨by rfl, ?_⟩; intro w' hSw; (try dsimp only at hSw); go_simp; try with_reducible rfl)
          (try simp only [Act.put, List.setIfInBounds_toArray, List.set_cons_zero, List.set_cons_succ])
          refine' wpAnyT_take (i := 24) (oi := ?oir97) (v := ?vr97) ?hir97 (by kernel_rfl) (by kernel_rfl) ?hqr97 ?hyr97 hHeld ?restr97
          case hir97 => (simp only [List.getElem?_toArray, List.getElem?_cons_zero, List.getElem?_cons_succ]; rfl)
          case hqr97 => exact fun _ _ _ h => HQP _ _ _ _ _ h
          case hyr97 => (refine Or.inl ⟨by rfl, ?_⟩; intro w' hSw; (try dsimp only at hSw); go_simp; try with_reducible rfl)
          (try simp only [Act.put, List.setIfInBounds_toArray, List.set_cons_zero, List.set_cons_succ])
          refine' wpAnyT_take (i := 25) (oi := ?oir98) (v := ?vr98) ?hir98 (by kernel_rfl) (by kernel_rfl) ?hqr98 ?hyr98 hHeld ?restr98
          case hir98 => (simp only [List.getElem?_toArray, List.getElem?_cons_zero, List.getElem?_cons_succ]; rfl)
          case hqr98 => exact fun _ _ _ h => HQP _ _ _ _ _ h
          case hyr98 => (refine Or.inl ⟨by rfl, ?_⟩; intro w' hSw; (try dsimp only at hSw); go_simp; try with_reducible rfl)
          (try simp only [Act.put, List.setIfInBounds_toArray, List.set_cons_zero, List.set_cons_succ])
          refine wpAnyT_all (l := [22, 26]) (by kernel_rfl) (by decide) ?_
          intro i hi
          simp only [List.mem_cons, List.not_mem_nil, or_false] at hi
          rcases hi with rfl | rfl
          · refine ⟨_, by (simp only [List.getElem?_toArray, List.getElem?_cons_zero, List.getElem?_cons_succ]; rfl), fun K hK => ?_⟩
            go_simp
            go_at_call 41
            refine (aw_crash (l := [zs, zs, zs]) (HEE.out Yr89 (below_both HB68.out (below_both hB0 (below_both (below_both (below_both (below_both (below_both (below_both (below_both hbb73 hbb78) hbb74) hbb79) hbb83) hbb88) hbb84) hbb89)))).2 (ints_none0 _) (by decide) aw_c3).mono ?_
            rintro e Yr94 ⟨A94, c94, rfl, hs94, hbb94⟩
            have HS94 := hid hs94
            clear hs94
            clear hHeld
            have hHeld := HK7.out Yr94 (below_both hB0 (below_both (below_both (below_both (below_both (below_both (below_both (below_both (below_both hbb73 hbb78) hbb74) hbb79) hbb83) hbb88) hbb84) hbb89) hbb94))
            refine hK.out _ _ (fun _ => hHeld) ?_
            clear hK K
            (try simp only [Act.put, List.setIfInBounds_toArray, List.set_cons_zero, List.set_cons_succ])
            refine' wpAnyT_one (i := 26) (o := ?oir99) (by kernel_rfl) ?hir99 (fun K hK => ?str99)
            case hir99 => (simp only [List.getElem?_toArray, List.getElem?_cons_zero, List.getElem?_cons_succ]; rfl)
            go_simp
            obtain ⟨Yr98, hY⟩ : ∃ X, Yr94.alloc (.cells #[.int .u8 0, .int .u8 0, .int .u8 0, .int .u8 0, .int .u8 0, .int .u8 0, .int .u8 0, .int .u8 0, .int .u8 0, .int .u8 0, .int .u8 0, .int .u8 0, .int .u8 0, .int .u8 0, .int .u8 0, .int .u8 0, .int .u8 0, .int .u8 0, .int .u8 0, .int .u8 0, .int .u8 0, .int .u8 0, .int .u8 0, .int .u8 0] 73) = X := ⟨_, rfl⟩
            obtain ⟨k5, hh⟩ : ∃ h, Yr94.heap.size = h := ⟨_, rfl⟩
            have hbb98 : Below Yr94.heap.size Yr94 Yr98 := by rw [← hY]; exact al1 _ _
            have HZk5 : Hid (Yr98.heap[k5]? = some (.cells #[.int .u8 0, .int .u8 0, .int .u8 0, .int .u8 0, .int .u8 0, .int .u8 0, .int .u8 0, .int .u8 0, .int .u8 0, .int .u8 0, .int .u8 0, .int .u8 0, .int .u8 0, .int .u8 0, .int .u8 0, .int .u8 0, .int .u8 0, .int .u8 0, .int .u8 0, .int .u8 0, .int .u8 0, .int .u8 0, .int .u8 0, .int .u8 0] 73)) := hid (by rw [← hY, ← hh]; exact heap_alloc_new _ _)
            rw [hY, hh]
            clear hY hh
            clear hHeld
            have hHeld := HK7.out Yr98 (below_both hB0 (below_both (below_both (below_both (below_both (below_both (below_both (below_both (below_both (below_both hbb73 hbb78) hbb74) hbb79) hbb83) hbb88) hbb84) hbb89) hbb94) hbb98))
            refine hK.out _ _ (fun _ => hHeld) ?_
            clear hK K
            (try simp only [Act.put, List.setIfInBounds_toArray, List.set_cons_zero, List.set_cons_succ])
            refine' wpAnyT_one (i := 27) (o := ?oir100) (by kernel_rfl) ?hir100 (fun K hK => ?str100)
            case hir100 => (simp only [List.getElem?_toArray, List.getElem?_cons_zero, List.getElem?_cons_succ]; rfl)
            go_simp
            go_at_call 19
            refine (aw_same (HS94.out.below hbb98) (sec_lit (l := [zs, zs, zs]) (secABC (by decide)) (by decide) (((Below.refl _ _).block _ (box_lt HZk5.out)).trans HZk5.out))).mono ?_
            rintro e Yr99 ⟨rfl, hbb99⟩
            clear hHeld
            have hHeld := HK7.out Yr99 (below_both hB0 (below_both (below_both (below_both (below_both (below_both (below_both (below_both (below_both (below_both (below_both hbb73 hbb78) hbb74) hbb79) hbb83) hbb88) hbb84) hbb89) hbb94) hbb98) hbb99))
            refine hK.out _ _ (fun _ => hHeld) ?_
            clear hK K
            (try simp only [Act.put, List.setIfInBounds_toArray, List.set_cons_zero, List.set_cons_succ])
            refine' wpAnyT_take (i := 28) (oi := ?oir101) (v := ?vr101) ?hir101 (by kernel_rfl) (by kernel_rfl) ?hqr101 ?hyr101 hHeld ?restr101
            case hir101 => (simp only [List.getElem?_toArray, List.getElem?_cons_zero, List.getElem?_cons_succ]; rfl)
            case hqr101 => exact fun _ _ _ h => HQP _ _ _ _ _ h
            case hyr101 => (refine Or.inl ⟨by rfl, ?_⟩; intro w' hSw; (try dsimp only at hSw); go_simp; try with_reducible rfl)
            (try simp only [Act.put, List.setIfInBounds_toArray, List.set_cons_zero, List.set_cons_succ])
            refine' wpAnyT_one (i := 29) (o := ?oir102) (by kernel_rfl) ?hir102 (fun K hK => ?str102)
            case hir102 => (simp only [List.getElem?_toArray, List.getElem?_cons_zero, List.getElem?_cons_succ]; rfl)
            go_simp
            refine hK.out _ _ (fun h => absurd h (by decide)) ?_
            clear hK K
            (try simp only [Act.put, List.setIfInBounds_toArray, List.set_cons_zero, List.set_cons_succ])
            refine wpAnyT_done (by kernel_rfl) ?_ _
            exact HC.out Yr99 k1 k2 k3 k4 k5 A74 c74 A84 c84 A94 c94 (below_both hB0 (below_both (below_both (below_both (below_both (below_both (below_both (below_both (below_both (below_both (below_both hbb73 hbb78) hbb74) hbb79) hbb83) hbb88) hbb84) hbb89) hbb94) hbb98) hbb99))
          · refine ⟨_, by (simp only [List.getElem?_toArray, List.getElem?_cons_zero, List.getElem?_cons_succ]; rfl), fun K hK => ?_⟩
            go_simp
            obtain ⟨Yr98, hY⟩ : ∃ X, Yr89.alloc (.cells #[.int .u8 0, .int .u8 0, .int .u8 0, .int .u8 0, .int .u8 0, .int .u8 0, .int .u8 0, .int .u8 0, .int .u8 0, .int .u8 0, .int .u8 0, .int .u8 0, .int .u8 0, .int .u8 0, .int .u8 0, .int .u8 0, .int .u8 0, .int .u8 0, .int .u8 0, .int .u8 0, .int .u8 0, .int .u8 0, .int .u8 0, .int .u8 0] 73) = X := ⟨_, rfl⟩
            obtain ⟨k5, hh⟩ : ∃ h, Yr89.heap.size = h := ⟨_, rfl⟩
            have hbb98 : Below Yr89.heap.size Yr89 Yr98 := by rw [← hY]; exact al1 _ _
            have HZk5 : Hid (Yr98.heap[k5]? = some (.cells #[.int .u8 0, .int .u8 0, .int .u8 0, .int .u8 0, .int .u8 0, .int .u8 0, .int .u8 0, .int .u8 0, .int .u8 0, .int .u8 0, .int .u8 0, .int .u8 0, .int .u8 0, .int .u8 0, .int .u8 0, .int .u8 0, .int .u8 0, .int .u8 0, .int .u8 0, .int .u8 0, .int .u8 0, .int .u8 0, .int .u8 0, .int .u8 0] 73)) := hid (by rw [← hY, ← hh]; exact heap_alloc_new _ _)
            rw [hY, hh]
            clear hY hh
            clear hHeld
            have hHeld := HK7.out Yr98 (below_both hB0 (below_both (below_both (below_both (below_both (below_both (below_both (below_both (below_both hbb73 hbb78) hbb74) hbb79) hbb83) hbb88) hbb84) hbb89) hbb98))
            refine hK.out _ _ (fun _ => hHeld) ?_
            clear hK K
            (try simp only [Act.put, List.setIfInBounds_toArray, List.set_cons_zero, List.set_cons_succ])
            refine' wpAnyT_one (i := 22) (o := ?oir103) (by kernel_rfl) ?hir103 (fun K hK => ?str103)
            case hir103 => (simp only [List.getElem?_toArray, List.getElem?_cons_zero, List.getElem?_cons_succ]; rfl)
            go_simp
            go_at_call 41
            refine (aw_crash (l := [zs, zs, zs]) (HEE.out Yr98 (below_both HB68.out (below_both hB0 (below_both (below_both (below_both (below_both (below_both (below_both (below_both (below_both hbb73 hbb78) hbb74) hbb79) hbb83) hbb88) hbb84) hbb89) hbb98)))).2 (ints_none0 _) (by decide) aw_c3).mono ?_
            rintro e Yr94 ⟨A94, c94, rfl, hs94, hbb94⟩
            have HS94 := hid hs94
            clear hs94
            clear hHeld
            have hHeld := HK7.out Yr94 (below_both hB0 (below_both (below_both (below_both (below_both (below_both (below_both (below_both (below_both (below_both hbb73 hbb78) hbb74) hbb79) hbb83) hbb88) hbb84) hbb89) hbb98) hbb94))
            refine hK.out _ _ (fun _ => hHeld) ?_
            clear hK K
            (try simp only [Act.put, List.setIfInBounds_toArray, List.set_cons_zero, List.set_cons_succ])
            refine' wpAnyT_one (i := 27) (o := ?oir104) (by kernel_rfl) ?hir104 (fun K hK => ?str104)
            case hir104 => (simp only [List.getElem?_toArray, List.getElem?_cons_zero, List.getElem?_cons_succ]; rfl)
            go_simp
            go_at_call 19
            refine (aw_same (HS94.out.below (Below.refl _ _)) (sec_lit (l := [zs, zs, zs]) (secABC (by decide)) (by decide) ((hbb94.block _ (box_lt HZk5.out)).trans HZk5.out))).mono ?_
            rintro e Yr99 ⟨rfl, hbb99⟩
            clear hHeld
            have hHeld := HK7.out Yr99 (below_both hB0 (below_both (below_both (below_both (below_both (below_both (below_both (below_both (below_both (below_both (below_both hbb73 hbb78) hbb74) hbb79) hbb83) hbb88) hbb84) hbb89) hbb98) hbb94) hbb99))
            refine hK.out _ _ (fun _ => hHeld) ?_
            clear hK K
            (try simp only [Act.put, List.setIfInBounds_toArray, List.set_cons_zero, List.set_cons_succ])
            refine' wpAnyT_take (i := 28) (oi := ?oir105) (v := ?vr105) ?hir105 (by kernel_rfl) (by kernel_rfl) ?hqr105 ?hyr105 hHeld ?restr105
            case hir105 => (simp only [List.getElem?_toArray, List.getElem?_cons_zero, List.getElem?_cons_succ]; rfl)
            case hqr105 => exact fun _ _ _ h => HQP _ _ _ _ _ h
            case hyr105 => (refine Or.inl ⟨by rfl, ?_⟩; intro w' hSw; (try dsimp only at hSw); go_simp; try with_reducible rfl)
            (try simp only [Act.put, List.setIfInBounds_toArray, List.set_cons_zero, List.set_cons_succ])
            refine' wpAnyT_one (i := 29) (o := ?oir106) (by kernel_rfl) ?hir106 (fun K hK => ?str106)
            case hir106 => (simp only [List.getElem?_toArray, List.getElem?_cons_zero, List.getElem?_cons_succ]; rfl)
            go_simp
            refine hK.out _ _ (fun h => absurd h (by decide)) ?_
            clear hK K
            (try simp only [Act.put, List.setIfInBounds_toArray, List.set_cons_zero, List.set_cons_succ])
            refine wpAnyT_done (by kernel_rfl) ?_ _
            exact HC.out Yr99 k1 k2 k3 k4 k5 A74 c74 A84 c84 A94 c94 (below_both hB0 (below_both (below_both (below_both (below_both (below_both (below_both (below_both (below_both (below_both (below_both hbb73 hbb78) hbb74) hbb79) hbb83) hbb88) hbb84) hbb89) hbb98) hbb94) hbb99))
      · refine ⟨_, by (simp only [List.getElem?_toArray, List.getElem?_cons_zero, List.getElem?_cons_succ]; rfl), fun K hK => ?_⟩
        go_simp
        obtain ⟨Yr88, hY⟩ : ∃ X, Yr79.alloc (.cells #[.int .u8 0, .int .u8 0, .int .u8 0, .int .u8 0, .int .u8 0, .int .u8 0, .int .u8 0, .int .u8 0, .int .u8 3, .int .u8 0, .int .u8 0, .int .u8 0, .int .u8 0, .int .u8 0, .int .u8 0, .int .u8 0, .int .u8 0, .int .u8 0, .int .u8 0, .int .u8 0, .int .u8 0, .int .u8 0, .int .u8 0, .int .u8 0] 73) = X := ⟨_, rfl⟩
        obtain ⟨k4, hh⟩ : ∃ h, Yr79.heap.size = h := ⟨_, rfl⟩
        have hbb88 : Below Yr79.heap.size Yr79 Yr88 := by rw [← hY]; exact al1 _ _
        have HZk4 : Hid (Yr88.heap[k4]? = some (.cells #[.int .u8 0, .int .u8 0, .int .u8 0, .int .u8 0, .int .u8 0, .int .u8 0, .int .u8 0, .int .u8 0, .int .u8 3, .int .u8 0, .int .u8 0, .int .u8 0, .int .u8 0, .int .u8 0, .int .u8 0, .int .u8 0, .int .u8 0, .int .u8 0, .int .u8 0, .int .u8 0, .int .u8 0, .int .u8 0, .int .u8 0, .int .u8 0] 73)) := hid (by rw [← hY, ← hh]; exact heap_alloc_new _ _)
        rw [hY, hh]
        clear hY hh
        clear hHeld
        have hHeld := HK7.out Yr88 (below_both hB0 (below_both (below_both (below_both (below_both hbb73 hbb78) hbb74) hbb79) hbb88))
        refine hK.out _ _ (fun _ => hHeld) ?_
        clear hK K
        (try simp only [Act.put, List.setIfInBounds_toArray, List.set_cons_zero, List.set_cons_succ])
        refine' wpAnyT_one (i := 11) (o := ?oir107) (by kernel_rfl) ?hir107 (fun K hK => ?str107)
        case hir107 => (simp only [List.getElem?_toArray, List.getElem?_cons_zero, List.getElem?_cons_succ]; rfl)
        go_simp
        obtain ⟨Yr83, hY⟩ : ∃ X, Yr88.alloc (.cells #[.int .i64 4, .int .i64 5] 3) = X := ⟨_, rfl⟩
        obtain ⟨k3, hh⟩ : ∃ h, Yr88.heap.size = h := ⟨_, rfl⟩
        have hbb83 : Below Yr88.heap.size Yr88 Yr83 := by rw [← hY]; exact al1 _ _
        have HZk3 : Hid (Yr83.heap[k3]? = some (.cells #[.int .i64 4, .int .i64 5] 3)) := hid (by rw [← hY, ← hh]; exact heap_alloc_new _ _)
        rw [hY, hh]
        clear hY hh
        clear hHeld
        have hHeld := HK7.out Yr83 (below_both hB0 (below_both (below_both (below_both (below_both (below_both hbb73 hbb78) hbb74) hbb79) hbb88) hbb83))
        refine hK.out _ _ (fun _ => hHeld) ?_
        clear hK K
        (try simp only [Act.put, List.setIfInBounds_toArray, List.set_cons_zero, List.set_cons_succ])
        refine' wpAnyT_one (i := 12) (o := ?oir108) (by kernel_rfl) ?hir108 (fun K hK => ?str108)
        case hir108 => (simp only [List.getElem?_toArray, List.getElem?_cons_zero, List.getElem?_cons_succ]; rfl)
        go_simp
        go_at_call 41
        refine (aw_crash (l := [zs, sC, zs]) (HEE.out Yr83 (below_both HB68.out (below_both hB0 (below_both (below_both (below_both (below_both (below_both hbb73 hbb78) hbb74) hbb79) hbb88) hbb83)))).2 (ints_lit (l := [4, 5]) r45 (by decide) (((Below.refl _ _).block _ (box_lt HZk3.out)).trans HZk3.out)) (by decide) aw_c2).mono ?_
        rintro e Yr84 ⟨A84, c84, rfl, hs84, hbb84⟩
        have HS84 := hid hs84
        clear hs84
        clear hHeld
        have hHeld := HK7.out Yr84 (below_both hB0 (below_both (below_both (below_both (below_both (below_both (below_both hbb73 hbb78) hbb74) hbb79) hbb88) hbb83) hbb84))
        refine hK.out _ _ (fun _ => hHeld) ?_
        clear hK K
        (try simp only [Act.put, List.setIfInBounds_toArray, List.set_cons_zero, List.set_cons_succ])
        refine' wpAnyT_one (i := 17) (o := ?oir109) (by kernel_rfl) ?hir109 (fun K hK => ?str109)
        case hir109 => (simp only [List.getElem?_toArray, List.getElem?_cons_zero, List.getElem?_cons_succ]; rfl)
        go_simp
        go_at_call 19
        refine (aw_same (HS84.out.below (Below.refl _ _)) (sec_lit (l := [zs, sC, zs]) (secABC (by decide)) (by decide) (((below_both hbb83 hbb84).block _ (box_lt HZk4.out)).trans HZk4.out))).mono ?_
        rintro e Yr89 ⟨rfl, hbb89⟩
        clear hHeld
        have hHeld := HK7.out Yr89 (below_both hB0 (below_both (below_both (below_both (below_both (below_both (below_both (below_both hbb73 hbb78) hbb74) hbb79) hbb88) hbb83) hbb84) hbb89))
        refine hK.out _ _ (fun _ => hHeld) ?_
        clear hK K
        (try simp only [Act.put, List.setIfInBounds_toArray, List.set_cons_zero, List.set_cons_succ])
        refine' wpAnyT_take (i := 18) (oi := ?oir110) (v := ?vr110) ?hir110 (by kernel_rfl) (by kernel_rfl) ?hqr110 ?hyr110 hHeld ?restr110
        case hir110 => (simp only [List.getElem?_toArray, List.getElem?_cons_zero, List.getElem?_cons_succ]; rfl)
        case hqr110 => exact fun _ _ _ h => HQP _ _ _ _ _ h
        case hyr110 => (refine Or.inl ⟨by rfl, ?_⟩; intro w' hSw; (try dsimp only at hSw); go_simp; try with_reducible rfl)
        (try simp only [Act.put, List.setIfInBounds_toArray, List.set_cons_zero, List.set_cons_succ])
        refine' wpAnyT_take (i := 19) (oi := ?oir111) (v := ?vr111) ?hir111 (by kernel_rfl) (by kernel_rfl) ?hqr111 ?hyr111 hHeld ?restr111
        case hir111 => (simp only [List.getElem?_toArray, List.getElem?_cons_zero, List.getElem?_cons_succ]; rfl)
        case hqr111 => exact fun _ _ _ h => HQP _ _ _ _ _ h
        case hyr111 => (refine Or.inl ⟨by rfl, ?_⟩; intro w' hSw; (try dsimp only at hSw); go_simp; try with_reducible rfl)
        (try simp only [Act.put, List.setIfInBounds_toArray, List.set_cons_zero, List.set_cons_succ])
        refine' wpAnyT_take (i := 20) (oi := ?oir112) (v := ?vr112) ?hir112 (by kernel_rfl) (by kernel_rfl) ?hqr112 ?hyr112 hHeld ?restr112
        case hir112 => (simp only [List.getElem?_toArray, List.getElem?_cons_zero, List.getElem?_cons_succ]; rfl)
        case hqr112 => exact fun _ _ _ h => HQP _ _ _ _ _ h
        case hyr112 => (refine Or.inl ⟨by rfl, ?_⟩; intro w' hSw; (try dsimp only at hSw); go_simp; try with_reducible rfl)
        (try simp only [Act.put, List.setIfInBounds_toArray, List.set_cons_zero, List.set_cons_succ])
        refine' wpAnyT_take (i := 21) (oi := ?oir113) (v := ?vr113) ?hir113 (by kernel_rfl) (by kernel_rfl) ?hqr113 ?hyr113 hHeld ?restr113
        case hir113 => (simp only [List.getElem?_toArray, List.getElem?_cons_zero, List.getElem?_cons_succ]; rfl)
        case hqr113 => exact fun _ _ _ h => HQP _ _ _ _ _ h
        case hyr113 => (refine Or.inl ⟨by rfl, ?_⟩; intro w' hSw; (try dsimp only at hSw); go_simp; try with_reducible rfl)
        (try simp only [Act.put, List.setIfInBounds_toArray, List.set_cons_zero, List.set_cons_succ])
        refine' wpAnyT_take (i := 23) (oi := ?oir114) (v := ?vr114) ?hir114 (by kernel_rfl) (by kernel_rfl) ?hqr114 ?hyr114 hHeld ?restr114
        case hir114 => (simp only [List.getElem?_toArray, List.getElem?_cons_zero, List.getElem?_cons_succ]; rfl)
        case hqr114 => exact fun _ _ _ h => HQP _ _ _ _ _ h
        case hyr114 => (refine Or.inl ⟨by rfl, ?_⟩; intro w' hSw; (try dsimp only at hSw); go_simp; try with_reducible rfl)
        (try simp only [Act.put, List.setIfInBounds_toArray, List.set_cons_zero, List.set_cons_succ])
        refine' wpAnyT_take (i := 24) (oi := ?oir115) (v := ?vr115) ?hir115 (by kernel_rfl) (by kernel_rfl) ?hqr115 ?hyr115 hHeld ?restr115
        case hir115 => (simp only [List.getElem?_toArray, List.getElem?_cons_zero, List.getElem?_cons_succ]; rfl)
        case hqr115 => exact fun _ _ _ h => HQP _ _ _ _ _ h
        case hyr115 => (refine Or.inl ⟨by rfl, ?_⟩; intro w' hSw; (try dsimp only at hSw); go_simp; try with_reducible rfl)
        (try simp only [Act.put, List.setIfInBounds_toArray, List.set_cons_zero, List.set_cons_succ])
        refine' wpAnyT_take (i := 25) (oi := ?oir116) (v := ?vr116) ?hir116 (by kernel_rfl) (by kernel_rfl) ?hqr116 ?hyr116 hHeld ?restr116
        case hir116 => (simp only [List.getElem?_toArray, List.getElem?_cons_zero, List.getElem?_cons_succ]; rfl)
        case hqr116 => exact fun _ _ _ h => HQP _ _ _ _ _ h
        case hyr116 => (refine Or.inl ⟨by rfl, ?_⟩; intro w' hSw; (try dsimp only at hSw); go_simp; try with_reducible rfl)
        (try simp only [Act.put, List.setIfInBounds_toArray, List.set_cons_zero, List.set_cons_succ])
        refine wpAnyT_all (l := [22, 26]) (by kernel_rfl) (by decide) ?_
        intro i hi
        simp only [List.mem_cons, List.not_mem_nil, or_false] at hi
        rcases hi with rfl | rfl
        · refine ⟨_, by (simp only [List.getElem?_toArray, List.getElem?_cons_zero, List.getElem?_cons_succ]; rfl), fun K hK => ?_⟩
          go_simp
          go_at_call 41
          refine (aw_crash (l := [zs, zs, zs]) (HEE.out Yr89 (below_both HB68.out (below_both hB0 (below_both (below_both (below_both (below_both (below_both (below_both (below_both hbb73 hbb78) hbb74) hbb79) hbb88) hbb83) hbb84) hbb89)))).2 (ints_none0 _) (by decide) aw_c3).mono ?_
          rintro e Yr94 ⟨A94, c94, rfl, hs94, hbb94⟩
          have HS94 := hid hs94
          clear hs94
          clear hHeld
          have hHeld := HK7.out Yr94 (below_both hB0 (below_both (below_both (below_both (below_both (below_both (below_both (below_both (below_both hbb73 hbb78) hbb74) hbb79) hbb88) hbb83) hbb84) hbb89) hbb94))
          refine hK.out _ _ (fun _ => hHeld) ?_
          clear hK K
          (try simp only [Act.put, List.setIfInBounds_toArray, List.set_cons_zero, List.set_cons_succ])
          refine' wpAnyT_one (i := 26) (o := ?oir117) (by kernel_rfl) ?hir117 (fun K hK => ?str117)
          case hir117 => (simp only [List.getElem?_toArray, List.getElem?_cons_zero, List.getElem?_cons_succ]; rfl)
          go_simp
          obtain ⟨Yr98, hY⟩ : ∃ X, Yr94.alloc (.cells #[.int .u8 0, .int .u8 0, .int .u8 0, .int .u8 0, .int .u8 0, .int .u8 0, .int .u8 0, .int .u8 0, .int .u8 0, .int .u8 0, .int .u8 0, .int .u8 0, .int .u8 0, .int .u8 0, .int .u8 0, .int .u8 0, .int .u8 0, .int .u8 0, .int .u8 0, .int .u8 0, .int .u8 0, .int .u8 0, .int .u8 0, .int .u8 0] 73) = X := ⟨_, rfl⟩
          obtain ⟨k5, hh⟩ : ∃ h, Yr94.heap.size = h := ⟨_, rfl⟩
          have hbb98 : Below Yr94.heap.size Yr94 Yr98 := by rw [← hY]; exact al1 _ _
          have HZk5 : Hid (Yr98.heap[k5]? = some (.cells #[.int .u8 0, .int .u8 0, .int .u8 0, .int .u8 0, .int .u8 0, .int .u8 0, .int .u8 0, .int .u8 0, .int .u8 0, .int .u8 0, .int .u8 0, .int .u8 0, .int .u8 0, .int .u8 0, .int .u8 0, .int .u8 0, .int .u8 0, .int .u8 0, .int .u8 0, .int .u8 0, .int .u8 0, .int .u8 0, .int .u8 0, .int .u8 0] 73)) := hid (by rw [← hY, ← hh]; exact heap_alloc_new _ _)
          rw [hY, hh]
          clear hY hh
          clear hHeld
          have hHeld := HK7.out Yr98 (below_both hB0 (below_both (below_both (below_both (below_both (below_both (below_both (below_both (below_both (below_both hbb73 hbb78) hbb74) hbb79) hbb88) hbb83) hbb84) hbb89) hbb94) hbb98))
          refine hK.out _ _ (fun _ => hHeld) ?_
          clear hK K
          (try simp only [Act.put, List.setIfInBounds_toArray, List.set_cons_zero, List.set_cons_succ])
          refine' wpAnyT_one (i := 27) (o := ?oir118) (by kernel_rfl) ?hir118 (fun K hK => ?str118)
          case hir118 => (simp only [List.getElem?_toArray, List.getElem?_cons_zero, List.getElem?_cons_succ]; rfl)
          go_simp
          go_at_call 19
          refine (aw_same (HS94.out.below hbb98) (sec_lit (l := [zs, zs, zs]) (secABC (by decide)) (by decide) (((Below.refl _ _).block _ (box_lt HZk5.out)).trans HZk5.out))).mono ?_
          rintro e Yr99 ⟨rfl, hbb99⟩
          clear hHeld
          have hHeld := HK7.out Yr99 (below_both hB0 (below_both (below_both (below_both (below_both (below_both (below_both (below_both (below_both (below_both (below_both hbb73 hbb78) hbb74) hbb79) hbb88) hbb83) hbb84) hbb89) hbb94) hbb98) hbb99))
          refine hK.out _ _ (fun _ => hHeld) ?_
          clear hK K
          (try simp only [Act.put, List.setIfInBounds_toArray, List.set_cons_zero, List.set_cons_succ])
          refine' wpAnyT_take (i := 28) (oi := ?oir119) (v := ?vr119) ?hir119 (by kernel_rfl) (by kernel_rfl) ?hqr119 ?hyr119 hHeld ?restr119
          case hir119 => (simp only [List.getElem?_toArray, List.getElem?_cons_zero, List.getElem?_cons_succ]; rfl)
          case hqr119 => exact fun _ _ _ h => HQP _ _ _ _ _ h
          case hyr119 => (refine Or.inl ⟨by rfl, ?_⟩; intro w' hSw; (try dsimp only at hSw); go_simp; try with_reducible rfl)
          (try simp only [Act.put, List.setIfInBounds_toArray, List.set_cons_zero, List.set_cons_succ])
          refine' wpAnyT_one (i := 29) (o := ?oir120) (by kernel_rfl) ?hir120 (fun K hK => ?str120)
          case hir120 => (simp only [List.getElem?_toArray, List.getElem?_cons_zero, List.getElem?_cons_succ]; rfl)
          go_simp
          refine hK.out _ _ (fun h => absurd h (by decide)) ?_
          clear hK K
          (try simp only [Act.put, List.setIfInBounds_toArray, List.set_cons_zero, List.set_cons_succ])
          refine wpAnyT_done (by kernel_rfl) ?_ _
          exact HC.out Yr99 k1 k2 k3 k4 k5 A74 c74 A84 c84 A94 c94 (below_both hB0 (below_both (below_both (below_both (below_both (below_both (below_both (below_both (below_both (below_both (below_both hbb73 hbb78) hbb74) hbb79) hbb88) hbb83) hbb84) hbb89) hbb94) hbb98) hbb99))
        · refine ⟨_, by (simp only [List.getElem?_toArray, List.getElem?_cons_zero, List.getElem?_cons_succ]; rfl), fun K hK => ?_⟩
          go_simp
          obtain ⟨Yr98, hY⟩ : ∃ X, Yr89.alloc (.cells #[.int .u8 0, .int .u8 0, .int .u8 0, .int .u8 0, .int .u8 0, .int .u8 0, .int .u8 0, .int .u8 0, .int .u8 0, .int .u8 0, .int .u8 0, .int .u8 0, .int .u8 0, .int .u8 0, .int .u8 0, .int .u8 0, .int .u8 0, .int .u8 0, .int .u8 0, .int .u8 0, .int .u8 0, .int .u8 0, .int .u8 0, .int .u8 0] 73) = X := ⟨_, rfl⟩
          obtain ⟨k5, hh⟩ : ∃ h, Yr89.heap.size = h := ⟨_, rfl⟩
          have hbb98 : Below Yr89.heap.size Yr89 Yr98 := by rw [← hY]; exact al1 _ _
          have HZk5 : Hid (Yr98.heap[k5]? = some (.cells #[.int .u8 0, .int .u8 0, .int .u8 0, .int .u8 0, .int .u8 0, .int .u8 0, .int .u8 0, .int .u8 0, .int .u8 0, .int .u8 0, .int .u8 0, .int .u8 0, .int .u8 0, .int .u8 0, .int .u8 0, .int .u8 0, .int .u8 0, .int .u8 0, .int .u8 0, .int .u8 0, .int .u8 0, .int .u8 0, .int .u8 0, .int .u8 0] 73)) := hid (by rw [← hY, ← hh]; exact heap_alloc_new _ _)
          rw [hY, hh]
          clear hY hh
          clear hHeld
          have hHeld := HK7.out Yr98 (below_both hB0 (below_both (below_both (below_both (below_both (below_both (below_both (below_both (below_both hbb73 hbb78) hbb74) hbb79) hbb88) hbb83) hbb84) hbb89) hbb98))
          refine hK.out _ _ (fun _ => hHeld) ?_
          clear hK K
          (try simp only [Act.put, List.setIfInBounds_toArray, List.set_cons_zero, List.set_cons_succ])
          refine' wpAnyT_one (i := 22) (o := ?oir121) (by kernel_rfl) ?hir121 (fun K hK => ?str121)
          case hir121 => (simp only [List.getElem?_toArray, List.getElem?_cons_zero, List.getElem?_cons_succ]; rfl)
          go_simp
          go_at_call 41
          refine (aw_crash (l := [zs, zs, zs]) (HEE.out Yr98 (below_both HB68.out (below_both hB0 (below_both (below_both (below_both (below_both (below_both (below_both (below_both (below_both hbb73 hbb78) hbb74) hbb79) hbb88) hbb83) hbb84) hbb89) hbb98)))).2 (ints_none0 _) (by decide) aw_c3).mono ?_
          rintro e Yr94 ⟨A94, c94, rfl, hs94, hbb94⟩
          have HS94 := hid hs94
          clear hs94
          clear hHeld
          have hHeld := HK7.out Yr94 (below_both hB0 (below_both (below_both (below_both (below_both (below_both (below_both (below_both (below_both (below_both hbb73 hbb78) hbb74) hbb79) hbb88) hbb83) hbb84) hbb89) hbb98) hbb94))
          refine hK.out _ _ (fun _ => hHeld) ?_
          clear hK K
          (try simp only [Act.put, List.setIfInBounds_toArray, List.set_cons_zero, List.set_cons_succ])
          refine' wpAnyT_one (i := 27) (o := ?oir122) (by kernel_rfl) ?hir122 (fun K hK => ?str122)
          case hir122 => (simp only [List.getElem?_toArray, List.getElem?_cons_zero, List.getElem?_cons_succ]; rfl)
          go_simp
          go_at_call 19
          refine (aw_same (HS94.out.below (Below.refl _ _)) (sec_lit (l := [zs, zs, zs]) (secABC (by decide)) (by decide) ((hbb94.block _ (box_lt HZk5.out)).trans HZk5.out))).mono ?_
          rintro e Yr99 ⟨rfl, hbb99⟩
          clear hHeld
          have hHeld := HK7.out Yr99 (below_both hB0 (below_both (below_both (below_both (below_both (below_both (below_both (below_both (below_both (below_both (below_both hbb73 hbb78) hbb74) hbb79) hbb88) hbb83) hbb84) hbb89) hbb98) hbb94) hbb99))
          refine hK.out _ _ (fun _ => hHeld) ?_
          clear hK K
          (try simp only [Act.put, List.setIfInBounds_toArray, List.set_cons_zero, List.set_cons_succ])
          refine' wpAnyT_take (i := 28) (oi := ?oir123) (v := ?vr123) ?hir123 (by kernel_rfl) (by kernel_rfl) ?hqr123 ?hyr123 hHeld ?restr123
          case hir123 => (simp only [List.getElem?_toArray, List.getElem?_cons_zero, List.getElem?_cons_succ]; rfl)
          case hqr123 => exact fun _ _ _ h => HQP _ _ _ _ _ h
          case hyr123 => (refine Or.inl ⟨by rfl, ?_⟩; intro w' hSw; (try dsimp only at hSw); go_simp; try with_reducible rfl)
          (try simp only [Act.put, List.setIfInBounds_toArray, List.set_cons_zero, List.set_cons_succ])
          refine' wpAnyT_one (i := 29) (o := ?oir124) (by kernel_rfl) ?hir124 (fun K hK => ?str124)
          case hir124 => (simp only [List.getElem?_toArray, List.getElem?_cons_zero, List.getElem?_cons_succ]; rfl)
          go_simp
          refine hK.out _ _ (fun h => absurd h (by decide)) ?_
          clear hK K
          (try simp only [Act.put, List.setIfInBounds_toArray, List.set_cons_zero, List.set_cons_succ])
          refine wpAnyT_done (by kernel_rfl) ?_ _
          exact HC.out Yr99 k1 k2 k3 k4 k5 A74 c74 A84 c84 A94 c94 (below_both hB0 (below_both (below_both (below_both (below_both (below_both (below_both (below_both (below_both (below_both (below_both hbb73 hbb78) hbb74) hbb79) hbb88) hbb83) hbb84) hbb89) hbb98) hbb94) hbb99))
  · refine ⟨_, by (simp only [List.getElem?_toArray, List.getElem?_cons_zero, List.getElem?_cons_succ]; rfl), fun K hK => ?_⟩
    go_simp
    obtain ⟨Yr78, hY⟩ : ∃ X, X0.alloc (.cells #[.int .u8 1, .int .u8 0, .int .u8 0, .int .u8 0, .int .u8 0, .int .u8 0, .int .u8 0, .int .u8 0, .int .u8 2, .int .u8 0, .int .u8 0, .int .u8 0, .int .u8 0, .int .u8 0, .int .u8 0, .int .u8 0, .int .u8 0, .int .u8 0, .int .u8 0, .int .u8 0, .int .u8 0, .int .u8 0, .int .u8 0, .int .u8 0] 73) = X := ⟨_, rfl⟩
    obtain ⟨k2, hh⟩ : ∃ h, X0.heap.size = h := ⟨_, rfl⟩
    have hbb78 : Below X0.heap.size X0 Yr78 := by rw [← hY]; exact al1 _ _
    have HZk2 : Hid (Yr78.heap[k2]? = some (.cells #[.int .u8 1, .int .u8 0, .int .u8 0, .int .u8 0, .int .u8 0, .int .u8 0, .int .u8 0, .int .u8 0, .int .u8 2, .int .u8 0, .int .u8 0, .int .u8 0, .int .u8 0, .int .u8 0, .int .u8 0, .int .u8 0, .int .u8 0, .int .u8 0, .int .u8 0, .int .u8 0, .int .u8 0, .int .u8 0, .int .u8 0, .int .u8 0] 73)) := hid (by rw [← hY, ← hh]; exact heap_alloc_new _ _)
    rw [hY, hh]
    clear hY hh
    clear hHeld
    have hHeld := HK7.out Yr78 (below_both hB0 hbb78)
    refine hK.out _ _ (fun _ => hHeld) ?_
    clear hK K
    (try simp only [Act.put, List.setIfInBounds_toArray, List.set_cons_zero, List.set_cons_succ])
    refine' wpAnyT_one (i := 1) (o := ?oir125) (by kernel_rfl) ?hir125 (fun K hK => ?str125)
    case hir125 => (simp only [List.getElem?_toArray, List.getElem?_cons_zero, List.getElem?_cons_succ]; rfl)
    go_simp
    obtain ⟨Yr73, hY⟩ : ∃ X, Yr78.alloc (.cells #[.int .i64 1, .int .i64 1] 3) = X := ⟨_, rfl⟩
    obtain ⟨k1, hh⟩ : ∃ h, Yr78.heap.size = h := ⟨_, rfl⟩
    have hbb73 : Below Yr78.heap.size Yr78 Yr73 := by rw [← hY]; exact al1 _ _
    have HZk1 : Hid (Yr73.heap[k1]? = some (.cells #[.int .i64 1, .int .i64 1] 3)) := hid (by rw [← hY, ← hh]; exact heap_alloc_new _ _)
    rw [hY, hh]
    clear hY hh
    clear hHeld
    have hHeld := HK7.out Yr73 (below_both hB0 (below_both hbb78 hbb73))
    refine hK.out _ _ (fun _ => hHeld) ?_
    clear hK K
    (try simp only [Act.put, List.setIfInBounds_toArray, List.set_cons_zero, List.set_cons_succ])
    refine' wpAnyT_one (i := 2) (o := ?oir126) (by kernel_rfl) ?hir126 (fun K hK => ?str126)
    case hir126 => (simp only [List.getElem?_toArray, List.getElem?_cons_zero, List.getElem?_cons_succ]; rfl)
    go_simp
    go_at_call 41
    refine (aw_crash (l := [sA, sB, zs]) (HEE.out Yr73 (below_both HB68.out (below_both hB0 (below_both hbb78 hbb73)))).2 (ints_lit (l := [1, 1]) r11 (by decide) (((Below.refl _ _).block _ (box_lt HZk1.out)).trans HZk1.out)) (by decide) aw_c1).mono ?_
    rintro e Yr74 ⟨A74, c74, rfl, hs74, hbb74⟩
    have HS74 := hid hs74
    clear hs74
    clear hHeld
    have hHeld := HK7.out Yr74 (below_both hB0 (below_both (below_both hbb78 hbb73) hbb74))
    refine hK.out _ _ (fun _ => hHeld) ?_
    clear hK K
    (try simp only [Act.put, List.setIfInBounds_toArray, List.set_cons_zero, List.set_cons_succ])
    refine' wpAnyT_one (i := 7) (o := ?oir127) (by kernel_rfl) ?hir127 (fun K hK => ?str127)
    case hir127 => (simp only [List.getElem?_toArray, List.getElem?_cons_zero, List.getElem?_cons_succ]; rfl)
    go_simp
    go_at_call 19
    refine (aw_same (HS74.out.below (Below.refl _ _)) (sec_lit (l := [sA, sB, zs]) (secABC (by decide)) (by decide) (((below_both hbb73 hbb74).block _ (box_lt HZk2.out)).trans HZk2.out))).mono ?_
    rintro e Yr79 ⟨rfl, hbb79⟩
    clear hHeld
    have hHeld := HK7.out Yr79 (below_both hB0 (below_both (below_both (below_both hbb78 hbb73) hbb74) hbb79))
    refine hK.out _ _ (fun _ => hHeld) ?_
    clear hK K
    (try simp only [Act.put, List.setIfInBounds_toArray, List.set_cons_zero, List.set_cons_succ])
    refine' wpAnyT_take (i := 8) (oi := ?oir128) (v := ?vr128) ?hir128 (by kernel_rfl) (by kernel_rfl) ?hqr128 ?hyr128 hHeld ?restr128
    case hir128 => (simp only [List.getElem?_toArray, List.getElem?_cons_zero, List.getElem?_cons_succ]; rfl)
    case hqr128 => exact fun _ _ _ h => HQP _ _ _ _ _ h
    case hyr128 => (refine Or.inl ⟨by rfl, ?_⟩; intro w' hSw; (try dsimp only at hSw); go_simp; try with_reducible rfl)
    (try simp only [Act.put, List.setIfInBounds_toArray, List.set_cons_zero, List.set_cons_succ])
    refine' wpAnyT_take (i := 9) (oi := ?oir129) (v := ?vr129) ?hir129 (by kernel_rfl) (by kernel_rfl) ?hqr129 ?hyr129 hHeld ?restr129
    case hir129 => (simp only [List.getElem?_toArray, List.getElem?_cons_zero, List.getElem?_cons_succ]; rfl)
    case hqr129 => exact fun _ _ _ h => HQP _ _ _ _ _ h
    case hyr129 => (refine Or.inl ⟨by rfl, ?_⟩; intro w' hSw; (try dsimp only at hSw); go_simp; try with_reducible rfl)
    (try simp only [Act.put, List.setIfInBounds_toArray, List.set_cons_zero, List.set_cons_succ])
    refine' wpAnyT_take (i := 10) (oi := ?oir130) (v := ?vr130) ?hir130 (by kernel_rfl) (by kernel_rfl) ?hqr130 ?hyr130 hHeld ?restr130
    case hir130 => (simp only [List.getElem?_toArray, List.getElem?_cons_zero, List.getElem?_cons_succ]; rfl)
    case hqr130 => exact fun _ _ _ h => HQP _ _ _ _ _ h
    case hyr130 => (refine Or.inl ⟨by rfl, ?_⟩; intro w' hSw; (try dsimp only at hSw); go_simp; try with_reducible rfl)
    (try simp only [Act.put, List.setIfInBounds_toArray, List.set_cons_zero, List.set_cons_succ])
    refine' wpAnyT_take (i := 13) (oi := ?oir131) (v := ?vr131) ?hir131 (by kernel_rfl) (by kernel_rfl) ?hqr131 ?hyr131 hHeld ?restr131
    case hir131 => (simp only [List.getElem?_toArray, List.getElem?_cons_zero, List.getElem?_cons_succ]; rfl)
    case hqr131 => exact fun _ _ _ h => HQP _ _ _ _ _ h
    case hyr131 => (refine Or.inl ⟨by rfl, ?_⟩; intro w' hSw; (try dsimp only at hSw); go_simp; try with_reducible rfl)
    (try simp only [Act.put, List.setIfInBounds_toArray, List.set_cons_zero, List.set_cons_succ])
    refine' wpAnyT_take (i := 14) (oi := ?oir132) (v := ?vr132) ?hir132 (by kernel_rfl) (by kernel_rfl) ?hqr132 ?hyr132 hHeld ?restr132
    case hir132 => (simp only [List.getElem?_toArray, List.getElem?_cons_zero, List.getElem?_cons_succ]; rfl)
    case hqr132 => exact fun _ _ _ h => HQP _ _ _ _ _ h
    case hyr132 => (refine Or.inl ⟨by rfl, ?_⟩; intro w' hSw; (try dsimp only at hSw); go_simp; try with_reducible rfl)
    (try simp only [Act.put, List.setIfInBounds_toArray, List.set_cons_zero, List.set_cons_succ])
    refine' wpAnyT_take (i := 15) (oi := ?oir133) (v := ?vr133) ?hir133 (by kernel_rfl) (by kernel_rfl) ?hqr133 ?hyr133 hHeld ?restr133
    case hir133 => (simp only [List.getElem?_toArray, List.getElem?_cons_zero, List.getElem?_cons_succ]; rfl)
    case hqr133 => exact fun _ _ _ h => HQP _ _ _ _ _ h
    case hyr133 => (refine Or.inl ⟨by rfl, ?_⟩; intro w' hSw; (try dsimp only at hSw); go_simp; try with_reducible rfl)
    (try simp only [Act.put, List.setIfInBounds_toArray, List.set_cons_zero, List.set_cons_succ])
    refine wpAnyT_all (l := [11, 16]) (by kernel_rfl) (by decide) ?_
    intro i hi
    simp only [List.mem_cons, List.not_mem_nil, or_false] at hi
    rcases hi with rfl | rfl
    · refine ⟨_, by (simp only [List.getElem?_toArray, List.getElem?_cons_zero, List.getElem?_cons_succ]; rfl), fun K hK => ?_⟩
      go_simp
      obtain ⟨Yr83, hY⟩ : ∃ X, Yr79.alloc (.cells #[.int .i64 4, .int .i64 5] 3) = X := ⟨_, rfl⟩
      obtain ⟨k3, hh⟩ : ∃ h, Yr79.heap.size = h := ⟨_, rfl⟩
      have hbb83 : Below Yr79.heap.size Yr79 Yr83 := by rw [← hY]; exact al1 _ _
      have HZk3 : Hid (Yr83.heap[k3]? = some (.cells #[.int .i64 4, .int .i64 5] 3)) := hid (by rw [← hY, ← hh]; exact heap_alloc_new _ _)
      rw [hY, hh]
      clear hY hh
      clear hHeld
      have hHeld := HK7.out Yr83 (below_both hB0 (below_both (below_both (below_both (below_both hbb78 hbb73) hbb74) hbb79) hbb83))
      refine hK.out _ _ (fun _ => hHeld) ?_
      clear hK K
      (try simp only [Act.put, List.setIfInBounds_toArray, List.set_cons_zero, List.set_cons_succ])
      refine wpAnyT_all (l := [12, 16]) (by kernel_rfl) (by decide) ?_
      intro i hi
      simp only [List.mem_cons, List.not_mem_nil, or_false] at hi
      rcases hi with rfl | rfl
      · refine ⟨_, by (simp only [List.getElem?_toArray, List.getElem?_cons_zero, List.getElem?_cons_succ]; rfl), fun K hK => ?_⟩
        go_simp
        go_at_call 41
        refine (aw_crash (l := [zs, sC, zs]) (HEE.out Yr83 (below_both HB68.out (below_both hB0 (below_both (below_both (below_both (below_both hbb78 hbb73) hbb74) hbb79) hbb83)))).2 (ints_lit (l := [4, 5]) r45 (by decide) (((Below.refl _ _).block _ (box_lt HZk3.out)).trans HZk3.out)) (by decide) aw_c2).mono ?_
        rintro e Yr84 ⟨A84, c84, rfl, hs84, hbb84⟩
        have HS84 := hid hs84
        clear hs84
        clear hHeld
        have hHeld := HK7.out Yr84 (below_both hB0 (below_both (below_both (below_both (below_both (below_both hbb78 hbb73) hbb74) hbb79) hbb83) hbb84))
        refine hK.out _ _ (fun _ => hHeld) ?_
        clear hK K
        (try simp only [Act.put, List.setIfInBounds_toArray, List.set_cons_zero, List.set_cons_succ])
        refine' wpAnyT_one (i := 16) (o := ?oir134) (by kernel_rfl) ?hir134 (fun K hK => ?str134)
        case hir134 => (simp only [List.getElem?_toArray, List.getElem?_cons_zero, List.getElem?_cons_succ]; rfl)
        go_simp
        obtain ⟨Yr88, hY⟩ : ∃ X, Yr84.alloc (.cells #[.int .u8 0, .int .u8 0, .int .u8 0, .int .u8 0, .int .u8 0, .int .u8 0, .int .u8 0, .int .u8 0, .int .u8 3, .int .u8 0, .int .u8 0, .int .u8 0, .int .u8 0, .int .u8 0, .int .u8 0, .int .u8 0, .int .u8 0, .int .u8 0, .int .u8 0, .int .u8 0, .int .u8 0, .int .u8 0, .int .u8 0, .int .u8 0] 73) = X := ⟨_, rfl⟩
        obtain ⟨k4, hh⟩ : ∃ h, Yr84.heap.size = h := ⟨_, rfl⟩
        have hbb88 : Below Yr84.heap.size Yr84 Yr88 := by rw [← hY]; exact al1 _ _
        have HZk4 : Hid (Yr88.heap[k4]? = some (.cells #[.int .u8 0, .int .u8 0, .int .u8 0, .int .u8 0, .int .u8 0, .int .u8 0, .int .u8 0, .int .u8 0, .int .u8 3, .int .u8 0, .int .u8 0, .int .u8 0, .int .u8 0, .int .u8 0, .int .u8 0, .int .u8 0, .int .u8 0, .int .u8 0, .int .u8 0, .int .u8 0, .int .u8 0, .int .u8 0, .int .u8 0, .int .u8 0] 73)) := hid (by rw [← hY, ← hh]; exact heap_alloc_new _ _)
        rw [hY, hh]
        clear hY hh
        clear hHeld
        have hHeld := HK7.out Yr88 (below_both hB0 (below_both (below_both (below_both (below_both (below_both (below_both hbb78 hbb73) hbb74) hbb79) hbb83) hbb84) hbb88))
        refine hK.out _ _ (fun _ => hHeld) ?_
        clear hK K
        (try simp only [Act.put, List.setIfInBounds_toArray, List.set_cons_zero, List.set_cons_succ])
        refine' wpAnyT_one (i := 17) (o := ?oir135) (by kernel_rfl) ?hir135 (fun K hK => ?str135)
        case hir135 => (simp only [List.getElem?_toArray, List.getElem?_cons_zero, List.getElem?_cons_succ]; rfl)
        go_simp
        go_at_call 19
        refine (aw_same (HS84.out.below hbb88) (sec_lit (l := [zs, sC, zs]) (secABC (by decide)) (by decide) (((Below.refl _ _).block _ (box_lt HZk4.out)).trans HZk4.out))).mono ?_
        rintro e Yr89 ⟨rfl, hbb89⟩
        clear hHeld
        have hHeld := HK7.out Yr89 (below_both hB0 (below_both (below_both (below_both (below_both (below_both (below_both (below_both hbb78 hbb73) hbb74) hbb79) hbb83) hbb84) hbb88) hbb89))
        refine hK.out _ _ (fun _ => hHeld) ?_
        clear hK K
        (try simp only [Act.put, List.setIfInBounds_toArray, List.set_cons_zero, List.set_cons_succ])
        refine' wpAnyT_take (i := 18) (oi := ?oir136) (v := ?vr136) ?hir136 (by kernel_rfl) (by kernel_rfl) ?hqr136 ?hyr136 hHeld ?restr136
        case hir136 => (simp only [List.getElem?_toArray, List.getElem?_cons_zero, List.getElem?_cons_succ]; rfl)
        case hqr136 => exact fun _ _ _ h => HQP _ _ _ _ _ h
        case hyr136 => (refine Or.inl ⟨by rfl, ?_⟩; intro w' hSw; (try dsimp only at hSw); go_simp; try with_reducible rfl)
        (try simp only [Act.put, List.setIfInBounds_toArray, List.set_cons_zero, List.set_cons_succ])
        refine' wpAnyT_take (i := 19) (oi := ?oir137) (v := ?vr137) ?hir137 (by kernel_rfl) (by kernel_rfl) ?hqr137 ?hyr137 hHeld ?restr137
        case hir137 => (simp only [List.getElem?_toArray, List.getElem?_cons_zero, List.getElem?_cons_succ]; rfl)
        case hqr137 => exact fun _ _ _ h => HQP _ _ _ _ _ h
        case hyr137 => (refine Or.inl ⟨by rfl, ?_⟩; intro w' hSw; (try dsimp only at hSw); go_simp; try with_reducible rfl)
        (try simp only [Act.put, List.setIfInBounds_toArray, List.set_cons_zero, List.set_cons_succ])
        refine' wpAnyT_take (i := 20) (oi := ?oir138) (v := ?vr138) ?hir138 (by kernel_rfl) (by kernel_rfl) ?hqr138 ?hyr138 hHeld ?restr138
        case hir138 => (simp only [List.getElem?_toArray, List.getElem?_cons_zero, List.getElem?_cons_succ]; rfl)
        case hqr138 => exact fun _ _ _ h => HQP _ _ _ _ _ h
        case hyr138 => (refine Or.inl ⟨by rfl, ?_⟩; intro w' hSw; (try dsimp only at hSw); go_simp; try with_reducible rfl)
        (try simp only [Act.put, List.setIfInBounds_toArray, List.set_cons_zero, List.set_cons_succ])
        refine' wpAnyT_take (i := 21) (oi := ?oir139) (v := ?vr139) ?hir139 (by kernel_rfl) (by kernel_rfl) ?hqr139 ?hyr139 hHeld ?restr139
        case hir139 => (simp only [List.getElem?_toArray, List.getElem?_cons_zero, List.getElem?_cons_succ]; rfl)
        case hqr139 => exact fun _ _ _ h => HQP _ _ _ _ _ h
        case hyr139 => (refine Or.inl ⟨by rfl, ?_⟩; intro w' hSw; (try dsimp only at hSw); go_simp; try with_reducible rfl)
        (try simp only [Act.put, List.setIfInBounds_toArray, List.set_cons_zero, List.set_cons_succ])
        refine' wpAnyT_take (i := 23) (oi := ?oir140) (v := ?vr140) ?hir140 (by kernel_rfl) (by kernel_rfl) ?hqr140 ?hyr140 hHeld ?restr140
        case hir140 => (simp only [List.getElem?_toArray, List.getElem?_cons_zero, List.getElem?_cons_succ]; rfl)
        case hqr140 => exact fun _ _ _ h => HQP _ _ _ _ _ h
        case hyr140 => (refine Or.inl ⟨by rfl, ?_⟩; intro w' hSw; (try dsimp only at hSw); go_simp; try with_reducible rfl)
        (try simp only [Act.put, List.setIfInBounds_toArray, List.set_cons_zero, List.set_cons_succ])
        refine' wpAnyT_take (i := 24) (oi := ?oir141) (v := ?vr141) ?hir141 (by kernel_rfl) (by kernel_rfl) ?hqr141 ?hyr141 hHeld ?restr141
        case hir141 => (simp only [List.getElem?_toArray, List.getElem?_cons_zero, List.getElem?_cons_succ]; rfl)
        case hqr141 => exact fun _ _ _ h => HQP _ _ _ _ _ h
        case hyr141 => (refine Or.inl ⟨by rfl, ?_⟩; intro w' hSw; (try dsimp only at hSw); go_simp; try with_reducible rfl)
        (try simp only [Act.put, List.setIfInBounds_toArray, List.set_cons_zero, List.set_cons_succ])
        refine' wpAnyT_take (i := 25) (oi := ?oir142) (v := ?vr142) ?hir142 (by kernel_rfl) (by kernel_rfl) ?hqr142 ?hyr142 hHeld ?restr142
        case hir142 => (simp only [List.getElem?_toArray, List.getElem?_cons_zero, List.getElem?_cons_succ]; rfl)
        case hqr142 => exact fun _ _ _ h => HQP _ _ _ _ _ h
        case hyr142 => (refine Or.inl ⟨by rfl, ?_⟩; intro w' hSw; (try dsimp only at hSw); go_simp; try with_reducible rfl)
        (try simp only [Act.put, List.setIfInBounds_toArray, List.set_cons_zero, List.set_cons_succ])
        refine wpAnyT_all (l := [22, 26]) (by kernel_rfl) (by decide) ?_
        intro i hi
        simp only [List.mem_cons, List.not_mem_nil, or_false] at hi
        rcases hi with rfl | rfl
        · refine ⟨_, by (simp only [List.getElem?_toArray, List.getElem?_cons_zero, List.getElem?_cons_succ]; rfl), fun K hK => ?_⟩
          go_simp
          go_at_call 41
          refine (aw_crash (l := [zs, zs, zs]) (HEE.out Yr89 (below_both HB68.out (below_both hB0 (below_both (below_both (below_both (below_both (below_both (below_both (below_both hbb78 hbb73) hbb74) hbb79) hbb83) hbb84) hbb88) hbb89)))).2 (ints_none0 _) (by decide) aw_c3).mono ?_
          rintro e Yr94 ⟨A94, c94, rfl, hs94, hbb94⟩
          have HS94 := hid hs94
          clear hs94
          clear hHeld
          have hHeld := HK7.out Yr94 (below_both hB0 (below_both (below_both (below_both (below_both (below_both (below_both (below_both (below_both hbb78 hbb73) hbb74) hbb79) hbb83) hbb84) hbb88) hbb89) hbb94))
          refine hK.out _ _ (fun _ => hHeld) ?_
          clear hK K
          (try simp only [Act.put, List.setIfInBounds_toArray, List.set_cons_zero, List.set_cons_succ])
          refine' wpAnyT_one (i := 26) (o := ?oir143) (by kernel_rfl) ?hir143 (fun K hK => ?str143)
          case hir143 => (simp only [List.getElem?_toArray, List.getElem?_cons_zero, List.getElem?_cons_succ]; rfl)
          go_simp
          obtain ⟨Yr98, hY⟩ : ∃ X, Yr94.alloc (.cells #[.int .u8 0, .int .u8 0, .int .u8 0, .int .u8 0, .int .u8 0, .int .u8 0, .int .u8 0, .int .u8 0, .int .u8 0, .int .u8 0, .int .u8 0, .int .u8 0, .int .u8 0, .int .u8 0, .int .u8 0, .int .u8 0, .int .u8 0, .int .u8 0, .int .u8 0, .int .u8 0, .int .u8 0, .int .u8 0, .int .u8 0, .int .u8 0] 73) = X := ⟨_, rfl⟩
          obtain ⟨k5, hh⟩ : ∃ h, Yr94.heap.size = h := ⟨_, rfl⟩
          have hbb98 : Below Yr94.heap.size Yr94 Yr98 := by rw [← hY]; exact al1 _ _
          have HZk5 : Hid (Yr98.heap[k5]? = some (.cells #[.int .u8 0, .int .u8 0, .int .u8 0, .int .u8 0, .int .u8 0, .int .u8 0, .int .u8 0, .int .u8 0, .int .u8 0, .int .u8 0, .int .u8 0, .int .u8 0, .int .u8 0, .int .u8 0, .int .u8 0, .int .u8 0, .int .u8 0, .int .u8 0, .int .u8 0, .int .u8 0, .int .u8 0, .int .u8 0, .int .u8 0, .int .u8 0] 73)) := hid (by rw [← hY, ← hh]; exact heap_alloc_new _ _)
          rw [hY, hh]
          clear hY hh
          clear hHeld
          have hHeld := HK7.out Yr98 (below_both hB0 (below_both (below_both (below_both (below_both (below_both (below_both (below_both (below_both (below_both hbb78 hbb73) hbb74) hbb79) hbb83) hbb84) hbb88) hbb89) hbb94) hbb98))
          refine hK.out _ _ (fun _ => hHeld) ?_
          clear hK K
          (try simp only [Act.put, List.setIfInBounds_toArray, List.set_cons_zero, List.set_cons_succ])
          refine' wpAnyT_one (i := 27) (o := ?oir144) (by kernel_rfl) ?hir144 (fun K hK => ?str144)
          case hir144 => (simp only [List.getElem?_toArray, List.getElem?_cons_zero, List.getElem?_cons_succ]; rfl)
          go_simp
          go_at_call 19
          refine (aw_same (HS94.out.below hbb98) (sec_lit (l := [zs, zs, zs]) (secABC (by decide)) (by decide) (((Below.refl _ _).block _ (box_lt HZk5.out)).trans HZk5.out))).mono ?_
          rintro e Yr99 ⟨rfl, hbb99⟩
          clear hHeld
          have hHeld := HK7.out Yr99 (below_both hB0 (below_both (below_both (below_both (below_both (below_both (below_both (below_both (below_both (below_both (below_both hbb78 hbb73) hbb74) hbb79) hbb83) hbb84) hbb88) hbb89) hbb94) hbb98) hbb99))
          refine hK.out _ _ (fun _ => hHeld) ?_
          clear hK K
          (try simp only [Act.put, List.setIfInBounds_toArray, List.set_cons_zero, List.set_cons_succ])
          refine' wpAnyT_take (i := 28) (oi := ?oir145) (v := ?vr145) ?hir145 (by kernel_rfl) (by kernel_rfl) ?hqr145 ?hyr145 hHeld ?restr145
          case hir145 => (simp only [List.getElem?_toArray, List.getElem?_cons_zero, List.getElem?_cons_succ]; rfl)
          case hqr145 => exact fun _ _ _ h => HQP _ _ _ _ _ h
          case hyr145 => (refine Or.inl ⟨by rfl, ?_⟩; intro w' hSw; (try dsimp only at hSw); go_simp; try with_reducible rfl)
          (try simp only [Act.put, List.setIfInBounds_toArray, List.set_cons_zero, List.set_cons_succ])
          refine' wpAnyT_one (i := 29) (o := ?oir146) (by kernel_rfl) ?hir146 (fun K hK => ?str146)
          case hir146 => (simp only [List.getElem?_toArray, List.getElem?_cons_zero, List.getElem?_cons_succ]; rfl)
          go_simp
          refine hK.out _ _ (fun h => absurd h (by decide)) ?_
          clear hK K
          (try simp only [Act.put, List.setIfInBounds_toArray, List.set_cons_zero, List.set_cons_succ])
          refine wpAnyT_done (by kernel_rfl) ?_ _
          exact HC.out Yr99 k1 k2 k3 k4 k5 A74 c74 A84 c84 A94 c94 (below_both hB0 (below_both (below_both (below_both (below_both (below_both (below_both (below_both (below_both (below_both (below_both hbb78 hbb73) hbb74) hbb79) hbb83) hbb84) hbb88) hbb89) hbb94) hbb98) hbb99))
        · refine ⟨_, by (simp only [List.getElem?_toArray, List.getElem?_cons_zero, List.getElem?_cons_succ]; rfl), fun K hK => ?_⟩
          go_simp
          obtain ⟨Yr98, hY⟩ : ∃ X, Yr89.alloc (.cells #[.int .u8 0, .int .u8 0, .int .u8 0, .int .u8 0, .int .u8 0, .int .u8 0, .int .u8 0, .int .u8 0, .int .u8 0, .int .u8 0, .int .u8 0, .int .u8 0, .int .u8 0, .int .u8 0, .int .u8 0, .int .u8 0, .int .u8 0, .int .u8 0, .int .u8 0, .int .u8 0, .int .u8 0, .int .u8 0, .int .u8 0, .int .u8 0] 73) = X := ⟨_, rfl⟩
          obtain ⟨k5, hh⟩ : ∃ h, Yr89.heap.size = h := ⟨_, rfl⟩
          have hbb98 : Below Yr89.heap.size Yr89 Yr98 := by rw [← hY]; exact al1 _ _
          have HZk5 : Hid (Yr98.heap[k5]? = some (.cells #[.int .u8 0, .int .u8 0, .int .u8 0, .int .u8 0, .int .u8 0, .int .u8 0, .int .u8 0, .int .u8 0, .int .u8 0, .int .u8 0, .int .u8 0, .int .u8 0, .int .u8 0, .int .u8 0, .int .u8 0, .int .u8 0, .int .u8 0, .int .u8 0, .int .u8 0, .int .u8 0, .int .u8 0, .int .u8 0, .int .u8 0, .int .u8 0] 73)) := hid (by rw [← hY, ← hh]; exact heap_alloc_new _ _)
          rw [hY, hh]
          clear hY hh
          clear hHeld
          have hHeld := HK7.out Yr98 (below_both hB0 (below_both (below_both (below_both (below_both (below_both (below_both (below_both (below_both hbb78 hbb73) hbb74) hbb79) hbb83) hbb84) hbb88) hbb89) hbb98))
          refine hK.out _ _ (fun _ => hHeld) ?_
          clear hK K
          (try simp only [Act.put, List.setIfInBounds_toArray, List.set_cons_zero, List.set_cons_succ])
          refine' wpAnyT_one (i := 22) (o := ?oir147) (by kernel_rfl) ?hir147 (fun K hK => ?str147)
          case hir147 => (simp only [List.getElem?_toArray, List.getElem?_cons_zero, List.getElem?_cons_succ]; rfl)
          go_simp
          go_at_call 41
          refine (aw_crash (l := [zs, zs, zs]) (HEE.out Yr98 (below_both HB68.out (below_both hB0 (below_both (below_both (below_both (below_both (below_both (below_both (below_both (below_both hbb78 hbb73) hbb74) hbb79) hbb83) hbb84) hbb88) hbb89) hbb98)))).2 (ints_none0 _) (by decide) aw_c3).mono ?_
          rintro e Yr94 ⟨A94, c94, rfl, hs94, hbb94⟩
          have HS94 := hid hs94
          clear hs94
          clear hHeld
          have hHeld := HK7.out Yr94 (below_both hB0 (below_both (below_both (below_both (below_both (below_both (below_both (below_both (below_both (below_both hbb78 hbb73) hbb74) hbb79) hbb83) hbb84) hbb88) hbb89) hbb98) hbb94))
          refine hK.out _ _ (fun _ => hHeld) ?_
          clear hK K
          (try simp only [Act.put, List.setIfInBounds_toArray, List.set_cons_zero, List.set_cons_succ])
          refine' wpAnyT_one (i := 27) (o := ?oir148) (by kernel_rfl) ?hir148 (fun K hK => ?str148)
          case hir148 => (simp only [List.getElem?_toArray, List.getElem?_cons_zero, List.getElem?_cons_succ]; rfl)
          go_simp
          go_at_call 19
          refine (aw_same (HS94.out.below (Below.refl _ _)) (sec_lit (l := [zs, zs, zs]) (secABC (by decide)) (by decide) ((hbb94.block _ (box_lt HZk5.out)).trans HZk5.out))).mono ?_
          rintro e Yr99 ⟨rfl, hbb99⟩
          clear hHeld
          have hHeld := HK7.out Yr99 (below_both hB0 (below_both (below_both (below_both (below_both (below_both (below_both (below_both (below_both (below_both (below_both hbb78 hbb73) hbb74) hbb79) hbb83) hbb84) hbb88) hbb89) hbb98) hbb94) hbb99))
          refine hK.out _ _ (fun _ => hHeld) ?_
          clear hK K
          (try simp only [Act.put, List.setIfInBounds_toArray, List.set_cons_zero, List.set_cons_succ])
          refine' wpAnyT_take (i := 28) (oi := ?oir149) (v := ?vr149) ?hir149 (by kernel_rfl) (by kernel_rfl) ?hqr149 ?hyr149 hHeld ?restr149
          case hir149 => (simp only [List.getElem?_toArray, List.getElem?_cons_zero, List.getElem?_cons_succ]; rfl)
          case hqr149 => exact fun _ _ _ h => HQP _ _ _ _ _ h
          case hyr149 => (refine Or.inl ⟨by rfl, ?_⟩; intro w' hSw; (try dsimp only at hSw); go_simp; try with_reducible rfl)
          (try simp only [Act.put, List.setIfInBounds_toArray, List.set_cons_zero, List.set_cons_succ])
          refine' wpAnyT_one (i := 29) (o := ?oir150) (by kernel_rfl) ?hir150 (fun K hK => ?str150)
          case hir150 => (simp only [List.getElem?_toArray, List.getElem?_cons_zero, List.getElem?_cons_succ]; rfl)
          go_simp
          refine hK.out _ _ (fun h => absurd h (by decide)) ?_
          clear hK K
          (try simp only [Act.put, List.setIfInBounds_toArray, List.set_cons_zero, List.set_cons_succ])
          refine wpAnyT_done (by kernel_rfl) ?_ _
          exact HC.out Yr99 k1 k2 k3 k4 k5 A74 c74 A84 c84 A94 c94 (below_both hB0 (below_both (below_both (below_both (below_both (below_both (below_both (below_both (below_both (below_both (below_both hbb78 hbb73) hbb74) hbb79) hbb83) hbb84) hbb88) hbb89) hbb98) hbb94) hbb99))
      · refine ⟨_, by (simp only [List.getElem?_toArray, List.getElem?_cons_zero, List.getElem?_cons_succ]; rfl), fun K hK => ?_⟩
        go_simp
        obtain ⟨Yr88, hY⟩ : ∃ X, Yr83.alloc (.cells #[.int .u8 0, .int .u8 0, .int .u8 0, .int .u8 0, .int .u8 0, .int .u8 0, .int .u8 0, .int .u8 0, .int .u8 3, .int .u8 0, .int .u8 0, .int .u8 0, .int .u8 0, .int .u8 0, .int .u8 0, .int .u8 0, .int .u8 0, .int .u8 0, .int .u8 0, .int .u8 0, .int .u8 0, .int .u8 0, .int .u8 0, .int .u8 0] 73) = X := ⟨_, rfl⟩
        obtain ⟨k4, hh⟩ : ∃ h, Yr83.heap.size = h := ⟨_, rfl⟩
        have hbb88 : Below Yr83.heap.size Yr83 Yr88 := by rw [← hY]; exact al1 _ _
        have HZk4 : Hid (Yr88.heap[k4]? = some (.cells #[.int .u8 0, .int .u8 0, .int .u8 0, .int .u8 0, .int .u8 0, .int .u8 0, .int .u8 0, .int .u8 0, .int .u8 3, .int .u8 0, .int .u8 0, .int .u8 0, .int .u8 0, .int .u8 0, .int .u8 0, .int .u8 0, .int .u8 0, .int .u8 0, .int .u8 0, .int .u8 0, .int .u8 0, .int .u8 0, .int .u8 0, .int .u8 0] 73)) := hid (by rw [← hY, ← hh]; exact heap_alloc_new _ _)
        rw [hY, hh]
        clear hY hh
        clear hHeld
        have hHeld := HK7.out Yr88 (below_both hB0 (below_both (below_both (below_both (below_both (below_both hbb78 hbb73) hbb74) hbb79) hbb83) hbb88))
        refine hK.out _ _ (fun _ => hHeld) ?_
        clear hK K
        (try simp only [Act.put, List.setIfInBounds_toArray, List.set_cons_zero, List.set_cons_succ])
        refine' wpAnyT_one (i := 12) (o := ?oir151) (by kernel_rfl) ?hir151 (fun K hK => ?str151)
        case hir151 => (simp only [List.getElem?_toArray, List.getElem?_cons_zero, List.getElem?_cons_succ]; rfl)
        go_simp
        go_at_call 41
        refine (aw_crash (l := [zs, sC, zs]) (HEE.out Yr88 (below_both HB68.out (below_both hB0 (below_both (below_both (below_both (below_both (below_both hbb78 hbb73) hbb74) hbb79) hbb83) hbb88)))).2 (ints_lit (l := [4, 5]) r45 (by decide) ((hbb88.block _ (box_lt HZk3.out)).trans HZk3.out)) (by decide) aw_c2).mono ?_
        rintro e Yr84 ⟨A84, c84, rfl, hs84, hbb84⟩
        have HS84 := hid hs84
        clear hs84
        clear hHeld
        have hHeld := HK7.out Yr84 (below_both hB0 (below_both (below_both (below_both (below_both (below_both (below_both hbb78 hbb73) hbb74) hbb79) hbb83) hbb88) hbb84))
        refine hK.out _ _ (fun _ => hHeld) ?_
        clear hK K
        (try simp only [Act.put, List.setIfInBounds_toArray, List.set_cons_zero, List.set_cons_succ])
        refine' wpAnyT_one (i := 17) (o := ?oir152) (by kernel_rfl) ?hir152 (fun K hK => ?str152)
        case hir152 => (simp only [List.getElem?_toArray, List.getElem?_cons_zero, List.getElem?_cons_succ]; rfl)
        go_simp
        go_at_call 19
        refine (aw_same (HS84.out.below (Below.refl _ _)) (sec_lit (l := [zs, sC, zs]) (secABC (by decide)) (by decide) ((hbb84.block _ (box_lt HZk4.out)).trans HZk4.out))).mono ?_
        rintro e Yr89 ⟨rfl, hbb89⟩
        clear hHeld
        have hHeld := HK7.out Yr89 (below_both hB0 (below_both (below_both (below_both (below_both (below_both (below_both (below_both hbb78 hbb73) hbb74) hbb79) hbb83) hbb88) hbb84) hbb89))
        refine hK.out _ _ (fun _ => hHeld) ?_
        clear hK K
        (try simp only [Act.put, List.setIfInBounds_toArray, List.set_cons_zero, List.set_cons_succ])
        refine' wpAnyT_take (i := 18) (oi := ?oir153) (v := ?vr153) ?hir153 (by kernel_rfl) (by kernel_rfl) ?hqr153 ?hyr153 hHeld ?restr153
        case hir153 => (simp only [List.getElem?_toArray, List.getElem?_cons_zero, List.getElem?_cons_succ]; rfl)
        case hqr153 => exact fun _ _ _ h => HQP _ _ _ _ _ h
        case hyr153 => (refine Or.inl ⟨by rfl, ?_⟩; intro w' hSw; (try dsimp only at hSw); go_simp; try with_reducible rfl)
        (try simp only [Act.put, List.setIfInBounds_toArray, List.set_cons_zero, List.set_cons_succ])
        refine' wpAnyT_take (i := 19) (oi := ?oir154) (v := ?vr154) ?hir154 (by kernel_rfl) (by kernel_rfl) ?hqr154 ?hyr154 hHeld ?restr154
        case hir154 => (simp only [List.getElem?_toArray, List.getElem?_cons_zero, List.getElem?_cons_succ]; rfl)
        case hqr154 => exact fun _ _ _ h => HQP _ _ _ _ _ h
        case hyr154 => (refine Or.inl ⟨by rfl, ?_⟩; intro w' hSw; (try dsimp only at hSw); go_simp; try with_reducible rfl)
        (try simp only [Act.put, List.setIfInBounds_toArray, List.set_cons_zero, List.set_cons_succ])
        refine' wpAnyT_take (i := 20) (oi := ?oir155) (v := ?vr155) ?hir155 (by kernel_rfl) (by kernel_rfl) ?hqr155 ?hyr155 hHeld ?restr155
        case hir155 => (simp only [List.getElem?_toArray, List.getElem?_cons_zero, List.getElem?_cons_succ]; rfl)
        case hqr155 => exact fun _ _ _ h => HQP _ _ _ _ _ h
        case hyr155 => (refine Or.inl ⟨by rfl, ?_⟩; intro w' hSw; (try dsimp only at hSw); go_simp; try with_reducible rfl)
        (try simp only [Act.put, List.setIfInBounds_toArray, List.set_cons_zero, List.set_cons_succ])
        refine' wpAnyT_take (i := 21) (oi := ?oir156) (v := ?vr156) ?hir156 (by kernel_rfl) (by kernel_rfl) ?hqr156 ?hyr156 hHeld ?restr156
        case hir156 => (simp only [List.getElem?_toArray, List.getElem?_cons_zero, List.getElem?_cons_succ]; rfl)
        case hqr156 => exact fun _ _ _ h => HQP _ _ _ _ _ h
        case hyr156 => (refine Or.inl ⟨by rfl, ?_⟩; intro w' hSw; (try dsimp only at hSw); go_simp; try with_reducible rfl)
        (try simp only [Act.put, List.setIfInBounds_toArray, List.set_cons_zero, List.set_cons_succ])
        refine' wpAnyT_take (i := 23) (oi := ?oir157) (v := ?vr157) ?hir157 (by kernel_rfl) (by kernel_rfl) ?hqr157 ?hyr157 hHeld ?restr157
        case hir157 => (simp only [List.getElem?_toArray, List.getElem?_cons_zero, List.getElem?_cons_succ]; rfl)
        case hqr157 => exact fun _ _ _ h => HQP _ _ _ _ _ h
        case hyr157 => (refine Or.inl ⟨by rfl, ?_⟩; intro w' hSw; (try dsimp only at hSw); go_simp; try with_reducible rfl)
        (try simp only [Act.put, List.setIfInBounds_toArray, List.set_cons_zero, List.set_cons_succ])
        refine' wpAnyT_take (i := 24) (oi := ?oir158) (v := ?vr158) ?hir158 (by kernel_rfl) (by kernel_rfl) ?hqr158 ?hyr158 hHeld ?restr158
        case hir158 => (simp only [List.getElem?_toArray, List.getElem?_cons_zero, List.getElem?_cons_succ]; rfl)
        case hqr158 => exact fun _ _ _ h => HQP _ _ _ _ _ h
        case hyr158 => (refine Or.inl ⟨by rfl, ?_⟩; intro w' hSw; (try dsimp only at hSw); go_simp; try with_reducible rfl)
        (try simp only [Act.put, List.setIfInBounds_toArray, List.set_cons_zero, List.set_cons_succ])
        refine' wpAnyT_take (i := 25) (oi := ?oir159) (v := ?vr159) ?hir159 (by kernel_rfl) (by kernel_rfl) ?hqr159 ?hyr159 hHeld ?restr159
        case hir159 => (simp only [List.getElem?_toArray, List.getElem?_cons_zero, List.getElem?_cons_succ]; rfl)
        case hqr159 => exact fun _ _ _ h => HQP _ _ _ _ _ h
        case hyr159 => (refine Or.inl ⟨by rfl, ?_⟩; intro w' hSw; (try dsimp only at hSw); go_simp; try with_reducible rfl)
        (try simp only [Act.put, List.setIfInBounds_toArray, List.set_cons_zero, List.set_cons_succ])
        refine wpAnyT_all (l := [22, 26]) (by kernel_rfl) (by decide) ?_
        intro i hi
        simp only [List.mem_cons, List.not_mem_nil, or_false] at hi
        rcases hi with rfl | rfl
        · refine ⟨_, by (simp only [List.getElem?_toArray, List.getElem?_cons_zero, List.getElem?_cons_succ]; rfl), fun K hK => ?_⟩
          go_simp
          go_at_call 41
          refine (aw_crash (l := [zs, zs, zs]) (HEE.out Yr89 (below_both HB68.out (below_both hB0 (below_both (below_both (below_both (below_both (below_both (below_both (below_both hbb78 hbb73) hbb74) hbb79) hbb83) hbb88) hbb84) hbb89)))).2 (ints_none0 _) (by decide) aw_c3).mono ?_
          rintro e Yr94 ⟨A94, c94, rfl, hs94, hbb94⟩
          have HS94 := hid hs94
          clear hs94
          clear hHeld
          have hHeld := HK7.out Yr94 (below_both hB0 (below_both (below_both (below_both (below_both (below_both (below_both (below_both (below_both hbb78 hbb73) hbb74) hbb79) hbb83) hbb88) hbb84) hbb89) hbb94))
          refine hK.out _ _ (fun _ => hHeld) ?_
          clear hK K
          (try simp only [Act.put, List.setIfInBounds_toArray, List.set_cons_zero, List.set_cons_succ])
          refine' wpAnyT_one (i := 26) (o := ?oir160) (by kernel_rfl) ?hir160 (fun K hK => ?str160)
          case hir160 => (simp only [List.getElem?_toArray, List.getElem?_cons_zero, List.getElem?_cons_succ]; rfl)
          go_simp
          obtain ⟨Yr98, hY⟩ : ∃ X, Yr94.alloc (.cells #[.int .u8 0, .int .u8 0, .int .u8 0, .int .u8 0, .int .u8 0, .int .u8 0, .int .u8 0, .int .u8 0, .int .u8 0, .int .u8 0, .int .u8 0, .int .u8 0, .int .u8 0, .int .u8 0, .int .u8 0, .int .u8 0, .int .u8 0, .int .u8 0, .int .u8 0, .int .u8 0, .int .u8 0, .int .u8 0, .int .u8 0, .int .u8 0] 73) = X := ⟨_, rfl⟩
          obtain ⟨k5, hh⟩ : ∃ h, Yr94.heap.size = h := ⟨_, rfl⟩
          have hbb98 : Below Yr94.heap.size Yr94 Yr98 := by rw [← hY]; exact al1 _ _
          have HZk5 : Hid (Yr98.heap[k5]? = some (.cells #[.int .u8 0, .int .u8 0, .int .u8 0, .int .u8 0, .int .u8 0, .int .u8 0, .int .u8 0, .int .u8 0, .int .u8 0, .int .u8 0, .int .u8 0, .int .u8 0, .int .u8 0, .int .u8 0, .int .u8 0, .int .u8 0, .int .u8 0, .int .u8 0, .int .u8 0, .int .u8 0, .int .u8 0, .int .u8 0, .int .u8 0, .int .u8 0] 73)) := hid (by rw [← hY, ← hh]; exact heap_alloc_new _ _)
          rw [hY, hh]
          clear hY hh
          clear hHeld
          have hHeld := HK7.out Yr98 (below_both hB0 (below_both (below_both (below_both (below_both (below_both (below_both (below_both (below_both (below_both hbb78 hbb73) hbb74) hbb79) hbb83) hbb88) hbb84) hbb89) hbb94) hbb98))
          refine hK.out _ _ (fun _ => hHeld) ?_
          clear hK K
          (try simp only [Act.put, List.setIfInBounds_toArray, List.set_cons_zero, List.set_cons_succ])
          refine' wpAnyT_one (i := 27) (o := ?oir161) (by kernel_rfl) ?hir161 (fun K hK => ?str161)
          case hir161 => (simp only [List.getElem?_toArray, List.getElem?_cons_zero, List.getElem?_cons_succ]; rfl)
          go_simp
          go_at_call 19
          refine (aw_same (HS94.out.below hbb98) (sec_lit (l := [zs, zs, zs]) (secABC (by decide)) (by decide) (((Below.refl _ _).block _ (box_lt HZk5.out)).trans HZk5.out))).mono ?_
          rintro e Yr99 ⟨rfl, hbb99⟩
          clear hHeld
          have hHeld := HK7.out Yr99 (below_both hB0 (below_both (below_both (below_both (below_both (below_both (below_both (below_both (below_both (below_both (below_both hbb78 hbb73) hbb74) hbb79) hbb83) hbb88) hbb84) hbb89) hbb94) hbb98) hbb99))
          refine hK.out _ _ (fun _ => hHeld) ?_
          clear hK K
          (try simp only [Act.put, List.setIfInBounds_toArray, List.set_cons_zero, List.set_cons_succ])
          refine' wpAnyT_take (i := 28) (oi := ?oir162) (v := ?vr162) ?hir162 (by kernel_rfl) (by kernel_rfl) ?hqr162 ?hyr162 hHeld ?restr162
          case hir162 => (simp only [List.getElem?_toArray, List.getElem?_cons_zero, List.getElem?_cons_succ]; rfl)
          case hqr162 => exact fun _ _ _ h => HQP _ _ _ _ _ h
          case hyr162 => (refine Or.inl ⟨by rfl, ?_⟩; intro w' hSw; (try dsimp only at hSw); go_simp; try with_reducible rfl)
          (try simp only [Act.put, List.setIfInBounds_toArray, List.set_cons_zero, List.set_cons_succ])
          refine' wpAnyT_one (i := 29) (o := ?oir163) (by kernel_rfl) ?hir163 (fun K hK => ?str163)
          case hir163 => (simp only [List.getElem?_toArray, List.getElem?_cons_zero, List.getElem?_cons_succ]; rfl)
          go_simp
          refine hK.out _ _ (fun h => absurd h (by decide)) ?_
          clear hK K
          (try simp only [Act.put, List.setIfInBounds_toArray, List.set_cons_zero, List.set_cons_succ])
          refine wpAnyT_done (by kernel_rfl) ?_ _
          exact HC.out Yr99 k1 k2 k3 k4 k5 A74 c74 A84 c84 A94 c94 (below_both hB0 (below_both (below_both (below_both (below_both (below_both (below_both (below_both (below_both (below_both (below_both hbb78 hbb73) hbb74) hbb79) hbb83) hbb88) hbb84) hbb89) hbb94) hbb98) hbb99))
        · refine ⟨_, by (simp only [List.getElem?_toArray, List.getElem?_cons_zero, List.getElem?_cons_succ]; rfl), fun K hK => ?_⟩
          go_simp
          obtain ⟨Yr98, hY⟩ : ∃ X, Yr89.alloc (.cells #[.int .u8 0, .int .u8 0, .int .u8 0, .int .u8 0, .int .u8 0, .int .u8 0, .int .u8 0, .int .u8 0, .int .u8 0, .int .u8 0, .int .u8 0, .int .u8 0, .int .u8 0, .int .u8 0, .int .u8 0, .int .u8 0, .int .u8 0, .int .u8 0, .int .u8 0, .int .u8 0, .int .u8 0, .int .u8 0, .int .u8 0, .int .u8 0] 73) = X := ⟨_, rfl⟩
          obtain ⟨k5, hh⟩ : ∃ h, Yr89.heap.size = h := ⟨_, rfl⟩
          have hbb98 : Below Yr89.heap.size Yr89 Yr98 := by rw [← hY]; exact al1 _ _
          have HZk5 : Hid (Yr98.heap[k5]? = some (.cells #[.int .u8 0, .int .u8 0, .int .u8 0, .int .u8 0, .int .u8 0, .int .u8 0, .int .u8 0, .int .u8 0, .int .u8 0, .int .u8 0, .int .u8 0, .int .u8 0, .int .u8 0, .int .u8 0, .int .u8 0, .int .u8 0, .int .u8 0, .int .u8 0, .int .u8 0, .int .u8 0, .int .u8 0, .int .u8 0, .int .u8 0, .int .u8 0] 73)) := hid (by rw [← hY, ← hh]; exact heap_alloc_new _ _)
          rw [hY, hh]
          clear hY hh
          clear hHeld
          have hHeld := HK7.out Yr98 (below_both hB0 (below_both (below_both (below_both (below_both (below_both (below_both (below_both (below_both hbb78 hbb73) hbb74) hbb79) hbb83) hbb88) hbb84) hbb89) hbb98))
          refine hK.out _ _ (fun _ => hHeld) ?_
          clear hK K
          (try simp only [Act.put, List.setIfInBounds_toArray, List.set_cons_zero, List.set_cons_succ])
          refine' wpAnyT_one (i := 22) (o := ?oir164) (by kernel_rfl) ?hir164 (fun K hK => ?str164)
          case hir164 => (simp only [List.getElem?_toArray, List.getElem?_cons_zero, List.getElem?_cons_succ]; rfl)
          go_simp
          go_at_call 41
          refine (aw_crash (l := [zs, zs, zs]) (HEE.out Yr98 (below_both HB68.out (below_both hB0 (below_both (below_both (below_both (below_both (below_both (below_both (below_both (below_both hbb78 hbb73) hbb74) hbb79) hbb83) hbb88) hbb84) hbb89) hbb98)))).2 (ints_none0 _) (by decide) aw_c3).mono ?_
          rintro e Yr94 ⟨A94, c94, rfl, hs94, hbb94⟩
          have HS94 := hid hs94
          clear hs94
          clear hHeld
          have hHeld := HK7.out Yr94 (below_both hB0 (below_both (below_both (below_both (below_both (below_both (below_both (below_both (below_both (below_both hbb78 hbb73) hbb74) hbb79) hbb83) hbb88) hbb84) hbb89) hbb98) hbb94))
          refine hK.out _ _ (fun _ => hHeld) ?_
          clear hK K
          (try simp only [Act.put, List.setIfInBounds_toArray, List.set_cons_zero, List.set_cons_succ])
          refine' wpAnyT_one (i := 27) (o := ?oir165) (by kernel_rfl) ?hir165 (fun K hK => ?str165)
          case hir165 => (simp only [List.getElem?_toArray, List.getElem?_cons_zero, List.getElem?_cons_succ]; rfl)
          go_simp
          go_at_call 19
          refine (aw_same (HS94.out.below (Below.refl _ _)) (sec_lit (l := [zs, zs, zs]) (secABC (by decide)) (by decide) ((hbb94.block _ (box_lt HZk5.out)).trans HZk5.out))).mono ?_
          rintro e Yr99 ⟨rfl, hbb99⟩
          clear hHeld
          have hHeld := HK7.out Yr99 (below_both hB0 (below_both (below_both (below_both (below_both (below_both (below_both (below_both (below_both (below_both (below_both hbb78 hbb73) hbb74) hbb79) hbb83) hbb88) hbb84) hbb89) hbb98) hbb94) hbb99))
          refine hK.out _ _ (fun _ => hHeld) ?_
          clear hK K
          (try simp only [Act.put, List.setIfInBounds_toArray, List.set_cons_zero, List.set_cons_succ])
          refine' wpAnyT_take (i := 28) (oi := ?oir166) (v := ?vr166) ?hir166 (by kernel_rfl) (by kernel_rfl) ?hqr166 ?hyr166 hHeld ?restr166
          case hir166 => (simp only [List.getElem?_toArray, List.getElem?_cons_zero, List.getElem?_cons_succ]; rfl)
          case hqr166 => exact fun _ _ _ h => HQP _ _ _ _ _ h
          case hyr166 => (refine Or.inl ⟨by rfl, ?_⟩; intro w' hSw; (try dsimp only at hSw); go_simp; try with_reducible rfl)
          (try simp only [Act.put, List.setIfInBounds_toArray, List.set_cons_zero, List.set_cons_succ])
          refine' wpAnyT_one (i := 29) (o := ?oir167) (by kernel_rfl) ?hir167 (fun K hK => ?str167)
          case hir167 => (simp only [List.getElem?_toArray, List.getElem?_cons_zero, List.getElem?_cons_succ]; rfl)
          go_simp
          refine hK.out _ _ (fun h => absurd h (by decide)) ?_
          clear hK K
          (try simp only [Act.put, List.setIfInBounds_toArray, List.set_cons_zero, List.set_cons_succ])
          refine wpAnyT_done (by kernel_rfl) ?_ _
          exact HC.out Yr99 k1 k2 k3 k4 k5 A74 c74 A84 c84 A94 c94 (below_both hB0 (below_both (below_both (below_both (below_both (below_both (below_both (below_both (below_both (below_both (below_both hbb78 hbb73) hbb74) hbb79) hbb83) hbb88) hbb84) hbb89) hbb98) hbb94) hbb99))
    · refine ⟨_, by (simp only [List.getElem?_toArray, List.getElem?_cons_zero, List.getElem?_cons_succ]; rfl), fun K hK => ?_⟩
      go_simp
      obtain ⟨Yr88, hY⟩ : ∃ X, Yr79.alloc (.cells #[.int .u8 0, .int .u8 0, .int .u8 0, .int .u8 0, .int .u8 0, .int .u8 0, .int .u8 0, .int .u8 0, .int .u8 3, .int .u8 0, .int .u8 0, .int .u8 0, .int .u8 0, .int .u8 0, .int .u8 0, .int .u8 0, .int .u8 0, .int .u8 0, .int .u8 0, .int .u8 0, .int .u8 0, .int .u8 0, .int .u8 0, .int .u8 0] 73) = X := ⟨_, rfl⟩
      obtain ⟨k4, hh⟩ : ∃ h, Yr79.heap.size = h := ⟨_, rfl⟩
      have hbb88 : Below Yr79.heap.size Yr79 Yr88 := by rw [← hY]; exact al1 _ _
      have HZk4 : Hid (Yr88.heap[k4]? = some (.cells #[.int .u8 0, .int .u8 0, .int .u8 0, .int .u8 0, .int .u8 0, .int .u8 0, .int .u8 0, .int .u8 0, .int .u8 3, .int .u8 0, .int .u8 0, .int .u8 0, .int .u8 0, .int .u8 0, .int .u8 0, .int .u8 0, .int .u8 0, .int .u8 0, .int .u8 0, .int .u8 0, .int .u8 0, .int .u8 0, .int .u8 0, .int .u8 0] 73)) := hid (by rw [← hY, ← hh]; exact heap_alloc_new _ _)
      rw [hY, hh]
      clear hY hh
      clear hHeld
      have hHeld := HK7.out Yr88 (below_both hB0 (below_both (below_both (below_both (below_both hbb78 hbb73) hbb74) hbb79) hbb88))
      refine hK.out _ _ (fun _ => hHeld) ?_
      clear hK K
      (try simp only [Act.put, List.setIfInBounds_toArray, List.set_cons_zero, List.set_cons_succ])
      refine' wpAnyT_one (i := 11) (o := ?oir168) (by kernel_rfl) ?hir168 (fun K hK => ?str168)
      case hir168 => (simp only [List.getElem?_toArray, List.getElem?_cons_zero, List.getElem?_cons_succ]; rfl)
      go_simp
      obtain ⟨Yr83, hY⟩ : ∃ X, Yr88.alloc (.cells #[.int .i64 4, .int .i64 5] 3) = X := ⟨_, rfl⟩
      obtain ⟨k3, hh⟩ : ∃ h, Yr88.heap.size = h := ⟨_, rfl⟩
      have hbb83 : Below Yr88.heap.size Yr88 Yr83 := by rw [← hY]; exact al1 _ _
      have HZk3 : Hid (Yr83.heap[k3]? = some (.cells #[.int .i64 4, .int .i64 5] 3)) := hid (by rw [← hY, ← hh]; exact heap_alloc_new _ _)
      rw [hY, hh]
      clear hY hh
      clear hHeld
      have hHeld := HK7.out Yr83 (below_both hB0 (below_both (below_both (below_both (below_both (below_both hbb78 hbb73) hbb74) hbb79) hbb88) hbb83))
      refine hK.out _ _ (fun _ => hHeld) ?_
      clear hK K
      (try simp only [Act.put, List.setIfInBounds_toArray, List.set_cons_zero, List.set_cons_succ])
      refine' wpAnyT_one (i := 12) (o := ?oir169) (by kernel_rfl) ?hir169 (fun K hK => ?str169)
      case hir169 => (simp only [List.getElem?_toArray, List.getElem?_cons_zero, List.getElem?_cons_succ]; rfl)
      go_simp
      go_at_call 41
      refine (aw_crash (l := [zs, sC, zs]) (HEE.out Yr83 (below_both HB68.out (below_both hB0 (below_both (below_both (below_both (below_both (below_both hbb78 hbb73) hbb74) hbb79) hbb88) hbb83)))).2 (ints_lit (l := [4, 5]) r45 (by decide) (((Below.refl _ _).block _ (box_lt HZk3.out)).trans HZk3.out)) (by decide) aw_c2).mono ?_
      rintro e Yr84 ⟨A84, c84, rfl, hs84, hbb84⟩
      have HS84 := hid hs84
      clear hs84
      clear hHeld
      have hHeld := HK7.out Yr84 (below_both hB0 (below_both (below_both (below_both (below_both (below_both (below_both hbb78 hbb73) hbb74) hbb79) hbb88) hbb83) hbb84))
      refine hK.out _ _ (fun _ => hHeld) ?_
      clear hK K
      (try simp only [Act.put, List.setIfInBounds_toArray, List.set_cons_zero, List.set_cons_succ])
      refine' wpAnyT_one (i := 17) (o := ?oir170) (by kernel_rfl) ?hir170 (fun K hK => ?str170)
      case hir170 => (simp only [List.getElem?_toArray, List.getElem?_cons_zero, List.getElem?_cons_succ]; rfl)
      go_simp
      go_at_call 19
      refine (aw_same (HS84.out.below (Below.refl _ _)) (sec_lit (l := [zs, sC, zs]) (secABC (by decide)) (by decide) (((below_both hbb83 hbb84).block _ (box_lt HZk4.out)).trans HZk4.out))).mono ?_
      rintro e Yr89 ⟨rfl, hbb89⟩
      clear hHeld
      have hHeld := HK7.out Yr89 (below_both hB0 (below_both (below_both (below_both (below_both (below_both (below_both (below_both hbb78 hbb73) hbb74) hbb79) hbb88) hbb83) hbb84) hbb89))
      refine hK.out _ _ (fun _ => hHeld) ?_
      clear hK K
      (try simp only [Act.put, List.setIfInBounds_toArray, List.set_cons_zero, List.set_cons_succ])
      refine' wpAnyT_take (i := 18) (oi := ?oir171) (v := ?vr171) ?hir171 (by kernel_rfl) (by kernel_rfl) ?hqr171 ?hyr171 hHeld ?restr171
      case hir171 => (simp only [List.getElem?_toArray, List.getElem?_cons_zero, List.getElem?_cons_succ]; rfl)
      case hqr171 => exact fun _ _ _ h => HQP _ _ _ _ _ h
      case hyr171 => (refine Or.inl ⟨by rfl, ?_⟩; intro w' hSw; (try dsimp only at hSw); go_simp; try with_reducible rfl)
      (try simp only [Act.put, List.setIfInBounds_toArray, List.set_cons_zero, List.set_cons_succ])
      refine' wpAnyT_take (i := 19) (oi := ?oir172) (v := ?vr172) ?hir172 (by kernel_rfl) (by kernel_rfl) ?hqr172 ?hyr172 hHeld ?restr172
      case hir172 => (simp only [List.getElem?_toArray, List.getElem?_cons_zero, List.getElem?_cons_succ]; rfl)
      case hqr172 => exact fun _ _ _ h => HQP _ _ _ _ _ h
      case hyr172 => (refine Or.inl ⟨by rfl, ?_⟩; intro w' hSw; (try dsimp only at hSw); go_simp; try with_reducible rfl)
      (try simp only [Act.put, List.setIfInBounds_toArray, List.set_cons_zero, List.set_cons_succ])
      refine' wpAnyT_take (i := 20) (oi := ?oir173) (v := ?vr173) ?hir173 (by kernel_rfl) (by kernel_rfl) ?hqr173 ?hyr173 hHeld ?restr173
      case hir173 => (simp only [List.getElem?_toArray, List.getElem?_cons_zero, List.getElem?_cons_succ]; rfl)
      case hqr173 => exact fun _ _ _ h => HQP _ _ _ _ _ h
      case hyr173 => (refine Or.inl ⟨by rfl, ?_⟩; intro w' hSw; (try dsimp only at hSw); go_simp; try with_reducible rfl)
      (try simp only [Act.put, List.setIfInBounds_toArray, List.set_cons_zero, List.set_cons_succ])
      refine' wpAnyT_take (i := 21) (oi := ?oir174) (v := ?vr174) ?hir174 (by kernel_rfl) (by kernel_rfl) ?hqr174 ?hyr174 hHeld ?restr174
      case hir174 => (simp only [List.getElem?_toArray, List.getElem?_cons_zero, List.getElem?_cons_succ]; rfl)
      case hqr174 => exact fun _ _ _ h => HQP _ _ _ _ _ h
      case hyr174 => (refine Or.inl ⟨by rfl, ?_⟩; intro w' hSw; (try dsimp only at hSw); go_simp; try with_reducible rfl)
      (try simp only [Act.put, List.setIfInBounds_toArray, List.set_cons_zero, List.set_cons_succ])
      refine' wpAnyT_take (i := 23) (oi := ?oir175) (v := ?vr175) ?hir175 (by kernel_rfl) (by kernel_rfl) ?hqr175 ?hyr175 hHeld ?restr175
      case hir175 => (simp only [List.getElem?_toArray, List.getElem?_cons_zero, List.getElem?_cons_succ]; rfl)
      case hqr175 => exact fun _ _ _ h => HQP _ _ _ _ _ h
      case hyr175 => (refine Or.inl ⟨by rfl, ?_⟩; intro w' hSw; (try dsimp only at hSw); go_simp; try with_reducible rfl)
      (try simp only [Act.put, List.setIfInBounds_toArray, List.set_cons_zero, List.set_cons_succ])
      refine' wpAnyT_take (i := 24) (oi := ?oir176) (v := ?vr176) ?hir176 (by kernel_rfl) (by kernel_rfl) ?hqr176 ?hyr176 hHeld ?restr176
      case hir176 => (simp only [List.getElem?_toArray, List.getElem?_cons_zero, List.getElem?_cons_succ]; rfl)
      case hqr176 => exact fun _ _ _ h => HQP _ _ _ _ _ h
      case hyr176 => (refine Or.inl ⟨by rfl, ?_⟩; intro w' hSw; (try dsimp only at hSw); go_simp; try with_reducible rfl)
      (try simp only [Act.put, List.setIfInBounds_toArray, List.set_cons_zero, List.set_cons_succ])
      refine' wpAnyT_take (i := 25) (oi := ?oir177) (v := ?vr177) ?hir177 (by kernel_rfl) (by kernel_rfl) ?hqr177 ?hyr177 hHeld ?restr177
      case hir177 => (simp only [List.getElem?_toArray, List.getElem?_cons_zero, List.getElem?_cons_succ]; rfl)
      case hqr177 => exact fun _ _ _ h => HQP _ _ _ _ _ h
      case hyr177 => (refine Or.inl ⟨by rfl, ?_⟩; intro w' hSw; (try dsimp only at hSw); go_simp; try with_reducible rfl)
      (try simp only [Act.put, List.setIfInBounds_toArray, List.set_cons_zero, List.set_cons_succ])
      refine wpAnyT_all (l := [22, 26]) (by kernel_rfl) (by decide) ?_
      intro i hi
      simp only [List.mem_cons, List.not_mem_nil, or_false] at hi
      rcases hi with rfl | rfl
      · refine ⟨_, by (simp only [List.getElem?_toArray, List.getElem?_cons_zero, List.getElem?_cons_succ]; rfl), fun K hK => ?_⟩
        go_simp
        go_at_call 41
        refine (aw_crash (l := [zs, zs, zs]) (HEE.out Yr89 (below_both HB68.out (below_both hB0 (below_both (below_both (below_both (below_both (below_both (below_both (below_both hbb78 hbb73) hbb74) hbb79) hbb88) hbb83) hbb84) hbb89)))).2 (ints_none0 _) (by decide) aw_c3).mono ?_
        rintro e Yr94 ⟨A94, c94, rfl, hs94, hbb94⟩
        have HS94 := hid hs94
        clear hs94
        clear hHeld
        have hHeld := HK7.out Yr94 (below_both hB0 (below_both (below_both (below_both (below_both (below_both (below_both (below_both (below_both hbb78 hbb73) hbb74) hbb79) hbb88) hbb83) hbb84) hbb89) hbb94))
        refine hK.out _ _ (fun _ => hHeld) ?_
        clear hK K
        (try simp only [Act.put, List.setIfInBounds_toArray, List.set_cons_zero, List.set_cons_succ])
        refine' wpAnyT_one (i := 26) (o := ?oir178) (by kernel_rfl) ?hir178 (fun K hK => ?str178)
        case hir178 => (simp only [List.getElem?_toArray, List.getElem?_cons_zero, List.getElem?_cons_succ]; rfl)
        go_simp
        obtain ⟨Yr98, hY⟩ : ∃ X, Yr94.alloc (.cells #[.int .u8 0, .int .u8 0, .int .u8 0, .int .u8 0, .int .u8 0, .int .u8 0, .int .u8 0, .int .u8 0, .int .u8 0, .int .u8 0, .int .u8 0, .int .u8 0, .int .u8 0, .int .u8 0, .int .u8 0, .int .u8 0, .int .u8 0, .int .u8 0, .int .u8 0, .int .u8 0, .int .u8 0, .int .u8 0, .int .u8 0, .int .u8 0] 73) = X := ⟨_, rfl⟩
        obtain ⟨k5, hh⟩ : ∃ h, Yr94.heap.size = h := ⟨_, rfl⟩
        have hbb98 : Below Yr94.heap.size Yr94 Yr98 := by rw [← hY]; exact al1 _ _
        have HZk5 : Hid (Yr98.heap[k5]? = some (.cells #[.int .u8 0, .int .u8 0, .int .u8 0, .int .u8 0, .int .u8 0, .int .u8 0, .int .u8 0, .int .u8 0, .int .u8 0, .int .u8 0, .int .u8 0, .int .u8 0, .int .u8 0, .int .u8 0, .int .u8 0, .int .u8 0, .int .u8 0, .int .u8 0, .int .u8 0, .int .u8 0, .int .u8 0, .int .u8 0, .int .u8 0, .int .u8 0] 73)) := hid (by rw [← hY, ← hh]; exact heap_alloc_new _ _)
        rw [hY, hh]
        clear hY hh
        clear hHeld
        have hHeld := HK7.out Yr98 (below_both hB0 (below_both (below_both (below_both (below_both (below_both (below_both (below_both (below_both (below_both hbb78 hbb73) hbb74) hbb79) hbb88) hbb83) hbb84) hbb89) hbb94) hbb98))
        refine hK.out _ _ (fun _ => hHeld) ?_
        clear hK K
        (try simp only [Act.put, List.setIfInBounds_toArray, List.set_cons_zero, List.set_cons_succ])
        refine' wpAnyT_one (i := 27) (o := ?oir179) (by kernel_rfl) ?hir179 (fun K hK => ?str179)
        case hir179 => (simp only [List.getElem?_toArray, List.getElem?_cons_zero, List.getElem?_cons_succ]; rfl)
        go_simp
        go_at_call 19
        refine (aw_same (HS94.out.below hbb98) (sec_lit (l := [zs, zs, zs]) (secABC (by decide)) (by decide) (((Below.refl _ _).block _ (box_lt HZk5.out)).trans HZk5.out))).mono ?_
        rintro e Yr99 ⟨rfl, hbb99⟩
        clear hHeld
        have hHeld := HK7.out Yr99 (below_both hB0 (below_both (below_both (below_both (below_both (below_both (below_both (below_both (below_both (below_both (below_both hbb78 hbb73) hbb74) hbb79) hbb88) hbb83) hbb84) hbb89) hbb94) hbb98) hbb99))
        refine hK.out _ _ (fun _ => hHeld) ?_
        clear hK K
        (try simp only [Act.put, List.setIfInBounds_toArray, List.set_cons_zero, List.set_cons_succ])
        refine' wpAnyT_take (i := 28) (oi := ?oir180) (v := ?vr180) ?hir180 (by kernel_rfl) (by kernel_rfl) ?hqr180 ?hyr180 hHeld ?restr180
        case hir180 => (simp only [List.getElem?_toArray, List.getElem?_cons_zero, List.getElem?_cons_succ]; rfl)
        case hqr180 => exact fun _ _ _ h => HQP _ _ _ _ _ h
        case hyr180 => (refine Or.inl ⟨by rfl, ?_⟩; intro w' hSw; (try dsimp only at hSw); go_simp; try with_reducible rfl)
        (try simp only [Act.put, List.setIfInBounds_toArray, List.set_cons_zero, List.set_cons_succ])
        refine' wpAnyT_one (i := 29) (o := ?oir181) (by kernel_rfl) ?hir181 (fun K hK => ?str181)
        case hir181 => (simp only [List.getElem?_toArray, List.getElem?_cons_zero, List.getElem?_cons_succ]; rfl)
        go_simp
        refine hK.out _ _ (fun h => absurd h (by decide)) ?_
        clear hK K
        (try simp only [Act.put, List.setIfInBounds_toArray, List.set_cons_zero, List.set_cons_succ])
        refine wpAnyT_done (by kernel_rfl) ?_ _
        exact HC.out Yr99 k1 k2 k3 k4 k5 A74 c74 A84 c84 A94 c94 (below_both hB0 (below_both (below_both (below_both (below_both (below_both (below_both (below_both (below_both (below_both (below_both hbb78 hbb73) hbb74) hbb79) hbb88) hbb83) hbb84) hbb89) hbb94) hbb98) hbb99))
      · refine ⟨_, by (simp only [List.getElem?_toArray, List.getElem?_cons_zero, List.getElem?_cons_succ]; rfl), fun K hK => ?_⟩
        go_simp
        obtain ⟨Yr98, hY⟩ : ∃ X, Yr89.alloc (.cells #[.int .u8 0, .int .u8 0, .int .u8 0, .int .u8 0, .int .u8 0, .int .u8 0, .int .u8 0, .int .u8 0, .int .u8 0, .int .u8 0, .int .u8 0, .int .u8 0, .int .u8 0, .int .u8 0, .int .u8 0, .int .u8 0, .int .u8 0, .int .u8 0, .int .u8 0, .int .u8 0, .int .u8 0, .int .u8 0, .int .u8 0, .int .u8 0] 73) = X := ⟨_, rfl⟩
        obtain ⟨k5, hh⟩ : ∃ h, Yr89.heap.size = h := ⟨_, rfl⟩
        have hbb98 : Below Yr89.heap.size Yr89 Yr98 := by rw [← hY]; exact al1 _ _
        have HZk5 : Hid (Yr98.heap[k5]? = some (.cells #[.int .u8 0, .int .u8 0, .int .u8 0, .int .u8 0, .int .u8 0, .int .u8 0, .int .u8 0, .int .u8 0, .int .u8 0, .int .u8 0, .int .u8 0, .int .u8 0, .int .u8 0, .int .u8 0, .int .u8 0, .int .u8 0, .int .u8 0, .int .u8 0, .int .u8 0, .int .u8 0, .int .u8 0, .int .u8 0, .int .u8 0, .int .u8 0] 73)) := hid (by rw [← hY, ← hh]; exact heap_alloc_new _ _)
        rw [hY, hh]
        clear hY hh
        clear hHeld
        have hHeld := HK7.out Yr98 (below_both hB0 (below_both (below_both (below_both (below_both (below_both (below_both (below_both (below_both hbb78 hbb73) hbb74) hbb79) hbb88) hbb83) hbb84) hbb89) hbb98))
        refine hK.out _ _ (fun _ => hHeld) ?_
        clear hK K
        (try simp only [Act.put, List.setIfInBounds_toArray, List.set_cons_zero, List.set_cons_succ])
        refine' wpAnyT_one (i := 22) (o := ?oir182) (by kernel_rfl) ?hir182 (fun K hK => ?str182)
        case hir182 => (simp only [List.getElem?_toArray, List.getElem?_cons_zero, List.getElem?_cons_succ]; rfl)
        go_simp
        go_at_call 41
        refine (aw_crash (l := [zs, zs, zs]) (HEE.out Yr98 (below_both HB68.out (below_both hB0 (below_both (below_both (below_both (below_both (below_both (below_both (below_both (below_both hbb78 hbb73) hbb74) hbb79) hbb88) hbb83) hbb84) hbb89) hbb98)))).2 (ints_none0 _) (by decide) aw_c3).mono ?_
        rintro e Yr94 ⟨A94, c94, rfl, hs94, hbb94⟩
        have HS94 := hid hs94
        clear hs94
        clear hHeld
        have hHeld := HK7.out Yr94 (below_both hB0 (below_both (below_both (below_both (below_both (below_both (below_both (below_both (below_both (below_both hbb78 hbb73) hbb74) hbb79) hbb88) hbb83) hbb84) hbb89) hbb98) hbb94))
        refine hK.out _ _ (fun _ => hHeld) ?_
        clear hK K
        (try simp only [Act.put, List.setIfInBounds_toArray, List.set_cons_zero, List.set_cons_succ])
        refine' wpAnyT_one (i := 27) (o := ?oir183) (by kernel_rfl) ?hir183 (fun K hK => ?str183)
        case hir183 => (simp only [List.getElem?_toArray, List.getElem?_cons_zero, List.getElem?_cons_succ]; rfl)
        go_simp
        go_at_call 19
        refine (aw_same (HS94.out.below (Below.refl _ _)) (sec_lit (l := [zs, zs, zs]) (secABC (by decide)) (by decide) ((hbb94.block _ (box_lt HZk5.out)).trans HZk5.out))).mono ?_
        rintro e Yr99 ⟨rfl, hbb99⟩
        clear hHeld
        have hHeld := HK7.out Yr99 (below_both hB0 (below_both (below_both (below_both (below_both (below_both (below_both (below_both (below_both (below_both (below_both hbb78 hbb73) hbb74) hbb79) hbb88) hbb83) hbb84) hbb89) hbb98) hbb94) hbb99))
        refine hK.out _ _ (fun _ => hHeld) ?_
        clear hK K
        (try simp only [Act.put, List.setIfInBounds_toArray, List.set_cons_zero, List.set_cons_succ])
        refine' wpAnyT_take (i := 28) (oi := ?oir184) (v := ?vr184) ?hir184 (by kernel_rfl) (by kernel_rfl) ?hqr184 ?hyr184 hHeld ?restr184
        case hir184 => (simp only [List.getElem?_toArray, List.getElem?_cons_zero, List.getElem?_cons_succ]; rfl)
        case hqr184 => exact fun _ _ _ h => HQP _ _ _ _ _ h
        case hyr184 => (refine Or.inl ⟨by rfl, ?_⟩; intro w' hSw; (try dsimp only at hSw); go_simp; try with_reducible rfl)
        (try simp only [Act.put, List.setIfInBounds_toArray, List.set_cons_zero, List.set_cons_succ])
        refine' wpAnyT_one (i := 29) (o := ?oir185) (by kernel_rfl) ?hir185 (fun K hK => ?str185)
        case hir185 => (simp only [List.getElem?_toArray, List.getElem?_cons_zero, List.getElem?_cons_succ]; rfl)
        go_simp
        refine hK.out _ _ (fun h => absurd h (by decide)) ?_
        clear hK K
        (try simp only [Act.put, List.setIfInBounds_toArray, List.set_cons_zero, List.set_cons_succ])
        refine wpAnyT_done (by kernel_rfl) ?_ _
        exact HC.out Yr99 k1 k2 k3 k4 k5 A74 c74 A84 c84 A94 c94 (below_both hB0 (below_both (below_both (below_both (below_both (below_both (below_both (below_both (below_both (below_both (below_both hbb78 hbb73) hbb74) hbb79) hbb88) hbb83) hbb84) hbb89) hbb98) hbb94) hbb99))
end Go.Proofs.Ytoefbgkeinhibaa

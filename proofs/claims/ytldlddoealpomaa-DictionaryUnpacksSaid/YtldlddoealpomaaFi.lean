/- Grow of nothing; Concat. -/
import Derived.Test.YtldlddoealpomaaFh
import Derived.Lib.AppendZerosOnto
namespace Go.Proofs.Ytldlddoealpomaa
open Go.RowKit Go.Lib

theorem growslice_fits' {n c : Nat} (hn : n ≤ 2000000000) (hc : c < n) : Builtin.nextslicecap n c * 1 ≤ 281474976710656 := by
  exact growslice_fits hc (by omega)
theorem wpList_append_run (w : World) {ops : Array Oper} {rest : List Oper} {o : Oper} {a : Act} {Q : Exit → Act → World → Prop} (hgd : o.guard = none) (d x : Operand) (dT sT : TypeId)
    (hop : o.op = Op.call { callee := Callee.builtin Builtin.append, args := #[d, x], argTypes := #[dT, sT] }) (v u : Value) (hd : a.eval d = v) (hx : a.eval x = u) {v' : Value} {w' : World}
    (hr : (Builtin.append_ #[dT, sT] o.type #[v, u]).run Try.prog w = .ok v' w') (h : wpList Try.prog ops Q rest (a.put o.dst v') w') : wpList Try.prog ops Q (o :: rest) a w := by
  refine wpList_plain hgd fun K' hK' => ?_
  unfold Oper.wp
  simp [execOp, hop, resolve, invoke, builtin, hd, hx, hr, Result.andThen]
  exact hK' _ _ h
set_option maxHeartbeats 2000000 in
set_option maxRecDepth 100000 in
theorem growNil_any (n : Nat) (w : World) (hn : n ≤ 2000000000) :
    Calls Try.prog 41 #[.slice none 0 0, .int .i64 (n : Int)] w fun e w' => ∃ A c, e = .returned (.slice A 0 c) ∧ w'.ownsRow w.heap.size 5 1 (.slice A 0 c) 0 [] ∧ Below w.heap.size w w' := by
  have d1 : decide ((n : Int) < 0) = false := decide_eq_false (by omega)
  have hw0 : IntKind.i64.wrap ((n : Int) - 0) = (n : Int) := by rw [IntKind.wrap_i64]; omega
  by_cases h0 : n = 0
  · subst h0
    go_enter Try.func41, Try.ntmps41
    go_wp2_with fail
    go_ret
    exact ⟨_, _, rfl, World.ownsRow_nil _ _ _ _, Below.refl _ _⟩
  · have d2 : decide ((0 : Int) < (n : Int)) = true := decide_eq_true (by omega)
    have d3 : decide (0 < n) = true := decide_eq_true (by omega)
    obtain ⟨i0, hi0, hz0, hzs, hzb⟩ := info_parts info5
    have hold : (Builtin.firstCells i0.size 0 (.slice none 0 0)).run Try.prog w.drew = .ok (#[] : Array Value) w.drew := by simp [Builtin.firstCells]
    have hap := fun ty : TypeId => Lib.run_append_grow_zeros w 22 3 ty 5 i0 _ .i64 .i64 Try.underlying22 Try.underlying3 hi0 hz0 none 0 0 [] hold n (by omega) (by omega) (by omega) (by omega) (by rw [hzb]; omega) (by rw [hzb]; exact growslice_fits' (by omega) (by omega))
    rw [Nat.zero_add] at hap
    obtain ⟨G, hG⟩ : ∃ G, grownCap w n 0 5 = G := ⟨_, rfl⟩
    have hGn : n ≤ G := by rw [← hG]; exact grownCap_ge w _ _ _
    have hGm : G ≤ maxLen := by rw [← hG]; exact grownCap_le_maxLen w n 0 5 (by unfold maxLen; omega)
    rw [hG] at hap
    obtain ⟨Z, hZ⟩ : ∃ Z : Array Value, ([] : List Value).toArray ++ Builtin.zeroCells (Value.int .u8 0).cells n ++ Builtin.zeroCells (Value.int .u8 0).cells (G - n) = Z := ⟨_, rfl⟩
    have hZl : Z.size = G := by
      rw [← hZ, Array.size_append, Array.size_append, size_zeroCells, size_zeroCells]
      have : (Value.int IntKind.u8 0).cells.size = 1 := rfl
      rw [this]; simp; omega
    rw [hZ] at hap
    have hsl : ∀ W : World, (Instr.slice 22 (.slice none 0 0) none (some (.int .i64 0)) none).run Try.prog W = .ok (.slice none 0 0) W := fun W => run_slice_to none 0 0 0 (Nat.le_refl _) W
    have hsl2 : ∀ W : World, (Instr.slice 22 (.slice (some ⟨w.heap.size, 0, none⟩) n G) none (some (.int .i64 0)) none).run Try.prog W = .ok (.slice (some ⟨w.heap.size, 0, none⟩) 0 G) W := fun W => run_slice_to (some ⟨w.heap.size, 0, none⟩) n G 0 (Nat.zero_le _) W
    have HZ := hid hZl
    clear hold hZ hG
    go_enter Try.func41, Try.ntmps41
    go_wp2_with (at_builtin; refine wpList_append_run w rfl (.tmp 20) (.tmp 21) 22 3 rfl (.slice none 0 0) (.int .i64 (n : Int)) rfl rfl (hap _) ?_)
    go_ret
    refine ⟨_, _, rfl, ⟨rfl, .inr ⟨w.heap.size, G, Z, rfl, Nat.le_refl _, heap_alloc_new _ _, Nat.zero_le _, hGm, by rw [HZ.out, Nat.mul_one], rfl⟩⟩, ?_⟩
    exact (show Below w.heap.size w (w.drew.alloc (.cells Z 5)) from ⟨rfl, rfl, rfl, by simp, fun i hi => Below.heap_alloc w.drew _ i hi⟩)
set_option maxHeartbeats 4000000 in
set_option maxRecDepth 100000 in
theorem concat_any (a b : List Nat) (va vb : Value) (r c : Nat) (w : World) (hr : w.heap[r]? = some (.cells #[va, vb] 22)) (ha : Byt w va a) (hb : Byt w vb b) (hna : NilOk va) (hnb : NilOk vb) (hla : a.length ≤ 1000000000) (hlb : b.length ≤ 1000000000) :
    Calls Try.prog 24 #[.slice (some ⟨r, 0, none⟩) 2 c] w (MadeO w (a ++ b)) := by
  obtain ⟨A, ca, rfl⟩ := byt_form ha
  obtain ⟨B, cb, rfl⟩ := byt_form hb
  have e0 := cell_of_row _ _ 0 _ _ _ hr
  have e1 := cell_of_row _ _ 1 _ _ _ hr
  obtain ⟨n, hn⟩ : ∃ n, a.length = n := ⟨_, rfl⟩
  obtain ⟨m, hm⟩ : ∃ m, b.length = m := ⟨_, rfl⟩
  rw [hn] at e0 ha hna hla
  rw [hm] at e1 hb hnb hlb
  have HR := hid hr
  have HA := hid ha
  have HB := hid hb
  have HNA := hid hna
  have HNB := hid hnb
  have HN := hid hn
  have HM := hid hm
  have hw1 : IntKind.i64.wrap (0 + (n : Int)) = (n : Int) := by rw [IntKind.wrap_i64]; omega
  have hw2 : IntKind.i64.wrap ((n : Int) + (m : Int)) = ((n + m : Nat) : Int) := by rw [IntKind.wrap_i64]; omega
  have hz1 : decide ((n : Int) < 0) = false := decide_eq_false (by omega)
  have hz2 : decide (((n + m : Nat) : Int) < 0) = false := decide_eq_false (by omega)
  have HG := hid (growNil_any (n + m) w (by omega))
  clear ha hb hna hnb hr
  go_enter Try.func24, Try.ntmps24
  go_wp2_with fail
  go_loopw [3, 11] (fun i j wr => wr = w ∧ ((i = .int .i64 0 ∧ j = .int .i64 0) ∨ (i = .int .i64 (n : Int) ∧ j = .int .i64 1) ∨ (i = .int .i64 ((n + m : Nat) : Int) ∧ j = .int .i64 2))) (fun _ j _ => 2 - (Go.RowKit.intOf j).toNat)
  case atStart => exact ⟨rfl, .inl ⟨rfl, rfl⟩⟩
  case round =>
    obtain ⟨hww, hcs⟩ := hrel
    have hww' := hww.symm
    clear hww
    subst hww'
    obtain (⟨rfl, rfl⟩ | ⟨rfl, rfl⟩ | ⟨rfl, rfl⟩) := hcs
    · go_wp2_with fail
      go_roundw
      case rel => exact ⟨trivial, .inr (.inl ⟨rfl, rfl⟩)⟩
      case measure => simp [Go.RowKit.intOf]
    · go_wp2_with fail
      go_roundw
      case rel => exact ⟨trivial, .inr (.inr ⟨rfl, rfl⟩)⟩
      case measure => simp [Go.RowKit.intOf]
    · go_wp2_with fail
      refine HG.out.mono ?_
      rintro e w2 ⟨A2, c2, rfl, ho2, hb2⟩
      have HO2 := hid ho2
      have HB2 := hid hb2
      clear ho2 hb2 e0 e1 hw1 hw2 hz1 hz2
      go_wp2_with fail
      go_loopw [6, 27] (fun v j wx => ∃ (k : Nat) (l : List Nat), j = .int .i64 (k : Int) ∧ ((k = 0 ∧ Hid (l = [])) ∨ (k = 1 ∧ Hid (l = a)) ∨ (k = 2 ∧ Hid (l = a ++ b))) ∧ Hid (wx.ownsRow w.heap.size 5 1 v l.length (l.map byteV)) ∧ Hid (Below w.heap.size w wx)) (fun _ j _ => 2 - (Go.RowKit.intOf j).toNat)
      case atStart => exact ⟨0, [], rfl, .inl ⟨rfl, hid rfl⟩, HO2, HB2⟩
      case round =>
        clear HO2 HB2
        obtain ⟨k, l, rfl, hk, HO, HBX⟩ := hrel
        obtain ⟨vA, vc, rfl⟩ := own_form HO.out
        have hr2 := (HBX.out.block r (box_lt HR.out)).trans HR.out
        have e0 := cell_of_row _ _ 0 _ _ _ hr2
        have e1 := cell_of_row _ _ 1 _ _ _ hr2
        have HVA := hid (HA.out.below HBX.out)
        have HVB := hid (HB.out.below HBX.out)
        have hbs := HBX.out.size
        clear hr2
        rcases hk with ⟨rfl, hl⟩ | ⟨rfl, hl⟩ | ⟨rfl, hl⟩
        · have hl0 := hl.out
          subst hl0
          go_wp2_with (at_builtin; (refine append_byt rfl (.tmp 31) (.tmp 32) rfl w.heap.size (.slice vA ([] : List Nat).length vc) _ _ rfl HO.out a _ rfl HVA.out HNA.out (by rw [HN.out]; simp; omega) hbs ?_); intro v3 w3 ho3 hg3; have HB3 := hid (below_own HBX.out HO.out hg3 hbs (Nat.le_refl _)); have HO3 := hid ho3; clear ho3 hg3)
          go_roundw
          case rel => exact ⟨1, a, rfl, .inr (.inl ⟨rfl, hid rfl⟩), hid (by have h := HO3.out; simpa using h), HB3⟩
          case measure => simp [Go.RowKit.intOf]
        · have hl0 := hl.out
          subst hl0
          go_wp2_with (at_builtin; refine append_byt rfl (.tmp 31) (.tmp 32) rfl w.heap.size (.slice vA l.length vc) _ _ rfl HO.out b _ rfl HVB.out HNB.out (by rw [HN.out, HM.out]; omega) hbs ?_; intro v3 w3 ho3 hg3; have HB3 := hid (below_own HBX.out HO.out hg3 hbs (Nat.le_refl _)); have HO3 := hid ho3; clear ho3 hg3)
          go_roundw
          case rel => exact ⟨2, l ++ b, rfl, .inr (.inr ⟨rfl, hid rfl⟩), hid (by rw [List.length_append, List.map_append]; exact HO3.out), HB3⟩
          case measure => simp [Go.RowKit.intOf]
        · go_wp2_with fail
          go_ret
          refine ⟨_, rfl, ?_, HBX.out⟩
          rw [← hl.out]
          exact HO.out
end Go.Proofs.Ytldlddoealpomaa

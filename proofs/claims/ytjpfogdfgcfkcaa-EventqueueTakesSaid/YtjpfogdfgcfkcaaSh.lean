/- few of the laws: some answer; a queue as an argument. -/
import Derived.Test.YtjpfogdfgcfkcaaV
namespace Go.Proofs.Ytjpfogdfgcfkcaa
open Go.ChangeShapes Go.WideShapes Go.ChangeAt Go.RowKit Go.Deep Go.Lib

set_option maxHeartbeats 4000000 in
set_option maxRecDepth 100000 in
theorem few_any (l : List Ev) (v : Value) (next : Int) (w : World) (hv : EL w v l) :
    Calls Try.prog 11 #[.agg #[v, .int .i64 next]] w fun e w' => (e = .returned (.bool true) ∨ e = .returned (.bool false)) ∧ Below w.heap.size w w' := by
  obtain ⟨A, c, rfl⟩ := el_form hv
  obtain ⟨N, hN⟩ : ∃ N, l.length = N := ⟨_, rfl⟩
  rw [hN] at hv ⊢
  obtain ⟨W1, hW1⟩ : ∃ W1, w.alloc (.cells #[.slice A N c, .int .i64 next] 24) = W1 := ⟨_, rfl⟩
  obtain ⟨g, hg⟩ : ∃ g, w.heap.size = g := ⟨_, rfl⟩
  have hb1 : Below w.heap.size w W1 := by rw [← hW1]; exact al1 _ _
  have hx1 : W1.heap[g]? = some (.cells #[.slice A N c, .int .i64 next] 24) := by rw [← hW1, ← hg]; exact heap_alloc_new w _
  have HV := hid (hv.below hb1)
  have HN := hid hN
  have HB1 := hid hb1
  have HX1 := hid hx1
  have HW1 := hid hW1
  have HG := hid hg
  clear hv hN hb1 hx1 hW1 hg
  go_enter Try.func11, Try.ntmps11
  go_wp2_with fail
  rw [HW1.out, HG.out]
  go_loopw [3] (fun i wr => ∃ k : Nat, k ≤ N ∧ i = .int .i64 (k : Int) ∧ Hid (Below W1.heap.size W1 wr)) (fun i _ => N - (Go.RowKit.intOf i).toNat)
  case atStart => exact ⟨0, by omega, rfl, hid (Below.refl _ _)⟩
  case round =>
    obtain ⟨k, hk, rfl, HB⟩ := hrel
    have HX := hid ((HB.out.block _ (box_lt HX1.out)).trans HX1.out)
    have x0 := cell_of_row _ _ 0 _ _ _ HX.out
    have HBB := hid (HB1.out.trans (HB.out.mono HB1.out.size))
    by_cases hkl : k < N
    · have hkl' : (k : Int) < (N : Int) := by omega
      have f1 : decide ((k : Int) < (N : Int)) = true := decide_eq_true hkl'
      have f1' : decide (k < N) = true := decide_eq_true hkl
      by_cases h100 : k < 100
      · have f2 : decide ((k : Int) < 100) = true := decide_eq_true (by omega)
        obtain ⟨b, off, rfl, hbl, hc⟩ := el_cells HV.out (by rw [HN.out]; omega)
        obtain ⟨x, hx⟩ : ∃ x, l[k]? = some x := ⟨l[k]'(by rw [HN.out]; exact hkl), List.getElem?_eq_getElem _⟩
        obtain ⟨_, _, _, _, q4⟩ := hc k x hx
        have hxb := (HV.out.1 x (List.mem_of_getElem? hx)).1
        obtain ⟨xt, xn, xk, xo, xd, xp⟩ := x
        dsimp only at q4 hxb
        obtain ⟨xA, xc, rfl⟩ := byt_form hxb
        obtain ⟨xm, hxm⟩ : ∃ xm, xp.length = xm := ⟨_, rfl⟩
        rw [hxm] at q4
        have p4 := (HB.out.cell (p := ⟨b, off + k * 5 + 4, none⟩) hbl).trans q4
        clear hc hx hxb hxm q4
        by_cases h5 : 5000 < xm
        · have f3 : decide ((5000 : Int) < (xm : Int)) = true := decide_eq_true (by omega)
          go_wp2_with fail
          go_ret
          exact ⟨.inr rfl, HBB.out⟩
        · have f3 : decide ((5000 : Int) < (xm : Int)) = false := decide_eq_false (by omega)
          go_wp2_with fail
          go_roundw
          case rel => exact ⟨k + 1, by omega, by go_num, HB⟩
          case measure => simp [Go.RowKit.intOf]; omega
      · have f2 : decide ((k : Int) < 100) = false := decide_eq_false (by omega)
        have f4 : decide ((N : Int) ≤ 60) = false := decide_eq_false (by omega)
        go_wp2_with fail
        go_ret
        exact ⟨.inr rfl, HBB.out⟩
    · have f1 : decide ((k : Int) < (N : Int)) = false := decide_eq_false (by omega)
      have f1' : decide (k < N) = false := decide_eq_false (by omega)
      by_cases h60 : N ≤ 60
      · have f4 : decide ((N : Int) ≤ 60) = true := decide_eq_true (by omega)
        go_wp2_with fail
        go_ret
        exact ⟨.inl rfl, HBB.out⟩
      · have f4 : decide ((N : Int) ≤ 60) = false := decide_eq_false (by omega)
        go_wp2_with fail
        go_ret
        exact ⟨.inr rfl, HBB.out⟩

variable {H : Type} {enc : TypeId × Value → H} {W : World}
/-- The cells of an event as an argument. -/
def evOk (W : World) (x : Ev) : Prop := Byt W x.d x.p ∧ NilOk x.d ∧ R64 x.n
theorem struct5 {t : TypeId} {f0 f1 f2 f3 f4 : Field} {fuel : Nat} {cs : List Value} {x : DataW H × List MemPlace} (ht : Try.prog.underlying t = some (.struct #[f0, f1, f2, f3, f4])) (h : DataW.trod enc Try.prog W 0 (fun _ => true) true fuel t cs = some x) :
    ∃ y0 y1 y2 y3 y4 n, cs.length = Try.prog.cellsOf t ∧ DataW.trod enc Try.prog W 0 (fun _ => true) true n f0.type ((cs.drop f0.offset).take (Try.prog.cellsOf f0.type)) = some y0 ∧
      DataW.trod enc Try.prog W 0 (fun _ => true) true n f1.type ((cs.drop f1.offset).take (Try.prog.cellsOf f1.type)) = some y1 ∧ DataW.trod enc Try.prog W 0 (fun _ => true) true n f2.type ((cs.drop f2.offset).take (Try.prog.cellsOf f2.type)) = some y2 ∧
      DataW.trod enc Try.prog W 0 (fun _ => true) true n f3.type ((cs.drop f3.offset).take (Try.prog.cellsOf f3.type)) = some y3 ∧ DataW.trod enc Try.prog W 0 (fun _ => true) true n f4.type ((cs.drop f4.offset).take (Try.prog.cellsOf f4.type)) = some y4 := by
  obtain ⟨xs, n, _, rfl, hl, hlen, hf⟩ := DataW.trod_struct ht h
  match xs, hlen with
  | [y0, y1, y2, y3, y4], _ => exact ⟨y0, y1, y2, y3, y4, n, hl, by simpa using hf 0 f0 rfl, by simpa using hf 1 f1 rfl, by simpa using hf 2 f2 rfl, by simpa using hf 3 f3 rfl, by simpa using hf 4 f4 rfl⟩
theorem ev_of_fuel {fuel : Nat} {cs : List Value} {x : DataW H × List MemPlace} (h : DataW.trod enc Try.prog W 0 (fun _ => true) true fuel 32 cs = some x) : ∃ a : Ev, cs = cEv a ∧ evOk W a := by
  obtain ⟨y0, y1, y2, y3, y4, m, hl, h0, h1, h2, h3, h4⟩ := struct5 Try.underlying32 h
  rw [cells32] at hl
  match cs, hl with
  | [c0, c1, c2, c3, c4], _ =>
    simp only [cells3, cells22, List.drop, List.take] at h0 h1 h2 h3 h4
    obtain ⟨a, ea, _⟩ := i64_of h0
    obtain ⟨b, eb, rb⟩ := i64_of h1
    obtain ⟨c, ec, _⟩ := i64_of h2
    obtain ⟨d, ed, _⟩ := i64_of h3
    injection ea with ea _
    injection eb with eb _
    injection ec with ec _
    injection ed with ed _
    subst ea eb ec ed
    obtain ⟨A, n, k, rfl, hk⟩ := slice_of Try.underlying30 h4
    obtain ⟨ll, hll⟩ := byt_of_fuel h4
    exact ⟨⟨a, b, c, d, _, ll⟩, rfl, hll, hk, rb⟩
theorem el_of_fuel {fuel : Nat} {A : Option Addr} {n c : Nat} {x : DataW H × List MemPlace} (hf : DataW.trod enc Try.prog W 0 (fun _ => true) true fuel 22 [.slice A n c] = some x) : ∃ l : List Ev, EL W (.slice A n c) l ∧ ∀ x ∈ l, R64 x.n := by
  obtain ⟨l, _, h8, ha⟩ := arr_of_fuel (α := Ev) Try.underlying22 cells32 (by decide) cEv (evOk W) (fun _ _ _ h => ev_of_fuel h) (fun _ _ => rfl) hf
  exact ⟨l, ⟨fun x hx => ⟨(h8 x hx).1, (h8 x hx).2.1⟩, ha⟩, fun x hx => (h8 x hx).2.2⟩
theorem cells22' : Try.prog.cellsOf 22 = 1 := by kernel_rfl
set_option maxRecDepth 100000 in
theorem qu_of_trod {base : Nat} {v : Value} {d : DataW H} {p : List MemPlace} (hv : Value.okWide Try.prog W .any base 24 v) (h : DataW.Trod enc Try.prog W 0 (fun _ => true) true 24 v d p) : ∃ (u : Value) (next : Int) (l : List Ev), v = .agg #[u, .int .i64 next] ∧ EL W u l ∧ (∀ x ∈ l, R64 x.n) ∧ R64 next := by
  have h24 : ∃ cs, v = .agg cs := by
    simp only [Value.okWide, Try.underlying24] at hv
    obtain ⟨cs, h1, _⟩ := hv
    exact ⟨cs, h1⟩
  obtain ⟨cs0, rfl⟩ := h24
  obtain ⟨fuel, hf⟩ := h
  obtain ⟨y0, y1, m, _, hl, h0, h1⟩ := trod_struct2 Try.underlying24 hf
  rw [cells24] at hl
  simp only [Value.cells] at hl h0 h1
  obtain ⟨L0⟩ := cs0
  simp only at hl h0 h1
  match L0, hl with
  | [c0, c1], _ =>
    simp only [cells3, cells22', List.drop, List.take] at h0 h1
    obtain ⟨b, eb, rb⟩ := i64_of h1
    injection eb with eb _
    subst eb
    obtain ⟨A, n, k, rfl, hk⟩ := slice_of Try.underlying22 h0
    obtain ⟨l, hll, hr⟩ := el_of_fuel h0
    exact ⟨_, b, l, rfl, hll, hr, rb⟩
end Go.Proofs.Ytjpfogdfgcfkcaa

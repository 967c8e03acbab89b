/- The writer's extent. -/
import Derived.Test.YtchpoddfjbopbaaK
namespace Go.Proofs.Ytchpoddfjbopbaa
open Go.RowKit Go.Lib

set_option maxHeartbeats 2000000 in
set_option maxRecDepth 100000 in
theorem wext_any (x : Int × Int) (pr : List Nat) (g base : Nat) (w : World) (hw : Wr w g base pr) (hbg : base ≤ g) (hl : pr.length ≤ 80000) :
    Calls Try.prog 60 #[.pointer (some ⟨g, 0, none⟩), .agg (cExt x).toArray] w fun e w' => (∃ v, e = .returned v) ∧ Wr w' g base (pr ++ eExtI x) ∧ Below base w w' := by
  obtain ⟨a, b⟩ := x
  show Calls Try.prog 60 #[.pointer (some ⟨g, 0, none⟩), .agg #[.int .i64 a, .int .i64 b]] w _
  obtain ⟨vo, bx, ho⟩ := hw
  have hgl := bx.lt
  have HB : Hid (Below base w (w.alloc (.cells #[.int .i64 a, .int .i64 b] 66))) := hid ((Below.refl _ w).alloc (by omega) _)
  have HW : Hid (Wr (w.alloc (.cells #[.int .i64 a, .int .i64 b] 66)) g base pr) := hid ⟨vo, bx.alloc _, ho.alloc _⟩
  have hP : Pro (w.alloc (.cells #[.int .i64 a, .int .i64 b] 66)) w.heap.size g #[.int .i64 a, .int .i64 b] 66 := ⟨heap_alloc_new w _, by omega, by decide⟩
  obtain ⟨W, hW⟩ : ∃ W, w.alloc (.cells #[.int .i64 a, .int .i64 b] 66) = W := ⟨_, rfl⟩
  rw [hW] at HB HW hP
  have hWs : w.heap.size < W.heap.size := hP.lt
  have HA := hid (wnum_pro a pr g base _ _ _ W HW.out hP hbg (by omega))
  have HN := hid (eNum_len a)
  have HG := hid (fun (W' : World) (h : Wr W' g base (pr ++ eNum a)) => wnum_any b (pr ++ eNum a) g base W' h hbg (by rw [List.length_append]; have := HN.out; omega))
  have h0 := cell_of_row _ _ 0 _ _ _ hP.1
  have h0' : W.cell? ⟨w.heap.size, 0, none⟩ = some (.int .i64 a) := h0
  clear bx ho h0 hP
  go_enter Try.func60, Try.ntmps60
  go_wp2_with fail
  refine HA.out.mono ?_
  rintro e w1 ⟨⟨v1, rfl⟩, hw1, hb1, hp1⟩
  have h1 := cell_of_row _ _ 1 _ _ _ hp1.1
  have h1' : w1.cell? ⟨w.heap.size, 1, none⟩ = some (.int .i64 b) := h1
  have HB1 := hid (HB.out.trans hb1)
  have HW1 := hid hw1
  clear hw1 hb1 hp1 h1
  go_wp2_with fail
  refine (HG.out w1 HW1.out).mono ?_
  rintro e w2 ⟨⟨v2, rfl⟩, hw2, hb2⟩
  have HB2 := hid (HB1.out.trans hb2)
  have HW2 := hid hw2
  clear hw2 hb2
  go_wp2
  trace_state
  go_end0
  exact ⟨⟨_, rfl⟩, by have h := HW2.out; rwa [List.append_assoc] at h, HB2.out⟩
end Go.Proofs.Ytchpoddfjbopbaa

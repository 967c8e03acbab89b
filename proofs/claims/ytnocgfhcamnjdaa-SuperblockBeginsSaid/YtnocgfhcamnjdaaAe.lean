/- Superblock: read 33. -/
import Derived.Test.YtnocgfhcamnjdaaAd
namespace Go.Proofs.Ytnocgfhcamnjdaa
open Go.RowKit Go.Lib

/-- The sectors that are read. -/
def readL (st : List Sect) (ca : List Ca) (s m : Int) : List Sect := if readE st.length ca s m = 0 then ((newL st ca).drop s.toNat).take m.toNat else []
theorem readQ_open {w w' : World} {st : List Sect} {ca : List Ca} {s m : Int} {e : Ending} (h : ReadQ w st ca s m e w') : ∃ A c, e = .returned (.tuple #[.slice A (readL st ca s m).length c, .int .i64 (readE st.length ca s m)]) ∧ Sec w' (.slice A (readL st ca s m).length c) (readL st ca s m) ∧ Below w.heap.size w w' := by
  obtain ⟨hb, ⟨er, h1, h2, rfl⟩ | ⟨h0, v, rfl, hs⟩⟩ := h
  · have hl : readL st ca s m = [] := by unfold readL; rw [if_neg (by rw [h1]; exact h2)]
    rw [hl, h1]
    exact ⟨none, 0, rfl, ⟨(fun s (hs : s ∈ []) => by cases hs), arr_nil _ _⟩, hb⟩
  · have hl : readL st ca s m = ((newL st ca).drop s.toNat).take m.toNat := by unfold readL; rw [if_pos h0]
    rw [hl, h0]
    obtain ⟨A, c, rfl⟩ := sec_form hs
    exact ⟨A, c, rfl, hs, hb⟩
set_option maxHeartbeats 2000000 in
set_option maxRecDepth 100000 in
theorem sbRead_any (st : List Sect) (ca : List Ca) (sv cv : Value) (a : Int) (w : World) (hs : Sec w sv st) (hsn : NilOk sv) (hc : Cas w cv ca) (hr : R64 a) (_hca : ca.length ≤ 500000) :
    Calls Try.prog 33 #[.agg #[sv, cv], .int .i64 a] w (ReadQ w st ca a 16) := by
  obtain ⟨A, c, rfl⟩ := sec_form hs
  obtain ⟨B, d, rfl⟩ := cas_form hc
  obtain ⟨n, hn⟩ : ∃ n, st.length = n := ⟨_, rfl⟩
  obtain ⟨m, hm⟩ : ∃ n, ca.length = n := ⟨_, rfl⟩
  obtain ⟨g, hg⟩ : ∃ g, w.heap.size = g := ⟨_, rfl⟩
  obtain ⟨W1, hW1⟩ : ∃ X, w.alloc (.cells #[.slice A n c, .slice B m d] 35) = X := ⟨_, rfl⟩
  have hb1 : Below w.heap.size w W1 := by rw [← hW1]; exact al1 _ _
  have hx1 : W1.heap[g]? = some (.cells #[.slice A n c, .slice B m d] 35) := by rw [← hW1, ← hg]; exact heap_alloc_new _ _
  have HRD := hid (read_any st ca _ _ a 16 W1 (hs.below hb1) hsn (hc.below hb1) hr ⟨by omega, by omega⟩)
  rw [hn, hm] at HRD
  rw [hn, hm]
  have x0 := cell_of_row _ _ 0 _ _ _ hx1
  have x1 := cell_of_row _ _ 1 _ _ _ hx1
  have HB1 := hid hb1
  have HW1 := hid hW1
  have HG := hid hg
  have hbld : ∀ W, (Instr.build 97 #[(0, .int .i64 a), (1, .int .i64 16)]).run Try.prog W = .ok (.agg #[.int .i64 a, .int .i64 16]) W := fun W => run_build W 97 _ _ (by kernel_rfl)
  clear hs hsn hc hb1 hx1 hW1 hg hn hm
  go_enter Try.func33, Try.ntmps33
  go_upto_region 1 with fail
  rw [HW1.out, HG.out]
  go_wp2_with (go_at_call 44; refine HRD.out.mono ?_; intro e X hQ; have HX0 := hid hQ; obtain ⟨A8, c8, rfl, hs8, hb8⟩ := readQ_open hQ; have HB := hid (below_both HB1.out hb8); clear hQ hs8 hb8)
  go_ret2
  exact ⟨HB.out, HX0.out.2⟩
end Go.Proofs.Ytnocgfhcamnjdaa

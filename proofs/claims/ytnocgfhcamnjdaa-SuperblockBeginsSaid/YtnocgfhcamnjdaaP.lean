/- Write and Sync. -/
import Derived.Test.YtnocgfhcamnjdaaO
namespace Go.Proofs.Ytnocgfhcamnjdaa
open Go.RowKit Go.Lib

/-- What a write leaves. -/
def wrS (st : List Sect) (ca : List Ca) (at_ : Int) (l : List Sect) : Int × Int × List Sect × List Ca := if chkD st.length ca = 0 then (if insB st.length at_ l.length = true then (1, 0, st, ca ++ putL at_ l) else (0, 2, [], [])) else (0, 2, [], [])
theorem wr_run (st : List Sect) (ca : List Ca) (at_ : Int) (d : Value) (l : List Sect) : runS st ca [⟨0, at_, d, l⟩] = wrS st ca at_ l := by
  unfold runS wrS
  split
  · split
    · rename_i h
      rw [exec_put rfl h]
      rfl
    · rename_i h
      rw [exec_out rfl (by simpa using h)]
      rfl
  · rfl
def WrQ (w : World) (r : Int × Int × List Sect × List Ca) (e : Ending) (w' : World) : Prop := ∃ v, e = .returned (.tuple #[v, .int .i64 r.2.1]) ∧ OwnG w' w.heap.size r.2.2.1 r.2.2.2 v ∧ Below w.heap.size w w'
/-- What a sync makes of a disk. -/
def syncS (st : List Sect) (ca : List Ca) : List Sect × List Ca := if chkD st.length ca = 0 then (newL st ca, []) else (st, ca)
def SyQ (w : World) (r : List Sect × List Ca) (e : Ending) (w' : World) : Prop := ∃ v, e = .returned v ∧ OwnG w' w.heap.size r.1 r.2 v ∧ Below w.heap.size w w'
theorem sync_run (st : List Sect) (ca : List Ca) (d : Value) : runS st ca [⟨1, 0, d, []⟩] = if chkD st.length ca = 0 then (1, 0, newL st ca, []) else (0, 2, [], []) := by
  unfold runS
  split
  · rw [exec_sync rfl]
    rfl
  · rfl
theorem sync_ok {st : List Sect} {ca : List Ca} {d : Value} {n : Int} {r : List Sect × List Ca} (h : runS st ca [⟨1, 0, d, []⟩] = (n, 0, r)) : r = syncS st ca := by
  rw [sync_run] at h
  unfold syncS
  split
  · rename_i h0
    rw [if_pos h0] at h
    injection h with _ h
    injection h with _ h
    exact h.symm
  · rename_i h0
    rw [if_neg h0] at h
    injection h with _ h
    injection h with h _
    cases h
theorem sync_no {st : List Sect} {ca : List Ca} {d : Value} {n e : Int} {r : List Sect × List Ca} (h : runS st ca [⟨1, 0, d, []⟩] = (n, e, r)) (he : e ≠ 0) : syncS st ca = (st, ca) := by
  rw [sync_run] at h
  unfold syncS
  split
  · rename_i h0
    rw [if_pos h0] at h
    injection h with _ h
    injection h with h _
    exact absurd h.symm he
  · rfl


end Go.Proofs.Ytnocgfhcamnjdaa

/- What Scan finds of records with a gap in their numbers. -/
import Derived.Test.YtcmmkeadbedooaaYc
namespace Go.Proofs.Ytcmmkeadbedooaa
open Go.RowKit Go.Lib

theorem encs_append (a b : List Rc) : encs (a ++ b) = encs a ++ encs b := by unfold encs; rw [List.map_append, List.flatten_append]
theorem encs_one (r : Rc) : encs [r] = encR r.1 r.2.1 r.2.2 := by unfold encs; simp
theorem scn_head {r : Rc} {t : List Rc} {q f : Nat} (ho : Ok r) (h : r.2.1 ≠ q) : scn (f + 1) (encs (r :: t)) q = ([], 0) := by
  obtain ⟨h1, h2, h3, h4, h5, h6⟩ := ho
  have he : encs (r :: t) = encR r.1 r.2.1 r.2.2 ++ encs t := by unfold encs; simp
  rw [he]
  exact scn_ne (dR_enc h6 h5 h1 h2 h3 h4 (encs t)) h
theorem scn_nil (f q : Nat) : scn (f + 1) (encs []) q = ([], 0) := scn_err (er := 10) rfl
theorem finds_list {rs : List Rc} {gp sk : Nat} (hok : ∀ r ∈ rs, Ok r) (hn : ∀ i r, rs[i]? = some r → r.2.1 = if i < gp then 5 + i else 6 + i + sk) :
    scan (encs rs) 5 = (rs.take gp, (encs (rs.take gp)).length) ∧ scan (encs rs) 4 = ([], 0) := by
  constructor
  · unfold scan
    rw [if_neg (by omega)]
    have h := scn_encs (rs.take gp) (encs (rs.drop gp)) 5 ((encs rs).length + 1) (fun r hr => hok r (List.mem_of_mem_take hr)) (fun i r hi => by
      rw [List.getElem?_take] at hi
      split at hi
      · rename_i hlt
        rw [hn i r hi, if_pos hlt]
      · cases hi) (by rw [← encs_append, List.take_append_drop]; omega)
    rw [← encs_append, List.take_append_drop] at h
    show scn ((encs rs).length + 1) (encs rs) 5 = _
    rw [h]
    have h2 : scn ((encs rs).length + 1) (encs (rs.drop gp)) (5 + (rs.take gp).length) = ([], 0) := by
      rcases hd : rs.drop gp with _ | ⟨r, t⟩
      · exact scn_nil _ _
      · have hr : rs[gp]? = some r := by
          have := congrArg (fun l => l[0]?) hd
          simpa [List.getElem?_drop] using this
        refine scn_head (hok r (List.mem_of_getElem? hr)) ?_
        have hlt := (List.getElem?_eq_some_iff.1 hr).1
        rw [hn gp r hr, if_neg (by omega), List.length_take]
        omega
    rw [h2]
    simp
  · unfold scan
    rw [if_neg (by omega)]
    show scn ((encs rs).length + 1) (encs rs) 4 = _
    rcases rs with _ | ⟨r, t⟩
    · exact scn_nil _ _
    · refine scn_head (hok r (List.mem_cons_self ..)) ?_
      rw [hn 0 r rfl]
      split <;> omega
end Go.Proofs.Ytcmmkeadbedooaa

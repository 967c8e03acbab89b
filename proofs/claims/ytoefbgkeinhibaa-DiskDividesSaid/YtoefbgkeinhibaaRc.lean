/- The laws' right: a disk after operations, without those that have errors. -/
import Derived.Test.YtoefbgkeinhibaaRb
namespace Go.Proofs.Ytoefbgkeinhibaa
open Go.RowKit Go.Lib

/-- A disk after operations, without those that have errors. -/
def rightS : List Sect → List Ca → List OpT → List Sect × List Ca
  | st, ca, [] => (st, ca)
  | st, ca, x :: r => if (runS st ca [x]).2.1 = 0 then rightS (runS st ca [x]).2.2.1 (runS st ca [x]).2.2.2 r else rightS st ca r
set_option maxHeartbeats 8000000 in
set_option maxRecDepth 100000 in
theorem right_any (sz : Nat) (ops : List OpT) (ov : Value) (w : World) (ho : OpsA w ov ops) (hz : sz < 256) (hb : tot ops ≤ 400000) :
    Calls Try.prog 36 #[.int .u8 (sz : Int), ov] w (SyQ w (rightS (List.replicate (sz % 40) zs) [] ops)) := by
  obtain ⟨O, oc, rfl⟩ := ops_form ho
  obtain ⟨N, hN⟩ : ∃ n, ops.length = n := ⟨_, rfl⟩
  rw [hN] at ho ⊢
  have hNM : N ≤ 9223372036854775807 := by
    obtain ⟨_, h5, h6⟩ := arr_cap ho.2
    omega
  obtain ⟨k, hk⟩ : ∃ k, sz % 40 = k := ⟨_, rfl⟩
  have hk4 : k < 40 := by omega
  obtain ⟨r, hr⟩ : ∃ r, rightS (List.replicate k zs) [] ops = r := ⟨_, rfl⟩
  rw [hk, hr]
  obtain ⟨g, hg⟩ : ∃ g, w.heap.size = g := ⟨_, rfl⟩
  obtain ⟨W1, hW1⟩ : ∃ X, w.alloc (.cells #[.slice none 0 0, .slice none 0 0] 25) = X := ⟨_, rfl⟩
  have hb1 : Below w.heap.size w W1 := by rw [← hW1]; exact al1 _ _
  have hy1 : W1.heap[g]? = some (.cells #[.slice none 0 0, .slice none 0 0] 25) := by rw [← hW1, ← hg]; exact heap_alloc_new w _
  obtain ⟨W2, hW2⟩ : ∃ X, W1.alloc (.cells (laid [] k).toArray 73) = X := ⟨_, rfl⟩
  obtain ⟨b, hbb⟩ : ∃ b, W1.heap.size = b := ⟨_, rfl⟩
  have hb2 : Below W1.heap.size W1 W2 := by rw [← hW2]; exact al1 _ _
  have hown : W2.ownsRow b 73 8 (.slice (some ⟨b, 0, none⟩) k k) (List.replicate k zs).length ((List.replicate k zs).map cSec).flatten := by
    have hfl := flat_cells (rep_secs k)
    rw [List.length_replicate] at hfl ⊢
    rw [← hW2, ← hbb]
    refine ⟨by rw [hfl]; omega, .inr ⟨W1.heap.size, k, _, rfl, Nat.le_refl _, heap_alloc_new W1 _, Nat.le_refl _, by unfold maxLen; omega, by rw [laid_rep, List.size_toArray, hfl]; omega, ?_⟩⟩
    rw [laid_rep]
    exact List.take_of_length_le (by rw [hfl]; omega)
  obtain ⟨W3, hW3⟩ : ∃ X, W2.alloc (.cells #[.slice (some ⟨b, 0, none⟩) k k, .slice none 0 0] 25) = X := ⟨_, rfl⟩
  obtain ⟨p, hp⟩ : ∃ p, W2.heap.size = p := ⟨_, rfl⟩
  have hp1 : b + 1 = p := by rw [← hp, ← hW2, ← hbb]; simp
  have hb3 : Below W2.heap.size W2 W3 := by rw [← hW3]; exact al1 _ _
  have HP3 : Hid (W3.heap[p]? = some (.cells #[.slice (some ⟨b, 0, none⟩) k k, .slice none 0 0] 25)) := hid (by rw [← hW3, ← hp]; exact heap_alloc_new _ _)
  have HB3 : Hid (Below w.heap.size w W3) := hid ((hb1.trans (hb2.mono hb1.size)).trans (hb3.mono (Nat.le_trans hb1.size hb2.size)))
  have HO3 : Hid (OwnG W3 w.heap.size (List.replicate k zs) [] (.agg #[.slice (some ⟨b, 0, none⟩) k k, .slice none 0 0])) := hid ⟨⟨_, _, rfl, own_base (own_keep hown (keep_below hb3)) (by rw [← hbb]; exact hb1.size), World.ownsRow_nil _ _ _ _⟩, rep_secs k, (fun x (hx : x ∈ []) => by cases hx)⟩
  have hgp : g < p := by rw [← hp]; exact Nat.lt_of_lt_of_le (box_lt hy1) hb2.size
  have hgw : w.heap.size ≤ g := Nat.le_of_eq hg
  have HY3 : Hid (W3.heap[g]? = some (.cells #[.slice none 0 0, .slice none 0 0] 25)) := hid ((hb3.block _ (Nat.lt_of_lt_of_le (box_lt hy1) hb2.size)).trans ((hb2.block _ (box_lt hy1)).trans hy1))
  have HOP := hid ho
  have HN := hid hN
  have HR := hid hr
  have HTB := hid hb
  have HW1 := hid hW1
  have HG := hid hg
  have HW2 := hid hW2
  have HBB := hid hbb
  have HW3 := hid hW3
  have HP := hid hp1
  have hmk := fun W => make22 W k (by omega)
  have hrem : IntKind.i64.wrap ((sz : Int).tmod 40) = (k : Int) := by
    rw [← hk]
    have : (sz : Int).tmod 40 = ((sz % 40 : Nat) : Int) := rfl
    rw [this, IntKind.wrap_i64]
    omega
  have hrem' : (sz : Int).tmod 40 = (k : Int) := by rw [← hk]; rfl
  clear ho hN hr hb hg hW1 hb1 hy1 hW2 hbb hb2 hown hW3 hp hp1 hb3 hk
  go_enter Try.func36, Try.ntmps36
  go_upto_region 1 with fail
  rw [HW1.out, HG.out]
  go_upto_region 2 with fail
  rw [HBB.out, HW2.out, HW3.out, HP.out]
  go_upto_region 3 with fail
  go_loopw [18] (fun iv wr => ∃ q : Nat, q ≤ N ∧ iv = .int .i64 (q : Int) ∧ Hid (∃ sv cv st' ca', wr.heap[p]? = some (.cells #[sv, cv] 25) ∧ OwnG wr w.heap.size st' ca' (.agg #[sv, cv]) ∧ rightS st' ca' (ops.drop q) = r ∧ st'.length ≤ 40 ∧ ca'.length + tot (ops.drop q) ≤ 400000) ∧ Hid (Below w.heap.size w wr) ∧ Hid (wr.heap[g]? = some (.cells #[.slice none 0 0, .slice none 0 0] 25))) (fun i _ => N - (Go.RowKit.intOf i).toNat)
  case atStart => exact ⟨0, Nat.zero_le _, rfl, hid ⟨_, _, _, [], HP3.out, HO3.out, HR.out, by rw [List.length_replicate]; omega, by have := HTB.out; rw [List.length_nil]; exact Nat.le_trans (Nat.le_of_eq (Nat.zero_add _)) this⟩, HB3, HY3⟩
  case round =>
    obtain ⟨q, hq, rfl, HX, HB, HY⟩ := hrel
    obtain ⟨sv, cv, st', ca', hbx, hog, hri, hln, hcap⟩ := HX.out
    have hpl : w.heap.size ≤ p := Nat.le_trans hgw (Nat.le_of_lt hgp)
    by_cases hqn : q < N
    · have hqn' : (q : Int) < (N : Int) := by omega
      have hopw := HOP.out.below HB.out
      obtain ⟨b, off, rfl, hb, hcc⟩ := ops_at hopw (by rw [HN.out]; omega)
      obtain ⟨x, hx⟩ : ∃ x, ops[q]? = some x := ⟨ops[q]'(by rw [HN.out]; exact hqn), List.getElem?_eq_getElem _⟩
      have hxok := hopw.1 x (List.mem_of_getElem? hx)
      have hdr := drop_cons hx
      rw [hdr] at hri hcap
      obtain ⟨k', a, dv, dl⟩ := x
      dsimp only at hxok
      obtain ⟨dA, dc, rfl⟩ := sec_form hxok.1
      have c0 := hcc q _ hx 0 (.int .i64 k') rfl
      rw [Nat.add_zero] at c0
      have c1 := hcc q _ hx 1 (.int .i64 a) rfl
      have c2 := hcc q _ hx 2 (.slice dA dl.length dc) rfl
      obtain ⟨m, hm⟩ : ∃ m, dl.length = m := ⟨_, rfl⟩
      obtain ⟨W5, hW5⟩ : ∃ X, wr.alloc (.cells #[.int .i64 k', .int .i64 a, .slice dA dl.length dc] 27) = X := ⟨_, rfl⟩
      obtain ⟨h5, hh5⟩ : ∃ h, wr.heap.size = h := ⟨_, rfl⟩
      have hb5 : Below wr.heap.size wr W5 := by rw [← hW5]; exact al1 _ _
      have hz5 : W5.heap[h5]? = some (.cells #[.int .i64 k', .int .i64 a, .slice dA dl.length dc] 27) := by rw [← hW5, ← hh5]; exact heap_alloc_new _ _
      have hbA : Below W5.heap.size W5 (W5.alloc (.cells #[.int .i64 k', .int .i64 a, .slice dA dl.length dc] 27)) := al1 _ _
      have hbB := hb5.trans (hbA.mono hb5.size)
      have hOPS : OpsA (W5.alloc (.cells #[.int .i64 k', .int .i64 a, .slice dA dl.length dc] 27)) (.slice (some ⟨W5.heap.size, 0, none⟩) 1 1) [⟨k', a, .slice dA dl.length dc, dl⟩] := by
        refine ⟨?_, ?_⟩
        · intro x hx
          rw [List.mem_singleton] at hx
          subst hx
          exact ⟨hxok.1.below hbB, hxok.2⟩
        · refine ⟨some ⟨W5.heap.size, 0, none⟩, 1, rfl, Nat.le_refl _, by unfold maxLen; omega, W5.heap.size, 0, fun _ => ⟨rfl, by simp⟩, fun i r hi j u hj => ?_⟩
          obtain rfl : i = 0 := by have := (List.getElem?_eq_some_iff.1 hi).1; simpa using this
          simp only [List.map_cons, List.map_nil, List.getElem?_cons_zero, Option.some.injEq] at hi
          subst hi
          rw [cell_of_row _ _ _ _ _ _ (heap_alloc_new _ _), Nat.zero_mul, Nat.zero_add]
          simpa [cOp] using hj
      obtain ⟨sv', cv', e9, q1, q2, q3⟩ := hog.dk
      injection e9 with e9
      injection e9 with e9
      injection e9 with e91 e9
      injection e9 with e92 _
      subst e91 e92
      obtain ⟨r2, hr2⟩ : ∃ r2, runS st' ca' [⟨k', a, .slice dA dl.length dc, dl⟩] = r2 := ⟨_, rfl⟩
      have HRL := hid (runS_len st' ca' [⟨k', a, .slice dA dl.length dc, dl⟩])
      rw [hr2] at HRL
      have HRUN : Hid (Calls Try.prog 29 #[.agg #[sv, cv], .slice (some ⟨W5.heap.size, 0, none⟩) 1 1] (W5.alloc (.cells #[.int .i64 k', .int .i64 a, .slice dA dl.length dc] 27)) (RunQ _ r2)) := hid (by
        rw [← hr2]
        exact run_any st' ca' _ _ _ _ _ (q1.below hbB) q2 (q3.below hbB) hOPS (by unfold tot at hcap ⊢; dsimp only at hcap ⊢; unfold tot; omega))
      have HRI := hid hri
      have HCP := hid hcap
      have HLN := hid hln
      obtain ⟨A', n', c', rfl⟩ : ∃ A n c, sv = .slice A n c := by obtain ⟨A, c, e⟩ := sec_form q1; exact ⟨A, _, c, e⟩
      obtain ⟨B', m', d', rfl⟩ : ∃ A n c, cv = .slice A n c := by obtain ⟨A, c, e⟩ := cas_form q3; exact ⟨A, _, c, e⟩
      have HOG := hid hog
      have HBX := hid hbx
      have HBB5 := hid hbB
      have hx5 := (hb5.block _ (box_lt hbx)).trans hbx
      have p0 := cell_of_row _ _ 0 _ _ _ hx5
      have p1 := cell_of_row _ _ 1 _ _ _ hx5
      have z0 := cell_of_row _ _ 0 _ _ _ hz5
      have z1 := cell_of_row _ _ 1 _ _ _ hz5
      have z2 := cell_of_row _ _ 2 _ _ _ hz5
      rw [hm] at c2 hW5 HRUN HRL hr2 z2 HBB5
      have HW5 := hid hW5
      have HH5 := hid hh5
      have HR2 := hid hr2
      have HM := hid hm
      clear hopw hcc hx hxok hdr hm hri hcap hln hog hbx hx5 hz5 hbA hbB hb5 hOPS q1 q2 q3 hW5 hh5 hr2
      obtain ⟨rn, re, rs, rc⟩ := r2
      dsimp only at HRL
      go_upto_region 5 with fail
      rw [HW5.out, HH5.out]
      clear c0 c1 c2
      go_upto_region 6 with (go_at_call 29; refine HRUN.out.mono ?_; rintro e X2 ⟨v2, rfl, ⟨⟨sv2, cv2, rfl, h1, h2⟩, h3⟩, hb3⟩; dsimp only at h1 h2 h3; obtain ⟨A2, c2, rfl⟩ := ownAny_form h1; obtain ⟨B2, d2, rfl⟩ := ownAny_form h2; have HO : Hid (OwnG X2 _ rs rc (.agg #[.slice A2 rs.length c2, .slice B2 rc.length d2])) := hid ⟨⟨_, _, rfl, h1, h2⟩, h3⟩; have HBR := hid hb3; clear h1 h2 h3 hb3)
      obtain ⟨W8, hW8⟩ : ∃ X, X2.alloc (.cells #[.slice A2 rs.length c2, .slice B2 rc.length d2] 25) = X := ⟨_, rfl⟩
      obtain ⟨p8, hp8⟩ : ∃ p, X2.heap.size = p := ⟨_, rfl⟩
      have hb8 : Below X2.heap.size X2 W8 := by rw [← hW8]; exact al1 _ _
      have hx8 : W8.heap[p8]? = some (.cells #[.slice A2 rs.length c2, .slice B2 rc.length d2] 25) := by rw [← hW8, ← hp8]; exact heap_alloc_new _ _
      have HBW8 : Hid (Below wr.heap.size wr W8) := hid ((HBB5.out.trans (HBR.out.mono HBB5.out.size)).trans (hb8.mono (Nat.le_trans HBB5.out.size HBR.out.size)))
      have HO8 := hid (HO.out.keep (B' := w.heap.size) (keep_below hb8) (keep_below hb8) (Nat.le_trans HB.out.size HBB5.out.size))
      have hpx8 := (HBW8.out.block _ (box_lt HBX.out)).trans HBX.out
      have hyx8 := (HBW8.out.block _ (box_lt HY.out)).trans HY.out
      have HPX8 := hid hpx8
      have HYX8 := hid hyx8
      have hne : g ≠ p := Nat.ne_of_lt hgp
      rw [hW8, hp8]
      clear p0 p1 z0 z1 z2
      by_cases he : re = 0
      · subst he
        have q0 := cell_of_row _ _ 0 _ _ _ hx8
        have q1 := cell_of_row _ _ 1 _ _ _ hx8
        have y0 := cell_of_row _ _ 0 _ _ _ hpx8
        have y1 := cell_of_row _ _ 1 _ _ _ hpx8
        have f0 := box_fr hpx8 0
        have f1 := box_fr hpx8 1
        clear hW8 hp8 hb8 hx8 hpx8 hyx8
        go_wp2_with fail
        go_roundw
        case rel =>
          exact ⟨q + 1, by omega, by go_num, hid ⟨_, _, rs, rc, disk_set HPX8.out _ _, HO8.out.keep (keep_two HPX8.out (by decide)) (keep_two HPX8.out (by decide)) (Nat.le_refl _), by rw [← HRI.out, rightS, HM.out, HR2.out, if_pos rfl], Nat.le_trans HRL.out.1 HLN.out, by have h1 := HRL.out.2; have h2 := HCP.out; unfold tot at h1 h2; unfold tot at h1; dsimp only at h1 h2; omega⟩, hid (((HB.out.trans (HBW8.out.mono HB.out.size)).setCell hpl _).setCell hpl _), hid (by rw [Below.heap_setCell _ _ _ _ hne, Below.heap_setCell _ _ _ _ hne]; exact HYX8.out)⟩
        case measure => simp [Go.RowKit.intOf]; omega
      · have de : (re == 0) = false := by simpa using he
        clear hW8 hp8 hb8 hx8 hpx8 hyx8
        go_wp2_with fail
        go_roundw
        case rel =>
          exact ⟨q + 1, by omega, by go_num, hid ⟨_, _, st', ca', HPX8.out, HOG.out.keep (keep_below HBW8.out) (keep_below HBW8.out) (Nat.le_refl _), by rw [← HRI.out, rightS, HM.out, HR2.out, if_neg he], HLN.out, by have h2 := HCP.out; unfold tot at h2; omega⟩, hid (HB.out.trans (HBW8.out.mono HB.out.size)), HYX8⟩
        case measure => simp [Go.RowKit.intOf]; omega
    · obtain rfl : N = q := by omega
      have hqn' : ¬ ((N : Nat) : Int) < (N : Int) := by omega
      rw [List.drop_of_length_le (by rw [HN.out]; exact Nat.le_refl _)] at hri
      obtain ⟨rs, rc⟩ := r
      obtain ⟨rfl, rfl⟩ : st' = rs ∧ ca' = rc := by injection hri with e1 e2; exact ⟨e1, e2⟩
      obtain ⟨sv', cv', e9, q1, q2, q3⟩ := hog.dk
      injection e9 with e9
      injection e9 with e9
      injection e9 with e91 e9
      injection e9 with e92 _
      subst e91 e92
      obtain ⟨A', n', c', rfl⟩ : ∃ A n c, sv = .slice A n c := by obtain ⟨A, c, e⟩ := sec_form q1; exact ⟨A, _, c, e⟩
      obtain ⟨B', m', d', rfl⟩ : ∃ A n c, cv = .slice A n c := by obtain ⟨A, c, e⟩ := cas_form q3; exact ⟨A, _, c, e⟩
      have HOG := hid hog
      have q0 := cell_of_row _ _ 0 _ _ _ hbx
      have q1 := cell_of_row _ _ 1 _ _ _ hbx
      have y0 := cell_of_row _ _ 0 _ _ _ HY.out
      have y1 := cell_of_row _ _ 1 _ _ _ HY.out
      have f0 := box_fr HY.out 0
      have f1 := box_fr HY.out 1
      clear hri hcap hln hog hbx q2 q3
      go_wp2_with fail
      refine bodyPost_ret (results_c rfl _ _ g _ rfl (disk_load (disk_set HY.out _ _))) rfl ?_
      exact ⟨_, rfl, HOG.out.keep (keep_two HY.out (by decide)) (keep_two HY.out (by decide)) (Nat.le_refl _), (HB.out.setCell hgw _).setCell hgw _⟩
end Go.Proofs.Ytoefbgkeinhibaa

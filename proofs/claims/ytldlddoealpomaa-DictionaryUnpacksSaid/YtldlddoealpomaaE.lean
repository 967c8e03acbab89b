/- The writer's number. -/
import Derived.Test.YtldlddoealpomaaD
import Derived.RangeFuncBox
namespace Go.Proofs.Ytldlddoealpomaa
open Go.RowKit Go.Lib

/-- The writer in block g has written the bytes l, into a row of its own from base on. -/
def Wr (w : World) (g base : Nat) (l : List Nat) : Prop := ∃ v, Boxed w g 123 v ∧ w.ownsRow base 5 1 v l.length (l.map byteV)

theorem box_app {w w2 : World} {g base n : Nat} {vo : Value} {xs : List Value} (hb : Boxed w g 123 vo) (ho : w.ownsRow base 5 1 vo n xs) (o : Obj) (hg : (w.alloc o).grownBy w2 vo.ownBlock) : Boxed w2 g 123 vo :=
  (hb.alloc o).kept hg ((hb.alloc o).not_row (by decide) (ho.alloc o))
theorem box_row {w : World} {g base n : Nat} {vo v : Value} {xs : List Value} (hb : Boxed w g 123 vo) (ho : w.ownsRow base 5 1 v n xs) : v.ownBlock ≠ some g :=
  fun h => hb.not_row (by decide) ho h.symm
theorem wr_step {w : World} {g base : Nat} {vo v : Value} {l p : List Nat} {x : Nat} (hb : Boxed w g 123 vo) (ho : w.ownsRow base 5 1 v (l.length + p.length + [x].length) ((l ++ p).map byteV ++ [x].map byteV)) (hn : v.ownBlock ≠ some g) :
    Wr (w.setCell ⟨g, 0, none⟩ v) g base (l ++ (p ++ [x])) := by
  refine ⟨v, hb.set v, ?_⟩
  rw [own_snoc, List.append_assoc, Nat.add_assoc, ← List.length_append, ← List.length_append] at ho
  exact ownsRow_setCell_other ho hn v

set_option maxHeartbeats 2000000 in
set_option maxRecDepth 100000 in
theorem wnum_any (n : Int) (pr : List Nat) (g base : Nat) (w : World) (hw : Wr w g base pr) (hbg : base ≤ g) (hl : pr.length ≤ 90000) :
    Calls Try.prog 72 #[.pointer (some ⟨g, 0, none⟩), .int .i64 n] w fun e w' => (∃ v, e = .returned v) ∧ Wr w' g base (pr ++ enc (cl n)) ∧ Below base w w' := by
  have HM8 : Hid ((enc (cl n)).length ≤ 8) := hid (enc_le8 (cl_le n))
  have hmt := cl_le n
  unfold top at hmt
  have HW := hid hw
  clear hw
  rcases Classical.em (n < 0) with h1 | h1
  · have hm0 : cl n = 0 := cl_neg h1
    have d1 : decide (n < 0) = true := decide_eq_true h1
    obtain ⟨m, hm⟩ : ∃ m, cl n = m := ⟨_, rfl⟩
    rw [hm] at hm0 HM8 hmt ⊢
    clear hm
    go_enter Try.func72, Try.ntmps72
    go_wp2
    go_loopw [1] (fun i wr => ∃ (k : Nat) (p : List Nat), i = .int .i64 (k : Int) ∧ k ≤ 9007199254740991 ∧ Hid (p ++ enc k = enc m) ∧ Hid (Wr wr g base (pr ++ p)) ∧ Hid (Below base w wr)) (fun i _ => (intOf i).toNat)
    case atStart => exact ⟨0, [], rfl, by omega, hid (by rw [hm0]; rfl), hid (by simpa using HW.out), hid (Below.refl _ _)⟩
    case round =>
      clear HW
      obtain ⟨k, p, rfl, hk, HE, HW, HB⟩ := hrel
      obtain ⟨vo, bx, ho⟩ := HW.out
      rw [List.length_append] at ho
      have BX := hid bx
      have HO := hid ho
      obtain ⟨av, cv, rfl⟩ := own_form ho
      have hpl : p.length ≤ 8 := by
        have h := congrArg List.length HE.out
        rw [List.length_append] at h
        have := HM8.out
        omega
      have hgl := bx.lt
      have hBs : base ≤ wr.heap.size := by omega
      have c1 := bx.cell
      have f1 := bx.frozen
      clear bx ho HW
      by_cases hg : 128 ≤ k
      · have hz : k % 128 + 128 < 256 := by omega
        have HE2 : Hid ((p ++ [k % 128 + 128]) ++ enc (k / 128) = enc m) := hid (by rw [List.append_assoc, List.singleton_append, ← enc_big (by omega)]; exact HE.out)
        go_wp2_with (at_builtin; refine append_byt rfl (.tmp 18) (.tmp 23) rfl base (.slice av (pr.length + p.length) cv) (pr.length + p.length) _ rfl (HO.out.alloc _) [k % 128 + 128] _ rfl (byt_one_at wr _ _ (by omega) (by omega)) (nilOk_some _ _ _) (by simp; omega) (by simp; omega) ?_; intro v2 w2 hown2 hg2; obtain ⟨av2, cv2, rfl⟩ := own_form hown2; have BX2 := hid (box_app BX.out HO.out _ hg2); have NR := hid (box_row BX2.out hown2); have HB2 := hid (below_own (HB.out.alloc hBs _) (HO.out.alloc _) hg2 (by simp; omega) (Nat.le_refl _)); have HO2 := hid hown2; have c2 := BX2.out.cell; have f2 := BX2.out.frozen; clear hown2 hg2)
        go_roundw
        case rel => exact ⟨k / 128, p ++ [k % 128 + 128], by go_num, by omega, HE2, hid (wr_step BX2.out HO2.out NR.out), hid (HB2.out.setCell hbg _)⟩
        case measure => simp [intOf]; omega
      · have HE2 : Hid (p ++ [k] = enc m) := hid (by rw [← enc_small (by omega)]; exact HE.out)
        go_wp2_with (at_builtin; refine append_byt rfl (.tmp 31) (.tmp 34) rfl base (.slice av (pr.length + p.length) cv) (pr.length + p.length) _ rfl (HO.out.alloc _) [k] _ rfl (byt_one_at wr _ _ (by omega) (by omega)) (nilOk_some _ _ _) (by simp; omega) (by simp; omega) ?_; intro v2 w2 hown2 hg2; obtain ⟨av2, cv2, rfl⟩ := own_form hown2; have BX2 := hid (box_app BX.out HO.out _ hg2); have NR := hid (box_row BX2.out hown2); have HB2 := hid (below_own (HB.out.alloc hBs _) (HO.out.alloc _) hg2 (by simp; omega) (Nat.le_refl _)); have HO2 := hid hown2; have c2 := BX2.out.cell; have f2 := BX2.out.frozen; clear hown2 hg2)
        go_end0
        refine ⟨⟨_, rfl⟩, ?_, HB2.out.setCell hbg _⟩
        rw [← HE2.out]
        exact wr_step BX2.out HO2.out NR.out
  · have d1 : decide (n < 0) = false := decide_eq_false h1
    rcases Classical.em (9007199254740991 < n) with h2 | h2
    · have hm0 : cl n = 0 := cl_big h2
      have d2 : decide (9007199254740991 < n) = true := decide_eq_true h2
      obtain ⟨m, hm⟩ : ∃ m, cl n = m := ⟨_, rfl⟩
      rw [hm] at hm0 HM8 hmt ⊢
      clear hm
      go_enter Try.func72, Try.ntmps72
      go_wp2
      go_loopw [1] (fun i wr => ∃ (k : Nat) (p : List Nat), i = .int .i64 (k : Int) ∧ k ≤ 9007199254740991 ∧ Hid (p ++ enc k = enc m) ∧ Hid (Wr wr g base (pr ++ p)) ∧ Hid (Below base w wr)) (fun i _ => (intOf i).toNat)
      case atStart => exact ⟨0, [], rfl, by omega, hid (by rw [hm0]; rfl), hid (by simpa using HW.out), hid (Below.refl _ _)⟩
      case round =>
        clear HW
        obtain ⟨k, p, rfl, hk, HE, HW, HB⟩ := hrel
        obtain ⟨vo, bx, ho⟩ := HW.out
        rw [List.length_append] at ho
        have BX := hid bx
        have HO := hid ho
        obtain ⟨av, cv, rfl⟩ := own_form ho
        have hpl : p.length ≤ 8 := by
          have h := congrArg List.length HE.out
          rw [List.length_append] at h
          have := HM8.out
          omega
        have hgl := bx.lt
        have hBs : base ≤ wr.heap.size := by omega
        have c1 := bx.cell
        have f1 := bx.frozen
        clear bx ho HW
        by_cases hg : 128 ≤ k
        · have hz : k % 128 + 128 < 256 := by omega
          have HE2 : Hid ((p ++ [k % 128 + 128]) ++ enc (k / 128) = enc m) := hid (by rw [List.append_assoc, List.singleton_append, ← enc_big (by omega)]; exact HE.out)
          go_wp2_with (at_builtin; refine append_byt rfl (.tmp 18) (.tmp 23) rfl base (.slice av (pr.length + p.length) cv) (pr.length + p.length) _ rfl (HO.out.alloc _) [k % 128 + 128] _ rfl (byt_one_at wr _ _ (by omega) (by omega)) (nilOk_some _ _ _) (by simp; omega) (by simp; omega) ?_; intro v2 w2 hown2 hg2; obtain ⟨av2, cv2, rfl⟩ := own_form hown2; have BX2 := hid (box_app BX.out HO.out _ hg2); have NR := hid (box_row BX2.out hown2); have HB2 := hid (below_own (HB.out.alloc hBs _) (HO.out.alloc _) hg2 (by simp; omega) (Nat.le_refl _)); have HO2 := hid hown2; have c2 := BX2.out.cell; have f2 := BX2.out.frozen; clear hown2 hg2)
          go_roundw
          case rel => exact ⟨k / 128, p ++ [k % 128 + 128], by go_num, by omega, HE2, hid (wr_step BX2.out HO2.out NR.out), hid (HB2.out.setCell hbg _)⟩
          case measure => simp [intOf]; omega
        · have HE2 : Hid (p ++ [k] = enc m) := hid (by rw [← enc_small (by omega)]; exact HE.out)
          go_wp2_with (at_builtin; refine append_byt rfl (.tmp 31) (.tmp 34) rfl base (.slice av (pr.length + p.length) cv) (pr.length + p.length) _ rfl (HO.out.alloc _) [k] _ rfl (byt_one_at wr _ _ (by omega) (by omega)) (nilOk_some _ _ _) (by simp; omega) (by simp; omega) ?_; intro v2 w2 hown2 hg2; obtain ⟨av2, cv2, rfl⟩ := own_form hown2; have BX2 := hid (box_app BX.out HO.out _ hg2); have NR := hid (box_row BX2.out hown2); have HB2 := hid (below_own (HB.out.alloc hBs _) (HO.out.alloc _) hg2 (by simp; omega) (Nat.le_refl _)); have HO2 := hid hown2; have c2 := BX2.out.cell; have f2 := BX2.out.frozen; clear hown2 hg2)
          go_end0
          refine ⟨⟨_, rfl⟩, ?_, HB2.out.setCell hbg _⟩
          rw [← HE2.out]
          exact wr_step BX2.out HO2.out NR.out
    · obtain ⟨m, rfl⟩ : ∃ m : Nat, n = (m : Int) := ⟨n.toNat, by omega⟩
      have d2 : decide (9007199254740991 < (m : Int)) = false := decide_eq_false h2
      rw [show cl (m : Int) = m by rw [cl_in (by omega) (by omega)]; rfl] at HM8 hmt ⊢
      go_enter Try.func72, Try.ntmps72
      go_wp2
      go_loopw [1] (fun i wr => ∃ (k : Nat) (p : List Nat), i = .int .i64 (k : Int) ∧ k ≤ 9007199254740991 ∧ Hid (p ++ enc k = enc m) ∧ Hid (Wr wr g base (pr ++ p)) ∧ Hid (Below base w wr)) (fun i _ => (intOf i).toNat)
      case atStart => exact ⟨m, [], int_eq (by omega), by omega, hid rfl, hid (by simpa using HW.out), hid (Below.refl _ _)⟩
      case round =>
        clear HW
        obtain ⟨k, p, rfl, hk, HE, HW, HB⟩ := hrel
        obtain ⟨vo, bx, ho⟩ := HW.out
        rw [List.length_append] at ho
        have BX := hid bx
        have HO := hid ho
        obtain ⟨av, cv, rfl⟩ := own_form ho
        have hpl : p.length ≤ 8 := by
          have h := congrArg List.length HE.out
          rw [List.length_append] at h
          have := HM8.out
          omega
        have hgl := bx.lt
        have hBs : base ≤ wr.heap.size := by omega
        have c1 := bx.cell
        have f1 := bx.frozen
        clear bx ho HW
        by_cases hg : 128 ≤ k
        · have hz : k % 128 + 128 < 256 := by omega
          have HE2 : Hid ((p ++ [k % 128 + 128]) ++ enc (k / 128) = enc m) := hid (by rw [List.append_assoc, List.singleton_append, ← enc_big (by omega)]; exact HE.out)
          go_wp2_with (at_builtin; refine append_byt rfl (.tmp 18) (.tmp 23) rfl base (.slice av (pr.length + p.length) cv) (pr.length + p.length) _ rfl (HO.out.alloc _) [k % 128 + 128] _ rfl (byt_one_at wr _ _ (by omega) (by omega)) (nilOk_some _ _ _) (by simp; omega) (by simp; omega) ?_; intro v2 w2 hown2 hg2; obtain ⟨av2, cv2, rfl⟩ := own_form hown2; have BX2 := hid (box_app BX.out HO.out _ hg2); have NR := hid (box_row BX2.out hown2); have HB2 := hid (below_own (HB.out.alloc hBs _) (HO.out.alloc _) hg2 (by simp; omega) (Nat.le_refl _)); have HO2 := hid hown2; have c2 := BX2.out.cell; have f2 := BX2.out.frozen; clear hown2 hg2)
          go_roundw
          case rel => exact ⟨k / 128, p ++ [k % 128 + 128], by go_num, by omega, HE2, hid (wr_step BX2.out HO2.out NR.out), hid (HB2.out.setCell hbg _)⟩
          case measure => simp [intOf]; omega
        · have HE2 : Hid (p ++ [k] = enc m) := hid (by rw [← enc_small (by omega)]; exact HE.out)
          go_wp2_with (at_builtin; refine append_byt rfl (.tmp 31) (.tmp 34) rfl base (.slice av (pr.length + p.length) cv) (pr.length + p.length) _ rfl (HO.out.alloc _) [k] _ rfl (byt_one_at wr _ _ (by omega) (by omega)) (nilOk_some _ _ _) (by simp; omega) (by simp; omega) ?_; intro v2 w2 hown2 hg2; obtain ⟨av2, cv2, rfl⟩ := own_form hown2; have BX2 := hid (box_app BX.out HO.out _ hg2); have NR := hid (box_row BX2.out hown2); have HB2 := hid (below_own (HB.out.alloc hBs _) (HO.out.alloc _) hg2 (by simp; omega) (Nat.le_refl _)); have HO2 := hid hown2; have c2 := BX2.out.cell; have f2 := BX2.out.frozen; clear hown2 hg2)
          go_end0
          refine ⟨⟨_, rfl⟩, ?_, HB2.out.setCell hbg _⟩
          rw [← HE2.out]
          exact wr_step BX2.out HO2.out NR.out

end Go.Proofs.Ytldlddoealpomaa

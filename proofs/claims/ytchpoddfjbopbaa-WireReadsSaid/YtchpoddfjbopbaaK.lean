/- The writer's number, a block that it leaves. -/
import Derived.Test.YtchpoddfjbopbaaJ
namespace Go.Proofs.Ytchpoddfjbopbaa
open Go.RowKit Go.Lib

/-- Block c has the cells cs, and is not the writer's. -/
def Pro (w : World) (c g : Nat) (cs : Array Value) (t : TypeId) : Prop := w.heap[c]? = some (.cells cs t) ∧ c ≠ g ∧ t ≠ 5
theorem Pro.lt {w : World} {c g : Nat} {cs : Array Value} {t : TypeId} (h : Pro w c g cs t) : c < w.heap.size := (Array.getElem?_eq_some_iff.1 h.1).1
theorem pro_not {w : World} {c g base n : Nat} {cs : Array Value} {t : TypeId} {v : Value} {xs : List Value} (h : Pro w c g cs t) (ho : w.ownsRow base 5 1 v n xs) : some c ≠ v.ownBlock := by
  rcases ho.2 with ⟨rfl, _⟩ | ⟨k, cap, cur, rfl, _, hgb, _⟩
  · simp [Value.ownBlock]
  · intro e'
    obtain rfl : c = k := by simpa [Value.ownBlock] using e'
    have := h.1.symm.trans hgb
    simp at this
    exact h.2.2 this.2
theorem pro_app0 {w w2 : World} {c g base n : Nat} {cs : Array Value} {t : TypeId} {vo : Value} {xs : List Value} (h : Pro w c g cs t) (ho : w.ownsRow base 5 1 vo n xs) (hg : w.grownBy w2 vo.ownBlock) : Pro w2 c g cs t :=
  ⟨(hg.block c h.lt (pro_not h ho)).trans h.1, h.2⟩
theorem pro_alloc {w : World} {c g : Nat} {cs : Array Value} {t : TypeId} (h : Pro w c g cs t) (o : Obj) : Pro (w.alloc o) c g cs t :=
  ⟨((World.grownBy_alloc w o none).block c h.lt (by simp)).trans h.1, h.2⟩
theorem pro_app {w w2 : World} {c g base n : Nat} {cs : Array Value} {t : TypeId} {vo : Value} {xs : List Value} (h : Pro w c g cs t) (ho : w.ownsRow base 5 1 vo n xs) (o : Obj) (hg : (w.alloc o).grownBy w2 vo.ownBlock) : Pro w2 c g cs t :=
  pro_app0 (pro_alloc h o) (ho.alloc o) hg
theorem pro_set {w : World} {c g : Nat} {cs : Array Value} {t : TypeId} (h : Pro w c g cs t) (v : Value) : Pro (w.setCell ⟨g, 0, none⟩ v) c g cs t := by
  refine ⟨?_, h.2⟩
  show (w.heap.modify g _)[c]? = _
  rw [Array.getElem?_modify, if_neg (Ne.symm h.2.1)]
  exact h.1

set_option maxHeartbeats 2000000 in
set_option maxRecDepth 100000 in
theorem wnum_pro (n : Int) (pr : List Nat) (g base c : Nat) (cs : Array Value) (t : TypeId) (w : World) (hw : Wr w g base pr) (hp : Pro w c g cs t) (hbg : base ≤ g) (hl : pr.length ≤ 90000) :
    Calls Try.prog 52 #[.pointer (some ⟨g, 0, none⟩), .int .i64 n] w fun e w' => (∃ v, e = .returned v) ∧ Wr w' g base (pr ++ enc (cl n)) ∧ Below base w w' ∧ Pro w' c g cs t := by
  have HM8 : Hid ((enc (cl n)).length ≤ 8) := hid (enc_le8 (cl_le n))
  have hmt := cl_le n
  unfold top at hmt
  have HW := hid hw
  have HP := hid hp
  clear hw hp
  rcases Classical.em (n < 0) with h1 | h1
  · have hm0 : cl n = 0 := cl_neg h1
    have d1 : decide (n < 0) = true := decide_eq_true h1
    obtain ⟨m, hm⟩ : ∃ m, cl n = m := ⟨_, rfl⟩
    rw [hm] at hm0 HM8 hmt ⊢
    clear hm
    go_enter Try.func52, Try.ntmps52
    go_wp2
    go_loopw [1] (fun i wr => ∃ (k : Nat) (p : List Nat), i = .int .i64 (k : Int) ∧ k ≤ 9007199254740991 ∧ Hid (p ++ enc k = enc m) ∧ Hid (Wr wr g base (pr ++ p)) ∧ Hid (Below base w wr) ∧ Hid (Pro wr c g cs t)) (fun i _ => (intOf i).toNat)
    case atStart => exact ⟨0, [], rfl, by omega, hid (by rw [hm0]; rfl), hid (by simpa using HW.out), hid (Below.refl _ _), HP⟩
    case round =>
      clear HW HP
      obtain ⟨k, p, rfl, hk, HE, HW, HB, HP⟩ := hrel
      obtain ⟨vo, bx, ho⟩ := HW.out
      rw [List.length_append] at ho
      have BX := hid bx
      have HO := hid ho
      obtain ⟨av, cv, rfl⟩ := own_form ho
      have hpl : p.length ≤ 8 := by
        have h := congrArg List.length HE.out
        rw [List.length_append] at h
        have := HM8.out
        omega
      have hgl := bx.lt
      have hBs : base ≤ wr.heap.size := by omega
      have c1 := bx.cell
      have f1 := bx.frozen
      clear bx ho HW
      by_cases hg : 128 ≤ k
      · have hz : k % 128 + 128 < 256 := by omega
        have HE2 : Hid ((p ++ [k % 128 + 128]) ++ enc (k / 128) = enc m) := hid (by rw [List.append_assoc, List.singleton_append, ← enc_big (by omega)]; exact HE.out)
        go_wp2_with (at_builtin; refine append_byt rfl (.tmp 18) (.tmp 23) rfl base (.slice av (pr.length + p.length) cv) (pr.length + p.length) _ rfl (HO.out.alloc _) [k % 128 + 128] _ rfl (byt_one_at wr _ _ (by omega) (by omega)) (nilOk_some _ _ _) (by simp; omega) (by simp; omega) ?_; intro v2 w2 hown2 hg2; obtain ⟨av2, cv2, rfl⟩ := own_form hown2; have BX2 := hid (box_app BX.out HO.out _ hg2); have NR := hid (box_row BX2.out hown2); have HB2 := hid (below_own (HB.out.alloc hBs _) (HO.out.alloc _) hg2 (by simp; omega) (Nat.le_refl _)); have HO2 := hid hown2; have HP2 := hid (pro_app HP.out HO.out _ hg2); have c2 := BX2.out.cell; have f2 := BX2.out.frozen; clear hown2 hg2)
        go_roundw
        case rel => exact ⟨k / 128, p ++ [k % 128 + 128], by go_num, by omega, HE2, hid (wr_step BX2.out HO2.out NR.out), hid (HB2.out.setCell hbg _), hid (pro_set HP2.out _)⟩
        case measure => simp [intOf]; omega
      · have HE2 : Hid (p ++ [k] = enc m) := hid (by rw [← enc_small (by omega)]; exact HE.out)
        go_wp2_with (at_builtin; refine append_byt rfl (.tmp 31) (.tmp 34) rfl base (.slice av (pr.length + p.length) cv) (pr.length + p.length) _ rfl (HO.out.alloc _) [k] _ rfl (byt_one_at wr _ _ (by omega) (by omega)) (nilOk_some _ _ _) (by simp; omega) (by simp; omega) ?_; intro v2 w2 hown2 hg2; obtain ⟨av2, cv2, rfl⟩ := own_form hown2; have BX2 := hid (box_app BX.out HO.out _ hg2); have NR := hid (box_row BX2.out hown2); have HB2 := hid (below_own (HB.out.alloc hBs _) (HO.out.alloc _) hg2 (by simp; omega) (Nat.le_refl _)); have HO2 := hid hown2; have HP2 := hid (pro_app HP.out HO.out _ hg2); have c2 := BX2.out.cell; have f2 := BX2.out.frozen; clear hown2 hg2)
        go_end0
        refine ⟨⟨_, rfl⟩, ?_, HB2.out.setCell hbg _, pro_set HP2.out _⟩
        rw [← HE2.out]
        exact wr_step BX2.out HO2.out NR.out
  · have d1 : decide (n < 0) = false := decide_eq_false h1
    rcases Classical.em (9007199254740991 < n) with h2 | h2
    · have hm0 : cl n = 0 := cl_big h2
      have d2 : decide (9007199254740991 < n) = true := decide_eq_true h2
      obtain ⟨m, hm⟩ : ∃ m, cl n = m := ⟨_, rfl⟩
      rw [hm] at hm0 HM8 hmt ⊢
      clear hm
      go_enter Try.func52, Try.ntmps52
      go_wp2
      go_loopw [1] (fun i wr => ∃ (k : Nat) (p : List Nat), i = .int .i64 (k : Int) ∧ k ≤ 9007199254740991 ∧ Hid (p ++ enc k = enc m) ∧ Hid (Wr wr g base (pr ++ p)) ∧ Hid (Below base w wr) ∧ Hid (Pro wr c g cs t)) (fun i _ => (intOf i).toNat)
      case atStart => exact ⟨0, [], rfl, by omega, hid (by rw [hm0]; rfl), hid (by simpa using HW.out), hid (Below.refl _ _), HP⟩
      case round =>
        clear HW HP
        obtain ⟨k, p, rfl, hk, HE, HW, HB, HP⟩ := hrel
        obtain ⟨vo, bx, ho⟩ := HW.out
        rw [List.length_append] at ho
        have BX := hid bx
        have HO := hid ho
        obtain ⟨av, cv, rfl⟩ := own_form ho
        have hpl : p.length ≤ 8 := by
          have h := congrArg List.length HE.out
          rw [List.length_append] at h
          have := HM8.out
          omega
        have hgl := bx.lt
        have hBs : base ≤ wr.heap.size := by omega
        have c1 := bx.cell
        have f1 := bx.frozen
        clear bx ho HW
        by_cases hg : 128 ≤ k
        · have hz : k % 128 + 128 < 256 := by omega
          have HE2 : Hid ((p ++ [k % 128 + 128]) ++ enc (k / 128) = enc m) := hid (by rw [List.append_assoc, List.singleton_append, ← enc_big (by omega)]; exact HE.out)
          go_wp2_with (at_builtin; refine append_byt rfl (.tmp 18) (.tmp 23) rfl base (.slice av (pr.length + p.length) cv) (pr.length + p.length) _ rfl (HO.out.alloc _) [k % 128 + 128] _ rfl (byt_one_at wr _ _ (by omega) (by omega)) (nilOk_some _ _ _) (by simp; omega) (by simp; omega) ?_; intro v2 w2 hown2 hg2; obtain ⟨av2, cv2, rfl⟩ := own_form hown2; have BX2 := hid (box_app BX.out HO.out _ hg2); have NR := hid (box_row BX2.out hown2); have HB2 := hid (below_own (HB.out.alloc hBs _) (HO.out.alloc _) hg2 (by simp; omega) (Nat.le_refl _)); have HO2 := hid hown2; have HP2 := hid (pro_app HP.out HO.out _ hg2); have c2 := BX2.out.cell; have f2 := BX2.out.frozen; clear hown2 hg2)
          go_roundw
          case rel => exact ⟨k / 128, p ++ [k % 128 + 128], by go_num, by omega, HE2, hid (wr_step BX2.out HO2.out NR.out), hid (HB2.out.setCell hbg _), hid (pro_set HP2.out _)⟩
          case measure => simp [intOf]; omega
        · have HE2 : Hid (p ++ [k] = enc m) := hid (by rw [← enc_small (by omega)]; exact HE.out)
          go_wp2_with (at_builtin; refine append_byt rfl (.tmp 31) (.tmp 34) rfl base (.slice av (pr.length + p.length) cv) (pr.length + p.length) _ rfl (HO.out.alloc _) [k] _ rfl (byt_one_at wr _ _ (by omega) (by omega)) (nilOk_some _ _ _) (by simp; omega) (by simp; omega) ?_; intro v2 w2 hown2 hg2; obtain ⟨av2, cv2, rfl⟩ := own_form hown2; have BX2 := hid (box_app BX.out HO.out _ hg2); have NR := hid (box_row BX2.out hown2); have HB2 := hid (below_own (HB.out.alloc hBs _) (HO.out.alloc _) hg2 (by simp; omega) (Nat.le_refl _)); have HO2 := hid hown2; have HP2 := hid (pro_app HP.out HO.out _ hg2); have c2 := BX2.out.cell; have f2 := BX2.out.frozen; clear hown2 hg2)
          go_end0
          refine ⟨⟨_, rfl⟩, ?_, HB2.out.setCell hbg _, pro_set HP2.out _⟩
          rw [← HE2.out]
          exact wr_step BX2.out HO2.out NR.out
    · obtain ⟨m, rfl⟩ : ∃ m : Nat, n = (m : Int) := ⟨n.toNat, by omega⟩
      have d2 : decide (9007199254740991 < (m : Int)) = false := decide_eq_false h2
      rw [show cl (m : Int) = m by rw [cl_in (by omega) (by omega)]; rfl] at HM8 hmt ⊢
      go_enter Try.func52, Try.ntmps52
      go_wp2
      go_loopw [1] (fun i wr => ∃ (k : Nat) (p : List Nat), i = .int .i64 (k : Int) ∧ k ≤ 9007199254740991 ∧ Hid (p ++ enc k = enc m) ∧ Hid (Wr wr g base (pr ++ p)) ∧ Hid (Below base w wr) ∧ Hid (Pro wr c g cs t)) (fun i _ => (intOf i).toNat)
      case atStart => exact ⟨m, [], int_eq (by omega), by omega, hid rfl, hid (by simpa using HW.out), hid (Below.refl _ _), HP⟩
      case round =>
        clear HW HP
        obtain ⟨k, p, rfl, hk, HE, HW, HB, HP⟩ := hrel
        obtain ⟨vo, bx, ho⟩ := HW.out
        rw [List.length_append] at ho
        have BX := hid bx
        have HO := hid ho
        obtain ⟨av, cv, rfl⟩ := own_form ho
        have hpl : p.length ≤ 8 := by
          have h := congrArg List.length HE.out
          rw [List.length_append] at h
          have := HM8.out
          omega
        have hgl := bx.lt
        have hBs : base ≤ wr.heap.size := by omega
        have c1 := bx.cell
        have f1 := bx.frozen
        clear bx ho HW
        by_cases hg : 128 ≤ k
        · have hz : k % 128 + 128 < 256 := by omega
          have HE2 : Hid ((p ++ [k % 128 + 128]) ++ enc (k / 128) = enc m) := hid (by rw [List.append_assoc, List.singleton_append, ← enc_big (by omega)]; exact HE.out)
          go_wp2_with (at_builtin; refine append_byt rfl (.tmp 18) (.tmp 23) rfl base (.slice av (pr.length + p.length) cv) (pr.length + p.length) _ rfl (HO.out.alloc _) [k % 128 + 128] _ rfl (byt_one_at wr _ _ (by omega) (by omega)) (nilOk_some _ _ _) (by simp; omega) (by simp; omega) ?_; intro v2 w2 hown2 hg2; obtain ⟨av2, cv2, rfl⟩ := own_form hown2; have BX2 := hid (box_app BX.out HO.out _ hg2); have NR := hid (box_row BX2.out hown2); have HB2 := hid (below_own (HB.out.alloc hBs _) (HO.out.alloc _) hg2 (by simp; omega) (Nat.le_refl _)); have HO2 := hid hown2; have HP2 := hid (pro_app HP.out HO.out _ hg2); have c2 := BX2.out.cell; have f2 := BX2.out.frozen; clear hown2 hg2)
          go_roundw
          case rel => exact ⟨k / 128, p ++ [k % 128 + 128], by go_num, by omega, HE2, hid (wr_step BX2.out HO2.out NR.out), hid (HB2.out.setCell hbg _), hid (pro_set HP2.out _)⟩
          case measure => simp [intOf]; omega
        · have HE2 : Hid (p ++ [k] = enc m) := hid (by rw [← enc_small (by omega)]; exact HE.out)
          go_wp2_with (at_builtin; refine append_byt rfl (.tmp 31) (.tmp 34) rfl base (.slice av (pr.length + p.length) cv) (pr.length + p.length) _ rfl (HO.out.alloc _) [k] _ rfl (byt_one_at wr _ _ (by omega) (by omega)) (nilOk_some _ _ _) (by simp; omega) (by simp; omega) ?_; intro v2 w2 hown2 hg2; obtain ⟨av2, cv2, rfl⟩ := own_form hown2; have BX2 := hid (box_app BX.out HO.out _ hg2); have NR := hid (box_row BX2.out hown2); have HB2 := hid (below_own (HB.out.alloc hBs _) (HO.out.alloc _) hg2 (by simp; omega) (Nat.le_refl _)); have HO2 := hid hown2; have HP2 := hid (pro_app HP.out HO.out _ hg2); have c2 := BX2.out.cell; have f2 := BX2.out.frozen; clear hown2 hg2)
          go_end0
          refine ⟨⟨_, rfl⟩, ?_, HB2.out.setCell hbg _, pro_set HP2.out _⟩
          rw [← HE2.out]
          exact wr_step BX2.out HO2.out NR.out

end Go.Proofs.Ytchpoddfjbopbaa

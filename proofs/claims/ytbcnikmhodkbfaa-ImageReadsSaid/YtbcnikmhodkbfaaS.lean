/- The reference's Read. -/
import Derived.Test.YtbcnikmhodkbfaaR
namespace Go.Proofs.Ytbcnikmhodkbfaa
open Go.RowKit Go.Lib

set_option maxRecDepth 100000 in
theorem step_append_sec {ops : Array Oper} {o : Oper} {a : Act} {w : World} {K : Act → World → Prop} {Q : Exit → Act → World → Prop} {E : Prop} (hgd : o.guard = none) (s x : Operand) (ho : o.op = .call { callee := .builtin .append, args := #[s, x], argTypes := #[40, 40] })
    (base : Nat) (v : Value) (n : Nat) (olds : List Value) (hs : a.eval s = v) (hown : w.ownsRow base 58 8 v n olds) (l : List Sect) (ad : Addr) (m c : Nat) (hx : a.eval x = .slice (some ad) m c) (hsrc : Sec w (.slice (some ad) m c) l) (hm : l.length = m) (b1 : n + m ≤ 1000000) (hbase : base ≤ w.heap.size)
    (h : ∀ v' w', w'.ownsRow base 58 8 v' (n + m) (olds ++ (l.map cSec).flatten) → w.grownBy w' v.ownBlock → K (a.put o.dst v') w') :
    if Region.wanted o (yielded ops a.tmps) = true then Oper.wp Try.prog o a w K Q else E := by
  obtain ⟨i0, hi, hz0, hz1, hz2⟩ := info_parts info58
  have hw : Region.wanted o (yielded ops a.tmps) = true := by simp [Region.wanted, hgd]
  rw [if_pos hw]
  obtain ⟨v', w', hrun, r1, r2, _⟩ := run_append_own (P := Try.prog) w base 40 o.type 58 i0 _ 8 8 Try.underlying40 hi hz0 hz1 hz2 rfl (by decide) v n olds hown ad m c (l.map cSec).flatten (by rw [flat_cells hsrc.1, hm]; omega) (fun j u hu => by
    have hp : 0 < l.length := by
      rcases Nat.eq_zero_or_pos l.length with h0 | h0
      · rw [List.eq_nil_of_length_eq_zero h0] at hu; simp at hu
      · exact h0
    obtain ⟨b, off, hA, _, hc⟩ := sec_cells hsrc hp
    injection hA with hA
    subst hA
    rw [add_at]
    exact hc j u hu) (cells_one l) (by unfold maxLen; omega) (by omega) hbase
  unfold Oper.wp
  simp [execOp, ho, resolve, invoke, builtin, hs, hx, hrun, Result.andThen]
  exact h v' w' r1 r2
set_option maxHeartbeats 4000000 in
set_option maxRecDepth 100000 in
theorem refRead_any (xs : List Vol) (v : Value) (vo s m : Int) (w : World) (hv : Img w v xs) (hl : xs.length ≤ 1000) (hs : R64 s) :
    Calls Try.prog 26 #[v, .int .i64 vo, .agg #[.int .i64 s, .int .i64 m]] w (ReadQ w (con xs) vo s m) := by
  obtain ⟨A, ca, rfl⟩ := img_form hv
  obtain ⟨_, hc1, hc2⟩ := arr_cap hv.2
  obtain ⟨B, hB⟩ : ∃ B, w.alloc (.cells #[.int .i64 s, .int .i64 m] 51) = B := ⟨_, rfl⟩
  have hb : Below w.heap.size w B := by rw [← hB]; exact al1 _ _
  have hx := heap_alloc_new w (.cells #[.int .i64 s, .int .i64 m] 51)
  rw [hB] at hx
  have hz : w.heap.size < B.heap.size := box_lt hx
  have HC := hid (refCheck_any xs _ B (hv.below hb) hl)
  have HB := hid hb
  have HX := hid hx
  have HV := hid hv
  clear hb hx hv
  obtain ⟨ck, hck⟩ : ∃ ck, chkS (siz (con xs)) = ck := ⟨_, rfl⟩
  rw [hck] at HC
  have HCK := hid hck
  obtain ⟨n, hn⟩ : ∃ n, xs.length = n := ⟨_, rfl⟩
  have HN := hid hn
  rw [hn] at HV HC hc1 hl ⊢
  clear hck hn
  go_enter Try.func26, Try.ntmps26
  go_wp2_with fail
  refine HC.out.mono ?_
  rintro e w2 ⟨rfl, hb2⟩
  have HB2 := hid (below_both HB.out hb2)
  have hx2 := (hb2.block w.heap.size hz).trans HX.out
  obtain ⟨g, hg⟩ : ∃ g, w.heap.size = g := ⟨_, rfl⟩
  rw [hg] at hx2 ⊢
  have c0 : w2.cell? ⟨g, 0, none⟩ = some (.int .i64 s) := cell_of_row _ _ 0 _ _ _ hx2
  have c1 : w2.cell? ⟨g, 1, none⟩ = some (.int .i64 m) := cell_of_row _ _ 1 _ _ _ hx2
  clear hb2 hx2 HC HX HB hB hg hz
  by_cases hk : ck = 0
  · subst hk
    by_cases hv : 0 ≤ vo ∧ vo < (n : Int)
    · obtain ⟨k, rfl⟩ := Int.eq_ofNat_of_zero_le hv.1
      have hkn : k < n := by omega
      have f1 : decide ((k : Int) < 0) = false := decide_eq_false (by omega)
      have f2 : decide ((n : Int) ≤ (k : Int)) = false := by simp; omega
      obtain ⟨x, hxk⟩ : ∃ x, xs[k]? = some x := ⟨xs[k]'(by rw [HN.out]; exact hkn), List.getElem?_eq_getElem _⟩
      obtain ⟨b, off, hbA, hbl, hcell⟩ := arr_at1 HV.out.2 (by rw [List.length_map, HN.out]; omega)
      subst hbA
      have hxS := HV.out.1 x (List.mem_of_getElem? hxk)
      obtain ⟨dA0, dc, hd⟩ := sec_form hxS.1
      have hx4 := (chk_ok HCK.out).2.2 x.l (by unfold con; exact List.mem_map.2 ⟨x, List.mem_of_getElem? hxk, rfl⟩)
      rw [hd] at hxS
      obtain ⟨dA, rfl⟩ : ∃ dA, dA0 = some dA := by
        obtain ⟨bb, oo, e, _⟩ := sec_cells hxS.1 (by omega)
        exact ⟨_, e⟩
      have HXS := hid hxS
      have hgd : ((con xs).getD ((k : Nat) : Int).toNat []) = x.l := by
        unfold con
        rw [Int.toNat_natCast, List.getD_eq_getElem?_getD, List.getElem?_map, hxk]
        rfl
      have HF : Hid (redE (con xs) (k : Int) s m = if insB x.l.length s m = false then 2 else 0) := hid (by
        unfold redE
        rw [HCK.out, if_neg (by decide), if_neg (by rw [con_len, HN.out]; exact fun h => h hv), hgd])
      have HRL : Hid (redL (con xs) (k : Int) s m = (x.l.drop s.toNat).take m.toNat) := hid (by unfold redL; rw [hgd])
      have hcx : w2.cell? ⟨b, off + k, none⟩ = some (.slice (some dA) x.l.length dc) := by
        have h := hcell k _ (by rw [List.getElem?_map, hxk]; rfl) 0 _ rfl
        rw [Nat.mul_one, Nat.add_zero, hd] at h
        exact (HB2.out.cell (p := ⟨b, off + k, none⟩) hbl).trans h
      obtain ⟨hdc1, hdc2, hdc3⟩ : x.l.length ≤ 4096 ∧ x.l.length ≤ dc ∧ dc ≤ 9223372036854775807 := by
        have h := arr_cap hxS.1.2
        exact ⟨hx4.2, h.2⟩
      obtain ⟨X, hX⟩ : ∃ X, x.l.length = X := ⟨_, rfl⟩
      have HXL := hid hX
      rw [hX] at HF hcx HXS hdc1 hdc2
      have hkc : (k : Int) < (n : Int) := by omega
      have hkc0 : (0 : Int) ≤ (k : Int) := by omega
      clear hcell hd hxk hgd hv hX hxS hx4
      obtain ⟨q, hq⟩ : ∃ q, insB X s m = q := ⟨_, rfl⟩
      have HF2 : Hid (redE (con xs) (k : Int) s m = if q = false then 2 else 0) := hid (by rw [HF.out, hq])
      rcases q with _ | _
      · have hq' := of_decide_eq_false hq
        have HOUT : Hid (redE (con xs) (k : Int) s m ≠ 0 ∧ Ending.returned (.tuple #[.slice none 0 0, .int .i64 2]) = .returned (.tuple #[.slice none 0 0, .int .i64 (redE (con xs) (k : Int) s m)])) := hid ⟨by rw [HF2.out]; decide, by rw [HF2.out]; rfl⟩
        clear hq
        unfold R64 at hs
        by_cases g1 : s < 0
        · have e1 : decide (s < 0) = true := by simpa using g1
          clear g1 hq'
          go_wp2
          refine bodyPost_ret (v := .tuple #[.slice none 0 0, .int .i64 2]) (by simp [results, Try.results26, go_sem]) rfl ?_
          exact ⟨HB2.out, .inl HOUT.out⟩
        · have e1 : decide (s < 0) = false := by simpa using g1
          by_cases g2 : m < 0
          · have e2 : decide (m < 0) = true := by simpa using g2
            clear g1 g2 hq'
            go_wp2
            refine bodyPost_ret (v := .tuple #[.slice none 0 0, .int .i64 2]) (by simp [results, Try.results26, go_sem]) rfl ?_
            exact ⟨HB2.out, .inl HOUT.out⟩
          · have e2 : decide (m < 0) = false := by simpa using g2
            by_cases g3 : (X : Int) < s
            · have e3 : decide ((X : Int) < s) = true := by simpa using g3
              clear g1 g2 g3 hq'
              go_wp2
              refine bodyPost_ret (v := .tuple #[.slice none 0 0, .int .i64 2]) (by simp [results, Try.results26, go_sem]) rfl ?_
              exact ⟨HB2.out, .inl HOUT.out⟩
            · have e3 : decide ((X : Int) < s) = false := by simpa using g3
              have e4 : decide ((X : Int) - s < m) = true := by simp; omega
              have hwr : IntKind.i64.wrap ((X : Int) - s) = (X : Int) - s := by unfold IntKind.wrap; simp [IntKind.bits, IntKind.signed]; omega
              clear g1 g2 g3 hq'
              go_wp2
              refine bodyPost_ret (v := .tuple #[.slice none 0 0, .int .i64 2]) (by simp [results, Try.results26, go_sem]) rfl ?_
              exact ⟨HB2.out, .inl HOUT.out⟩
      · have hq' := of_decide_eq_true hq
        obtain ⟨sn, rfl⟩ := Int.eq_ofNat_of_zero_le hq'.1
        obtain ⟨mn, rfl⟩ := Int.eq_ofNat_of_zero_le hq'.2.1
        have hsm : sn + mn ≤ X := by omega
        have e1 : decide ((sn : Int) < 0) = false := decide_eq_false (by omega)
        have e2 : decide ((mn : Int) < 0) = false := decide_eq_false (by omega)
        have hwr2 : IntKind.i64.wrap ((sn : Int) + (mn : Int)) = (sn : Int) + (mn : Int) := by unfold IntKind.wrap; simp [IntKind.bits, IntKind.signed]; omega
        have e3 : decide ((X : Int) < (sn : Int)) = false := by simp; omega
        have e4 : decide ((X : Int) - (sn : Int) < (mn : Int)) = false := by simp; omega
        have hsl := fun (W : World) => run_slice40 (some dA) X dc sn (sn + mn) (sn : Int) ((sn : Int) + (mn : Int)) rfl (by omega) (by omega) (by omega) W
        obtain ⟨fA, hfA⟩ : ∃ fA, fromS (some dA) dc sn = some fA := by
          unfold fromS
          split
          · exact ⟨_, rfl⟩
          · exact ⟨_, rfl⟩
        have HSX : Hid (∀ W, Below w.heap.size w W → Sec W (.slice (some fA) mn (dc - sn)) ((x.l.drop sn).take mn)) := hid (fun W hb => by
          have h := sec_mid (HXS.out.1.below hb) sn (sn + mn) (by omega) (by rw [HXL.out]; exact hsm)
          rw [hfA, show sn + mn - sn = mn by omega] at h
          exact h)
        rw [hfA, show sn + mn - sn = mn by omega] at hsl
        have HLM : Hid (((x.l.drop sn).take mn).length = mn) := hid (by rw [List.length_take, List.length_drop, HXL.out]; omega)
        have HB3 : Hid (∀ q, Below w.heap.size w (w2.drewN q)) := hid (fun q => ⟨HB2.out.os, HB2.out.tape, HB2.out.output, HB2.out.size, HB2.out.block⟩)
        have HB3d : Hid (Below w.heap.size w w2.drew) := hid (below_drew HB2.out)
        have HSZ : Hid (0 + mn ≤ 1000000) := hid (by omega)
        clear hq hq' hfA
        go_wp2_with fail
        go_region_law (refine step_append_sec rfl (.tmp 52) (.tmp 64) rfl w.heap.size (.slice none 0 0) 0 [] rfl (World.ownsRow_nil _ _ _ _) ((x.l.drop sn).take mn) fA mn (dc - sn) rfl (HSX.out _ HB3d.out) HLM.out HSZ.out HB3d.out.size ?_; intro v8 w8 ho8 hg8; obtain ⟨a8, k8, rfl⟩ := ownAny_form ho8; have HO8 := hid ho8; have HG8 := hid hg8; clear ho8 hg8)
        all_goals
          go_wp2
          refine bodyPost_ret (v := .tuple #[.slice a8 (0 + mn) k8, .int .i64 0]) (by simp [results, Try.results26, go_sem]) rfl ?_
          refine ⟨HB3d.out.grown HG8.out HB3d.out.size (fun k e => by cases e), .inr ⟨HF2.out, _, rfl, ?_, ?_⟩⟩
          · rw [HRL.out]
            exact (HSX.out _ HB3d.out).1
          · rw [HRL.out, Int.toNat_natCast, Int.toNat_natCast, HLM.out]
            have h := HO8.out
            simp only [Nat.zero_add, List.nil_append] at h ⊢
            exact h
    · have HF : Hid (redE (con xs) vo s m = 7) := hid (by
        unfold redE
        rw [HCK.out, if_neg (by decide), if_pos (by rw [con_len, HN.out]; exact hv)])
      by_cases g1 : vo < 0
      · have e1 : decide (vo < 0) = true := by simpa using g1
        clear g1 hv
        go_wp2
        refine bodyPost_ret (v := .tuple #[.slice none 0 0, .int .i64 7]) (by simp [results, Try.results26, go_sem]) rfl ?_
        exact ⟨HB2.out, .inl ⟨by rw [HF.out]; decide, by rw [HF.out]⟩⟩
      · have e1 : decide (vo < 0) = false := by simpa using g1
        have e2 : decide ((n : Int) ≤ vo) = true := by simp; omega
        clear g1 hv
        go_wp2
        refine bodyPost_ret (v := .tuple #[.slice none 0 0, .int .i64 7]) (by simp [results, Try.results26, go_sem]) rfl ?_
        exact ⟨HB2.out, .inl ⟨by rw [HF.out]; decide, by rw [HF.out]⟩⟩
  · have d1 : (ck != 0) = true := by simpa using hk
    have HF : Hid (redE (con xs) vo s m = ck) := hid (by unfold redE; rw [HCK.out, if_pos hk])
    have HK := hid hk
    clear hk
    go_wp2
    refine bodyPost_ret (v := .tuple #[.slice none 0 0, .int .i64 ck]) (by simp [results, Try.results26, go_sem]) rfl ?_
    exact ⟨HB2.out, .inl ⟨by rw [HF.out]; exact HK.out, by rw [HF.out]⟩⟩
end Go.Proofs.Ytbcnikmhodkbfaa

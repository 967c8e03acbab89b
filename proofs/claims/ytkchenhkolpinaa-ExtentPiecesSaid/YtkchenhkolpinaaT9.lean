/- The law ExtentPieces is proved: for every list, what Union makes is canonical and its own normal form, and the pieces of Split ascend, are at most as long as demanded, and have together the sectors of the set. No condition. -/
import Derived.Test.YtkchenhkolpinaaU
import Derived.Test.YtkchenhkolpinaaX
namespace Go.Proofs.Ytkchenhkolpinaa
open Go.ChangeShapes Go.WideShapes Go.ChangeAt Go.RowKit Go.Deep

theorem nrm_canon {l : List (Int × Int)} (h : Canon 0 l) : nrm l = 0 := by
  have hall : ∀ k, k < l.length → nrmAt l k = 0 := fun k hk => by
    obtain ⟨e, he⟩ : ∃ e, l[k]? = some e := ⟨l[k], List.getElem?_eq_getElem hk⟩
    have hb := canon_each h e (List.mem_of_getElem? he)
    have hg : l.getD k (0, 0) = (e.1, e.2) := by simp [List.getD, he]
    exact nrmAt_0 (hid hg) (by omega) (fun _ => by simp [fitsB]; omega)
  have : ∀ n, n ≤ l.length → fst0 (nrmAt l) n = 0 := fun n => by
    induction n with
    | zero => intro _; rfl
    | succ n ih => intro hn; exact fst0_next (ih (by omega)) (hall n (by omega))
  exact this _ (Nat.le_refl _)
theorem canon_next {l : List (Int × Int)} : ∀ {lo : Int} {k : Nat} {e f : Int × Int}, Canon lo l → l[k]? = some e → l[k + 1]? = some f → e.1 + e.2 < f.1 := by
  induction l with
  | nil => intro lo k e f _ h _; simp at h
  | cons g r ih =>
    intro lo k e f hc he hf
    cases k with
    | zero =>
      simp at he
      subst he
      cases r with
      | nil => simp at hf
      | cons g2 r2 =>
        simp at hf
        subst hf
        have := hc.2.2.2.1
        omega
    | succ k => exact ih hc.2.2.2 (by simpa using he) (by simpa using hf)
theorem chk_canon {l : List (Int × Int)} (h : Canon 0 l) : checkS 4096 l = 0 := by
  rw [checkS_in (by omega) (by omega)]
  have hall : ∀ k, k < l.length → chkAt 4096 l k = 0 := fun k hk => by
    obtain ⟨e, he⟩ : ∃ e, l[k]? = some e := ⟨l[k], List.getElem?_eq_getElem hk⟩
    have hb := canon_each h e (List.mem_of_getElem? he)
    have hg : l.getD k (0, 0) = (e.1, e.2) := by simp [List.getD, he]
    rcases Nat.eq_zero_or_pos k with hz | hz
    · subst hz
      exact chkAt_00 (hid hg) (by omega) (by simp [fitsB]; omega)
    · obtain ⟨f, hf⟩ : ∃ f, l[k - 1]? = some f := ⟨l[k - 1]'(by omega), List.getElem?_eq_getElem (by omega)⟩
      have hg2 : l.getD (k - 1) (0, 0) = (f.1, f.2) := by simp [List.getD, hf]
      have hk' : k - 1 + 1 = k := by omega
      exact chkAt_0 (hid hg) (by omega) (by simp [fitsB]; omega) (hid hg2) (canon_next h hf (by rw [hk']; exact he))
  have : ∀ n, n ≤ l.length → chkL 4096 l n = 0 := fun n => by
    induction n with
    | zero => intro _; rfl
    | succ n ih => intro hn; exact chkL_next (ih (by omega)) (hall n (by omega))
  exact this _ (Nat.le_refl _)
theorem norm_canon (m : List (Int × Int)) (v : Value) (w : World) (hv : Ext w v m) (hc : Canon 0 m) :
    Calls Try.prog 16 #[v] w fun e w' => ∃ va, e = .returned (.tuple #[va, .int .i64 0]) ∧ Ext w' va m ∧ Below w.heap.size w w' := by
  refine (normalize_any m v w hv (by have := len_of_canon hc; omega)).mono ?_
  rintro e w' ⟨va, l, rfl, hl, he, hb⟩
  rw [nrm_canon hc, if_pos rfl] at hl
  rw [nrm_canon hc]
  have : l = m := canon_ext (Int.le_refl _) hl.1 hc hl.2
  subst this
  exact ⟨va, rfl, he, hb⟩
theorem check_canon (m : List (Int × Int)) (v : Value) (w : World) (hv : Ext w v m) (hc : Canon 0 m) :
    Calls Try.prog 14 #[v, .int .i64 4096] w fun e w' => e = .returned (.int .i64 0) ∧ Below w.heap.size w w' :=
  aw_check m v 4096 0 w hv (by have := len_of_canon hc; omega) (by unfold R64; omega) (chk_canon hc)
theorem split_c (l m : List (Int × Int)) (v : Value) (n : Int) (w : World) (hv : Ext w v l) (la : l.length ≤ 10000) (hc : Canon 0 m) (hm : ∀ x, mem m x = mem l x) (hn : 1 ≤ n) (hr : R64 n) :
    Calls Try.prog 31 #[v, .int .i64 n] w fun e w' => ∃ va, e = .returned (.tuple #[va, .int .i64 0]) ∧ Ext w' va (splitL n m) ∧ (splitL n m).length ≤ 4096 ∧ Below w.heap.size w w' := by
  refine (split_any l v n w hv la hr).mono ?_
  rintro e w' ⟨va, l', rfl, hc', hl', he, hb⟩
  have : l' = m := canon_ext (Int.le_refl _) hc' hc (fun x => (hl' (by omega) x).trans (hm x).symm)
  subst this
  rw [if_neg (by omega)] at he
  rw [if_neg (by omega)]
  have h1 := splitL_length hn hc
  have h2 := (cnt_range hc).2
  exact ⟨va, rfl, he, by omega, hb⟩
theorem mem_pcs {most : Int} (hm : 1 ≤ most) (f : Nat) : ∀ (s n : Int) (x : Int), n.toNat ≤ f → mem (pcs most f s n) x = inE (s, n) x := by
  induction f with
  | zero =>
    intro s n x h
    have : inE (s, n) x = false := by simp [inE]; omega
    rw [this]; rfl
  | succ f ih =>
    intro s n x h
    rw [pcs]
    by_cases hn : 0 < n
    · rw [if_pos hn, mem_cons, ih _ _ x (by omega)]
      simp only [inE, ← Bool.decide_or, decide_eq_decide]
      omega
    · rw [if_neg hn]
      have : inE (s, n) x = false := by simp [inE]; omega
      rw [this]; rfl
theorem mem_split {most : Int} (hm : 1 ≤ most) (l : List (Int × Int)) (x : Int) : mem (splitL most l) x = mem l x := by
  induction l with
  | nil => rfl
  | cons e r ih =>
    have h : splitL most (e :: r) = piece most e.1 e.2 ++ splitL most r := by simp [splitL]
    rw [h, mem_append, ih, mem_cons]
    congr 1
    exact mem_pcs hm _ _ _ x (Nat.le_refl _)
theorem union_pieces (m : List (Int × Int)) (v : Value) (n : Int) (w : World) (hv : Ext w v (splitL n m)) (hc : Canon 0 m) (hn : 1 ≤ n) :
    Calls Try.prog 19 #[v, .slice none 0 0] w fun e w' => ∃ va, e = .returned va ∧ Ext w' va m ∧ Below w.heap.size w w' := by
  have h1 := splitL_length hn hc
  have h2 := (cnt_range hc).2
  refine (union_any (splitL n m) [] v _ w hv (ext_nil _) (by omega) (by simp)).mono ?_
  rintro e w' ⟨va, l, rfl, hc', hl', he, hb⟩
  have : l = m := canon_ext (Int.le_refl _) hc' hc (fun x => by rw [hl' x]; show (mem (splitL n m) x || mem [] x) = _; rw [mem_split hn, mem_nil, Bool.or_false])
  subst this
  exact ⟨va, rfl, he, hb⟩

/-- Ascending pieces, each of at most n sectors. -/
def Asc (n : Int) (lo : Int) : List (Int × Int) → Prop
  | [] => True
  | e :: r => lo ≤ e.1 ∧ 1 ≤ e.2 ∧ e.2 ≤ n ∧ e.1 < 4096 ∧ e.1 + e.2 ≤ 4096 ∧ Asc n (e.1 + e.2) r
theorem Asc.weaken {n lo lo' : Int} {l : List (Int × Int)} (h : Asc n lo l) (hl : lo' ≤ lo) : Asc n lo' l := by
  cases l with
  | nil => trivial
  | cons e r => exact ⟨Int.le_trans hl h.1, h.2⟩
theorem asc_pcs {n : Int} (hn : 1 ≤ n) {rest : List (Int × Int)} (f : Nat) : ∀ (s k : Int), k.toNat ≤ f → 0 ≤ k → s + k ≤ 4096 → Asc n (s + k) rest → Asc n s (pcs n f s k ++ rest) := by
  induction f with
  | zero => intro s k hf h0 _ hr; have : k = 0 := by omega
            subst this; rw [Int.add_zero] at hr; exact hr
  | succ f ih =>
    intro s k hf h0 hs hr
    rw [pcs]
    by_cases hk : 0 < k
    · rw [if_pos hk]
      refine ⟨Int.le_refl _, by simp only; omega, by simp only; omega, by simp only; omega, by simp only; omega, ?_⟩
      exact ih _ _ (by omega) (by omega) (by omega) (by rw [show s + min k n + (k - min k n) = s + k from by omega]; exact hr)
    · rw [if_neg hk]
      have : k = 0 := by omega
      subst this; rw [Int.add_zero] at hr; exact hr
theorem asc_split {n : Int} (hn : 1 ≤ n) {l : List (Int × Int)} : ∀ {lo : Int}, Canon lo l → Asc n lo (splitL n l) := by
  induction l with
  | nil => intro lo _; trivial
  | cons e r ih =>
    intro lo h
    have hs : splitL n (e :: r) = piece n e.1 e.2 ++ splitL n r := by simp [splitL]
    rw [hs]
    refine Asc.weaken ?_ h.1
    exact asc_pcs hn _ _ _ (Nat.le_refl _) (by have := h.2.1; omega) h.2.2.1 ((ih h.2.2.2).weaken (by omega))
theorem asc_drop {n lo : Int} {l : List (Int × Int)} {k : Nat} {s c : Int} (h : Asc n lo (l.drop k)) (he : Hid (l[k]? = some (s, c))) : lo ≤ s ∧ 1 ≤ c ∧ c ≤ n ∧ s < 4096 ∧ s + c ≤ 4096 ∧ Asc n (s + c) (l.drop (k + 1)) := by
  obtain ⟨hk, hg⟩ := List.getElem?_eq_some_iff.1 he.out
  rw [List.drop_eq_getElem_cons hk, hg] at h
  exact h

set_option maxHeartbeats 8000000 in
set_option maxRecDepth 100000 in
theorem pieces_walk (l : List (Int × Int)) (va : Value) (most : Int) (w : World) (ha : Ext w va l) (s0 : 0 ≤ most) (s1 : most ≤ 255) :
    Calls Try.prog 11 #[va, .int .u8 most] w fun e w' => e = .returned (.bool true) ∧ Below w.heap.size w w' := by
  by_cases hl : l.length ≤ 20
  · have HFew := hid (few_yes ha (ext_nil w) ⟨hl, by simp⟩)
    have la : l.length ≤ 10000 := by omega
    clear hl
    obtain ⟨A, ca, rfl⟩ := ext_form ha
    go_enter Try.func11, Try.ntmps11
    go_wp2_with fail
    refine HFew.out.mono ?_
    rintro e w1 ⟨rfl, rfl⟩
    go_wp2_with fail
    refine (made_len (union_any l [] _ _ _ ha (ext_nil _) la (by simp))).mono ?_
    rintro e w2 ⟨v1, m, rfl, hm, hcm, hmm, hlm, hBw⟩
    have hT1 : Below w.heap.size w w2 := hBw
    have ha := ha.below hBw
    clear hBw
    have hmm' : ∀ x, mem m x = mem l x := fun x => by rw [hmm x]; simp [mem]
    have HCan := hid hcm
    have HMem := hid hmm'
    clear hcm hmm hmm'
    go_wp2_with fail
    refine (norm_canon m _ _ hm HCan.out).mono ?_
    rintro e w3 ⟨v2, rfl, h2, hBw⟩
    have hT2 : Below w.heap.size w w3 := below_both hT1 hBw
    clear hT1
    have ha := ha.below hBw
    have hm := hm.below hBw
    clear hBw
    go_wp2_with fail
    refine (check_canon m _ _ hm HCan.out).mono ?_
    rintro e w4 ⟨rfl, hBw⟩
    have hT3 : Below w.heap.size w w4 := below_both hT2 hBw
    clear hT2
    have ha := ha.below hBw
    have hm := hm.below hBw
    have h2 := h2.below hBw
    clear hBw
    go_wp2_with fail
    refine (aw_same m _ _ _ hm h2 (by omega)).mono ?_
    rintro e w5 ⟨rfl, hBw⟩
    have hT4 : Below w.heap.size w w5 := below_both hT3 hBw
    clear hT3
    have ha := ha.below hBw
    have hm := hm.below hBw
    have h2 := h2.below hBw
    clear hBw
    clear h2
    go_wp2_with fail
    refine (split_c l m _ (most + 1) _ ha la HCan.out HMem.out (by omega) (by unfold R64; omega)).mono ?_
    rintro e w6 ⟨v3, rfl, h3, hl3, hBw⟩
    have hT5 : Below w.heap.size w w6 := below_both hT4 hBw
    clear hT4
    have ha := ha.below hBw
    have hm := hm.below hBw
    clear hBw
    go_wp2_with fail
    refine (union_pieces m _ (most + 1) _ h3 HCan.out (by omega)).mono ?_
    rintro e w7 ⟨v4, rfl, h4, hBw⟩
    have hT6 : Below w.heap.size w w7 := below_both hT5 hBw
    clear hT5
    have ha := ha.below hBw
    have hm := hm.below hBw
    have h3 := h3.below hBw
    clear hBw
    go_wp2_with fail
    refine (aw_same m _ _ _ h4 hm (by omega)).mono ?_
    rintro e w8 ⟨rfl, hBw⟩
    have hT7 : Below w.heap.size w w8 := below_both hT6 hBw
    clear hT6
    have ha := ha.below hBw
    have hm := hm.below hBw
    have h3 := h3.below hBw
    have h4 := h4.below hBw
    clear hBw
    clear h4
    clear hm
    have HAsc := hid (asc_split (n := most + 1) (by omega) HCan.out)
    obtain ⟨P, hP⟩ : ∃ P, P = splitL (most + 1) m := ⟨_, rfl⟩
    rw [← hP] at h3 hl3 HAsc
    clear hP HCan HMem
    obtain ⟨hr, B, cap, hv3, hcap, hcm, b, off, hB, hc⟩ := h3
    subst hv3
    have HC := hid hc
    have HR := hid hr
    clear hc hr
    go_wp2
    obtain ⟨wo, hwo⟩ : ∃ wo : World, wo = w8 := ⟨_, rfl⟩
    go_loopw [11, 58] (fun t i wr => ∃ (k : Nat) (e : Int), k ≤ P.length ∧ i = .int .i64 k ∧ t = .int .i64 e ∧ 0 ≤ e ∧ e ≤ 4096 ∧ Hid (Asc (most + 1) e (P.drop k)) ∧ Below w8.heap.size w8 wr) (fun _ i _ => P.length - (intOf i).toNat)
    case atStart => exact ⟨0, 0, Nat.zero_le _, rfl, rfl, by omega, by omega, HAsc, Below.refl _ _⟩
    case round =>
      obtain ⟨k, e, hk, rfl, rfl, he0, he1, HA, hBr⟩ := hrel
      have hBs := hBr.size
      by_cases hlt : k < P.length
      · obtain ⟨hB1, hb⟩ := hB (by omega)
        subst hB1
        obtain ⟨⟨s, c⟩, he⟩ : ∃ e, P[k]? = some e := ⟨P[k], List.getElem?_eq_getElem hlt⟩
        have hc1 := (hBr.cell (p := ⟨b, off + k * 2, none⟩) hb).trans (HC.out k _ he).1
        have hc2 := (hBr.cell (p := ⟨b, off + k * 2 + 1, none⟩) hb).trans (HC.out k _ he).2
        have HE := hid he
        clear he
        dsimp only at hc1 hc2
        obtain ⟨q1, q2, q3, q4, q5, q6⟩ := asc_drop HA.out HE
        have HA2 := hid q6
        clear q6
        go_wp2
        go_roundw
        case rel => exact ⟨k + 1, s + c, by omega, by go_num, rfl, by omega, by omega, HA2, hBr.trans ((Below.refl _ _).alloc hBs _)⟩
        case measure => simp [intOf]; omega
      · go_wp2_with (go_at_call 13; refine (awake_any _).mono ?_; rintro e w3 ⟨rfl, hb3⟩)
        go_ret
        exact ⟨rfl, below_both hT7 (below_both hBr hb3)⟩
  · have HFew := hid (few_no ha (ext_nil w) (fun h => hl h.1))
    obtain ⟨A, ca, rfl⟩ := ext_form ha
    clear ha hl
    go_enter Try.func11, Try.ntmps11
    go_wp2_with (first | (go_at_call 12; refine HFew.out.mono ?_; rintro e w1 ⟨rfl, rfl⟩) | (go_at_call 13; refine (awake_any _).mono ?_; rintro e w3 ⟨rfl, hb3⟩))
    go_ret
    exact ⟨rfl, hb3⟩

set_option maxRecDepth 100000 in
theorem extentPieces_lifted (os : Os) (started : os.Started) (H : Type) (enc : TypeId × Value → H) :
    ReturnsInHanded {} Try.checked os 11 .any (Rows.extentPiecesSpec.pre6 enc Try.prog Try.f11 Rows.extentPiecesRow.domain false) (Rows.extentPiecesSpec.post enc Try.prog Try.f11 false true false false) := by
  refine returnsInHanded_of_change (C := Try.checked) Try.own started (by kernel_rfl) Try.func11
    (ChangeSpec.witness6 (enc := enc) (C := Try.checked) false ⟨#[], #[.slice none 0 0, .int .u8 0], []⟩ 8 (by kernel_rfl) (by kernel_rfl) (by kernel_rfl) (by kernel_rfl)) ?_
  intro W base args ds gs before hval0 hW hcnd _
  have hval : ∀ (j : Nat) t v, Try.f11.params[j]? = some t → args[j]? = some v → Value.okWide Try.prog W .any base t v := hval0
  have hW' := hW
  obtain ⟨p, q, hA0, hV, rfl, hfz, hnd⟩ := hW
  have hA : DataW.TrodAll enc Try.prog W 0 (fun _ => true) true Try.f11.params.toList args.toList ds p := hA0
  rw [Try.params11] at hA hval
  obtain ⟨v0, v1, d0, d1, p0, p1, rfl, rfl, rfl, h0, h1⟩ := trodAll_two hA
  obtain ⟨rfl, rfl⟩ := trodVars_none hV
  obtain ⟨a1, rfl, rfl, rfl, wa1⟩ := open_int Try.underlying5 (hval 1 5 v1 rfl rfl) h1
  obtain ⟨l0, hl0⟩ := ext_of_trod (hval 0 22 v0 rfl rfl) h0
  clear hA0 hval0
  simp only [List.append_nil] at hW'
  have hlt0 : ∀ x ∈ p0, x.block < W.heap.size := fun x hx => hW'.lt x (by simp [hx])
  refine (pieces_walk l0 v0 a1 W hl0 (bounds_u8 wa1).1 (bounds_u8 wa1).2).mono fun e W' ⟨he, hb⟩ => ?_
  subst he
  exact ⟨_, rfl, _, _, _, [], _, [], hW', trodAll_mk1 (shut_bool Try.underlying4 _), trodAll_mk2 (Below.trod Try.laidOut read22 row22 h0 hb hlt0) (shut_int Try.underlying5 wa1), rfl, hb.frame _, fun h => by cases h⟩

theorem extentPieces_holds : Rows.ExtentPiecesSaid :=
  OpenClaim.holds_of_wide 11 Try.f11 rfl rfl rfl rfl rfl rfl rfl ⟨rfl, rfl, rfl, rfl, rfl⟩ rfl rfl rfl rfl rfl (by kernel_rfl) Try.func11 (by kernel_rfl)
    (of_decide_eq_true (by kernel_rfl)) (by unfold Func.isWrapper; rw [if_neg (of_decide_eq_false (by kernel_rfl))]; exact ⟨rfl, rfl⟩)
    (fun os started H enc _ => extentPieces_lifted os started H enc)
end Go.Proofs.Ytkchenhkolpinaa

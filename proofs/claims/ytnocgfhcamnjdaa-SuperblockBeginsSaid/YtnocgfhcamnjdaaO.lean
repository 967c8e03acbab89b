/- Disks that can be read; Run. -/
import Derived.Test.YtnocgfhcamnjdaaN
namespace Go.Proofs.Ytnocgfhcamnjdaa
open Go.RowKit Go.Lib

/-- The value reads as a disk. -/
def Dk (w : World) (v : Value) (st : List Sect) (ca : List Ca) : Prop := ∃ sv cv, v = .agg #[sv, cv] ∧ Sec w sv st ∧ NilOk sv ∧ Cas w cv ca
theorem Dk.below {w w' : World} {v : Value} {st : List Sect} {ca : List Ca} (h : Dk w v st ca) (hb : Below w.heap.size w w') : Dk w' v st ca := by
  obtain ⟨sv, cv, e, h1, h2, h3⟩ := h
  exact ⟨sv, cv, e, h1.below hb, h2, h3.below hb⟩
theorem dk_own {w : World} {B : Nat} {v : Value} {st : List Sect} {ca : List Ca} (h : OwnD w B st ca v) (hs : Secs st) (hc : CasL ca) : Dk w v st ca := by
  obtain ⟨sv, cv, e, h1, h2⟩ := h
  exact ⟨sv, cv, e, sec_of_own h1 hs, own_nilOkE h1, cas_of_own h2 hc⟩
/-- A disk of one's own, in order. -/
def OwnG (w : World) (B : Nat) (st : List Sect) (ca : List Ca) (v : Value) : Prop := OwnD w B st ca v ∧ Secs st ∧ CasL ca
theorem OwnG.dk {w : World} {B : Nat} {v : Value} {st : List Sect} {ca : List Ca} (h : OwnG w B st ca v) : Dk w v st ca := dk_own h.1 h.2.1 h.2.2
theorem OwnG.keep {w w' : World} {B B' : Nat} {v : Value} {st : List Sect} {ca : List Ca} (h : OwnG w B st ca v) (h1 : Keep 57 w w') (h2 : Keep 112 w w') (hB : B' ≤ B) : OwnG w' B' st ca v := by
  obtain ⟨⟨sv, cv, e, o1, o2⟩, hs, hc⟩ := h
  exact ⟨⟨sv, cv, e, own_base (own_keep o1 h1) hB, own_base (own_keep o2 h2) hB⟩, hs, hc⟩
theorem own_nil (w : World) (B : Nat) : OwnG w B [] [] (.agg #[.slice none 0 0, .slice none 0 0]) :=
  ⟨⟨_, _, rfl, World.ownsRow_nil _ _ _ _, World.ownsRow_nil _ _ _ _⟩, (fun s (hs : s ∈ []) => by cases hs), (fun x (hs : x ∈ []) => by cases hs)⟩
theorem keep_two {X : World} {h : Nat} {a b u v : Value} (hx : X.heap[h]? = some (.cells #[a, b] 35)) {T : TypeId} (hT : T ≠ 35) : Keep T X ((X.setCell ⟨h, 0, none⟩ u).setCell ⟨h, 1, none⟩ v) :=
  (keep_box hx hT _ _).trans (keep_box (box_set (cs := [a, b]) hx 0 _) hT _ _)
theorem dk_nil (w : World) : Dk w (.agg #[.slice none 0 0, .slice none 0 0]) [] [] :=
  ⟨_, _, rfl, ⟨(fun s (hs : s ∈ []) => by cases hs), arr_nil _ _⟩, nilOk_nil, (fun x (hs : x ∈ []) => by cases hs), nilOk_nil, arr_nil _ _⟩
theorem dk_db {w : World} {B p : Nat} {st : List Sect} {ca : List Ca} {sv cv : Value} (h : DB w B p st ca sv cv) : Dk w (.agg #[sv, cv]) st ca :=
  dk_own ⟨sv, cv, rfl, h.os, h.oc⟩ h.ss h.cs
theorem disk_set {X : World} {h : Nat} {a b : Value} (hx : X.heap[h]? = some (.cells #[a, b] 35)) (u v : Value) : ((X.setCell ⟨h, 0, none⟩ u).setCell ⟨h, 1, none⟩ v).heap[h]? = some (.cells #[u, v] 35) :=
  box_set (cs := [u, b]) (box_set (cs := [a, b]) hx 0 _) 1 _
set_option maxRecDepth 100000 in
theorem disk_load {X : World} {h : Nat} {u v : Value} (hx : X.heap[h]? = some (.cells #[u, v] 35)) : (loadVar 35 ⟨h, 0, none⟩).run Try.prog X = .ok (.agg #[u, v]) X :=
  run_loadVar_row _ h 35 35 #[u, v] (0, 0) _ hx Try.underlying35 rfl rfl
theorem results_v2 {fn : Func} {p u t : Tmp} {ty : TypeId} (h : fn.results = #[.cell p ty, .tmp u, .tmp t]) (tmps : Array Value) (w : World) (g : Nat) (v : Value)
    (hp : tmps.getD p undef = .pointer (some ⟨g, 0, none⟩)) (hlv : (loadVar ty ⟨g, 0, none⟩).run Try.prog w = .ok v w) (z : Value) (hz : tmps.getD u undef = z) (y : Value) (hy : tmps.getD t undef = y) :
    (results fn tmps).run Try.prog w = .ok (.tuple #[v, z, y]) w := by
  have hp' : tmps[p]?.getD undef = .pointer (some ⟨g, 0, none⟩) := by simpa using hp
  have hz' : tmps[u]?.getD undef = z := by simpa using hz
  have hy' : tmps[t]?.getD undef = y := by simpa using hy
  simp [results, h, hp', hz', hy', asAddr, hlv]
/-- What Run does. -/
def runS (st : List Sect) (ca : List Ca) (ops : List OpT) : Int × Int × List Sect × List Ca := if chkD st.length ca = 0 then exec st ca ops 0 else (0, 2, [], [])
theorem exec_err {st : List Sect} {ca : List Ca} {ops : List OpT} {i : Nat} (h : (exec st ca ops i).2.1 ≠ 0) : (exec st ca ops i).2.2 = ([], []) := by
  induction ops generalizing st ca i with
  | nil => exact absurd rfl h
  | cons x r ih =>
    unfold exec at h ⊢
    split at h
    · rename_i h0
      rw [if_pos h0]
      split at h
      · rename_i h1
        rw [if_pos h1]
        exact ih h
      · rename_i h1
        rw [if_neg h1]
    · rename_i h0
      rw [if_neg h0]
      split at h
      · rename_i h1
        rw [if_pos h1]
        exact ih h
      · rename_i h1
        rw [if_neg h1]
theorem chkD_two {n : Nat} {ca : List Ca} (h : chkD n ca ≠ 0) : chkD n ca = 2 := by
  unfold chkD at h ⊢
  split at h
  · rename_i h0
    rw [if_pos h0]
  · rename_i h0
    rw [if_neg h0]
    rcases chkC_two (n := n) (l := ca) with h1 | h1
    · exact absurd h1 h
    · exact h1
/-- What Run leaves. -/
def RunQ (w : World) (r : Int × Int × List Sect × List Ca) (e : Ending) (w' : World) : Prop := ∃ v, e = .returned (.tuple #[v, .int .i64 r.1, .int .i64 r.2.1]) ∧ OwnG w' w.heap.size r.2.2.1 r.2.2.2 v ∧ Below w.heap.size w w'
set_option maxHeartbeats 8000000 in
set_option maxRecDepth 100000 in
theorem run_any (st : List Sect) (ca : List Ca) (sv cv ov : Value) (ops : List OpT) (w : World) (hs : Sec w sv st) (hsn : NilOk sv) (hc : Cas w cv ca) (hops : OpsA w ov ops) (hca : ca.length + tot ops ≤ 500000) :
    Calls Try.prog 25 #[.agg #[sv, cv], ov] w (RunQ w (runS st ca ops)) := by
  obtain ⟨A, c, rfl⟩ := sec_form hs
  obtain ⟨B, d, rfl⟩ := cas_form hc
  obtain ⟨O, oc, rfl⟩ := ops_form hops
  have HSS := hid hs.1
  have HCS : Hid (CasL ca) := hid hc.1
  obtain ⟨n, hn⟩ : ∃ n, st.length = n := ⟨_, rfl⟩
  obtain ⟨m, hm⟩ : ∃ n, ca.length = n := ⟨_, rfl⟩
  obtain ⟨N, hN⟩ : ∃ n, ops.length = n := ⟨_, rfl⟩
  rw [hn] at hs hsn ⊢
  rw [hm] at hc hca ⊢
  rw [hN] at hops ⊢
  obtain ⟨g, hg⟩ : ∃ g, w.heap.size = g := ⟨_, rfl⟩
  obtain ⟨W1, hW1⟩ : ∃ X, (w.alloc (.cells #[.slice A n c, .slice B m d] 35)).alloc (.cells #[.slice none 0 0, .slice none 0 0] 35) = X := ⟨_, rfl⟩
  have hb1 : Below w.heap.size w W1 := by rw [← hW1]; exact ((Below.refl _ w).alloc (Nat.le_refl _) _).alloc (by simp) _
  have hx1 : W1.heap[g]? = some (.cells #[.slice A n c, .slice B m d] 35) := by rw [← hW1, ← hg]; exact (Below.heap_alloc _ _ _ (by simp)).trans (heap_alloc_new w _)
  have hy1 : W1.heap[g + 1]? = some (.cells #[.slice none 0 0, .slice none 0 0] 35) := by rw [← hW1, ← hg]; simpa using heap_alloc_new (w.alloc (.cells #[.slice A n c, .slice B m d] 35)) (.cells #[.slice none 0 0, .slice none 0 0] 35)
  have hge : w.heap.size ≤ g := Nat.le_of_eq hg
  have hge1 : w.heap.size ≤ g + 1 := by omega
  obtain ⟨k0, hk0⟩ : ∃ k, chkD n ca = k := ⟨_, rfl⟩
  have HCK : Hid (∀ X, Below W1.heap.size W1 X → Calls Try.prog 40 #[.agg #[.slice A n c, .slice B m d]] X fun e w' => e = .returned (.int .i64 k0) ∧ Below X.heap.size X w') := hid (fun X hX => by
    have h := check_any st ca (.slice A n c) (.slice B m d) X (hs.below (hb1.trans (hX.mono hb1.size))) (hc.below (hb1.trans (hX.mono hb1.size)))
    rwa [hn, hk0] at h)
  have HX1 := hid hx1
  have HY1 := hid hy1
  have HB1 := hid hb1
  have HW1 := hid hW1
  have HG := hid hg
  have HSW := hid (fun X (hX : Below w.heap.size w X) => hs.below hX)
  have HCW := hid (fun X (hX : Below w.heap.size w X) => hc.below hX)
  have HOW := hid hops
  have HSN := hid hsn
  have HN := hid hn
  have HM := hid hm
  have HK0 := hid hk0
  have HCA := hid hca
  have x0 := cell_of_row _ _ 0 _ _ _ hx1
  have x1 := cell_of_row _ _ 1 _ _ _ hx1
  clear hs hc hops hsn hn hm hN hb1 hx1 hy1 hW1 hg hk0 hca
  by_cases h0 : k0 = 0
  rotate_left
  · obtain rfl : k0 = 2 := by rw [← HK0.out] at h0 ⊢; exact chkD_two h0
    have HR : Hid (runS st ca ops = (0, 2, [], [])) := hid (by unfold runS; rw [HN.out, if_neg (by rw [HK0.out]; exact h0)])
    rw [HR.out]
    go_enter Try.func25, Try.ntmps25
    go_upto_region 1 with fail
    rw [HW1.out, HG.out]
    go_upto_region 2 with (go_at_call 40; refine (HCK.out W1 (Below.refl _ _)).mono ?_; rintro e X1 ⟨rfl, hb2⟩)
    have HY2 := hid ((hb2.block _ (box_lt HY1.out)).trans HY1.out)
    have HB2 := hid (HB1.out.trans (hb2.mono HB1.out.size))
    have y0 := cell_of_row _ _ 0 _ _ _ HY2.out
    have y1 := cell_of_row _ _ 1 _ _ _ HY2.out
    have f0 := box_fr HY2.out 0
    have f1 := box_fr HY2.out 1
    clear hb2 x0 x1
    go_wp2_with fail
    refine bodyPost_ret (results_v2 rfl _ _ (g + 1) _ rfl (disk_load (disk_set HY2.out _ _)) _ rfl _ rfl) rfl ?_
    exact ⟨_, rfl, own_nil _ _, (HB2.out.setCell hge1 _).setCell hge1 _⟩
  · subst h0
    obtain ⟨hn4, hkC⟩ := chkD_C HK0.out
    obtain ⟨r, hr⟩ : ∃ r, exec st ca ops 0 = r := ⟨_, rfl⟩
    have HR : Hid (runS st ca ops = r) := hid (by unfold runS; rw [HN.out, if_pos HK0.out, hr])
    have HER : Hid (r.2.1 ≠ 0 → r.2.2 = ([], [])) := hid (by rw [← hr]; exact exec_err)
    rw [HR.out]
    have HCP : Hid (∀ X, Below W1.heap.size W1 X → Calls Try.prog 41 #[.agg #[.slice A n c, .slice B m d]] X (DiskQ X st ca)) := hid (fun X hX => copied_any st ca (.slice A n c) (.slice B m d) X (HSW.out X (HB1.out.trans (hX.mono HB1.out.size))) HSN.out (HCW.out X (HB1.out.trans (hX.mono HB1.out.size))) (by rw [HN.out]; omega) (by rw [HM.out]; have := HCA.out; omega))
    have HEX : Hid (∀ (K p : Nat) (sv cv : Value) (X : World), Below W1.heap.size W1 X → DB X K p st ca sv cv → K ≤ p → K ≤ X.heap.size → W1.heap.size ≤ K → Calls Try.prog 42 #[.pointer (some ⟨p, 0, none⟩), .slice O N oc] X (ExecQ K p r X)) := hid (fun K p sv cv X hX hd h1 h2 h3 => by
      rw [← hr]
      exact exec_any K p st ca sv cv _ ops w X hd h1 h2 (HB1.out.trans (hX.mono HB1.out.size)) (Nat.le_trans HB1.out.size h3) HOW.out (by rw [HN.out]; exact hn4) (by rw [HN.out]; exact hkC) (by rw [HM.out]; exact HCA.out))
    clear hn4 hkC hr
    obtain ⟨rn, re, rs, rc⟩ := r
    dsimp only at HER
    go_enter Try.func25, Try.ntmps25
    go_upto_region 1 with fail
    rw [HW1.out, HG.out]
    go_upto_region 4 with (go_at_call 40; refine (HCK.out W1 (Below.refl _ _)).mono ?_; rintro e X1 ⟨rfl, hb2⟩)
    have HB2 := hid hb2
    have hx2 := (hb2.block _ (box_lt HX1.out)).trans HX1.out
    have z0 := cell_of_row _ _ 0 _ _ _ hx2
    have z1 := cell_of_row _ _ 1 _ _ _ hx2
    clear x0 x1 hb2 hx2
    go_upto_region 5 with (go_at_call 41; refine (HCP.out X1 HB2.out).mono ?_; rintro e X2 ⟨v2, rfl, ⟨sv2, cv2, rfl, ho1, ho2⟩, hb3⟩; obtain ⟨A2, c2, rfl⟩ := ownAny_form ho1; obtain ⟨B2, d2, rfl⟩ := ownAny_form ho2; have HO1 := hid ho1; have HO2 := hid ho2; have HB3 := hid hb3; clear ho1 ho2 hb3)
    obtain ⟨W4, hW4⟩ : ∃ X, X2.alloc (.cells #[.slice A2 st.length c2, .slice B2 ca.length d2] 35) = X := ⟨_, rfl⟩
    obtain ⟨p, hp⟩ : ∃ p, X2.heap.size = p := ⟨_, rfl⟩
    have hb4 : Below X2.heap.size X2 W4 := by rw [← hW4]; exact al1 _ _
    have HDB : Hid (DB W4 X1.heap.size p st ca (.slice A2 st.length c2) (.slice B2 ca.length d2)) := hid ⟨by rw [← hW4, ← hp]; exact heap_alloc_new _ _, own_keep HO1.out (keep_below hb4), own_keep HO2.out (keep_below hb4), HSS.out, HCS.out⟩
    have HB4 : Hid (Below X1.heap.size X1 W4) := hid (HB3.out.trans (hb4.mono HB3.out.size))
    have hKp : X1.heap.size ≤ p := by rw [← hp]; exact HB3.out.size
    rw [hW4, hp]
    have HCE := hid (HEX.out X1.heap.size p _ _ W4 (HB2.out.trans (HB4.out.mono HB2.out.size)) HDB.out hKp HB4.out.size HB2.out.size)
    clear hW4 hp hb4 z0 z1
    by_cases he : re = 0
    · subst he
      go_upto_region 6 with (go_at_call 42; refine HCE.out.mono ?_; rintro e X5 ⟨hb5, rfl, hd5⟩)
      obtain ⟨sv5, cv5, hd5⟩ := hd5 (by trivial)
      have HDB5 := hid hd5
      have HB5 : Hid (Below W1.heap.size W1 X5) := hid (HB2.out.trans ((HB4.out.trans hb5).mono HB2.out.size))
      obtain ⟨A5, c5, rfl⟩ := ownAny_form hd5.os
      obtain ⟨B5, d5, rfl⟩ := ownAny_form hd5.oc
      have q0 := cell_of_row _ _ 0 _ _ _ hd5.box
      have q1 := cell_of_row _ _ 1 _ _ _ hd5.box
      have HY5 := hid ((HB5.out.block _ (box_lt HY1.out)).trans HY1.out)
      have y0 := cell_of_row _ _ 0 _ _ _ HY5.out
      have y1 := cell_of_row _ _ 1 _ _ _ HY5.out
      have f0 := box_fr HY5.out 0
      have f1 := box_fr HY5.out 1
      clear hd5 hb5
      go_wp2_with fail
      refine bodyPost_ret (results_v2 rfl _ _ (g + 1) _ rfl (disk_load (disk_set HY5.out _ _)) _ rfl _ rfl) rfl ?_
      exact ⟨_, rfl, OwnG.keep (B := X1.heap.size) ⟨⟨_, _, rfl, HDB5.out.os, HDB5.out.oc⟩, HDB5.out.ss, HDB5.out.cs⟩ (keep_two HY5.out (by decide)) (keep_two HY5.out (by decide)) (Nat.le_trans HB1.out.size HB2.out.size), ((HB1.out.trans (HB5.out.mono HB1.out.size)).setCell hge1 _).setCell hge1 _⟩
    · have de : (re != 0) = true := by simpa using he
      obtain ⟨rfl, rfl⟩ : rs = [] ∧ rc = [] := by have := HER.out he; injection this with a b; exact ⟨a, b⟩
      go_upto_region 6 with (go_at_call 42; refine HCE.out.mono ?_; rintro e X5 ⟨hb5, rfl, _⟩)
      have HB5 : Hid (Below W1.heap.size W1 X5) := hid (HB2.out.trans ((HB4.out.trans hb5).mono HB2.out.size))
      have HY5 := hid ((HB5.out.block _ (box_lt HY1.out)).trans HY1.out)
      have y0 := cell_of_row _ _ 0 _ _ _ HY5.out
      have y1 := cell_of_row _ _ 1 _ _ _ HY5.out
      have f0 := box_fr HY5.out 0
      have f1 := box_fr HY5.out 1
      clear hb5
      go_wp2_with fail
      refine bodyPost_ret (results_v2 rfl _ _ (g + 1) _ rfl (disk_load (disk_set HY5.out _ _)) _ rfl _ rfl) rfl ?_
      exact ⟨_, rfl, own_nil _ _, ((HB1.out.trans (HB5.out.mono HB1.out.size)).setCell hge1 _).setCell hge1 _⟩
end Go.Proofs.Ytnocgfhcamnjdaa

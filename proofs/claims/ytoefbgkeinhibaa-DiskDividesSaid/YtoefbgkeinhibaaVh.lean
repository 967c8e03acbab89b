/- The walk of DiskDivides. -/
import Derived.Test.YtoefbgkeinhibaaWg
import Derived.Test.YtoefbgkeinhibaaXI
import Derived.Test.YtoefbgkeinhibaaSb
import Derived.OpenShut
namespace Go.Proofs.Ytoefbgkeinhibaa
open Go.RowKit Go.Lib

theorem cutW {G : World → Nat → Option Addr → Nat → Option Addr → Nat → Prop} {R : Prop} (F : World → Nat → Option Addr → Nat → Option Addr → Nat → Prop) (main : (∀ X p A m B n, F X p A m B n → G X p A m B n) → R) (cont : ∀ X p A m B n, F X p A m B n → G X p A m B n) : R := main cont
theorem tot_app (a b : List OpT) : tot (a ++ b) = tot a + tot b := by
  induction a with
  | nil => simp [tot]
  | cons x r ih => rw [List.cons_append, tot, ih, tot]; omega
theorem wrl_of {a : List OpT} {e : Int × Int} (h : e ∈ wrl a) : ∃ x ∈ a, x.k = 0 ∧ e = (x.a, (x.l.length : Int)) := by
  induction a with
  | nil => cases h
  | cons y r ih =>
    rw [wrl] at h
    split at h
    · rename_i hk
      rcases List.mem_cons.1 h with h | h
      · exact ⟨y, List.mem_cons_self .., hk, h⟩
      · obtain ⟨x, hx, hh⟩ := ih h
        exact ⟨x, List.mem_cons_of_mem _ hx, hh⟩
    · obtain ⟨x, hx, hh⟩ := ih h
      exact ⟨x, List.mem_cons_of_mem _ hx, hh⟩
theorem tot_mem {a : List OpT} {x : OpT} (h : x ∈ a) : x.l.length ≤ tot a := by
  induction a with
  | nil => cases h
  | cons y r ih =>
    rw [tot]
    rcases List.mem_cons.1 h with rfl | h
    · exact Nat.le_add_right _ _
    · have := ih h
      omega
theorem dk_form {w : World} {v : Value} {st : List Sect} {ca : List Ca} (h : Dk w v st ca) : ∃ A c B d, v = .agg #[.slice A st.length c, .slice B ca.length d] := by
  obtain ⟨sv, cv, rfl, h1, h2, h3⟩ := h
  obtain ⟨A, c, rfl⟩ := sec_form h1
  obtain ⟨B, d, rfl⟩ := cas_form h3
  exact ⟨A, c, B, d, rfl⟩
theorem u8n {x : Int} (h : (Lit.int .u8 x).wf = true) : ∃ y : Nat, x = (y : Int) ∧ y < 256 := by
  have hb := Go.bounds_u8 h
  obtain ⟨y, rfl⟩ := Int.eq_ofNat_of_zero_le hb.1
  exact ⟨y, rfl, by omega⟩
theorem own_form {w : World} {B : Nat} {v : Value} {st : List Sect} {ca : List Ca} (h : OwnG w B st ca v) : ∃ A c B' d, v = .agg #[.slice A st.length c, .slice B' ca.length d] := by
  obtain ⟨⟨sv, cv, rfl, h1, h2⟩, _⟩ := h
  obtain ⟨A, c, rfl⟩ := ownAny_form h1
  obtain ⟨B', d, rfl⟩ := ownAny_form h2
  exact ⟨A, c, B', d, rfl⟩
set_option maxHeartbeats 8000000 in
set_option maxRecDepth 100000 in
theorem divides_any (bz : Int) (ov : Value) (ops : List OpT) (bk : Int) (lv : Value) (l : List Int) (w : World) (hbz : (Lit.int .u8 bz).wf = true) (ho : OpsA w ov ops) (hon0 : NilOk ov) (hbig : BigO ops) (_hrk : R64 bk) (hl : Ints w lv l) :
    Calls Try.prog 10 #[.int .u8 bz, ov, .agg #[.int .i64 bk, lv]] w (TrueQ w) := by
  obtain ⟨z, rfl, hz⟩ := u8n hbz
  clear hbz
  obtain ⟨O, oc, rfl⟩ := ops_form ho
  obtain ⟨L, lc, rfl⟩ := ints_form hl
  obtain ⟨g, hg⟩ : ∃ g, w.heap.size = g := ⟨_, rfl⟩
  obtain ⟨W3, hW3⟩ : ∃ X, w.alloc (.cells #[.int .i64 bk, .slice L l.length lc] 65) = X := ⟨_, rfl⟩
  have hb3 : Below w.heap.size w W3 := by rw [← hW3]; exact al1 _ _
  have hx3 : W3.heap[g]? = some (.cells #[.int .i64 bk, .slice L l.length lc] 65) := by rw [← hW3, ← hg]; exact heap_alloc_new _ _
  have HB3 := hid hb3
  have HDK := hid (fun X (hX : Below W3.heap.size W3 X) => (show OpsA X (.slice O ops.length oc) ops ∧ Ints X (.slice L l.length lc) l ∧ X.heap[g]? = some (.cells #[.int .i64 bk, .slice L l.length lc] 65) from ⟨ho.below (hb3.trans (hX.mono hb3.size)), hl.below (hb3.trans (hX.mono hb3.size)), (hX.block _ (box_lt hx3)).trans hx3⟩))
  have HAW := hid (fun W => awake_any W)
  have HNO := hid hon0
  have HW3 := hid hW3
  have HG := hid hg
  have HRL := hid hl.1
  have HCAP : Hid (ops.length ≤ oc) := hid (by obtain ⟨_, h5, _⟩ := arr_cap ho.2; rw [List.length_map] at *; omega)
  have HF := hid (fewOps_any ops (.slice O ops.length oc) W3 (HDK.out W3 (Below.refl _ _)).1 hbig)
  have x1 := cell_of_row _ _ 1 _ _ _ hx3
  clear ho hon0 hl hb3 hx3 hW3 hg
  obtain ⟨f1, hf1⟩ : ∃ b, fewO ops = b := ⟨_, rfl⟩
  rw [hf1] at HF
  rcases f1 with _ | _
  · clear hf1
    go_enter Try.func10, Try.ntmps10
    go_upto_region 1 with fail
    rw [HW3.out, HG.out]
    go_upto_region 2 with (go_at_call 12; refine HF.out.mono ?_; rintro e X4 ⟨rfl, hb4⟩; have HB4 := hid hb4; clear hb4)
    go_wp2_with (go_at_call 13; refine (HAW.out _).mono ?_; rintro e X5 ⟨rfl, hb5⟩; have HB5 := hid hb5; clear hb5)
    go_ret
    exact ⟨rfl, below_both HB3.out (below_both HB4.out HB5.out)⟩
  obtain ⟨hol, htot⟩ := fewO_tot hf1
  clear hf1
  by_cases h4 : 400 < l.length
  · have d4 : decide (400 < l.length) = true := decide_eq_true h4
    have d4' : decide (400 < (l.length : Int)) = true := decide_eq_true (by omega)
    go_enter Try.func10, Try.ntmps10
    go_upto_region 1 with fail
    rw [HW3.out, HG.out]
    go_upto_region 2 with (go_at_call 12; refine HF.out.mono ?_; rintro e X4 ⟨rfl, hb4⟩; have HB4 := hid hb4; have x1 := cell_of_row _ _ 1 _ _ _ (HDK.out X4 hb4).2.2; clear hb4)
    go_wp2_with (go_at_call 13; refine (HAW.out _).mono ?_; rintro e X5 ⟨rfl, hb5⟩; have HB5 := hid hb5; clear hb5)
    go_ret
    exact ⟨rfl, below_both HB3.out (below_both HB4.out HB5.out)⟩
  have d4 : decide (400 < l.length) = false := decide_eq_false h4
  have d4' : decide (400 < (l.length : Int)) = false := decide_eq_false (by omega)
  obtain ⟨n, hn⟩ : ∃ n, z % 40 = n := ⟨_, rfl⟩
  have hn40 : n < 40 := by omega
  have hrem' : (z : Int).tmod 40 = (n : Int) := by rw [← hn]; rfl
  have hrem : IntKind.i64.wrap ((z : Int).tmod 40) = (n : Int) := by rw [hrem', IntKind.wrap_i64]; omega
  obtain ⟨on, hon⟩ : ∃ q, ops.length = q := ⟨_, rfl⟩
  obtain ⟨M, hM⟩ : ∃ M, l.length = M := ⟨_, rfl⟩
  rw [hM] at d4 d4' HDK h4 HW3
  rw [hon] at HF HDK HCAP HNO hol
  rw [hon, hM]
  obtain ⟨r, hr⟩ : ∃ r, runS (List.replicate n zs) [] ops = r := ⟨_, rfl⟩
  have HON := hid hon
  have HLM := hid hM
  have hmk := fun W => make22 W n (by omega)
  clear hn hon hM
  go_enter Try.func10, Try.ntmps10
  go_upto_region 1 with fail
  rw [HW3.out, HG.out]
  go_upto_region 3 with (go_at_call 12; refine HF.out.mono ?_; rintro e X4 ⟨rfl, hb4⟩; have HB4 := hid hb4; have x1 := cell_of_row _ _ 1 _ _ _ (HDK.out X4 hb4).2.2; clear hb4)
  clear x1
  go_upto_region 4 with fail
  obtain ⟨Wm, hWm⟩ : ∃ X, X4.alloc (.cells (laid [] n).toArray 73) = X := ⟨_, rfl⟩
  obtain ⟨b7, hb7⟩ : ∃ b, X4.heap.size = b := ⟨_, rfl⟩
  have hbm : Below X4.heap.size X4 Wm := by rw [← hWm]; exact al1 _ _
  have hown : Wm.ownsRow b7 73 8 (.slice (some ⟨b7, 0, none⟩) n n) (List.replicate n zs).length ((List.replicate n zs).map cSec).flatten := by
    have hfl := flat_cells (rep_secs n)
    rw [List.length_replicate] at hfl ⊢
    rw [← hWm, ← hb7]
    refine ⟨by rw [hfl]; omega, .inr ⟨X4.heap.size, n, _, rfl, Nat.le_refl _, heap_alloc_new X4 _, Nat.le_refl _, by unfold maxLen; omega, by rw [laid_rep, List.size_toArray, hfl]; omega, ?_⟩⟩
    rw [laid_rep]
    exact List.take_of_length_le (by rw [hfl]; omega)
  obtain ⟨W7, hW7⟩ : ∃ X, Wm.alloc (.cells #[.slice (some ⟨b7, 0, none⟩) n n, .slice none 0 0] 25) = X := ⟨_, rfl⟩
  obtain ⟨p7, hp7⟩ : ∃ p, Wm.heap.size = p := ⟨_, rfl⟩
  have hb7' : Below Wm.heap.size Wm W7 := by rw [← hW7]; exact al1 _ _
  have hx7 : W7.heap[p7]? = some (.cells #[.slice (some ⟨b7, 0, none⟩) n n, .slice none 0 0] 25) := by rw [← hW7, ← hp7]; exact heap_alloc_new _ _
  have hown7 : OwnG W7 b7 (List.replicate n zs) [] (.agg #[.slice (some ⟨b7, 0, none⟩) n n, .slice none 0 0]) := ⟨⟨_, _, rfl, own_keep hown (keep_below hb7'), World.ownsRow_nil _ _ _ _⟩, rep_secs n, (fun x (hx : x ∈ []) => by cases hx)⟩
  have HB37 : Hid (Below W3.heap.size W3 W7) := hid (below_both HB4.out (below_both hbm hb7'))
  have HP7 := hid (fun X (hX : Below W7.heap.size W7 X) => (show X.heap[p7]? = some (.cells #[.slice (some ⟨b7, 0, none⟩) n n, .slice none 0 0] 25) ∧ Sec X (.slice (some ⟨b7, 0, none⟩) n n) (List.replicate n zs) ∧ NilOk (.slice (some ⟨b7, 0, none⟩) n n) ∧ Cas X (.slice none 0 0) [] from ⟨(hX.block _ (box_lt hx7)).trans hx7, dk_parts (hown7.dk.below hX)⟩))
  have HD7 := hid (fun X (hX : Below W7.heap.size W7 X) => HDK.out X (below_both HB37.out hX))
  have HRN := hid (fun X (hX : Below W7.heap.size W7 X) => (by
    have h := HP7.out X hX
    have := run_any (List.replicate n zs) [] _ _ _ ops X h.2.1 h.2.2.1 h.2.2.2 (HD7.out X hX).1 (by rw [List.length_nil]; omega)
    rw [hr] at this
    exact this))
  have hp7' : b7 + 1 = p7 := by rw [← hp7, ← hWm, ← hb7]; simp
  rw [hWm, hb7, hW7, hp7']
  have x0 := cell_of_row _ _ 0 _ _ _ hx7
  have x1 := cell_of_row _ _ 1 _ _ _ hx7
  clear hmk hWm hb7 hbm hown hW7 hp7 hp7' hb7' hx7 hown7 hrem hrem'
  obtain ⟨rn, re, stA, caA⟩ := r
  have hrl := runS_len (List.replicate n zs) [] ops
  rw [hr] at hrl
  dsimp only at hrl
  rw [List.length_nil, Nat.zero_add] at hrl
  go_upto_region 5 with (go_at_call 29; refine (HRN.out W7 (Below.refl _ _)).mono ?_; rintro e X8 ⟨v8, rfl, ho8, hb8⟩; dsimp only at ho8; obtain ⟨A8, c8, B8, d8, rfl⟩ := own_form ho8; have HO8 := hid ho8; have HB8 := hid hb8; clear ho8 hb8)
  obtain ⟨nA, hnA⟩ : ∃ q, stA.length = q := ⟨_, rfl⟩
  obtain ⟨mA, hmA⟩ : ∃ q, caA.length = q := ⟨_, rfl⟩
  rw [hnA, hmA] at HO8
  rw [hnA, hmA]
  obtain ⟨W8, hW8⟩ : ∃ X, X8.alloc (.cells #[.slice A8 nA c8, .slice B8 mA d8] 25) = X := ⟨_, rfl⟩
  obtain ⟨p8, hp8⟩ : ∃ p, X8.heap.size = p := ⟨_, rfl⟩
  have hb8 : Below X8.heap.size X8 W8 := by rw [← hW8]; exact al1 _ _
  have hx8 : W8.heap[p8]? = some (.cells #[.slice A8 nA c8, .slice B8 mA d8] 25) := by rw [← hW8, ← hp8]; exact heap_alloc_new _ _
  rw [hW8, hp8]
  have HP8 := hid (fun X (hX : Below W8.heap.size W8 X) => (show X.heap[p8]? = some (.cells #[.slice A8 nA c8, .slice B8 mA d8] 25) ∧ Dk X (.agg #[.slice A8 nA c8, .slice B8 mA d8]) stA caA from ⟨(hX.block _ (box_lt hx8)).trans hx8, (HO8.out.dk.below hb8).below hX⟩))
  have HB78 : Hid (Below W7.heap.size W7 W8) := hid (below_both HB8.out hb8)
  have HB38 : Hid (Below W3.heap.size W3 W8) := hid (below_both HB37.out HB78.out)
  clear x0 x1 hW8 hp8 hb8 hx8
  by_cases hre : re = 0
  rotate_left
  · have e1 : (re == 0) = false := by simpa using hre
    have e2 : (re != 0) = true := by simpa using hre
    have e3 : decide (re = 0) = false := decide_eq_false hre
    go_wp2_with (go_at_call 13; refine (HAW.out _).mono ?_; rintro e X9 ⟨rfl, hb9⟩; have HB9 := hid hb9; clear hb9)
    go_ret
    exact ⟨rfl, below_both HB3.out (below_both HB38.out HB9.out)⟩
  subst hre
  obtain ⟨kN, hkN⟩ : ∃ k : Nat, (if on = 0 then 0 else ((bk.tmod (on : Int) + (on : Int)).tmod (on : Int)).toNat) = k := ⟨_, rfl⟩
  have hko : kN ≤ on := by
    rw [← hkN]
    split
    · exact Nat.zero_le _
    · have h1 := Int.tmod_lt_of_pos (bk.tmod (on : Int) + (on : Int)) (show (0 : Int) < (on : Int) by omega)
      omega
  have HKN := hid hkN
  clear hkN
  go_upto_if 54 with fail
  go_cut [11] (fun s11 wx => s11 = .int .i64 (kN : Int) ∧ wx = W8)
  case first =>
    have hx7 := (HD7.out W8 HB78.out).2.2
    have x0 := cell_of_row _ _ 0 _ _ _ hx7
    clear hx7
    by_cases h0 : on = 0
    · have f1 : decide ((0 : Int) < (on : Int)) = false := decide_eq_false (by omega)
      have f2 : decide (0 < on) = false := decide_eq_false (by omega)
      have hk : (0 : Int) = (kN : Int) := by have h := HKN.out; rw [if_pos h0] at h; omega
      go_wp2_with fail
      go_meet
      exact ⟨congrArg (Value.int IntKind.i64) hk, rfl⟩
    · have f1 : decide ((0 : Int) < (on : Int)) = true := decide_eq_true (by omega)
      have f2 : decide (0 < on) = true := decide_eq_true (by omega)
      have h1 := Int.tmod_lt_of_pos bk (show (0 : Int) < (on : Int) by omega)
      have h2 := Int.lt_tmod_of_pos bk (show (0 : Int) < (on : Int) by omega)
      have h3 : 0 ≤ bk.tmod (on : Int) + (on : Int) := by omega
      have h4' := Int.tmod_nonneg (on : Int) h3
      have h5 := Int.tmod_lt_of_pos (bk.tmod (on : Int) + (on : Int)) (show (0 : Int) < (on : Int) by omega)
      have hk : (bk.tmod (on : Int) + (on : Int)).tmod (on : Int) = (kN : Int) := by have h := HKN.out; rw [if_neg h0] at h; omega
      have w1 : IntKind.i64.wrap (bk.tmod (on : Int)) = bk.tmod (on : Int) := by rw [IntKind.wrap_i64]; omega
      have w2 : IntKind.i64.wrap (bk.tmod (on : Int) + (on : Int)) = bk.tmod (on : Int) + (on : Int) := by rw [IntKind.wrap_i64]; omega
      have w3 : IntKind.i64.wrap ((bk.tmod (on : Int) + (on : Int)).tmod (on : Int)) = (kN : Int) := by rw [hk, IntKind.wrap_i64]; omega
      have g0 : ((on : Int) == 0) = false := by simpa using h0
      clear h1 h2 h3 h4' h5
      go_wp2_with fail
      go_meet
      first
        | exact ⟨rfl, rfl⟩
        | exact ⟨congrArg (Value.int IntKind.i64) hk, rfl⟩
  case rest =>
    obtain ⟨rfl, hwc⟩ := hcut
    have hwc' := hwc.symm
    subst hwc'
    clear hwc
    have hdv := divides (List.replicate n zs) (ops.take kN) (ops.drop kN) ⟨1, 0, .slice none 0 0, []⟩ rfl l (by rw [List.length_replicate]; omega) (by rw [List.take_append_drop, hr])
    rw [List.take_append_drop, hr, List.length_replicate] at hdv
    obtain ⟨⟨n1, e1, st1, ca1⟩, hr1⟩ : ∃ r, runS (List.replicate n zs) [] (ops.take kN) = r := ⟨_, rfl⟩
    have hl1 := (runS_len (List.replicate n zs) [] (ops.take kN)).2
    rw [hr1] at hdv hl1
    dsimp only at hdv hl1
    obtain ⟨⟨n2, e2, st2, ca2⟩, hr2⟩ : ∃ r, runS st1 ca1 (ops.drop kN) = r := ⟨_, rfl⟩
    rw [hr2] at hdv
    dsimp only at hdv
    obtain ⟨rfl, rfl, hst1, hck1, hstA, rfl, h22, ys, yl, hin, hysn, hys⟩ := hdv
    injection h22 with h221 h222
    have h221' := h221.symm
    have h222' := h222.symm
    subst h221' h222'
    clear h221 h222
    rw [List.length_nil, Nat.zero_add] at hl1
    have hl1' := tot_take ops kN
    have htk : (ops.take kN).length = kN := by rw [List.length_take, HON.out]; omega
    rw [htk] at hr1
    obtain ⟨m1, hm1⟩ : ∃ m, ca1.length = m := ⟨_, rfl⟩
    rw [hm1] at hl1
    rw [hstA] at hnA
    subst hnA
    have htd : tot (ops.drop kN) ≤ tot ops := by
      have h := tot_app (ops.take kN) (ops.drop kN)
      rw [List.take_append_drop] at h
      omega
    have hslt : ∀ W, (Instr.slice 32 (.slice O on oc) none (some (.int .i64 (kN : Int))) none).run Try.prog W = .ok (.slice O kN oc) W := fun W => run_slice32 O on oc kN (by have := HCAP.out; omega) W
    have hsld : ∀ W, (Instr.slice 32 (.slice O on oc) (some (.int .i64 (kN : Int))) none none).run Try.prog W = .ok (.slice (fromN 3 O oc kN) (on - kN) (oc - kN)) W := fun W => run_slice32f O on oc kN hko W
    have HC12 := hid (fun X (hX : Below W8.heap.size W8 X) => (by
      have h := HP7.out X (below_both HB78.out hX)
      have h2 := run_any (List.replicate n zs) [] _ _ _ (ops.take kN) X h.2.1 h.2.2.1 h.2.2.2 (ops_take (HD7.out X (below_both HB78.out hX)).1 hko) (by rw [List.length_nil]; omega)
      rw [hr1] at h2
      exact h2))
    have HRO12 := hid (fun (X X' : World) (e : Ending) (h : RunQ X ((kN : Int), 0, st1, ca1) e X') => (by
      obtain ⟨v, rfl, ho, hb⟩ := h
      dsimp only at ho
      obtain ⟨A, c, B, d, rfl⟩ := own_form ho
      rw [hst1, hm1] at ho ⊢
      exact ⟨A, c, B, d, rfl, ho.keep (fun _ _ h => h) (fun _ _ h => h) (Nat.zero_le _), hb⟩ : ∃ A c B d, e = .returned (.tuple #[.agg #[.slice A n c, .slice B m1 d], .int .i64 (kN : Int), .int .i64 0]) ∧ OwnG X' 0 st1 ca1 (.agg #[.slice A n c, .slice B m1 d]) ∧ Below X.heap.size X X'))
    have HST1 := hid hst1
    have HCK1 := hid hck1
    have HM1 := hid hm1
    have HR2 := hid hr2
    have HSTA := hid hstA
    have HMA := hid hmA
    have HIN := hid hin
    have HYN := hid hysn
    have HYS := hid hys
    have HTK := hid htk
    clear hr hr1 hst1 hck1 hm1 hr2 hstA hmA hin hysn hys htk
    have HK := hid (fun (X : World) (hX : Below W8.heap.size W8 X) => (show X.cell? ⟨p7, 0, none⟩ = some (.slice (some ⟨b7, 0, none⟩) n n) ∧ X.cell? ⟨p7, 1, none⟩ = some (.slice none 0 0) from (by
      have g1 := (HP7.out X (below_both HB78.out hX)).1
      exact ⟨cell_of_row _ _ 0 _ _ _ g1, cell_of_row _ _ 1 _ _ _ g1⟩)))
    go_upto_region 10 with fail
    apply cutW (fun X p A c B d => Below W8.heap.size W8 X ∧ X.heap[p]? = some (.cells #[.slice A n c, .slice B m1 d] 25) ∧ OwnG X 0 st1 ca1 (.agg #[.slice A n c, .slice B m1 d]))
    · intro HC
      have HC := hid HC
      refine region_tail 12 (fun X => X.cell? ⟨p7, 0, none⟩ = some (.slice (some ⟨b7, 0, none⟩) n n) ∧ X.cell? ⟨p7, 1, none⟩ = some (.slice none 0 0)) (by kernel_rfl) ?_
      obtain ⟨X0, hX0⟩ : ∃ X, W8.drew = X := ⟨_, rfl⟩
      have hB0 : Below W8.heap.size W8 X0 := by rw [← hX0]; exact (Below.refl W8.heap.size W8).drew
      have hHeld := HK.out X0 hB0
      rw [hX0]
      clear hX0
      refine' wpAnyT_take (i := 0) (oi := ?oiq1) (v := ?vq1) ?hiq1 (by kernel_rfl) (by kernel_rfl) ?hqq1 ?hyq1 hHeld ?restq1
      case hiq1 => (simp only [List.getElem?_toArray, List.getElem?_cons_zero]; rfl)
      case hqq1 => exact fun _ _ _ h => h
      case hyq1 => (refine Or.inl ⟨by rfl, ?_⟩; intro w' hSw; (try dsimp only at hSw); go_simp; try with_reducible rfl)
      (try simp only [Act.put, List.setIfInBounds_toArray, List.set_cons_zero, List.set_cons_succ])
      refine' wpAnyT_take (i := 1) (oi := ?oiq2) (v := ?vq2) ?hiq2 (by kernel_rfl) (by kernel_rfl) ?hqq2 ?hyq2 hHeld ?restq2
      case hiq2 => (simp only [List.getElem?_toArray, List.getElem?_cons_zero, List.getElem?_cons_succ]; rfl)
      case hqq2 => exact fun _ _ _ h => h
      case hyq2 => (refine Or.inl ⟨by rfl, ?_⟩; intro w' hSw; (try dsimp only at hSw); go_simp; try with_reducible rfl)
      (try simp only [Act.put, List.setIfInBounds_toArray, List.set_cons_zero, List.set_cons_succ])
      refine' wpAnyT_take (i := 2) (oi := ?oiq3) (v := ?vq3) ?hiq3 (by kernel_rfl) (by kernel_rfl) ?hqq3 ?hyq3 hHeld ?restq3
      case hiq3 => (simp only [List.getElem?_toArray, List.getElem?_cons_zero, List.getElem?_cons_succ]; rfl)
      case hqq3 => exact fun _ _ _ h => h
      case hyq3 => (refine Or.inl ⟨by rfl, ?_⟩; intro w' hSw; (try dsimp only at hSw); go_simp; try with_reducible rfl)
      (try simp only [Act.put, List.setIfInBounds_toArray, List.set_cons_zero, List.set_cons_succ])
      refine' wpAnyT_take (i := 3) (oi := ?oiq4) (v := ?vq4) ?hiq4 (by kernel_rfl) (by kernel_rfl) ?hqq4 ?hyq4 hHeld ?restq4
      case hiq4 => (simp only [List.getElem?_toArray, List.getElem?_cons_zero, List.getElem?_cons_succ]; rfl)
      case hqq4 => exact fun _ _ _ h => h
      case hyq4 => (refine Or.inl ⟨by rfl, ?_⟩; intro w' hSw; (try dsimp only at hSw); go_simp; try with_reducible rfl)
      (try simp only [Act.put, List.setIfInBounds_toArray, List.set_cons_zero, List.set_cons_succ])
      refine wpAnyT_all (l := [4, 9]) (by kernel_rfl) (by decide) ?_
      intro i hi
      simp only [List.mem_cons, List.not_mem_nil, or_false] at hi
      rcases hi with rfl | rfl
      · refine ⟨_, by (simp only [List.getElem?_toArray, List.getElem?_cons_zero, List.getElem?_cons_succ]; rfl), fun K hK => ?_⟩
        go_simp
        go_at_call 29
        refine (HC12.out X0 hB0).mono ?_
        rintro e Yq71 hQ12
        obtain ⟨A12, c12, B12, d12, rfl, hg12, hbb71⟩ := HRO12.out _ _ _ hQ12
        have HG12 := hid hg12
        clear hQ12 hg12
        clear hHeld
        have hHeld := HK.out Yq71 (below_both hB0 hbb71)
        refine hK.out _ _ (fun _ => hHeld) ?_
        clear hK K
        (try simp only [Act.put, List.setIfInBounds_toArray, List.set_cons_zero, List.set_cons_succ])
        refine' wpAnyT_take (i := 5) (oi := ?oiq5) (v := ?vq5) ?hiq5 (by kernel_rfl) (by kernel_rfl) ?hqq5 ?hyq5 hHeld ?restq5
        case hiq5 => (simp only [List.getElem?_toArray, List.getElem?_cons_zero, List.getElem?_cons_succ]; rfl)
        case hqq5 => exact fun _ _ _ h => h
        case hyq5 => (refine Or.inl ⟨by rfl, ?_⟩; intro w' hSw; (try dsimp only at hSw); go_simp; try with_reducible rfl)
        (try simp only [Act.put, List.setIfInBounds_toArray, List.set_cons_zero, List.set_cons_succ])
        refine' wpAnyT_take (i := 6) (oi := ?oiq6) (v := ?vq6) ?hiq6 (by kernel_rfl) (by kernel_rfl) ?hqq6 ?hyq6 hHeld ?restq6
        case hiq6 => (simp only [List.getElem?_toArray, List.getElem?_cons_zero, List.getElem?_cons_succ]; rfl)
        case hqq6 => exact fun _ _ _ h => h
        case hyq6 => (refine Or.inl ⟨by rfl, ?_⟩; intro w' hSw; (try dsimp only at hSw); go_simp; try with_reducible rfl)
        (try simp only [Act.put, List.setIfInBounds_toArray, List.set_cons_zero, List.set_cons_succ])
        refine' wpAnyT_take (i := 7) (oi := ?oiq7) (v := ?vq7) ?hiq7 (by kernel_rfl) (by kernel_rfl) ?hqq7 ?hyq7 hHeld ?restq7
        case hiq7 => (simp only [List.getElem?_toArray, List.getElem?_cons_zero, List.getElem?_cons_succ]; rfl)
        case hqq7 => exact fun _ _ _ h => h
        case hyq7 => (refine Or.inl ⟨by rfl, ?_⟩; intro w' hSw; (try dsimp only at hSw); go_simp; try with_reducible rfl)
        (try simp only [Act.put, List.setIfInBounds_toArray, List.set_cons_zero, List.set_cons_succ])
        refine' wpAnyT_take (i := 8) (oi := ?oiq8) (v := ?vq8) ?hiq8 (by kernel_rfl) (by kernel_rfl) ?hqq8 ?hyq8 hHeld ?restq8
        case hiq8 => (simp only [List.getElem?_toArray, List.getElem?_cons_zero, List.getElem?_cons_succ]; rfl)
        case hqq8 => exact fun _ _ _ h => h
        case hyq8 => (refine Or.inl ⟨by rfl, ?_⟩; intro w' hSw; (try dsimp only at hSw); go_simp; try with_reducible rfl)
        (try simp only [Act.put, List.setIfInBounds_toArray, List.set_cons_zero, List.set_cons_succ])
        refine' wpAnyT_one (i := 9) (o := ?oiq9) (by kernel_rfl) ?hiq9 (fun K hK => ?stq9)
        case hiq9 => (simp only [List.getElem?_toArray, List.getElem?_cons_zero, List.getElem?_cons_succ]; rfl)
        go_simp
        obtain ⟨Yq12, hY⟩ : ∃ X, Yq71.alloc (.cells #[.slice none 0 0, .slice none 0 0] 25) = X := ⟨_, rfl⟩
        obtain ⟨px, hh⟩ : ∃ h, Yq71.heap.size = h := ⟨_, rfl⟩
        have hbb12 : Below Yq71.heap.size Yq71 Yq12 := by rw [← hY]; exact al1 _ _
        have HZpx : Hid (Yq12.heap[px]? = some (.cells #[.slice none 0 0, .slice none 0 0] 25)) := hid (by rw [← hY, ← hh]; exact heap_alloc_new _ _)
        have HPW : Hid (W8.heap.size ≤ px) := hid (by rw [← hh]; exact (below_both hB0 hbb71).size)
        rw [hY, hh]
        clear hY hh
        clear hHeld
        have hHeld := HK.out Yq12 (below_both hB0 (below_both hbb71 hbb12))
        refine hK.out _ _ (fun _ => hHeld) ?_
        clear hK K
        (try simp only [Act.put, List.setIfInBounds_toArray, List.set_cons_zero, List.set_cons_succ])
        refine' wpAnyT_one (i := 10) (o := ?oiq10) (by kernel_rfl) ?hiq10 (fun K hK => ?stq10)
        case hiq10 => (simp only [List.getElem?_toArray, List.getElem?_cons_zero, List.getElem?_cons_succ]; rfl)
        have hp15 := (((Below.refl _ _).block _ (box_lt HZpx.out)).trans HZpx.out)
        have p0 := cell_of_row _ _ 0 _ _ _ hp15
        have p1 := cell_of_row _ _ 1 _ _ _ hp15
        have fp0 := box_fr hp15 0
        have fp1 := box_fr hp15 1
        go_simp
        obtain ⟨YqN10, hY⟩ : ∃ X, (Yq12.setCell ⟨px, 0, none⟩ (.slice A12 n c12)).setCell ⟨px, 1, none⟩ (.slice B12 m1 d12) = X := ⟨_, rfl⟩
        rw [hY]
        have HP15 : Hid (YqN10.heap[px]? = some (.cells #[.slice A12 n c12, .slice B12 m1 d12] 25)) := hid (by rw [← hY]; exact disk_set hp15 _ _)
        have HO15 : Hid (OwnG YqN10 0 st1 ca1 (.agg #[.slice A12 n c12, .slice B12 m1 d12])) := hid (by rw [← hY]; exact (HG12.out.keep (keep_below hbb12) (keep_below hbb12) (Nat.le_refl _)).keep (keep_two hp15 (by decide)) (keep_two hp15 (by decide)) (Nat.le_refl _))
        have hbbnone10 : Below W8.heap.size W8 YqN10 := by rw [← hY]; exact ((below_both hB0 (below_both hbb71 hbb12)).setCell HPW.out _).setCell HPW.out _
        clear hY hp15 p0 p1 fp0 fp1
        clear hHeld
        have hHeld := HK.out YqN10 hbbnone10
        refine hK.out _ _ (fun _ => hHeld) ?_
        clear hK K
        refine' wpAnyT_take (i := 11) (oi := ?oiq11) (v := ?vq11) ?hiq11 (by kernel_rfl) (by kernel_rfl) ?hqq11 ?hyq11 hHeld ?restq11
        case hiq11 => (simp only [List.getElem?_toArray, List.getElem?_cons_zero, List.getElem?_cons_succ]; rfl)
        case hqq11 => exact fun _ _ _ h => h
        case hyq11 => (refine Or.inl ⟨by rfl, ?_⟩; intro w' hSw; (try dsimp only at hSw); go_simp; try with_reducible rfl)
        (try simp only [Act.put, List.setIfInBounds_toArray, List.set_cons_zero, List.set_cons_succ])
        refine' wpAnyT_one (i := 12) (o := ?oiq12) (by kernel_rfl) ?hiq12 (fun K hK => ?stq12)
        case hiq12 => (simp only [List.getElem?_toArray, List.getElem?_cons_zero, List.getElem?_cons_succ]; rfl)
        go_simp
        refine hK.out _ _ (fun h => absurd h (by decide)) ?_
        clear hK K
        (try simp only [Act.put, List.setIfInBounds_toArray, List.set_cons_zero, List.set_cons_succ])
        refine wpAnyT_done (by kernel_rfl) ?_ _
        exact HC.out YqN10 px A12 c12 B12 d12 ⟨hbbnone10, HP15.out, HO15.out⟩
      · refine ⟨_, by (simp only [List.getElem?_toArray, List.getElem?_cons_zero, List.getElem?_cons_succ]; rfl), fun K hK => ?_⟩
        go_simp
        obtain ⟨Yq12, hY⟩ : ∃ X, X0.alloc (.cells #[.slice none 0 0, .slice none 0 0] 25) = X := ⟨_, rfl⟩
        obtain ⟨px, hh⟩ : ∃ h, X0.heap.size = h := ⟨_, rfl⟩
        have hbb12 : Below X0.heap.size X0 Yq12 := by rw [← hY]; exact al1 _ _
        have HZpx : Hid (Yq12.heap[px]? = some (.cells #[.slice none 0 0, .slice none 0 0] 25)) := hid (by rw [← hY, ← hh]; exact heap_alloc_new _ _)
        have HPW : Hid (W8.heap.size ≤ px) := hid (by rw [← hh]; exact hB0.size)
        rw [hY, hh]
        clear hY hh
        clear hHeld
        have hHeld := HK.out Yq12 (below_both hB0 hbb12)
        refine hK.out _ _ (fun _ => hHeld) ?_
        clear hK K
        (try simp only [Act.put, List.setIfInBounds_toArray, List.set_cons_zero, List.set_cons_succ])
        refine' wpAnyT_one (i := 4) (o := ?oiq13) (by kernel_rfl) ?hiq13 (fun K hK => ?stq13)
        case hiq13 => (simp only [List.getElem?_toArray, List.getElem?_cons_zero, List.getElem?_cons_succ]; rfl)
        go_simp
        go_at_call 29
        refine (HC12.out Yq12 (below_both hB0 hbb12)).mono ?_
        rintro e Yq71 hQ12
        obtain ⟨A12, c12, B12, d12, rfl, hg12, hbb71⟩ := HRO12.out _ _ _ hQ12
        have HG12 := hid hg12
        clear hQ12 hg12
        clear hHeld
        have hHeld := HK.out Yq71 (below_both hB0 (below_both hbb12 hbb71))
        refine hK.out _ _ (fun _ => hHeld) ?_
        clear hK K
        (try simp only [Act.put, List.setIfInBounds_toArray, List.set_cons_zero, List.set_cons_succ])
        refine' wpAnyT_take (i := 5) (oi := ?oiq14) (v := ?vq14) ?hiq14 (by kernel_rfl) (by kernel_rfl) ?hqq14 ?hyq14 hHeld ?restq14
        case hiq14 => (simp only [List.getElem?_toArray, List.getElem?_cons_zero, List.getElem?_cons_succ]; rfl)
        case hqq14 => exact fun _ _ _ h => h
        case hyq14 => (refine Or.inl ⟨by rfl, ?_⟩; intro w' hSw; (try dsimp only at hSw); go_simp; try with_reducible rfl)
        (try simp only [Act.put, List.setIfInBounds_toArray, List.set_cons_zero, List.set_cons_succ])
        refine' wpAnyT_take (i := 6) (oi := ?oiq15) (v := ?vq15) ?hiq15 (by kernel_rfl) (by kernel_rfl) ?hqq15 ?hyq15 hHeld ?restq15
        case hiq15 => (simp only [List.getElem?_toArray, List.getElem?_cons_zero, List.getElem?_cons_succ]; rfl)
        case hqq15 => exact fun _ _ _ h => h
        case hyq15 => (refine Or.inl ⟨by rfl, ?_⟩; intro w' hSw; (try dsimp only at hSw); go_simp; try with_reducible rfl)
        (try simp only [Act.put, List.setIfInBounds_toArray, List.set_cons_zero, List.set_cons_succ])
        refine' wpAnyT_take (i := 7) (oi := ?oiq16) (v := ?vq16) ?hiq16 (by kernel_rfl) (by kernel_rfl) ?hqq16 ?hyq16 hHeld ?restq16
        case hiq16 => (simp only [List.getElem?_toArray, List.getElem?_cons_zero, List.getElem?_cons_succ]; rfl)
        case hqq16 => exact fun _ _ _ h => h
        case hyq16 => (refine Or.inl ⟨by rfl, ?_⟩; intro w' hSw; (try dsimp only at hSw); go_simp; try with_reducible rfl)
        (try simp only [Act.put, List.setIfInBounds_toArray, List.set_cons_zero, List.set_cons_succ])
        refine' wpAnyT_take (i := 8) (oi := ?oiq17) (v := ?vq17) ?hiq17 (by kernel_rfl) (by kernel_rfl) ?hqq17 ?hyq17 hHeld ?restq17
        case hiq17 => (simp only [List.getElem?_toArray, List.getElem?_cons_zero, List.getElem?_cons_succ]; rfl)
        case hqq17 => exact fun _ _ _ h => h
        case hyq17 => (refine Or.inl ⟨by rfl, ?_⟩; intro w' hSw; (try dsimp only at hSw); go_simp; try with_reducible rfl)
        (try simp only [Act.put, List.setIfInBounds_toArray, List.set_cons_zero, List.set_cons_succ])
        refine' wpAnyT_one (i := 10) (o := ?oiq18) (by kernel_rfl) ?hiq18 (fun K hK => ?stq18)
        case hiq18 => (simp only [List.getElem?_toArray, List.getElem?_cons_zero, List.getElem?_cons_succ]; rfl)
        have hp15 := ((hbb71.block _ (box_lt HZpx.out)).trans HZpx.out)
        have p0 := cell_of_row _ _ 0 _ _ _ hp15
        have p1 := cell_of_row _ _ 1 _ _ _ hp15
        have fp0 := box_fr hp15 0
        have fp1 := box_fr hp15 1
        go_simp
        obtain ⟨YqN10, hY⟩ : ∃ X, (Yq71.setCell ⟨px, 0, none⟩ (.slice A12 n c12)).setCell ⟨px, 1, none⟩ (.slice B12 m1 d12) = X := ⟨_, rfl⟩
        rw [hY]
        have HP15 : Hid (YqN10.heap[px]? = some (.cells #[.slice A12 n c12, .slice B12 m1 d12] 25)) := hid (by rw [← hY]; exact disk_set hp15 _ _)
        have HO15 : Hid (OwnG YqN10 0 st1 ca1 (.agg #[.slice A12 n c12, .slice B12 m1 d12])) := hid (by rw [← hY]; exact (HG12.out.keep (keep_below (Below.refl _ _)) (keep_below (Below.refl _ _)) (Nat.le_refl _)).keep (keep_two hp15 (by decide)) (keep_two hp15 (by decide)) (Nat.le_refl _))
        have hbbnone10 : Below W8.heap.size W8 YqN10 := by rw [← hY]; exact ((below_both hB0 (below_both hbb12 hbb71)).setCell HPW.out _).setCell HPW.out _
        clear hY hp15 p0 p1 fp0 fp1
        clear hHeld
        have hHeld := HK.out YqN10 hbbnone10
        refine hK.out _ _ (fun _ => hHeld) ?_
        clear hK K
        refine' wpAnyT_take (i := 11) (oi := ?oiq19) (v := ?vq19) ?hiq19 (by kernel_rfl) (by kernel_rfl) ?hqq19 ?hyq19 hHeld ?restq19
        case hiq19 => (simp only [List.getElem?_toArray, List.getElem?_cons_zero, List.getElem?_cons_succ]; rfl)
        case hqq19 => exact fun _ _ _ h => h
        case hyq19 => (refine Or.inl ⟨by rfl, ?_⟩; intro w' hSw; (try dsimp only at hSw); go_simp; try with_reducible rfl)
        (try simp only [Act.put, List.setIfInBounds_toArray, List.set_cons_zero, List.set_cons_succ])
        refine' wpAnyT_one (i := 12) (o := ?oiq20) (by kernel_rfl) ?hiq20 (fun K hK => ?stq20)
        case hiq20 => (simp only [List.getElem?_toArray, List.getElem?_cons_zero, List.getElem?_cons_succ]; rfl)
        go_simp
        refine hK.out _ _ (fun h => absurd h (by decide)) ?_
        clear hK K
        (try simp only [Act.put, List.setIfInBounds_toArray, List.set_cons_zero, List.set_cons_succ])
        refine wpAnyT_done (by kernel_rfl) ?_ _
        exact HC.out YqN10 px A12 c12 B12 d12 ⟨hbbnone10, HP15.out, HO15.out⟩
    intro W12 p12 A12 c12 B12 d12 hF
    obtain ⟨hb12, hx12, ho12⟩ := hF
    have HB12 := hid hb12
    have HX12 := hid hx12
    have HO12 := hid ho12
    clear hb12 hx12 ho12 HK
    have HP12 := hid (fun X (hX : Below W12.heap.size W12 X) => (show X.heap[p12]? = some (.cells #[.slice A12 n c12, .slice B12 m1 d12] 25) ∧ Sec X (.slice A12 n c12) st1 ∧ NilOk (.slice A12 n c12) ∧ Cas X (.slice B12 m1 d12) ca1 from ⟨(hX.block _ (box_lt HX12.out)).trans HX12.out, dk_parts (HO12.out.dk.below hX)⟩))
    have HB812 : Hid (Below W8.heap.size W8 W12) := HB12
    have HRO15 := hid (fun (X X' : World) (e : Ending) (h : RunQ X (n2, 0, stA, caA) e X') => (by
      obtain ⟨v, rfl, ho, hb⟩ := h
      dsimp only at ho
      obtain ⟨A, c, B, d, rfl⟩ := own_form ho
      rw [HSTA.out, HMA.out] at ho ⊢
      exact ⟨A, c, B, d, rfl, ho.keep (fun _ _ h => h) (fun _ _ h => h) (Nat.zero_le _), hb⟩ : ∃ A c B d, e = .returned (.tuple #[.agg #[.slice A n c, .slice B mA d], .int .i64 n2, .int .i64 0]) ∧ OwnG X' 0 stA caA (.agg #[.slice A n c, .slice B mA d]) ∧ Below X.heap.size X X'))
    have HK := hid (fun (X : World) (hX : Below W12.heap.size W12 X) => (show X.cell? ⟨p12, 0, none⟩ = some (.slice A12 n c12) ∧ X.cell? ⟨p12, 1, none⟩ = some (.slice B12 m1 d12) from (by
      have g1 := (HP12.out X hX).1
      exact ⟨cell_of_row _ _ 0 _ _ _ g1, cell_of_row _ _ 1 _ _ _ g1⟩)))
    obtain ⟨FA, hFA⟩ : ∃ F, fromN 3 O oc kN = F := ⟨_, rfl⟩
    obtain ⟨dq, hdq⟩ : ∃ q, on - kN = q := ⟨_, rfl⟩
    obtain ⟨fc, hfc⟩ : ∃ q, oc - kN = q := ⟨_, rfl⟩
    have HND : Hid (NilOk (.slice FA dq fc)) := hid (by rw [← hFA, ← hfc]; exact nil_drop HNO.out)
    have HOD3 := hid (fun X (hX : Below W3.heap.size W3 X) => (by
      have h := ops_drop (HDK.out X hX).1 hko
      rw [hFA, hdq, hfc] at h
      exact h : OpsA X (.slice FA dq fc) (ops.drop kN)))
    have HDQ : Hid ((ops.drop kN).length = dq) := hid (by rw [List.length_drop, HON.out]; exact hdq)
    have HC15 := hid (fun X (hX : Below W12.heap.size W12 X) => (by
      have h := HP12.out X hX
      have h2 := run_any st1 ca1 _ _ _ (ops.drop kN) X h.2.1 h.2.2.1 h.2.2.2 (HOD3.out X (below_both HB38.out (below_both HB812.out hX))) (by rw [HM1.out]; omega)
      rw [HR2.out] at h2
      exact h2))
    rw [hFA, hdq, hfc] at hsld
    clear hFA hfc
    go_upto_region 11 with fail
    apply cutW (fun X p A c B d => Below W12.heap.size W12 X ∧ X.heap[p]? = some (.cells #[.slice A n c, .slice B mA d] 25) ∧ OwnG X 0 stA caA (.agg #[.slice A n c, .slice B mA d]))
    · intro HC
      have HC := hid HC
      refine region_tail 12 (fun X => X.cell? ⟨p12, 0, none⟩ = some (.slice A12 n c12) ∧ X.cell? ⟨p12, 1, none⟩ = some (.slice B12 m1 d12)) (by kernel_rfl) ?_
      obtain ⟨X0, hX0⟩ : ∃ X, W12.drew = X := ⟨_, rfl⟩
      have hB0 : Below W12.heap.size W12 X0 := by rw [← hX0]; exact (Below.refl W12.heap.size W12).drew
      have hHeld := HK.out X0 hB0
      rw [hX0]
      clear hX0
      refine' wpAnyT_take (i := 0) (oi := ?oir1) (v := ?vr1) ?hir1 (by kernel_rfl) (by kernel_rfl) ?hqr1 ?hyr1 hHeld ?restr1
      case hir1 => (simp only [List.getElem?_toArray, List.getElem?_cons_zero]; rfl)
      case hqr1 => exact fun _ _ _ h => h
      case hyr1 => (refine Or.inl ⟨by rfl, ?_⟩; intro w' hSw; (try dsimp only at hSw); go_simp; try with_reducible rfl)
      (try simp only [Act.put, List.setIfInBounds_toArray, List.set_cons_zero, List.set_cons_succ])
      refine' wpAnyT_take (i := 1) (oi := ?oir2) (v := ?vr2) ?hir2 (by kernel_rfl) (by kernel_rfl) ?hqr2 ?hyr2 hHeld ?restr2
      case hir2 => (simp only [List.getElem?_toArray, List.getElem?_cons_zero, List.getElem?_cons_succ]; rfl)
      case hqr2 => exact fun _ _ _ h => h
      case hyr2 => (refine Or.inl ⟨by rfl, ?_⟩; intro w' hSw; (try dsimp only at hSw); go_simp; try with_reducible rfl)
      (try simp only [Act.put, List.setIfInBounds_toArray, List.set_cons_zero, List.set_cons_succ])
      refine' wpAnyT_take (i := 2) (oi := ?oir3) (v := ?vr3) ?hir3 (by kernel_rfl) (by kernel_rfl) ?hqr3 ?hyr3 hHeld ?restr3
      case hir3 => (simp only [List.getElem?_toArray, List.getElem?_cons_zero, List.getElem?_cons_succ]; rfl)
      case hqr3 => exact fun _ _ _ h => h
      case hyr3 => (refine Or.inl ⟨by rfl, ?_⟩; intro w' hSw; (try dsimp only at hSw); go_simp; try with_reducible rfl)
      (try simp only [Act.put, List.setIfInBounds_toArray, List.set_cons_zero, List.set_cons_succ])
      refine' wpAnyT_take (i := 3) (oi := ?oir4) (v := ?vr4) ?hir4 (by kernel_rfl) (by kernel_rfl) ?hqr4 ?hyr4 hHeld ?restr4
      case hir4 => (simp only [List.getElem?_toArray, List.getElem?_cons_zero, List.getElem?_cons_succ]; rfl)
      case hqr4 => exact fun _ _ _ h => h
      case hyr4 => (refine Or.inl ⟨by rfl, ?_⟩; intro w' hSw; (try dsimp only at hSw); go_simp; try with_reducible rfl)
      (try simp only [Act.put, List.setIfInBounds_toArray, List.set_cons_zero, List.set_cons_succ])
      refine wpAnyT_all (l := [4, 9]) (by kernel_rfl) (by decide) ?_
      intro i hi
      simp only [List.mem_cons, List.not_mem_nil, or_false] at hi
      rcases hi with rfl | rfl
      · refine ⟨_, by (simp only [List.getElem?_toArray, List.getElem?_cons_zero, List.getElem?_cons_succ]; rfl), fun K hK => ?_⟩
        go_simp
        go_at_call 29
        refine (HC15.out X0 hB0).mono ?_
        rintro e Yr80 hQ15
        obtain ⟨A15, c15, B15, d15, rfl, hg15, hbb80⟩ := HRO15.out _ _ _ hQ15
        have HG15 := hid hg15
        clear hQ15 hg15
        clear hHeld
        have hHeld := HK.out Yr80 (below_both hB0 hbb80)
        refine hK.out _ _ (fun _ => hHeld) ?_
        clear hK K
        (try simp only [Act.put, List.setIfInBounds_toArray, List.set_cons_zero, List.set_cons_succ])
        refine' wpAnyT_take (i := 5) (oi := ?oir5) (v := ?vr5) ?hir5 (by kernel_rfl) (by kernel_rfl) ?hqr5 ?hyr5 hHeld ?restr5
        case hir5 => (simp only [List.getElem?_toArray, List.getElem?_cons_zero, List.getElem?_cons_succ]; rfl)
        case hqr5 => exact fun _ _ _ h => h
        case hyr5 => (refine Or.inl ⟨by rfl, ?_⟩; intro w' hSw; (try dsimp only at hSw); go_simp; try with_reducible rfl)
        (try simp only [Act.put, List.setIfInBounds_toArray, List.set_cons_zero, List.set_cons_succ])
        refine' wpAnyT_take (i := 6) (oi := ?oir6) (v := ?vr6) ?hir6 (by kernel_rfl) (by kernel_rfl) ?hqr6 ?hyr6 hHeld ?restr6
        case hir6 => (simp only [List.getElem?_toArray, List.getElem?_cons_zero, List.getElem?_cons_succ]; rfl)
        case hqr6 => exact fun _ _ _ h => h
        case hyr6 => (refine Or.inl ⟨by rfl, ?_⟩; intro w' hSw; (try dsimp only at hSw); go_simp; try with_reducible rfl)
        (try simp only [Act.put, List.setIfInBounds_toArray, List.set_cons_zero, List.set_cons_succ])
        refine' wpAnyT_take (i := 7) (oi := ?oir7) (v := ?vr7) ?hir7 (by kernel_rfl) (by kernel_rfl) ?hqr7 ?hyr7 hHeld ?restr7
        case hir7 => (simp only [List.getElem?_toArray, List.getElem?_cons_zero, List.getElem?_cons_succ]; rfl)
        case hqr7 => exact fun _ _ _ h => h
        case hyr7 => (refine Or.inl ⟨by rfl, ?_⟩; intro w' hSw; (try dsimp only at hSw); go_simp; try with_reducible rfl)
        (try simp only [Act.put, List.setIfInBounds_toArray, List.set_cons_zero, List.set_cons_succ])
        refine' wpAnyT_take (i := 8) (oi := ?oir8) (v := ?vr8) ?hir8 (by kernel_rfl) (by kernel_rfl) ?hqr8 ?hyr8 hHeld ?restr8
        case hir8 => (simp only [List.getElem?_toArray, List.getElem?_cons_zero, List.getElem?_cons_succ]; rfl)
        case hqr8 => exact fun _ _ _ h => h
        case hyr8 => (refine Or.inl ⟨by rfl, ?_⟩; intro w' hSw; (try dsimp only at hSw); go_simp; try with_reducible rfl)
        (try simp only [Act.put, List.setIfInBounds_toArray, List.set_cons_zero, List.set_cons_succ])
        refine' wpAnyT_one (i := 9) (o := ?oir9) (by kernel_rfl) ?hir9 (fun K hK => ?str9)
        case hir9 => (simp only [List.getElem?_toArray, List.getElem?_cons_zero, List.getElem?_cons_succ]; rfl)
        go_simp
        obtain ⟨Yr15, hY⟩ : ∃ X, Yr80.alloc (.cells #[.slice none 0 0, .slice none 0 0] 25) = X := ⟨_, rfl⟩
        obtain ⟨px, hh⟩ : ∃ h, Yr80.heap.size = h := ⟨_, rfl⟩
        have hbb15 : Below Yr80.heap.size Yr80 Yr15 := by rw [← hY]; exact al1 _ _
        have HZpx : Hid (Yr15.heap[px]? = some (.cells #[.slice none 0 0, .slice none 0 0] 25)) := hid (by rw [← hY, ← hh]; exact heap_alloc_new _ _)
        have HPW : Hid (W12.heap.size ≤ px) := hid (by rw [← hh]; exact (below_both hB0 hbb80).size)
        rw [hY, hh]
        clear hY hh
        clear hHeld
        have hHeld := HK.out Yr15 (below_both hB0 (below_both hbb80 hbb15))
        refine hK.out _ _ (fun _ => hHeld) ?_
        clear hK K
        (try simp only [Act.put, List.setIfInBounds_toArray, List.set_cons_zero, List.set_cons_succ])
        refine' wpAnyT_one (i := 10) (o := ?oir10) (by kernel_rfl) ?hir10 (fun K hK => ?str10)
        case hir10 => (simp only [List.getElem?_toArray, List.getElem?_cons_zero, List.getElem?_cons_succ]; rfl)
        have hp15 := (((Below.refl _ _).block _ (box_lt HZpx.out)).trans HZpx.out)
        have p0 := cell_of_row _ _ 0 _ _ _ hp15
        have p1 := cell_of_row _ _ 1 _ _ _ hp15
        have fp0 := box_fr hp15 0
        have fp1 := box_fr hp15 1
        go_simp
        obtain ⟨YrN10, hY⟩ : ∃ X, (Yr15.setCell ⟨px, 0, none⟩ (.slice A15 n c15)).setCell ⟨px, 1, none⟩ (.slice B15 mA d15) = X := ⟨_, rfl⟩
        rw [hY]
        have HP15 : Hid (YrN10.heap[px]? = some (.cells #[.slice A15 n c15, .slice B15 mA d15] 25)) := hid (by rw [← hY]; exact disk_set hp15 _ _)
        have HO15 : Hid (OwnG YrN10 0 stA caA (.agg #[.slice A15 n c15, .slice B15 mA d15])) := hid (by rw [← hY]; exact (HG15.out.keep (keep_below hbb15) (keep_below hbb15) (Nat.le_refl _)).keep (keep_two hp15 (by decide)) (keep_two hp15 (by decide)) (Nat.le_refl _))
        have hbbnone10 : Below W12.heap.size W12 YrN10 := by rw [← hY]; exact ((below_both hB0 (below_both hbb80 hbb15)).setCell HPW.out _).setCell HPW.out _
        clear hY hp15 p0 p1 fp0 fp1
        clear hHeld
        have hHeld := HK.out YrN10 hbbnone10
        refine hK.out _ _ (fun _ => hHeld) ?_
        clear hK K
        refine' wpAnyT_take (i := 11) (oi := ?oir11) (v := ?vr11) ?hir11 (by kernel_rfl) (by kernel_rfl) ?hqr11 ?hyr11 hHeld ?restr11
        case hir11 => (simp only [List.getElem?_toArray, List.getElem?_cons_zero, List.getElem?_cons_succ]; rfl)
        case hqr11 => exact fun _ _ _ h => h
        case hyr11 => (refine Or.inl ⟨by rfl, ?_⟩; intro w' hSw; (try dsimp only at hSw); go_simp; try with_reducible rfl)
        (try simp only [Act.put, List.setIfInBounds_toArray, List.set_cons_zero, List.set_cons_succ])
        refine' wpAnyT_one (i := 12) (o := ?oir12) (by kernel_rfl) ?hir12 (fun K hK => ?str12)
        case hir12 => (simp only [List.getElem?_toArray, List.getElem?_cons_zero, List.getElem?_cons_succ]; rfl)
        go_simp
        refine hK.out _ _ (fun h => absurd h (by decide)) ?_
        clear hK K
        (try simp only [Act.put, List.setIfInBounds_toArray, List.set_cons_zero, List.set_cons_succ])
        refine wpAnyT_done (by kernel_rfl) ?_ _
        exact HC.out YrN10 px A15 c15 B15 d15 ⟨hbbnone10, HP15.out, HO15.out⟩
      · refine ⟨_, by (simp only [List.getElem?_toArray, List.getElem?_cons_zero, List.getElem?_cons_succ]; rfl), fun K hK => ?_⟩
        go_simp
        obtain ⟨Yr15, hY⟩ : ∃ X, X0.alloc (.cells #[.slice none 0 0, .slice none 0 0] 25) = X := ⟨_, rfl⟩
        obtain ⟨px, hh⟩ : ∃ h, X0.heap.size = h := ⟨_, rfl⟩
        have hbb15 : Below X0.heap.size X0 Yr15 := by rw [← hY]; exact al1 _ _
        have HZpx : Hid (Yr15.heap[px]? = some (.cells #[.slice none 0 0, .slice none 0 0] 25)) := hid (by rw [← hY, ← hh]; exact heap_alloc_new _ _)
        have HPW : Hid (W12.heap.size ≤ px) := hid (by rw [← hh]; exact hB0.size)
        rw [hY, hh]
        clear hY hh
        clear hHeld
        have hHeld := HK.out Yr15 (below_both hB0 hbb15)
        refine hK.out _ _ (fun _ => hHeld) ?_
        clear hK K
        (try simp only [Act.put, List.setIfInBounds_toArray, List.set_cons_zero, List.set_cons_succ])
        refine' wpAnyT_one (i := 4) (o := ?oir13) (by kernel_rfl) ?hir13 (fun K hK => ?str13)
        case hir13 => (simp only [List.getElem?_toArray, List.getElem?_cons_zero, List.getElem?_cons_succ]; rfl)
        go_simp
        go_at_call 29
        refine (HC15.out Yr15 (below_both hB0 hbb15)).mono ?_
        rintro e Yr80 hQ15
        obtain ⟨A15, c15, B15, d15, rfl, hg15, hbb80⟩ := HRO15.out _ _ _ hQ15
        have HG15 := hid hg15
        clear hQ15 hg15
        clear hHeld
        have hHeld := HK.out Yr80 (below_both hB0 (below_both hbb15 hbb80))
        refine hK.out _ _ (fun _ => hHeld) ?_
        clear hK K
        (try simp only [Act.put, List.setIfInBounds_toArray, List.set_cons_zero, List.set_cons_succ])
        refine' wpAnyT_take (i := 5) (oi := ?oir14) (v := ?vr14) ?hir14 (by kernel_rfl) (by kernel_rfl) ?hqr14 ?hyr14 hHeld ?restr14
        case hir14 => (simp only [List.getElem?_toArray, List.getElem?_cons_zero, List.getElem?_cons_succ]; rfl)
        case hqr14 => exact fun _ _ _ h => h
        case hyr14 => (refine Or.inl ⟨by rfl, ?_⟩; intro w' hSw; (try dsimp only at hSw); go_simp; try with_reducible rfl)
        (try simp only [Act.put, List.setIfInBounds_toArray, List.set_cons_zero, List.set_cons_succ])
        refine' wpAnyT_take (i := 6) (oi := ?oir15) (v := ?vr15) ?hir15 (by kernel_rfl) (by kernel_rfl) ?hqr15 ?hyr15 hHeld ?restr15
        case hir15 => (simp only [List.getElem?_toArray, List.getElem?_cons_zero, List.getElem?_cons_succ]; rfl)
        case hqr15 => exact fun _ _ _ h => h
        case hyr15 => (refine Or.inl ⟨by rfl, ?_⟩; intro w' hSw; (try dsimp only at hSw); go_simp; try with_reducible rfl)
        (try simp only [Act.put, List.setIfInBounds_toArray, List.set_cons_zero, List.set_cons_succ])
        refine' wpAnyT_take (i := 7) (oi := ?oir16) (v := ?vr16) ?hir16 (by kernel_rfl) (by kernel_rfl) ?hqr16 ?hyr16 hHeld ?restr16
        case hir16 => (simp only [List.getElem?_toArray, List.getElem?_cons_zero, List.getElem?_cons_succ]; rfl)
        case hqr16 => exact fun _ _ _ h => h
        case hyr16 => (refine Or.inl ⟨by rfl, ?_⟩; intro w' hSw; (try dsimp only at hSw); go_simp; try with_reducible rfl)
        (try simp only [Act.put, List.setIfInBounds_toArray, List.set_cons_zero, List.set_cons_succ])
        refine' wpAnyT_take (i := 8) (oi := ?oir17) (v := ?vr17) ?hir17 (by kernel_rfl) (by kernel_rfl) ?hqr17 ?hyr17 hHeld ?restr17
        case hir17 => (simp only [List.getElem?_toArray, List.getElem?_cons_zero, List.getElem?_cons_succ]; rfl)
        case hqr17 => exact fun _ _ _ h => h
        case hyr17 => (refine Or.inl ⟨by rfl, ?_⟩; intro w' hSw; (try dsimp only at hSw); go_simp; try with_reducible rfl)
        (try simp only [Act.put, List.setIfInBounds_toArray, List.set_cons_zero, List.set_cons_succ])
        refine' wpAnyT_one (i := 10) (o := ?oir18) (by kernel_rfl) ?hir18 (fun K hK => ?str18)
        case hir18 => (simp only [List.getElem?_toArray, List.getElem?_cons_zero, List.getElem?_cons_succ]; rfl)
        have hp15 := ((hbb80.block _ (box_lt HZpx.out)).trans HZpx.out)
        have p0 := cell_of_row _ _ 0 _ _ _ hp15
        have p1 := cell_of_row _ _ 1 _ _ _ hp15
        have fp0 := box_fr hp15 0
        have fp1 := box_fr hp15 1
        go_simp
        obtain ⟨YrN10, hY⟩ : ∃ X, (Yr80.setCell ⟨px, 0, none⟩ (.slice A15 n c15)).setCell ⟨px, 1, none⟩ (.slice B15 mA d15) = X := ⟨_, rfl⟩
        rw [hY]
        have HP15 : Hid (YrN10.heap[px]? = some (.cells #[.slice A15 n c15, .slice B15 mA d15] 25)) := hid (by rw [← hY]; exact disk_set hp15 _ _)
        have HO15 : Hid (OwnG YrN10 0 stA caA (.agg #[.slice A15 n c15, .slice B15 mA d15])) := hid (by rw [← hY]; exact (HG15.out.keep (keep_below (Below.refl _ _)) (keep_below (Below.refl _ _)) (Nat.le_refl _)).keep (keep_two hp15 (by decide)) (keep_two hp15 (by decide)) (Nat.le_refl _))
        have hbbnone10 : Below W12.heap.size W12 YrN10 := by rw [← hY]; exact ((below_both hB0 (below_both hbb15 hbb80)).setCell HPW.out _).setCell HPW.out _
        clear hY hp15 p0 p1 fp0 fp1
        clear hHeld
        have hHeld := HK.out YrN10 hbbnone10
        refine hK.out _ _ (fun _ => hHeld) ?_
        clear hK K
        refine' wpAnyT_take (i := 11) (oi := ?oir19) (v := ?vr19) ?hir19 (by kernel_rfl) (by kernel_rfl) ?hqr19 ?hyr19 hHeld ?restr19
        case hir19 => (simp only [List.getElem?_toArray, List.getElem?_cons_zero, List.getElem?_cons_succ]; rfl)
        case hqr19 => exact fun _ _ _ h => h
        case hyr19 => (refine Or.inl ⟨by rfl, ?_⟩; intro w' hSw; (try dsimp only at hSw); go_simp; try with_reducible rfl)
        (try simp only [Act.put, List.setIfInBounds_toArray, List.set_cons_zero, List.set_cons_succ])
        refine' wpAnyT_one (i := 12) (o := ?oir20) (by kernel_rfl) ?hir20 (fun K hK => ?str20)
        case hir20 => (simp only [List.getElem?_toArray, List.getElem?_cons_zero, List.getElem?_cons_succ]; rfl)
        go_simp
        refine hK.out _ _ (fun h => absurd h (by decide)) ?_
        clear hK K
        (try simp only [Act.put, List.setIfInBounds_toArray, List.set_cons_zero, List.set_cons_succ])
        refine wpAnyT_done (by kernel_rfl) ?_ _
        exact HC.out YrN10 px A15 c15 B15 d15 ⟨hbbnone10, HP15.out, HO15.out⟩
    intro W15 p15 A15 c15 B15 d15 hF
    obtain ⟨hb15, hx15, ho15⟩ := hF
    have HB15 := hid hb15
    have HB815 : Hid (Below W8.heap.size W8 W15) := hid (below_both HB812.out hb15)
    have hx8 := (HP8.out W15 HB815.out).1
    have HS18 := hid (same_eq stA caA _ _ W15 ho15.dk (HP8.out W15 HB815.out).2 (by have := hrl.2; omega))
    have y0 := cell_of_row _ _ 0 _ _ _ hx15
    have y1 := cell_of_row _ _ 1 _ _ _ hx15
    have z0 := cell_of_row _ _ 0 _ _ _ hx8
    have z1 := cell_of_row _ _ 1 _ _ _ hx8
    have dkk : ((kN : Int) != (kN : Int)) = false := by simp
    clear hb15 hx15 ho15 HK hx8
    go_upto_region 14 with (go_at_call 18; refine HS18.out.mono ?_; rintro e X16 ⟨rfl, hb16⟩; have HB16 := hid hb16; clear hb16)
    clear y0 y1 z0 z1 dkk
    have HB816 : Hid (Below W8.heap.size W8 X16) := hid (below_both HB815.out HB16.out)
    have hp12 := HP12.out X16 (below_both HB15.out HB16.out)
    have x0 := cell_of_row _ _ 0 _ _ _ hp12.1
    have x1 := cell_of_row _ _ 1 _ _ _ hp12.1
    have HSN := hid (by
      have h := sync_any st1 ca1 _ _ X16 hp12.2.1 hp12.2.2.1 hp12.2.2.2 (by rw [HST1.out]; omega) (by rw [HM1.out]; omega)
      rw [show syncS st1 ca1 = (newL st1 ca1, []) from by unfold syncS; rw [if_pos (by rw [HST1.out]; exact HCK1.out)]] at h
      exact h)
    have hnn : (newL st1 ca1).length = n := by rw [newL_len, HST1.out]
    have HNN := hid hnn
    have HTO := hid (fun (X X' : World) (e : Ending) (h : SyQ X (newL st1 ca1, []) e X') => (by
      obtain ⟨v, rfl, ho, hb⟩ := h
      dsimp only at ho
      obtain ⟨A, c, B, d, rfl⟩ := own_form ho
      rw [hnn, List.length_nil] at ho ⊢
      exact ⟨A, c, B, d, rfl, ho.dk, hb⟩ : ∃ A c B d, e = .returned (.agg #[.slice A n c, .slice B 0 d]) ∧ Dk X' (.agg #[.slice A n c, .slice B 0 d]) (newL st1 ca1) [] ∧ Below X.heap.size X X'))
    clear hp12 hnn
    go_upto_region 15 with (go_at_call 24; refine HSN.out.mono ?_; intro e X17 hQ; obtain ⟨A18, c18, B18, d18, rfl, hk18, hb17⟩ := HTO.out _ _ _ hQ; have HK18 := hid hk18; have HB17 := hid hb17; clear hQ hk18 hb17)
    clear x0 x1
    obtain ⟨W18, hW18⟩ : ∃ X, X17.alloc (.cells #[.slice A18 n c18, .slice B18 0 d18] 25) = X := ⟨_, rfl⟩
    obtain ⟨p18, hp18⟩ : ∃ p, X17.heap.size = p := ⟨_, rfl⟩
    have hb18 : Below X17.heap.size X17 W18 := by rw [← hW18]; exact al1 _ _
    have hx18 : W18.heap[p18]? = some (.cells #[.slice A18 n c18, .slice B18 0 d18] 25) := by rw [← hW18, ← hp18]; exact heap_alloc_new _ _
    rw [hW18, hp18]
    have HB818 : Hid (Below W8.heap.size W8 W18) := hid (below_both HB816.out (below_both HB17.out hb18))
    have HP18 := hid (fun X (hX : Below W18.heap.size W18 X) => (show X.heap[p18]? = some (.cells #[.slice A18 n c18, .slice B18 0 d18] 25) ∧ Sec X (.slice A18 n c18) (newL st1 ca1) from ⟨(hX.block _ (box_lt hx18)).trans hx18, (dk_parts ((HK18.out.below hb18).below hX)).1⟩))
    have HOP := hid (fun X (hX : Below W18.heap.size W18 X) => (HD7.out X (below_both HB78.out (below_both HB818.out hX))).1)
    have HOD := hid (fun X (hX : Below W18.heap.size W18 X) => HOD3.out X (below_both HB38.out (below_both HB818.out hX)))
    clear hW18 hp18 hb18 hx18
    refine region_tail 12 (fun _ => True) (by kernel_rfl) ?_
    obtain ⟨X0, hX0⟩ : ∃ X, W18.drew = X := ⟨_, rfl⟩
    have hBX0 : Below W18.heap.size W18 X0 := by rw [← hX0]; exact (Below.refl W18.heap.size W18).drew
    have hHeld := True.intro
    rw [hX0]
    clear hX0
    refine' wpAnyT_take (i := 1) (oi := ?ois1) (v := ?vs1) ?his1 (by kernel_rfl) (by kernel_rfl) ?hqs1 ?hys1 hHeld ?rests1
    case his1 => (simp only [List.getElem?_toArray, List.getElem?_cons_zero, List.getElem?_cons_succ]; rfl)
    case hqs1 => exact fun _ _ _ h => h
    case hys1 => (refine Or.inl ⟨by rfl, ?_⟩; intro w' hSw; (try dsimp only at hSw); go_simp; try with_reducible rfl)
    (try simp only [Act.put, List.setIfInBounds_toArray, List.set_cons_zero, List.set_cons_succ])
    refine' wpAnyT_take (i := 2) (oi := ?ois2) (v := ?vs2) ?his2 (by kernel_rfl) (by kernel_rfl) ?hqs2 ?hys2 hHeld ?rests2
    case his2 => (simp only [List.getElem?_toArray, List.getElem?_cons_zero, List.getElem?_cons_succ]; rfl)
    case hqs2 => exact fun _ _ _ h => h
    case hys2 => (refine Or.inl ⟨by rfl, ?_⟩; intro w' hSw; (try dsimp only at hSw); go_simp; try with_reducible rfl)
    (try simp only [Act.put, List.setIfInBounds_toArray, List.set_cons_zero, List.set_cons_succ])
    refine' wpAnyT_take (i := 3) (oi := ?ois3) (v := ?vs3) ?his3 (by kernel_rfl) (by kernel_rfl) ?hqs3 ?hys3 hHeld ?rests3
    case his3 => (simp only [List.getElem?_toArray, List.getElem?_cons_zero, List.getElem?_cons_succ]; rfl)
    case hqs3 => exact fun _ _ _ h => h
    case hys3 => (refine Or.inl ⟨by rfl, ?_⟩; intro w' hSw; (try dsimp only at hSw); go_simp; try with_reducible rfl)
    (try simp only [Act.put, List.setIfInBounds_toArray, List.set_cons_zero, List.set_cons_succ])
    refine' wpAnyT_take (i := 8) (oi := ?ois8) (v := ?vs8) ?his8 (by kernel_rfl) (by kernel_rfl) ?hqs8 ?hys8 hHeld ?rests8
    case his8 => (simp only [List.getElem?_toArray, List.getElem?_cons_zero, List.getElem?_cons_succ]; rfl)
    case hqs8 => exact fun _ _ _ h => h
    case hys8 => (refine Or.inl ⟨by rfl, ?_⟩; intro w' hSw; (try dsimp only at hSw); go_simp; try with_reducible rfl)
    (try simp only [Act.put, List.setIfInBounds_toArray, List.set_cons_zero, List.set_cons_succ])
    refine' wpAnyT_take (i := 9) (oi := ?ois9) (v := ?vs9) ?his9 (by kernel_rfl) (by kernel_rfl) ?hqs9 ?hys9 hHeld ?rests9
    case his9 => (simp only [List.getElem?_toArray, List.getElem?_cons_zero, List.getElem?_cons_succ]; rfl)
    case hqs9 => exact fun _ _ _ h => h
    case hys9 => (refine Or.inl ⟨by rfl, ?_⟩; intro w' hSw; (try dsimp only at hSw); go_simp; try with_reducible rfl)
    (try simp only [Act.put, List.setIfInBounds_toArray, List.set_cons_zero, List.set_cons_succ])
    refine' wpAnyT_take (i := 10) (oi := ?ois10) (v := ?vs10) ?his10 (by kernel_rfl) (by kernel_rfl) ?hqs10 ?hys10 hHeld ?rests10
    case his10 => (simp only [List.getElem?_toArray, List.getElem?_cons_zero, List.getElem?_cons_succ]; rfl)
    case hqs10 => exact fun _ _ _ h => h
    case hys10 => (refine Or.inl ⟨by rfl, ?_⟩; intro w' hSw; (try dsimp only at hSw); go_simp; try with_reducible rfl)
    (try simp only [Act.put, List.setIfInBounds_toArray, List.set_cons_zero, List.set_cons_succ])
    refine' wpAnyT_one (i := 0) (o := ?ois0) (by kernel_rfl) ?his0 (fun K hK => ?sts0)
    case his0 => (simp only [List.getElem?_toArray, List.getElem?_cons_zero]; rfl)
    go_simp
    obtain ⟨X1, hX1⟩ : ∃ X, X0.alloc (.cells #[] 27) = X := ⟨_, rfl⟩
    obtain ⟨h1, hh1⟩ : ∃ h, X0.heap.size = h := ⟨_, rfl⟩
    have hb1 : Below X0.heap.size X0 X1 := by rw [← hX1]; exact al1 _ _
    have HO1 : Hid (X1.ownsRow W18.heap.size 27 3 (.slice (some ⟨h1, 0, none⟩) 0 0) 0 []) := hid (by rw [← hX1, ← hh1]; exact own_base (own_empty27 X0) hBX0.size)
    have hBX1 : Below W18.heap.size W18 X1 := hBX0.trans (hb1.mono hBX0.size)
    rw [hX1, hh1]
    clear hHeld hX1 hh1 hb1
    have hHeld := True.intro
    refine hK.out _ _ (fun _ => hHeld) ?_
    clear hK K
    (try simp only [Act.put, List.setIfInBounds_toArray, List.set_cons_zero, List.set_cons_succ])
    refine' wpAnyT_one (i := 4) (o := ?ois4) (by kernel_rfl) ?his4 (fun K hK => ?sts4)
    case his4 => (simp only [List.getElem?_toArray, List.getElem?_cons_zero, List.getElem?_cons_succ]; rfl)
    refine step_append_ops rfl (.tmp 103) (.tmp 106) rfl W18.heap.size (.slice (some ⟨h1, 0, none⟩) 0 0) 0 [] (by simp [Act.eval]) HO1.out (ops.take kN) (.slice O kN oc) (by simp [Act.eval]) (ops_take (HOP.out X1 hBX1) hko) (nil_take HNO.out) (by rw [HTK.out]; omega) hBX1.size ?_
    intro v2 X2 ho2 hg2
    have hBX2 : Below W18.heap.size W18 X2 := below_own hBX1 HO1.out hg2 hBX1.size (Nat.le_refl _)
    have HO2 := hid ho2
    clear hHeld ho2 hg2
    have hHeld := True.intro
    refine hK.out _ _ (fun _ => hHeld) ?_
    clear hK K
    refine' wpAnyT_one (i := 5) (o := ?ois5) (by kernel_rfl) ?his5 (fun K hK => ?sts5)
    case his5 => (simp only [List.getElem?_toArray, List.getElem?_cons_zero, List.getElem?_cons_succ]; rfl)
    go_simp
    go_at_call 38
    refine (syncOp_any X2).mono ?_
    rintro e X3 ⟨rfl, hb3⟩
    have hBX3 : Below W18.heap.size W18 X3 := hBX2.trans (hb3.mono hBX2.size)
    have HO3 := hid (own_keep HO2.out (keep_below hb3))
    clear hHeld hb3
    have hHeld := True.intro
    refine hK.out _ _ (fun _ => hHeld) ?_
    clear hK K
    (try simp only [Act.put, List.setIfInBounds_toArray, List.set_cons_zero, List.set_cons_succ])
    refine' wpAnyT_one (i := 6) (o := ?ois6) (by kernel_rfl) ?his6 (fun K hK => ?sts6)
    case his6 => (simp only [List.getElem?_toArray, List.getElem?_cons_zero, List.getElem?_cons_succ]; rfl)
    go_simp
    obtain ⟨X4, hX4⟩ : ∃ X, X3.alloc (.cells #[.int .i64 1, .int .i64 0, .slice none 0 0] 27) = X := ⟨_, rfl⟩
    obtain ⟨h4, hh4⟩ : ∃ h, X3.heap.size = h := ⟨_, rfl⟩
    have hb4 : Below X3.heap.size X3 X4 := by rw [← hX4]; exact al1 _ _
    have hz4 : X4.heap[h4]? = some (.cells (([⟨1, 0, .slice none 0 0, []⟩] : List OpT).map cOp).flatten.toArray 27) := by rw [← hX4, ← hh4]; exact heap_alloc_new _ _
    have HL4 : Hid (OpsA X4 (.slice (some ⟨h4, 0, none⟩) 1 1) [⟨1, 0, .slice none 0 0, []⟩]) := hid (ops_lit (l := [⟨1, 0, .slice none 0 0, []⟩]) (fun x hx => by
      rw [List.mem_singleton] at hx
      subst hx
      exact ⟨⟨(fun s (hs : s ∈ []) => by cases hs), arr_nil _ _⟩, nilOk_nil, (by unfold R64; dsimp only; omega), (by unfold R64; dsimp only; omega)⟩) (by simp) hz4)
    have hBX4 : Below W18.heap.size W18 X4 := hBX3.trans (hb4.mono hBX3.size)
    have HO4 := hid (own_keep HO3.out (keep_below hb4))
    rw [hX4, hh4]
    clear hHeld hX4 hh4 hb4 hz4
    have hHeld := True.intro
    refine hK.out _ _ (fun _ => hHeld) ?_
    clear hK K
    (try simp only [Act.put, List.setIfInBounds_toArray, List.set_cons_zero, List.set_cons_succ])
    refine' wpAnyT_one (i := 7) (o := ?ois7) (by kernel_rfl) ?his7 (fun K hK => ?sts7)
    case his7 => (simp only [List.getElem?_toArray, List.getElem?_cons_zero, List.getElem?_cons_succ]; rfl)
    refine step_append_ops rfl (.tmp 107) (.tmp 109) rfl W18.heap.size v2 _ _ (by simp [Act.eval]) HO4.out [⟨1, 0, .slice none 0 0, []⟩] (.slice (some ⟨h4, 0, none⟩) 1 1) (by simp [Act.eval]) HL4.out (nilOk_some _ _ _) (by rw [HTK.out, List.length_singleton]; omega) hBX4.size ?_
    intro v5 X5 ho5 hg5
    have hBX5 : Below W18.heap.size W18 X5 := below_own hBX4 HO4.out hg5 hBX4.size (Nat.le_refl _)
    have HO5 := hid ho5
    clear hHeld ho5 hg5
    have hHeld := True.intro
    refine hK.out _ _ (fun _ => hHeld) ?_
    clear hK K
    refine' wpAnyT_one (i := 11) (o := ?ois11) (by kernel_rfl) ?his11 (fun K hK => ?sts11)
    case his11 => (simp only [List.getElem?_toArray, List.getElem?_cons_zero, List.getElem?_cons_succ]; rfl)
    refine step_append_ops rfl (.tmp 110) (.tmp 113) rfl W18.heap.size v5 _ _ (by simp [Act.eval, Act.put]) HO5.out (ops.drop kN) (.slice FA dq fc) (by simp [Act.eval, Act.put]) (HOD.out X5 hBX5) HND.out (by rw [HTK.out, List.length_singleton, HDQ.out]; omega) hBX5.size ?_
    intro v6 X6 ho6 hg6
    have hBX6 : Below W18.heap.size W18 X6 := below_own hBX5 HO5.out hg6 hBX5.size (Nat.le_refl _)
    have HO6 := hid ho6
    clear hHeld ho6 hg6
    have hHeld := True.intro
    refine hK.out _ _ (fun _ => hHeld) ?_
    clear hK K
    refine' wpAnyT_one (i := 12) (o := ?ois12) (by kernel_rfl) ?his12 (fun K hK => ?sts12)
    case his12 => (simp only [List.getElem?_toArray, List.getElem?_cons_zero, List.getElem?_cons_succ]; rfl)
    go_simp
    refine hK.out _ _ (fun h => absurd h (by decide)) ?_
    clear hK K
    (try simp only [Act.put, List.setIfInBounds_toArray, List.set_cons_zero, List.set_cons_succ])
    refine wpAnyT_done (by kernel_rfl) ?_ _
    obtain ⟨more, hmore⟩ : ∃ l, ops.take kN ++ ⟨1, 0, .slice none 0 0, []⟩ :: ops.drop kN = l := ⟨_, rfl⟩
    obtain ⟨oq, hoq⟩ : ∃ q, on + 1 = q := ⟨_, rfl⟩
    have hml : more.length = oq := by rw [← hmore, List.length_append, List.length_cons, HTK.out, HDQ.out]; omega
    have hmt : tot more ≤ 400 := by
      rw [← hmore, tot_app, tot]
      have h := tot_app (ops.take kN) (ops.drop kN)
      rw [List.take_append_drop] at h
      simp only [List.length_nil]
      omega
    have HMA6 : Hid (OpsA X6 v6 more) := hid (by
      have h := HO6.out
      have e : [] ++ ((ops.take kN).map cOp).flatten ++ (([⟨1, 0, .slice none 0 0, []⟩] : List OpT).map cOp).flatten ++ ((ops.drop kN).map cOp).flatten = (more.map cOp).flatten := by
        rw [← hmore, List.map_append, List.map_cons, List.flatten_append, List.flatten_cons]
        simp
      rw [e] at h
      refine ops_of_own h (by rw [hml, HTK.out, HDQ.out, List.length_singleton]; omega) (fun x hx => ?_)
      rw [← hmore] at hx
      rcases List.mem_append.1 hx with hx | hx
      · exact (ops_take (HOP.out X6 hBX6) hko).1 x hx
      · rcases List.mem_cons.1 hx with rfl | hx
        · exact ⟨⟨(fun s (hs : s ∈ []) => by cases hs), arr_nil _ _⟩, nilOk_nil, (by unfold R64; dsimp only; omega), (by unfold R64; dsimp only; omega)⟩
        · exact (HOD.out X6 hBX6).1 x hx)
    obtain ⟨E6, ec6, rfl⟩ := ops_form HMA6.out
    rw [hml] at HMA6
    rw [hml]
    have hin := HIN.out
    rw [hmore, hml] at hin
    have hp7 := HP7.out X6 (below_both HB78.out (HB818.out.trans (hBX6.mono HB818.out.size)))
    have hd7 := HD7.out X6 (below_both HB78.out (HB818.out.trans (hBX6.mono HB818.out.size)))
    have HIT := hid (by
      have h := interrupt_any (List.replicate n zs) [] _ _ _ _ more (oq : Int) l X6 hp7.2.1 hp7.2.2.1 hp7.2.2.2 HMA6.out hd7.2.1 (by rw [List.length_replicate]; omega) (by rw [List.length_nil]; omega) (by rw [HLM.out]; omega) ⟨by omega, by omega⟩
      rw [hin] at h
      exact h)
    have x0 := cell_of_row _ _ 0 _ _ _ hp7.1
    have x1 := cell_of_row _ _ 1 _ _ _ hp7.1
    have y1 := cell_of_row _ _ 1 _ _ _ hd7.2.2
    have HITO := hid (fun (X X' : World) (e : Ending) (h : IntQ X (0, ys, [], yl) e X') => (by
      obtain ⟨v, u, rfl, ho, h4, hb⟩ := h
      dsimp only at ho h4
      obtain ⟨A, c, B, d, rfl⟩ := own_form ho
      obtain ⟨U, uc, rfl⟩ := own_formE h4
      rw [HYN.out, List.length_nil] at ho ⊢
      exact ⟨A, c, B, d, U, uc, rfl, ho.dk, hb⟩ : ∃ A c B d U uc, e = .returned (.tuple #[.agg #[.slice A n c, .slice B 0 d], .slice U yl.length uc, .int .i64 0]) ∧ Dk X' (.agg #[.slice A n c, .slice B 0 d]) ys [] ∧ Below X.heap.size X X'))
    have HB186 := hid hBX6
    have HOQ := hid hoq
    clear hin hp7 hd7 hmore hml hmt hoq
    go_upto_region 17 with (go_at_call 34; refine HIT.out.mono ?_; intro e X19 hQ; obtain ⟨A20, c20, B20, d20, U20, uc20, rfl, hk20, hb19⟩ := HITO.out _ _ _ hQ; have HK20 := hid hk20; have HB19 := hid hb19; clear hQ hk20 hb19)
    clear x0 x1 y1
    obtain ⟨W20, hW20⟩ : ∃ X, X19.alloc (.cells #[.slice A20 n c20, .slice B20 0 d20] 25) = X := ⟨_, rfl⟩
    obtain ⟨p20, hp20⟩ : ∃ p, X19.heap.size = p := ⟨_, rfl⟩
    have hb20 : Below X19.heap.size X19 W20 := by rw [← hW20]; exact al1 _ _
    have hx20 : W20.heap[p20]? = some (.cells #[.slice A20 n c20, .slice B20 0 d20] 25) := by rw [← hW20, ← hp20]; exact heap_alloc_new _ _
    rw [hW20, hp20]
    have HB1820 : Hid (Below W18.heap.size W18 W20) := hid (HB186.out.trans ((below_both HB19.out hb20).mono HB186.out.size))
    have HP20 := hid (fun X (hX : Below W20.heap.size W20 X) => (show X.heap[p20]? = some (.cells #[.slice A20 n c20, .slice B20 0 d20] 25) ∧ Sec X (.slice A20 n c20) ys ∧ X.heap[p18]? = some (.cells #[.slice A18 n c18, .slice B18 0 d18] 25) ∧ Sec X (.slice A18 n c18) (newL st1 ca1) ∧ OpsA X (.slice FA dq fc) (ops.drop kN) from (by
      have hY := HB1820.out.trans (hX.mono HB1820.out.size)
      exact ⟨(hX.block _ (box_lt hx20)).trans hx20, (dk_parts ((HK20.out.below hb20).below hX)).1, (HP18.out X hY).1, (HP18.out X hY).2, HOD.out X hY⟩)))
    have HBW20 : Hid (Below W8.heap.size W8 W20) := hid (HB818.out.trans (HB1820.out.mono HB818.out.size))
    have hp20' := HP20.out W20 (Below.refl _ _)
    have x0 := cell_of_row _ _ 0 _ _ _ hp20'.1
    have y0 := cell_of_row _ _ 0 _ _ _ hp20'.2.2.1
    have dnn : ((n : Int) != (n : Int)) = false := by simp
    clear hW20 hp20 hb20 hx20 hp20'
    go_upto_region 21 with fail
    clear x0 y0 dnn hslt hsld
    obtain ⟨dr, hdr⟩ : ∃ l, ops.drop kN = l := ⟨_, rfl⟩
    have hdrl := HDQ.out
    have hdrt := htd
    rw [hdr] at hdrl hdrt HP20 HYS
    have HDL := hid hdrl
    clear hdr hdrl
    obtain ⟨i0, hi, hz0, hz1, hz2⟩ := info_parts Xt.info29
    go_loopw [141, 23] (fun jv Lx wr => ∃ (j : Nat) (Lv : Value), j ≤ dq ∧ jv = .int .i64 (j : Int) ∧ Lv = Lx ∧ Hid (wr.ownsRow W20.heap.size 29 2 Lv (wrl (dr.take j)).length (Xt.xflat (wrl (dr.take j)))) ∧ Hid (Below W20.heap.size W20 wr)) (fun jv _ _ => dq - (Go.RowKit.intOf jv).toNat)
    case atStart => exact ⟨0, _, Nat.zero_le _, rfl, rfl, hid (World.ownsRow_nil _ _ _ _), hid (Below.refl _ _)⟩
    case round =>
      obtain ⟨j, Lv, hj, rfl, rfl, HO, HB⟩ := hrel
      by_cases hjd : j < dq
      · have e1 : decide ((j : Int) < (dq : Int)) = true := decide_eq_true (by omega)
        have hjd' : (j : Int) < (dq : Int) := by omega
        have hopd := (HP20.out wr HB.out).2.2.2.2
        obtain ⟨b, off, rfl, hbl, hcc⟩ := ops_at hopd (by rw [HDL.out]; omega)
        obtain ⟨x, hx⟩ : ∃ x, dr[j]? = some x := ⟨dr[j]'(by rw [HDL.out]; exact hjd), List.getElem?_eq_getElem _⟩
        have hxok := hopd.1 x (List.mem_of_getElem? hx)
        have HTS := hid (show dr.take (j + 1) = dr.take j ++ [x] from by rw [List.take_add_one, hx]; rfl)
        obtain ⟨k, a, dv, dl⟩ := x
        dsimp only at hxok
        obtain ⟨dA, dc, rfl⟩ := sec_form hxok.1
        obtain ⟨mm, hmm⟩ : ∃ m, dl.length = m := ⟨_, rfl⟩
        have HWS := hid (wrl_snoc (dr.take j) ⟨k, a, .slice dA dl.length dc, dl⟩)
        have q0 := hcc j _ hx 0 (.int .i64 k) rfl
        have q1 := hcc j _ hx 1 (.int .i64 a) rfl
        have q2 := hcc j _ hx 2 (.slice dA dl.length dc) rfl
        rw [Nat.add_zero] at q0
        rw [hmm] at q2
        dsimp only at HWS
        rw [hmm] at HWS HTS
        have HWL : Hid ((wrl (dr.take j)).length ≤ 60) := hid (by
          have h1 := wrl_len (dr.take j)
          rw [List.length_take, HDL.out] at h1
          omega)
        clear hopd hcc hx hxok hmm
        go_upto_region 23 with fail
        clear q0 q1 q2
        obtain ⟨W25, hW25⟩ : ∃ X, wr.alloc (.cells #[.int .i64 k, .int .i64 a, .slice dA mm dc] 27) = X := ⟨_, rfl⟩
        obtain ⟨p25, hp25⟩ : ∃ p, wr.heap.size = p := ⟨_, rfl⟩
        have hb25 : Below wr.heap.size wr W25 := by rw [← hW25]; exact al1 _ _
        have hx25 : W25.heap[p25]? = some (.cells #[.int .i64 k, .int .i64 a, .slice dA mm dc] 27) := by rw [← hW25, ← hp25]; exact heap_alloc_new _ _
        rw [hW25, hp25]
        have HB25 : Hid (Below W20.heap.size W20 W25) := hid (HB.out.trans (hb25.mono HB.out.size))
        have hown : W25.ownsRow W20.heap.size 29 2 Lv (wrl (dr.take j)).length (Xt.xflat (wrl (dr.take j))) := own_keep HO.out (keep_below hb25)
        have z0 := cell_of_row _ _ 0 _ _ _ hx25
        have z1 := cell_of_row _ _ 1 _ _ _ hx25
        have z2 := cell_of_row _ _ 2 _ _ _ hx25
        clear hW25 hp25 hb25 hx25
        by_cases hk : k = 0
        · subst hk
          have hb29 := fun X => Xt.build29 a (mm : Int) X
          have hDw : W20.heap.size ≤ W25.heap.size := HB25.out.size
          have hwl := HWL.out
          go_wp2_with (at_builtin; refine wpList_append_own _ rfl _ _ 52 rfl W20.heap.size 29 i0 (.agg #[.int .i64 0, .int .i64 0]) 2 16 Try.underlying52 hi hz0 hz1 hz2 rfl (by decide) _ _ _ rfl (hown.alloc _) ⟨W25.heap.size, 0, none⟩ 1 1 _ rfl (Xt.xflat_length [(a, (mm : Int))]) (Xt.cells_new W25 29 _) (Xt.one_cells _ _) (by unfold maxLen; omega) (by omega) (by simp; omega) ?_)
          intro v' w2 hown2 hgrow _
          have HBw2 : Hid (Below W20.heap.size W20 w2) := hid ((HB25.out.alloc hDw _).grown hgrow (by simp; omega) (fun k hk => (hown.lt k hk).1))
          have HO2 := hid hown2
          clear hown2 hgrow hown hb29 z0 z1 z2
          go_wp2_with fail
          go_roundw
          case rel =>
            refine ⟨j + 1, v', by omega, by go_num, rfl, hid ?_, HBw2⟩
            have h := HO2.out
            rw [HTS.out, HWS.out]
            first | rw [if_pos rfl] | rw [if_pos trivial]
            rw [List.length_append, Xt.xflat_append]
            exact h
          case measure => simp [Go.RowKit.intOf]; omega
        · have f1 : (k == 0) = false := by simpa using hk
          have f2 : decide (k = 0) = false := decide_eq_false hk
          have HO2 : Hid (W25.ownsRow W20.heap.size 29 2 Lv (wrl (dr.take (j + 1))).length (Xt.xflat (wrl (dr.take (j + 1))))) := hid (by
            rw [HTS.out, HWS.out, if_neg hk]
            exact hown)
          clear hown
          go_wp2_with fail
          go_roundw
          case rel => exact ⟨j + 1, Lv, by omega, by go_num, rfl, HO2, HB25⟩
          case measure => simp [Go.RowKit.intOf]; omega
      · obtain rfl : dq = j := by omega
        have e1 : decide ((dq : Int) < (dq : Int)) = false := decide_eq_false (by omega)
        have hta : dr.take dq = dr := List.take_of_length_le (by rw [HDL.out]; exact Nat.le_refl _)
        rw [hta] at HO
        obtain ⟨LA, lcp, rfl⟩ := ownAny_form HO.out
        have HEX : Hid (Xt.Ext wr (.slice LA (wrl dr).length lcp) (wrl dr)) := hid (Xt.ext_of_own (base := W20.heap.size) HO.out (fun e he => by
          obtain ⟨x, hx, hk, rfl⟩ := wrl_of he
          have h1 := ((HP20.out wr HB.out).2.2.2.2.1 x hx).2.2.2
          have h2 := tot_mem hx
          exact ⟨h1, ⟨by dsimp only; omega, by dsimp only; omega⟩⟩))
        have HWL : Hid ((wrl dr).length ≤ 60) := hid (by
          have h1 := wrl_len dr
          rw [HDL.out] at h1
          omega)
        obtain ⟨Wr, hWr⟩ : ∃ X, X = wr := ⟨_, rfl⟩
        subst hWr
        have hp := HP20.out Wr HB.out
        have x0 := cell_of_row _ _ 0 _ _ _ hp.1
        clear hp hta
        go_upto_region 27 with fail
        clear x0
        go_loopw [161] (fun iv wr => ∃ i : Nat, i ≤ n ∧ iv = .int .i64 (i : Int) ∧ Hid (Below Wr.heap.size Wr wr)) (fun iv _ => n - (Go.RowKit.intOf iv).toNat)
        case atStart => exact ⟨0, Nat.zero_le _, rfl, hid (Below.refl _ _)⟩
        case round =>
        obtain ⟨i, hi', rfl, HBi⟩ := hrel
        have HB2 : Hid (Below W20.heap.size W20 wr) := hid (HB.out.trans (HBi.out.mono HB.out.size))
        by_cases hin : i < n
        · have d0 : decide ((i : Int) < (n : Int)) = true := decide_eq_true (by omega)
          have hin' : (i : Int) < (n : Int) := by omega
          obtain ⟨mb, hmb⟩ : ∃ b, Xt.mem (wrl dr) (i : Int) = b := ⟨_, rfl⟩
          have HCT := hid (fun X (hX : Below wr.heap.size wr X) => (by
            have h := Xt.contains_any (wrl dr) (.slice LA (wrl dr).length lcp) (i : Int) X ((HEX.out.below HBi.out).below hX) (by have := HWL.out; omega)
            rw [hmb] at h
            exact h : Calls Try.prog 37 #[.slice LA (wrl dr).length lcp, .int .i64 (i : Int)] X fun e w' => e = .returned (.bool mb) ∧ Below X.heap.size X w'))
          have HMB := hid hmb
          clear hmb
          rcases mb with _ | _
          · have hp := HP20.out wr HB2.out
            obtain ⟨yb, yo, rfl, hyb, hyc⟩ := arr_at1 hp.2.1.2 (by rw [List.length_map, HYN.out]; omega)
            obtain ⟨nb, no, rfl, hnb, hnc⟩ := arr_at1 hp.2.2.2.1.2 (by rw [List.length_map, HNN.out]; omega)
            obtain ⟨s, hs⟩ : ∃ s, ys[i]? = some s := ⟨ys[i]'(by rw [HYN.out]; exact hin), List.getElem?_eq_getElem _⟩
            have hs2 := HYS.out i s (fun x hx hk hh => by
              have h1 := wrl_mem hx hk
              have h2 := HMB.out
              unfold Xt.mem at h2
              rw [List.any_eq_false] at h2
              exact h2 _ h1 (Xt.inE_iff.2 ⟨by omega, by omega, hh.1, hh.2⟩)) hs
            have h8 := hp.2.1.1 s (List.mem_of_getElem? hs)
            have HYC := hid (fun (t : Nat) (u : Value) (hu : (cSec s)[t]? = some u) => hyc i _ (by rw [List.getElem?_map, hs]; rfl) t u hu)
            have HNC := hid (fun (t : Nat) (u : Value) (hu : (cSec s)[t]? = some u) => hnc i _ (by rw [List.getElem?_map, hs2]; rfl) t u hu)
            obtain ⟨s0, s1, s2, s3, s4, s5, s6, s7, rfl⟩ := list8 h8.1
            have heq : ∀ W : World, (Op.equalIn 10000 73 (.agg #[.int .u8 (s0 : Int), .int .u8 (s1 : Int), .int .u8 (s2 : Int), .int .u8 (s3 : Int), .int .u8 (s4 : Int), .int .u8 (s5 : Int), .int .u8 (s6 : Int), .int .u8 (s7 : Int)]) (.agg #[.int .u8 (s0 : Int), .int .u8 (s1 : Int), .int .u8 (s2 : Int), .int .u8 (s3 : Int), .int .u8 (s4 : Int), .int .u8 (s5 : Int), .int .u8 (s6 : Int), .int .u8 (s7 : Int)])).run Try.prog W = .ok true W := fun W => by
              have h := eql_sec [s0, s1, s2, s3, s4, s5, s6, s7] [s0, s1, s2, s3, s4, s5, s6, s7] rfl rfl h8.2 h8.2 W
              rw [decide_eq_true rfl] at h
              exact h
            have HK := hid (fun (X : World) (hX : Below wr.heap.size wr X) => (show X.cell? ⟨p20, 0, none⟩ = some (.slice (some ⟨yb, yo, none⟩) n c20) ∧ X.cell? ⟨p18, 0, none⟩ = some (.slice (some ⟨nb, no, none⟩) n c18) ∧ X.cell? ⟨yb, yo + i * 8, none⟩ = some (.int .u8 (s0 : Int)) ∧ X.cell? ⟨yb, yo + i * 8 + 1, none⟩ = some (.int .u8 (s1 : Int)) ∧ X.cell? ⟨yb, yo + i * 8 + 2, none⟩ = some (.int .u8 (s2 : Int)) ∧ X.cell? ⟨yb, yo + i * 8 + 3, none⟩ = some (.int .u8 (s3 : Int)) ∧ X.cell? ⟨yb, yo + i * 8 + 4, none⟩ = some (.int .u8 (s4 : Int)) ∧ X.cell? ⟨yb, yo + i * 8 + 5, none⟩ = some (.int .u8 (s5 : Int)) ∧ X.cell? ⟨yb, yo + i * 8 + 6, none⟩ = some (.int .u8 (s6 : Int)) ∧ X.cell? ⟨yb, yo + i * 8 + 7, none⟩ = some (.int .u8 (s7 : Int)) ∧ X.cell? ⟨nb, no + i * 8, none⟩ = some (.int .u8 (s0 : Int)) ∧ X.cell? ⟨nb, no + i * 8 + 1, none⟩ = some (.int .u8 (s1 : Int)) ∧ X.cell? ⟨nb, no + i * 8 + 2, none⟩ = some (.int .u8 (s2 : Int)) ∧ X.cell? ⟨nb, no + i * 8 + 3, none⟩ = some (.int .u8 (s3 : Int)) ∧ X.cell? ⟨nb, no + i * 8 + 4, none⟩ = some (.int .u8 (s4 : Int)) ∧ X.cell? ⟨nb, no + i * 8 + 5, none⟩ = some (.int .u8 (s5 : Int)) ∧ X.cell? ⟨nb, no + i * 8 + 6, none⟩ = some (.int .u8 (s6 : Int)) ∧ X.cell? ⟨nb, no + i * 8 + 7, none⟩ = some (.int .u8 (s7 : Int)) from (by
              have g1 := HP20.out X (HB2.out.trans (hX.mono HB2.out.size))
              have g2 : ∀ (t : Nat) (u : Value), (cSec [s0, s1, s2, s3, s4, s5, s6, s7])[t]? = some u → X.cell? ⟨yb, yo + i * 8 + t, none⟩ = some u := fun t u hu => by
                have h := HYC.out t u hu
                unfold World.cell? at h ⊢
                rw [hX.block yb hyb]
                exact h
              have g3 : ∀ (t : Nat) (u : Value), (cSec [s0, s1, s2, s3, s4, s5, s6, s7])[t]? = some u → X.cell? ⟨nb, no + i * 8 + t, none⟩ = some u := fun t u hu => by
                have h := HNC.out t u hu
                unfold World.cell? at h ⊢
                rw [hX.block nb hnb]
                exact h
              exact ⟨cell_of_row _ _ 0 _ _ _ g1.1, cell_of_row _ _ 0 _ _ _ g1.2.2.1, g2 0 _ rfl, g2 1 _ rfl, g2 2 _ rfl, g2 3 _ rfl, g2 4 _ rfl, g2 5 _ rfl, g2 6 _ rfl, g2 7 _ rfl, g3 0 _ rfl, g3 1 _ rfl, g3 2 _ rfl, g3 3 _ rfl, g3 4 _ rfl, g3 5 _ rfl, g3 6 _ rfl, g3 7 _ rfl⟩)))
            clear hp hyb hyc hnb hnc hs hs2 h8
            go_upto_region 29 with fail
            refine region_tail 16 (fun X => X.cell? ⟨p20, 0, none⟩ = some (.slice (some ⟨yb, yo, none⟩) n c20) ∧ X.cell? ⟨p18, 0, none⟩ = some (.slice (some ⟨nb, no, none⟩) n c18) ∧ X.cell? ⟨yb, yo + i * 8, none⟩ = some (.int .u8 (s0 : Int)) ∧ X.cell? ⟨yb, yo + i * 8 + 1, none⟩ = some (.int .u8 (s1 : Int)) ∧ X.cell? ⟨yb, yo + i * 8 + 2, none⟩ = some (.int .u8 (s2 : Int)) ∧ X.cell? ⟨yb, yo + i * 8 + 3, none⟩ = some (.int .u8 (s3 : Int)) ∧ X.cell? ⟨yb, yo + i * 8 + 4, none⟩ = some (.int .u8 (s4 : Int)) ∧ X.cell? ⟨yb, yo + i * 8 + 5, none⟩ = some (.int .u8 (s5 : Int)) ∧ X.cell? ⟨yb, yo + i * 8 + 6, none⟩ = some (.int .u8 (s6 : Int)) ∧ X.cell? ⟨yb, yo + i * 8 + 7, none⟩ = some (.int .u8 (s7 : Int)) ∧ X.cell? ⟨nb, no + i * 8, none⟩ = some (.int .u8 (s0 : Int)) ∧ X.cell? ⟨nb, no + i * 8 + 1, none⟩ = some (.int .u8 (s1 : Int)) ∧ X.cell? ⟨nb, no + i * 8 + 2, none⟩ = some (.int .u8 (s2 : Int)) ∧ X.cell? ⟨nb, no + i * 8 + 3, none⟩ = some (.int .u8 (s3 : Int)) ∧ X.cell? ⟨nb, no + i * 8 + 4, none⟩ = some (.int .u8 (s4 : Int)) ∧ X.cell? ⟨nb, no + i * 8 + 5, none⟩ = some (.int .u8 (s5 : Int)) ∧ X.cell? ⟨nb, no + i * 8 + 6, none⟩ = some (.int .u8 (s6 : Int)) ∧ X.cell? ⟨nb, no + i * 8 + 7, none⟩ = some (.int .u8 (s7 : Int))) (by kernel_rfl) ?_
            obtain ⟨X0, hX0⟩ : ∃ X, wr.drew = X := ⟨_, rfl⟩
            have hBX0 : Below wr.heap.size wr X0 := by rw [← hX0]; exact (Below.refl wr.heap.size wr).drew
            have hHeld := HK.out X0 hBX0
            rw [hX0]
            clear hX0
            refine' wpAnyT_take (i := 0) (oi := ?oix0) (v := ?vx0) ?hix0 (by kernel_rfl) (by kernel_rfl) ?hqx0 ?hyx0 hHeld ?restx0
            case hix0 => (simp only [List.getElem?_toArray, List.getElem?_cons_zero]; rfl)
            case hqx0 => exact fun _ _ _ h => h
            case hyx0 => (refine Or.inl ⟨by rfl, ?_⟩; intro w' hSw; (try dsimp only at hSw); go_simp; try with_reducible rfl)
            (try simp only [Act.put, List.setIfInBounds_toArray, List.set_cons_zero, List.set_cons_succ])
            refine' wpAnyT_take (i := 1) (oi := ?oix1) (v := ?vx1) ?hix1 (by kernel_rfl) (by kernel_rfl) ?hqx1 ?hyx1 hHeld ?restx1
            case hix1 => (simp only [List.getElem?_toArray, List.getElem?_cons_zero, List.getElem?_cons_succ]; rfl)
            case hqx1 => exact fun _ _ _ h => h
            case hyx1 => (refine Or.inl ⟨by rfl, ?_⟩; intro w' hSw; (try dsimp only at hSw); go_simp; try with_reducible rfl)
            (try simp only [Act.put, List.setIfInBounds_toArray, List.set_cons_zero, List.set_cons_succ])
            refine' wpAnyT_one (i := 2) (o := ?oix2) (by kernel_rfl) ?hix2 (fun K hK => ?stx2)
            case hix2 => (simp only [List.getElem?_toArray, List.getElem?_cons_zero, List.getElem?_cons_succ]; rfl)
            go_simp
            go_at_call 37
            refine (HCT.out X0 hBX0).mono ?_
            rintro e X1 ⟨rfl, hb⟩
            have hBX1 : Below wr.heap.size wr X1 := hBX0.trans (hb.mono hBX0.size)
            clear hHeld hb
            have hHeld := HK.out X1 hBX1
            refine hK.out _ _ (fun _ => hHeld) ?_
            clear hK K
            (try simp only [Act.put, List.setIfInBounds_toArray, List.set_cons_zero, List.set_cons_succ])
            refine' wpAnyT_take (i := 3) (oi := ?oix3) (v := ?vx3) ?hix3 (by kernel_rfl) (by kernel_rfl) ?hqx3 ?hyx3 hHeld ?restx3
            case hix3 => (simp only [List.getElem?_toArray, List.getElem?_cons_zero, List.getElem?_cons_succ]; rfl)
            case hqx3 => exact fun _ _ _ h => h
            case hyx3 => (refine Or.inl ⟨by rfl, ?_⟩; intro w' hSw; (try dsimp only at hSw); go_simp; try with_reducible rfl)
            (try simp only [Act.put, List.setIfInBounds_toArray, List.set_cons_zero, List.set_cons_succ])
            refine' wpAnyT_take (i := 4) (oi := ?oix4) (v := ?vx4) ?hix4 (by kernel_rfl) (by kernel_rfl) ?hqx4 ?hyx4 hHeld ?restx4
            case hix4 => (simp only [List.getElem?_toArray, List.getElem?_cons_zero, List.getElem?_cons_succ]; rfl)
            case hqx4 => exact fun _ _ _ h => h
            case hyx4 => (refine Or.inl ⟨by rfl, ?_⟩; intro w' hSw; (try dsimp only at hSw); go_simp; try with_reducible rfl)
            (try simp only [Act.put, List.setIfInBounds_toArray, List.set_cons_zero, List.set_cons_succ])
            refine' wpAnyT_take (i := 5) (oi := ?oix5) (v := ?vx5) ?hix5 (by kernel_rfl) (by kernel_rfl) ?hqx5 ?hyx5 hHeld ?restx5
            case hix5 => (simp only [List.getElem?_toArray, List.getElem?_cons_zero, List.getElem?_cons_succ]; rfl)
            case hqx5 => exact fun _ _ _ h => h
            case hyx5 => (refine Or.inl ⟨by rfl, ?_⟩; intro w' hSw; (try dsimp only at hSw); go_simp; try with_reducible rfl)
            (try simp only [Act.put, List.setIfInBounds_toArray, List.set_cons_zero, List.set_cons_succ])
            refine' wpAnyT_take (i := 6) (oi := ?oix6) (v := ?vx6) ?hix6 (by kernel_rfl) (by kernel_rfl) ?hqx6 ?hyx6 hHeld ?restx6
            case hix6 => (simp only [List.getElem?_toArray, List.getElem?_cons_zero, List.getElem?_cons_succ]; rfl)
            case hqx6 => exact fun _ _ _ h => h
            case hyx6 => (refine Or.inl ⟨by rfl, ?_⟩; intro w' hSw; (try dsimp only at hSw); go_simp; try with_reducible rfl)
            (try simp only [Act.put, List.setIfInBounds_toArray, List.set_cons_zero, List.set_cons_succ])
            refine' wpAnyT_take (i := 7) (oi := ?oix7) (v := ?vx7) ?hix7 (by kernel_rfl) (by kernel_rfl) ?hqx7 ?hyx7 hHeld ?restx7
            case hix7 => (simp only [List.getElem?_toArray, List.getElem?_cons_zero, List.getElem?_cons_succ]; rfl)
            case hqx7 => exact fun _ _ _ h => h
            case hyx7 => (refine Or.inl ⟨by rfl, ?_⟩; intro w' hSw; (try dsimp only at hSw); go_simp; try with_reducible rfl)
            (try simp only [Act.put, List.setIfInBounds_toArray, List.set_cons_zero, List.set_cons_succ])
            refine' wpAnyT_take (i := 8) (oi := ?oix8) (v := ?vx8) ?hix8 (by kernel_rfl) (by kernel_rfl) ?hqx8 ?hyx8 hHeld ?restx8
            case hix8 => (simp only [List.getElem?_toArray, List.getElem?_cons_zero, List.getElem?_cons_succ]; rfl)
            case hqx8 => exact fun _ _ _ h => h
            case hyx8 => (refine Or.inl ⟨by rfl, ?_⟩; intro w' hSw; (try dsimp only at hSw); go_simp; try with_reducible rfl)
            (try simp only [Act.put, List.setIfInBounds_toArray, List.set_cons_zero, List.set_cons_succ])
            refine' wpAnyT_take (i := 9) (oi := ?oix9) (v := ?vx9) ?hix9 (by kernel_rfl) (by kernel_rfl) ?hqx9 ?hyx9 hHeld ?restx9
            case hix9 => (simp only [List.getElem?_toArray, List.getElem?_cons_zero, List.getElem?_cons_succ]; rfl)
            case hqx9 => exact fun _ _ _ h => h
            case hyx9 => (refine Or.inl ⟨by rfl, ?_⟩; intro w' hSw; (try dsimp only at hSw); go_simp; try with_reducible rfl)
            (try simp only [Act.put, List.setIfInBounds_toArray, List.set_cons_zero, List.set_cons_succ])
            refine' wpAnyT_take (i := 10) (oi := ?oix10) (v := ?vx10) ?hix10 (by kernel_rfl) (by kernel_rfl) ?hqx10 ?hyx10 hHeld ?restx10
            case hix10 => (simp only [List.getElem?_toArray, List.getElem?_cons_zero, List.getElem?_cons_succ]; rfl)
            case hqx10 => exact fun _ _ _ h => h
            case hyx10 => (refine Or.inl ⟨by rfl, ?_⟩; intro w' hSw; (try dsimp only at hSw); go_simp; try with_reducible rfl)
            (try simp only [Act.put, List.setIfInBounds_toArray, List.set_cons_zero, List.set_cons_succ])
            refine' wpAnyT_take (i := 11) (oi := ?oix11) (v := ?vx11) ?hix11 (by kernel_rfl) (by kernel_rfl) ?hqx11 ?hyx11 hHeld ?restx11
            case hix11 => (simp only [List.getElem?_toArray, List.getElem?_cons_zero, List.getElem?_cons_succ]; rfl)
            case hqx11 => exact fun _ _ _ h => h
            case hyx11 => (refine Or.inl ⟨by rfl, ?_⟩; intro w' hSw; (try dsimp only at hSw); go_simp; try with_reducible rfl)
            (try simp only [Act.put, List.setIfInBounds_toArray, List.set_cons_zero, List.set_cons_succ])
            refine' wpAnyT_take (i := 12) (oi := ?oix12) (v := ?vx12) ?hix12 (by kernel_rfl) (by kernel_rfl) ?hqx12 ?hyx12 hHeld ?restx12
            case hix12 => (simp only [List.getElem?_toArray, List.getElem?_cons_zero, List.getElem?_cons_succ]; rfl)
            case hqx12 => exact fun _ _ _ h => h
            case hyx12 => (refine Or.inl ⟨by rfl, ?_⟩; intro w' hSw; (try dsimp only at hSw); go_simp; try with_reducible rfl)
            (try simp only [Act.put, List.setIfInBounds_toArray, List.set_cons_zero, List.set_cons_succ])
            refine' wpAnyT_take (i := 13) (oi := ?oix13) (v := ?vx13) ?hix13 (by kernel_rfl) (by kernel_rfl) ?hqx13 ?hyx13 hHeld ?restx13
            case hix13 => (simp only [List.getElem?_toArray, List.getElem?_cons_zero, List.getElem?_cons_succ]; rfl)
            case hqx13 => exact fun _ _ _ h => h
            case hyx13 => (refine Or.inl ⟨by rfl, ?_⟩; intro w' hSw; (try dsimp only at hSw); go_simp; try with_reducible rfl)
            (try simp only [Act.put, List.setIfInBounds_toArray, List.set_cons_zero, List.set_cons_succ])
            refine' wpAnyT_take (i := 14) (oi := ?oix14) (v := ?vx14) ?hix14 (by kernel_rfl) (by kernel_rfl) ?hqx14 ?hyx14 hHeld ?restx14
            case hix14 => (simp only [List.getElem?_toArray, List.getElem?_cons_zero, List.getElem?_cons_succ]; rfl)
            case hqx14 => exact fun _ _ _ h => h
            case hyx14 => (refine Or.inl ⟨by rfl, ?_⟩; intro w' hSw; (try dsimp only at hSw); go_simp; try with_reducible rfl)
            (try simp only [Act.put, List.setIfInBounds_toArray, List.set_cons_zero, List.set_cons_succ])
            refine' wpAnyT_take (i := 15) (oi := ?oix15) (v := ?vx15) ?hix15 (by kernel_rfl) (by kernel_rfl) ?hqx15 ?hyx15 hHeld ?restx15
            case hix15 => (simp only [List.getElem?_toArray, List.getElem?_cons_zero, List.getElem?_cons_succ]; rfl)
            case hqx15 => exact fun _ _ _ h => h
            case hyx15 => (refine Or.inl ⟨by rfl, ?_⟩; intro w' hSw; (try dsimp only at hSw); go_simp; try with_reducible rfl)
            (try simp only [Act.put, List.setIfInBounds_toArray, List.set_cons_zero, List.set_cons_succ])
            refine' wpAnyT_one (i := 16) (o := ?oix16) (by kernel_rfl) ?hix16 (fun K hK => ?stx16)
            case hix16 => (simp only [List.getElem?_toArray, List.getElem?_cons_zero, List.getElem?_cons_succ]; rfl)
            go_simp
            refine hK.out _ _ (fun h => absurd h (by decide)) ?_
            clear hK K
            (try simp only [Act.put, List.setIfInBounds_toArray, List.set_cons_zero, List.set_cons_succ])
            refine wpAnyT_done (by kernel_rfl) ?_ _
            go_wp2_with fail
            go_roundw
            case rel => exact ⟨i + 1, by omega, by go_num, hid (HBi.out.trans (hBX1.mono HBi.out.size))⟩
            case measure => simp [Go.RowKit.intOf]; omega
          · go_upto_region 29 with fail
            refine region_tail 16 (fun _ => True) (by kernel_rfl) ?_
            obtain ⟨X0, hX0⟩ : ∃ X, wr.drew = X := ⟨_, rfl⟩
            have hBX0 : Below wr.heap.size wr X0 := by rw [← hX0]; exact (Below.refl wr.heap.size wr).drew
            have hHeld := True.intro
            rw [hX0]
            clear hX0
            refine' wpAnyT_take (i := 0) (oi := ?oiy0) (v := ?vy0) ?hiy0 (by kernel_rfl) (by kernel_rfl) ?hqy0 ?hyy0 hHeld ?resty0
            case hiy0 => (simp only [List.getElem?_toArray, List.getElem?_cons_zero]; rfl)
            case hqy0 => exact fun _ _ _ h => h
            case hyy0 => (refine Or.inl ⟨by rfl, ?_⟩; intro w' hSw; (try dsimp only at hSw); go_simp; try with_reducible rfl)
            (try simp only [Act.put, List.setIfInBounds_toArray, List.set_cons_zero, List.set_cons_succ])
            refine' wpAnyT_take (i := 1) (oi := ?oiy1) (v := ?vy1) ?hiy1 (by kernel_rfl) (by kernel_rfl) ?hqy1 ?hyy1 hHeld ?resty1
            case hiy1 => (simp only [List.getElem?_toArray, List.getElem?_cons_zero, List.getElem?_cons_succ]; rfl)
            case hqy1 => exact fun _ _ _ h => h
            case hyy1 => (refine Or.inl ⟨by rfl, ?_⟩; intro w' hSw; (try dsimp only at hSw); go_simp; try with_reducible rfl)
            (try simp only [Act.put, List.setIfInBounds_toArray, List.set_cons_zero, List.set_cons_succ])
            refine' wpAnyT_one (i := 2) (o := ?oiy2) (by kernel_rfl) ?hiy2 (fun K hK => ?sty2)
            case hiy2 => (simp only [List.getElem?_toArray, List.getElem?_cons_zero, List.getElem?_cons_succ]; rfl)
            go_simp
            go_at_call 37
            refine (HCT.out X0 hBX0).mono ?_
            rintro e X1 ⟨rfl, hb⟩
            have hBX1 : Below wr.heap.size wr X1 := hBX0.trans (hb.mono hBX0.size)
            clear hHeld hb
            have hHeld := True.intro
            refine hK.out _ _ (fun _ => hHeld) ?_
            clear hK K
            (try simp only [Act.put, List.setIfInBounds_toArray, List.set_cons_zero, List.set_cons_succ])
            refine' wpAnyT_take (i := 3) (oi := ?oiy3) (v := ?vy3) ?hiy3 (by kernel_rfl) (by kernel_rfl) ?hqy3 ?hyy3 hHeld ?resty3
            case hiy3 => (simp only [List.getElem?_toArray, List.getElem?_cons_zero, List.getElem?_cons_succ]; rfl)
            case hqy3 => exact fun _ _ _ h => h
            case hyy3 => (refine Or.inl ⟨by rfl, ?_⟩; intro w' hSw; (try dsimp only at hSw); go_simp; try with_reducible rfl)
            (try simp only [Act.put, List.setIfInBounds_toArray, List.set_cons_zero, List.set_cons_succ])
            refine' wpAnyT_take (i := 4) (oi := ?oiy4) (v := ?vy4) ?hiy4 (by kernel_rfl) (by kernel_rfl) ?hqy4 ?hyy4 hHeld ?resty4
            case hiy4 => (simp only [List.getElem?_toArray, List.getElem?_cons_zero, List.getElem?_cons_succ]; rfl)
            case hqy4 => exact fun _ _ _ h => h
            case hyy4 => (refine Or.inl ⟨by rfl, ?_⟩; intro w' hSw; (try dsimp only at hSw); go_simp; try with_reducible rfl)
            (try simp only [Act.put, List.setIfInBounds_toArray, List.set_cons_zero, List.set_cons_succ])
            refine' wpAnyT_take (i := 5) (oi := ?oiy5) (v := undef) ?hiy5 (by kernel_rfl) (by kernel_rfl) ?hqy5 ?hyy5 hHeld ?resty5
            case hiy5 => (simp only [List.getElem?_toArray, List.getElem?_cons_zero, List.getElem?_cons_succ]; rfl)
            case hqy5 => exact fun _ _ _ h => h
            case hyy5 => exact Or.inr ⟨by rfl, rfl⟩
            (try simp only [Act.put, List.setIfInBounds_toArray, List.set_cons_zero, List.set_cons_succ])
            refine' wpAnyT_take (i := 6) (oi := ?oiy6) (v := undef) ?hiy6 (by kernel_rfl) (by kernel_rfl) ?hqy6 ?hyy6 hHeld ?resty6
            case hiy6 => (simp only [List.getElem?_toArray, List.getElem?_cons_zero, List.getElem?_cons_succ]; rfl)
            case hqy6 => exact fun _ _ _ h => h
            case hyy6 => exact Or.inr ⟨by rfl, rfl⟩
            (try simp only [Act.put, List.setIfInBounds_toArray, List.set_cons_zero, List.set_cons_succ])
            refine' wpAnyT_take (i := 7) (oi := ?oiy7) (v := undef) ?hiy7 (by kernel_rfl) (by kernel_rfl) ?hqy7 ?hyy7 hHeld ?resty7
            case hiy7 => (simp only [List.getElem?_toArray, List.getElem?_cons_zero, List.getElem?_cons_succ]; rfl)
            case hqy7 => exact fun _ _ _ h => h
            case hyy7 => exact Or.inr ⟨by rfl, rfl⟩
            (try simp only [Act.put, List.setIfInBounds_toArray, List.set_cons_zero, List.set_cons_succ])
            refine' wpAnyT_take (i := 8) (oi := ?oiy8) (v := undef) ?hiy8 (by kernel_rfl) (by kernel_rfl) ?hqy8 ?hyy8 hHeld ?resty8
            case hiy8 => (simp only [List.getElem?_toArray, List.getElem?_cons_zero, List.getElem?_cons_succ]; rfl)
            case hqy8 => exact fun _ _ _ h => h
            case hyy8 => exact Or.inr ⟨by rfl, rfl⟩
            (try simp only [Act.put, List.setIfInBounds_toArray, List.set_cons_zero, List.set_cons_succ])
            refine' wpAnyT_take (i := 9) (oi := ?oiy9) (v := undef) ?hiy9 (by kernel_rfl) (by kernel_rfl) ?hqy9 ?hyy9 hHeld ?resty9
            case hiy9 => (simp only [List.getElem?_toArray, List.getElem?_cons_zero, List.getElem?_cons_succ]; rfl)
            case hqy9 => exact fun _ _ _ h => h
            case hyy9 => exact Or.inr ⟨by rfl, rfl⟩
            (try simp only [Act.put, List.setIfInBounds_toArray, List.set_cons_zero, List.set_cons_succ])
            refine' wpAnyT_take (i := 10) (oi := ?oiy10) (v := undef) ?hiy10 (by kernel_rfl) (by kernel_rfl) ?hqy10 ?hyy10 hHeld ?resty10
            case hiy10 => (simp only [List.getElem?_toArray, List.getElem?_cons_zero, List.getElem?_cons_succ]; rfl)
            case hqy10 => exact fun _ _ _ h => h
            case hyy10 => exact Or.inr ⟨by rfl, rfl⟩
            (try simp only [Act.put, List.setIfInBounds_toArray, List.set_cons_zero, List.set_cons_succ])
            refine' wpAnyT_take (i := 11) (oi := ?oiy11) (v := undef) ?hiy11 (by kernel_rfl) (by kernel_rfl) ?hqy11 ?hyy11 hHeld ?resty11
            case hiy11 => (simp only [List.getElem?_toArray, List.getElem?_cons_zero, List.getElem?_cons_succ]; rfl)
            case hqy11 => exact fun _ _ _ h => h
            case hyy11 => exact Or.inr ⟨by rfl, rfl⟩
            (try simp only [Act.put, List.setIfInBounds_toArray, List.set_cons_zero, List.set_cons_succ])
            refine' wpAnyT_take (i := 12) (oi := ?oiy12) (v := undef) ?hiy12 (by kernel_rfl) (by kernel_rfl) ?hqy12 ?hyy12 hHeld ?resty12
            case hiy12 => (simp only [List.getElem?_toArray, List.getElem?_cons_zero, List.getElem?_cons_succ]; rfl)
            case hqy12 => exact fun _ _ _ h => h
            case hyy12 => exact Or.inr ⟨by rfl, rfl⟩
            (try simp only [Act.put, List.setIfInBounds_toArray, List.set_cons_zero, List.set_cons_succ])
            refine' wpAnyT_take (i := 13) (oi := ?oiy13) (v := undef) ?hiy13 (by kernel_rfl) (by kernel_rfl) ?hqy13 ?hyy13 hHeld ?resty13
            case hiy13 => (simp only [List.getElem?_toArray, List.getElem?_cons_zero, List.getElem?_cons_succ]; rfl)
            case hqy13 => exact fun _ _ _ h => h
            case hyy13 => exact Or.inr ⟨by rfl, rfl⟩
            (try simp only [Act.put, List.setIfInBounds_toArray, List.set_cons_zero, List.set_cons_succ])
            refine' wpAnyT_take (i := 14) (oi := ?oiy14) (v := undef) ?hiy14 (by kernel_rfl) (by kernel_rfl) ?hqy14 ?hyy14 hHeld ?resty14
            case hiy14 => (simp only [List.getElem?_toArray, List.getElem?_cons_zero, List.getElem?_cons_succ]; rfl)
            case hqy14 => exact fun _ _ _ h => h
            case hyy14 => exact Or.inr ⟨by rfl, rfl⟩
            (try simp only [Act.put, List.setIfInBounds_toArray, List.set_cons_zero, List.set_cons_succ])
            refine' wpAnyT_take (i := 15) (oi := ?oiy15) (v := undef) ?hiy15 (by kernel_rfl) (by kernel_rfl) ?hqy15 ?hyy15 hHeld ?resty15
            case hiy15 => (simp only [List.getElem?_toArray, List.getElem?_cons_zero, List.getElem?_cons_succ]; rfl)
            case hqy15 => exact fun _ _ _ h => h
            case hyy15 => exact Or.inr ⟨by rfl, rfl⟩
            (try simp only [Act.put, List.setIfInBounds_toArray, List.set_cons_zero, List.set_cons_succ])
            refine' wpAnyT_one (i := 16) (o := ?oiy16) (by kernel_rfl) ?hiy16 (fun K hK => ?sty16)
            case hiy16 => (simp only [List.getElem?_toArray, List.getElem?_cons_zero, List.getElem?_cons_succ]; rfl)
            go_simp
            refine hK.out _ _ (fun h => absurd h (by decide)) ?_
            clear hK K
            (try simp only [Act.put, List.setIfInBounds_toArray, List.set_cons_zero, List.set_cons_succ])
            refine wpAnyT_done (by kernel_rfl) ?_ _
            go_wp2_with fail
            go_roundw
            case rel => exact ⟨i + 1, by omega, by go_num, hid (HBi.out.trans (hBX1.mono HBi.out.size))⟩
            case measure => simp [Go.RowKit.intOf]; omega
        · obtain rfl : n = i := by omega
          have d0 : decide ((n : Int) < (n : Int)) = false := decide_eq_false (by omega)
          go_wp2_with (go_at_call 13; refine (HAW.out _).mono ?_; rintro e Xz ⟨rfl, hbz⟩; have HBZ := hid hbz; clear hbz)
          go_ret
          exact ⟨rfl, below_both HB3.out (below_both HB38.out (below_both HBW20.out (below_both HB2.out HBZ.out)))⟩
end Go.Proofs.Ytoefbgkeinhibaa

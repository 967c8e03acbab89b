/- The walk of DiskSurvives. -/
import Derived.Test.YtoefbgkeinhibaaXJ
import Derived.Test.YtoefbgkeinhibaaWb
import Derived.Test.YtoefbgkeinhibaaSb
import Derived.OpenShut
namespace Go.Proofs.Ytoefbgkeinhibaa
open Go.RowKit Go.Lib

theorem dk_form {w : World} {v : Value} {st : List Sect} {ca : List Ca} (h : Dk w v st ca) : ∃ A c B d, v = .agg #[.slice A st.length c, .slice B ca.length d] := by
  obtain ⟨sv, cv, rfl, h1, h2, h3⟩ := h
  obtain ⟨A, c, rfl⟩ := sec_form h1
  obtain ⟨B, d, rfl⟩ := cas_form h3
  exact ⟨A, c, B, d, rfl⟩
theorem u8n {x : Int} (h : (Lit.int .u8 x).wf = true) : ∃ y : Nat, x = (y : Int) ∧ y < 256 := by
  have hb := Go.bounds_u8 h
  obtain ⟨y, rfl⟩ := Int.eq_ofNat_of_zero_le hb.1
  exact ⟨y, rfl, by omega⟩
theorem rightS_tot (st : List Sect) (ca : List Ca) (ops : List OpT) : (rightS st ca ops).2.length ≤ ca.length + tot ops := by
  induction ops generalizing st ca with
  | nil => exact Nat.le_add_right _ _
  | cons x r ih =>
    have ht : tot (x :: r) = x.l.length + tot r := rfl
    rw [rightS, ht]
    split
    · have h1 := ih (runS st ca [x]).2.2.1 (runS st ca [x]).2.2.2
      have h2 := (runS_len st ca [x]).2
      have h3 : tot [x] = x.l.length := by simp [tot]
      omega
    · have h1 := ih st ca
      omega
theorem crash_open {w w' : World} {rs : List Sect} {rc : List Ca} {rl : List Int} {e : Ending} (h : CrashQ w (rs, rc, rl) e w') (hr : ∀ x ∈ rl, R64 x) : ∃ A c B d U uc, e = .returned (.tuple #[.agg #[.slice A rs.length c, .slice B rc.length d], .slice U rl.length uc]) ∧ Dk w' (.agg #[.slice A rs.length c, .slice B rc.length d]) rs rc ∧ Ints w' (.slice U rl.length uc) rl ∧ Below w.heap.size w w' := by
  obtain ⟨v, u, rfl, ⟨⟨sv, cv, rfl, h1, h2⟩, h3⟩, h4, hb⟩ := h
  dsimp only at h1 h2 h3 h4
  obtain ⟨A, c, rfl⟩ := ownAny_form h1
  obtain ⟨B, d, rfl⟩ := ownAny_form h2
  obtain ⟨U, uc, rfl⟩ := own_formE h4
  exact ⟨A, c, B, d, U, uc, rfl, dk_own ⟨_, _, rfl, h1, h2⟩ h3.1 h3.2, ints_of_own h4 hr, hb⟩
theorem crashS_ch {st : List Sect} {ca : List Ca} {l : List Int} {x : Int} (h : x ∈ (crashS st ca l).2.2) : x ∈ l := by
  unfold crashS at h
  split at h
  · dsimp only at h
    rw [crs_ch] at h
    exact List.mem_of_mem_drop h
  · exact h
theorem canon_none {l : List (Int × Int)} (h : Xt.Canon 0 l) (hm : ∀ x, Xt.mem l x = false) : l = [] := by
  cases l with
  | nil => rfl
  | cons e r =>
    exfalso
    have h1 := hm e.1
    unfold Xt.mem at h1
    rw [List.any_cons, Bool.or_eq_false_iff] at h1
    have h2 := h1.1
    simp only [Xt.Canon, Xt.inE] at h h2
    simp at h2
    omega
set_option maxHeartbeats 8000000 in
set_option maxRecDepth 100000 in
theorem survives_any (bz : Int) (ov : Value) (ops : List OpT) (lv : Value) (l : List Int) (w : World) (hbz : (Lit.int .u8 bz).wf = true) (ho : OpsA w ov ops) (hbig : BigO ops) (hl : Ints w lv l) :
    Calls Try.prog 8 #[.int .u8 bz, ov, lv] w (TrueQ w) := by
  obtain ⟨z, rfl, hz⟩ := u8n hbz
  clear hbz
  obtain ⟨O, oc, rfl⟩ := ops_form ho
  obtain ⟨L, lc, rfl⟩ := ints_form hl
  have HDK := hid (fun X (hX : Below w.heap.size w X) => (show OpsA X (.slice O ops.length oc) ops ∧ Ints X (.slice L l.length lc) l from ⟨ho.below hX, hl.below hX⟩))
  have HRL := hid hl.1
  have HAW := hid (fun W => awake_any W)
  have HF := hid (fewOps_any ops (.slice O ops.length oc) w ho hbig)
  clear ho hl
  obtain ⟨f1, hf1⟩ : ∃ b, fewO ops = b := ⟨_, rfl⟩
  rw [hf1] at HF
  rcases f1 with _ | _
  · clear hf1
    go_enter Try.func8, Try.ntmps8
    go_upto_region 2 with (go_at_call 12; refine HF.out.mono ?_; rintro e X4 ⟨rfl, hb4⟩; have HB4 := hid hb4; clear hb4)
    go_wp2_with (go_at_call 13; refine (HAW.out _).mono ?_; rintro e X5 ⟨rfl, hb5⟩; have HB5 := hid hb5; clear hb5)
    go_ret
    exact ⟨rfl, below_both HB4.out HB5.out⟩
  obtain ⟨hol, htot⟩ := fewO_tot hf1
  clear hf1
  by_cases h4 : 400 < l.length
  · have d4 : decide (400 < l.length) = true := decide_eq_true h4
    have d4' : decide (400 < (l.length : Int)) = true := decide_eq_true (by omega)
    go_enter Try.func8, Try.ntmps8
    go_upto_region 2 with (go_at_call 12; refine HF.out.mono ?_; rintro e X4 ⟨rfl, hb4⟩; have HB4 := hid hb4; clear hb4)
    go_wp2_with (go_at_call 13; refine (HAW.out _).mono ?_; rintro e X5 ⟨rfl, hb5⟩; have HB5 := hid hb5; clear hb5)
    go_ret
    exact ⟨rfl, below_both HB4.out HB5.out⟩
  have d4 : decide (400 < l.length) = false := decide_eq_false h4
  have d4' : decide (400 < (l.length : Int)) = false := decide_eq_false (by omega)
  obtain ⟨n, hn⟩ : ∃ n, z % 40 = n := ⟨_, rfl⟩
  have hn40 : n < 40 := by omega
  obtain ⟨r, hr⟩ : ∃ r, rightS (List.replicate n zs) [] ops = r := ⟨_, rfl⟩
  obtain ⟨hrn, hrk0⟩ := rightS_new n (by omega) ops
  have hrt := rightS_tot (List.replicate n zs) [] ops
  rw [hr] at hrn hrk0 hrt
  have HRI := hid (fun X (hX : Below w.heap.size w X) => (by
    have h := right_any z ops _ X (HDK.out X hX).1 hz (by omega)
    rw [hn, hr] at h
    exact h : Calls Try.prog 36 #[.int .u8 (z : Int), .slice O ops.length oc] X (SyQ X r)))
  obtain ⟨st, ca⟩ := r
  dsimp only at hrn hrk0 hrt
  rw [List.length_nil, Nat.zero_add] at hrt
  obtain ⟨m, hm⟩ : ∃ m, ca.length = m := ⟨_, rfl⟩
  obtain ⟨M, hM⟩ : ∃ M, l.length = M := ⟨_, rfl⟩
  obtain ⟨on, hon⟩ : ∃ q, ops.length = q := ⟨_, rfl⟩
  rw [hm] at hrt
  rw [hM] at d4 d4' HDK h4
  rw [hon] at HF HRI HDK
  rw [hon, hM]
  have HSO := hid (fun (X X' : World) (e : Ending) (h : SyQ X (st, ca) e X') => (by
    obtain ⟨v, rfl, ho, hb⟩ := h
    have ho := ho.dk
    dsimp only at ho
    obtain ⟨A, c, B, d, rfl⟩ := dk_form ho
    rw [hrn, hm] at ho ⊢
    exact ⟨A, c, B, d, rfl, ho, hb⟩ : ∃ A c B d, e = .returned (.agg #[.slice A n c, .slice B m d]) ∧ Dk X' (.agg #[.slice A n c, .slice B m d]) st ca ∧ Below X.heap.size X X'))
  obtain ⟨cs, hcs⟩ : ∃ cs, (crashS st ca l).1 = cs := ⟨_, rfl⟩
  obtain ⟨cl, hcl⟩ : ∃ cl, (crashS st ca l).2.2 = cl := ⟨_, rfl⟩
  have hce : crashS st ca l = (cs, [], cl) := by
    rw [← hcs, ← hcl]
    unfold crashS
    rw [if_pos (by rw [hrn]; exact hrk0)]
  have hcn : cs.length = n := by
    rw [← hcs, ← hrn]
    unfold crashS
    rw [if_pos (by rw [hrn]; exact hrk0)]
    exact crs_len _ _ _ _
  have HCG := hid (fun (i : Nat) (s : Sect) (h : cs[i]? = some s) => (by
    rw [← hcs] at h
    unfold crashS at h
    rw [if_pos (by rw [hrn]; exact hrk0)] at h
    exact crs_get _ _ _ _ _ _ (fun κ hκ => (keysL_mem hκ).1) h : st[i]? = some s ∨ ((i : Int), s) ∈ ca))
  have HCO := hid (fun (X X' : World) (e : Ending) (h : CrashQ X (cs, [], cl) e X') => (by
    have h := crash_open h (fun x hx => HRL.out x (crashS_ch (by rw [hcl]; exact hx)))
    rw [hcn, List.length_nil] at h
    exact h : ∃ A c B d U uc, e = .returned (.tuple #[.agg #[.slice A n c, .slice B 0 d], .slice U cl.length uc]) ∧ Dk X' (.agg #[.slice A n c, .slice B 0 d]) cs [] ∧ Ints X' (.slice U cl.length uc) cl ∧ Below X.heap.size X X'))
  have hsy : syncS st ca = (newL st ca, []) := by
    unfold syncS
    rw [if_pos (by rw [hrn]; exact hrk0)]
  have hnl : (newL st ca).length = n := by rw [newL_len, hrn]
  obtain ⟨ns, hns⟩ : ∃ ns, newL st ca = ns := ⟨_, rfl⟩
  rw [hns] at hsy hnl
  have hcy : crashS ns [] l = (ns, [], l) := crash_synced ns l (by omega)
  have HYO := hid (fun (X X' : World) (e : Ending) (h : CrashQ X (ns, [], l) e X') => (by
    have h := crash_open h HRL.out
    rw [hnl, List.length_nil, hM] at h
    exact h : ∃ A c B d U uc, e = .returned (.tuple #[.agg #[.slice A n c, .slice B 0 d], .slice U M uc]) ∧ Dk X' (.agg #[.slice A n c, .slice B 0 d]) ns [] ∧ Ints X' (.slice U M uc) l ∧ Below X.heap.size X X'))
  have HTO := hid (fun (X X' : World) (e : Ending) (h : SyQ X (ns, []) e X') => (by
    obtain ⟨v, rfl, ho, hb⟩ := h
    have ho := ho.dk
    dsimp only at ho
    obtain ⟨A, c, B, d, rfl⟩ := dk_form ho
    rw [hnl, List.length_nil] at ho ⊢
    exact ⟨A, c, B, d, rfl, ho, hb⟩ : ∃ A c B d, e = .returned (.agg #[.slice A n c, .slice B 0 d]) ∧ Dk X' (.agg #[.slice A n c, .slice B 0 d]) ns [] ∧ Below X.heap.size X X'))
  have HCE := hid hce
  have HSY := hid hsy
  have HCY := hid hcy
  have HCN := hid hcn
  have HNL := hid hnl
  have HN := hid hrn
  have HM := hid hm
  have HLM := hid hM
  clear hr hn hrn hrk0 hm hM hon hcs hcl hce hcn hsy hnl hns hcy
  go_enter Try.func8, Try.ntmps8
  go_upto_region 4 with (first
    | (have Z := HB4; go_at_call 36; refine (HRI.out X4 HB4.out).mono ?_; intro e X6 hQ; obtain ⟨A6, c6, B6, d6, rfl, hk6, hb6⟩ := HSO.out _ _ _ hQ; have HK6 := hid hk6; have HB6 := hid hb6; clear hQ hk6 hb6)
    | (go_at_call 12; refine HF.out.mono ?_; rintro e X4 ⟨rfl, hb4⟩; have HB4 := hid hb4; clear hb4))
  obtain ⟨W7, hW7⟩ : ∃ X, X6.alloc (.cells #[.slice A6 n c6, .slice B6 m d6] 25) = X := ⟨_, rfl⟩
  obtain ⟨p7, hp7⟩ : ∃ p, X6.heap.size = p := ⟨_, rfl⟩
  have hb7 : Below X6.heap.size X6 W7 := by rw [← hW7]; exact al1 _ _
  have hx7 : W7.heap[p7]? = some (.cells #[.slice A6 n c6, .slice B6 m d6] 25) := by rw [← hW7, ← hp7]; exact heap_alloc_new _ _
  rw [hW7, hp7]
  have HBW7 : Hid (Below w.heap.size w W7) := hid (below_both HB4.out (below_both HB6.out hb7))
  have HP7 := hid (fun X (hX : Below W7.heap.size W7 X) => (show X.heap[p7]? = some (.cells #[.slice A6 n c6, .slice B6 m d6] 25) ∧ Sec X (.slice A6 n c6) st ∧ NilOk (.slice A6 n c6) ∧ Cas X (.slice B6 m d6) ca from ⟨(hX.block _ (box_lt hx7)).trans hx7, dk_parts ((HK6.out.below hb7).below hX)⟩))
  have HI7 := hid (fun X (hX : Below W7.heap.size W7 X) => (HDK.out X (below_both HBW7.out hX)).2)
  have x0 := cell_of_row _ _ 0 _ _ _ hx7
  have x1 := cell_of_row _ _ 1 _ _ _ hx7
  have HCR := hid (by
    have h := crash_any st ca _ _ _ l W7 (HP7.out W7 (Below.refl _ _)).2.1 (HP7.out W7 (Below.refl _ _)).2.2.1 (HP7.out W7 (Below.refl _ _)).2.2.2 (HI7.out W7 (Below.refl _ _)) (by rw [HN.out]; omega) (by rw [HM.out]; omega) (by rw [HLM.out]; omega)
    rw [HCE.out] at h
    exact h)
  clear hW7 hp7 hb7 hx7
  go_upto_region 5 with (go_at_call 31; refine HCR.out.mono ?_; intro e X8 hQ; obtain ⟨A8, c8, B8, d8, U8, uc8, rfl, hk8, hi8, hb8⟩ := HCO.out _ _ _ hQ; have HK8 := hid hk8; have HB8 := hid hb8; clear hQ hk8 hi8 hb8)
  obtain ⟨W9, hW9⟩ : ∃ X, X8.alloc (.cells #[.slice A8 n c8, .slice B8 0 d8] 25) = X := ⟨_, rfl⟩
  obtain ⟨p9, hp9⟩ : ∃ p, X8.heap.size = p := ⟨_, rfl⟩
  have hb9 : Below X8.heap.size X8 W9 := by rw [← hW9]; exact al1 _ _
  have hx9 : W9.heap[p9]? = some (.cells #[.slice A8 n c8, .slice B8 0 d8] 25) := by rw [← hW9, ← hp9]; exact heap_alloc_new _ _
  rw [hW9, hp9]
  have HS9 : Hid (Below W7.heap.size W7 W9) := hid (below_both HB8.out hb9)
  have HSC : Hid (Sec W9 (.slice A8 n c8) cs) := hid (dk_parts (HK8.out.below hb9)).1
  clear x0 x1
  have hx79 := (HP7.out W9 HS9.out).1
  have x0 := cell_of_row _ _ 0 _ _ _ hx79
  have x1 := cell_of_row _ _ 1 _ _ _ hx79
  have y0 := cell_of_row _ _ 0 _ _ _ hx9
  have y1 := cell_of_row _ _ 1 _ _ _ hx9
  clear hW9 hp9 hb9 hx9 hx79
  have dnn : ((n : Int) != (n : Int)) = false := by simp
  go_upto_region 8 with fail
  clear x0 x1 y0 y1
  go_loopw [52] (fun iv wr => ∃ i : Nat, i ≤ n ∧ iv = .int .i64 (i : Int) ∧ Hid (Below W9.heap.size W9 wr)) (fun i _ => n - (Go.RowKit.intOf i).toNat)
  case atStart => exact ⟨0, Nat.zero_le _, rfl, hid (Below.refl _ _)⟩
  case round =>
    obtain ⟨i, hi, rfl, HB⟩ := hrel
    have HB7 : Hid (Below W7.heap.size W7 wr) := hid (below_both HS9.out HB.out)
    by_cases hin : i < n
    · have d0 : decide ((i : Int) < (n : Int)) = true := decide_eq_true (by omega)
      have hin' : (i : Int) < (n : Int) := by omega
      obtain ⟨sb, so, rfl, hsb, hsc⟩ := arr_at1 (HSC.out.below HB.out).2 (by rw [List.length_map, HCN.out]; omega)
      obtain ⟨s, hs⟩ : ∃ s, cs[i]? = some s := ⟨cs[i]'(by rw [HCN.out]; exact hin), List.getElem?_eq_getElem _⟩
      have h8 := HSC.out.1 s (List.mem_of_getElem? hs)
      have HSX := hid (fun (t : Nat) (u : Value) (hu : (cSec s)[t]? = some u) => hsc i _ (by rw [List.getElem?_map, hs]; rfl) t u hu)
      have HCI := hid (HCG.out i s hs)
      obtain ⟨t, ht⟩ : ∃ t, st[i]? = some t := ⟨st[i]'(by rw [HN.out]; exact hin), List.getElem?_eq_getElem _⟩
      have HST := hid ((HP7.out wr HB7.out).2.1)
      obtain ⟨tb, tq, rfl, htb, htc⟩ := arr_at1 HST.out.2 (by rw [List.length_map, HN.out]; omega)
      have h8t := HST.out.1 t (List.mem_of_getElem? ht)
      have HTX := hid (fun (j : Nat) (u : Value) (hu : (cSec t)[j]? = some u) => htc i _ (by rw [List.getElem?_map, ht]; rfl) j u hu)
      have HTI := hid ht
      obtain ⟨s0, s1, s2, s3, s4, s5, s6, s7, rfl⟩ := list8 h8.1
      obtain ⟨t0, t1, t2, t3, t4, t5, t6, t7, rfl⟩ := list8 h8t.1
      obtain ⟨b0, hb0⟩ : ∃ b, decide ([s0, s1, s2, s3, s4, s5, s6, s7] = [t0, t1, t2, t3, t4, t5, t6, t7]) = b := ⟨_, rfl⟩
      have heq : ∀ W : World, (Op.equalIn 10000 73 (.agg #[.int .u8 (s0 : Int), .int .u8 (s1 : Int), .int .u8 (s2 : Int), .int .u8 (s3 : Int), .int .u8 (s4 : Int), .int .u8 (s5 : Int), .int .u8 (s6 : Int), .int .u8 (s7 : Int)]) (.agg #[.int .u8 (t0 : Int), .int .u8 (t1 : Int), .int .u8 (t2 : Int), .int .u8 (t3 : Int), .int .u8 (t4 : Int), .int .u8 (t5 : Int), .int .u8 (t6 : Int), .int .u8 (t7 : Int)])).run Try.prog W = .ok b0 W := fun W => by
        have h := eql_sec [s0, s1, s2, s3, s4, s5, s6, s7] [t0, t1, t2, t3, t4, t5, t6, t7] rfl rfl h8.2 h8t.2 W
        rw [hb0] at h
        exact h
      have HB0 := hid hb0
      have H8S := hid h8.2
      have HSB := hid hsb
      have HTB := hid htb
      clear hs hsc ht htc h8t hb0
      have HTC := hid (fun X (hX : Below wr.heap.size wr X) (j : Nat) (u : Value) (hu : (cSec [t0, t1, t2, t3, t4, t5, t6, t7])[j]? = some u) => (by
        have h := HTX.out j u hu
        unfold World.cell? at h ⊢
        rw [hX.block tb htb]
        exact h : X.cell? ⟨tb, tq + i * 8 + j, none⟩ = some u))
      clear hsb htb
      have k0 : wr.cell? ⟨sb, so + i * 8, none⟩ = some (.int .u8 (s0 : Int)) := HSX.out 0 _ rfl
      have k1 : wr.cell? ⟨sb, so + i * 8 + 1, none⟩ = some (.int .u8 (s1 : Int)) := HSX.out 1 _ rfl
      have k2 : wr.cell? ⟨sb, so + i * 8 + 2, none⟩ = some (.int .u8 (s2 : Int)) := HSX.out 2 _ rfl
      have k3 : wr.cell? ⟨sb, so + i * 8 + 3, none⟩ = some (.int .u8 (s3 : Int)) := HSX.out 3 _ rfl
      have k4 : wr.cell? ⟨sb, so + i * 8 + 4, none⟩ = some (.int .u8 (s4 : Int)) := HSX.out 4 _ rfl
      have k5 : wr.cell? ⟨sb, so + i * 8 + 5, none⟩ = some (.int .u8 (s5 : Int)) := HSX.out 5 _ rfl
      have k6 : wr.cell? ⟨sb, so + i * 8 + 6, none⟩ = some (.int .u8 (s6 : Int)) := HSX.out 6 _ rfl
      have k7 : wr.cell? ⟨sb, so + i * 8 + 7, none⟩ = some (.int .u8 (s7 : Int)) := HSX.out 7 _ rfl
      obtain ⟨wo, hwo⟩ : ∃ X, X = wr := ⟨_, rfl⟩
      subst hwo
      go_upto_region 10 with fail
      clear k0 k1 k2 k3 k4 k5 k6 k7
      obtain ⟨Wo, hWo⟩ : ∃ X, wo.alloc (.cells #[.int .u8 (s0 : Int), .int .u8 (s1 : Int), .int .u8 (s2 : Int), .int .u8 (s3 : Int), .int .u8 (s4 : Int), .int .u8 (s5 : Int), .int .u8 (s6 : Int), .int .u8 (s7 : Int)] 73) = X := ⟨_, rfl⟩
      obtain ⟨p11, hp11⟩ : ∃ p, wo.heap.size = p := ⟨_, rfl⟩
      have hbo : Below wo.heap.size wo Wo := by rw [← hWo]; exact al1 _ _
      have hxo : Wo.heap[p11]? = some (.cells #[.int .u8 (s0 : Int), .int .u8 (s1 : Int), .int .u8 (s2 : Int), .int .u8 (s3 : Int), .int .u8 (s4 : Int), .int .u8 (s5 : Int), .int .u8 (s6 : Int), .int .u8 (s7 : Int)] 73) := by rw [← hWo, ← hp11]; exact heap_alloc_new _ _
      rw [hWo, hp11]
      have HB7o : Hid (Below W7.heap.size W7 Wo) := hid (below_both HB7.out hbo)
      have HB9o : Hid (Below W9.heap.size W9 Wo) := hid (below_both HB.out hbo)
      have hx7o := (HP7.out Wo HB7o.out).1
      have x0 := cell_of_row _ _ 0 _ _ _ hx7o
      have x1 := cell_of_row _ _ 1 _ _ _ hx7o
      have f0 := cell_of_row _ _ 0 _ _ _ hxo
      have f1 := cell_of_row _ _ 1 _ _ _ hxo
      have f2 := cell_of_row _ _ 2 _ _ _ hxo
      have f3 := cell_of_row _ _ 3 _ _ _ hxo
      have f4 := cell_of_row _ _ 4 _ _ _ hxo
      have f5 := cell_of_row _ _ 5 _ _ _ hxo
      have f6 := cell_of_row _ _ 6 _ _ _ hxo
      have f7 := cell_of_row _ _ 7 _ _ _ hxo
      have g0 : Wo.cell? ⟨tb, tq + i * 8, none⟩ = some (.int .u8 (t0 : Int)) := HTC.out Wo hbo 0 _ rfl
      have g1 : Wo.cell? ⟨tb, tq + i * 8 + 1, none⟩ = some (.int .u8 (t1 : Int)) := HTC.out Wo hbo 1 _ rfl
      have g2 : Wo.cell? ⟨tb, tq + i * 8 + 2, none⟩ = some (.int .u8 (t2 : Int)) := HTC.out Wo hbo 2 _ rfl
      have g3 : Wo.cell? ⟨tb, tq + i * 8 + 3, none⟩ = some (.int .u8 (t3 : Int)) := HTC.out Wo hbo 3 _ rfl
      have g4 : Wo.cell? ⟨tb, tq + i * 8 + 4, none⟩ = some (.int .u8 (t4 : Int)) := HTC.out Wo hbo 4 _ rfl
      have g5 : Wo.cell? ⟨tb, tq + i * 8 + 5, none⟩ = some (.int .u8 (t5 : Int)) := HTC.out Wo hbo 5 _ rfl
      have g6 : Wo.cell? ⟨tb, tq + i * 8 + 6, none⟩ = some (.int .u8 (t6 : Int)) := HTC.out Wo hbo 6 _ rfl
      have g7 : Wo.cell? ⟨tb, tq + i * 8 + 7, none⟩ = some (.int .u8 (t7 : Int)) := HTC.out Wo hbo 7 _ rfl
      have HXO := hid hxo
      clear hWo hp11 hbo hxo hx7o
      go_upto_region 10 with fail
      go_quiet (fail)
      obtain ⟨Wq, hWq⟩ : ∃ X, Wo.drewN nq = X := ⟨_, rfl⟩
      have hbq : Below Wo.heap.size Wo Wq := by rw [← hWq]; exact below_drewN (Below.refl _ _) _
      rw [hWq]
      clear x0 x1 f0 g0 f1 g1 f2 g2 f3 g3 f4 g4 f5 g5 f6 g6 f7 g7
      have HBq := hid hbq
      have HX7 := hid (fun X (hX : Below Wq.heap.size Wq X) => (show X.heap[p7]? = some (.cells #[.slice (some ⟨tb, tq, none⟩) n c6, .slice B6 m d6] 25) ∧ Cas X (.slice B6 m d6) ca ∧ X.heap[p11]? = some (.cells #[.int .u8 (s0 : Int), .int .u8 (s1 : Int), .int .u8 (s2 : Int), .int .u8 (s3 : Int), .int .u8 (s4 : Int), .int .u8 (s5 : Int), .int .u8 (s6 : Int), .int .u8 (s7 : Int)] 73) from (by
        have h0 := HP7.out X (below_both HB7o.out (below_both hbq hX))
        exact ⟨h0.1, h0.2.2.2, ((below_both hbq hX).block _ (box_lt HXO.out)).trans HXO.out⟩)))
      clear hWq hbq
      have hx7q := (HX7.out Wq (Below.refl _ _)).1
      have x0 := cell_of_row _ _ 0 _ _ _ hx7q
      have x1 := cell_of_row _ _ 1 _ _ _ hx7q
      clear hx7q
      go_upto_region 12 with fail
      clear x0 x1
      go_loopw [67, 12] (fun jv bv wr => ∃ j : Nat, j ≤ m ∧ jv = .int .i64 (j : Int) ∧ bv = .bool (b0 || anyC ca j i [s0, s1, s2, s3, s4, s5, s6, s7]) ∧ Hid (Below Wq.heap.size Wq wr)) (fun jv _ _ => m - (Go.RowKit.intOf jv).toNat)
      case atStart => exact ⟨0, Nat.zero_le _, rfl, by rw [show anyC ca 0 i [s0, s1, s2, s3, s4, s5, s6, s7] = false from rfl, Bool.or_false], hid (Below.refl _ _)⟩
      case round =>
        obtain ⟨j, hj, rfl, rfl, HBi⟩ := hrel
        by_cases hjm : j < m
        · have d2 : decide ((j : Int) < (m : Int)) = true := decide_eq_true (by omega)
          have hjm' : (j : Int) < (m : Int) := by omega
          have hcas := (HX7.out wr HBi.out).2.1
          obtain ⟨cb, co, hB6, _, hcc⟩ := arr_at1 hcas.2.2 (by rw [List.length_map, HM.out]; omega)
          obtain ⟨cx, hcx⟩ : ∃ s, ca[j]? = some s := ⟨ca[j]'(by rw [HM.out]; exact hjm), List.getElem?_eq_getElem _⟩
          have h8c := hcas.1 cx (List.mem_of_getElem? hcx)
          have HCX := hid (fun (t : Nat) (u : Value) (hu : (cCa cx)[t]? = some u) => hcc j _ (by rw [List.getElem?_map, hcx]; rfl) t u hu)
          have HSU := hid (anyC_succ ca j i [s0, s1, s2, s3, s4, s5, s6, s7] cx hcx)
          obtain ⟨ca1, ca2⟩ := cx
          obtain ⟨c0, c1, c2, c3, c4, c5, c6', c7, rfl⟩ := list8 h8c.1
          subst hB6
          dsimp only at h8c HSU
          have q0 : wr.cell? ⟨cb, co + j * 9, none⟩ = some (.int .i64 ca1) := HCX.out 0 _ rfl
          have q1 : wr.cell? ⟨cb, co + j * 9 + 1, none⟩ = some (.int .u8 (c0 : Int)) := HCX.out 1 _ rfl
          have q2 : wr.cell? ⟨cb, co + j * 9 + 2, none⟩ = some (.int .u8 (c1 : Int)) := HCX.out 2 _ rfl
          have q3 : wr.cell? ⟨cb, co + j * 9 + 3, none⟩ = some (.int .u8 (c2 : Int)) := HCX.out 3 _ rfl
          have q4 : wr.cell? ⟨cb, co + j * 9 + 4, none⟩ = some (.int .u8 (c3 : Int)) := HCX.out 4 _ rfl
          have q5 : wr.cell? ⟨cb, co + j * 9 + 5, none⟩ = some (.int .u8 (c4 : Int)) := HCX.out 5 _ rfl
          have q6 : wr.cell? ⟨cb, co + j * 9 + 6, none⟩ = some (.int .u8 (c5 : Int)) := HCX.out 6 _ rfl
          have q7 : wr.cell? ⟨cb, co + j * 9 + 7, none⟩ = some (.int .u8 (c6' : Int)) := HCX.out 7 _ rfl
          have q8 : wr.cell? ⟨cb, co + j * 9 + 8, none⟩ = some (.int .u8 (c7 : Int)) := HCX.out 8 _ rfl
          have H8C := hid h8c.2.1
          clear hcas hcc hcx h8c
          go_upto_region 14 with fail
          clear q0 q1 q2 q3 q4 q5 q6 q7 q8
          obtain ⟨Wc, hWc⟩ : ∃ X, wr.alloc (.cells #[.int .i64 ca1, .int .u8 (c0 : Int), .int .u8 (c1 : Int), .int .u8 (c2 : Int), .int .u8 (c3 : Int), .int .u8 (c4 : Int), .int .u8 (c5 : Int), .int .u8 (c6' : Int), .int .u8 (c7 : Int)] 77) = X := ⟨_, rfl⟩
          obtain ⟨p14, hp14⟩ : ∃ p, wr.heap.size = p := ⟨_, rfl⟩
          have hbc : Below wr.heap.size wr Wc := by rw [← hWc]; exact al1 _ _
          have hxc : Wc.heap[p14]? = some (.cells #[.int .i64 ca1, .int .u8 (c0 : Int), .int .u8 (c1 : Int), .int .u8 (c2 : Int), .int .u8 (c3 : Int), .int .u8 (c4 : Int), .int .u8 (c5 : Int), .int .u8 (c6' : Int), .int .u8 (c7 : Int)] 77) := by rw [← hWc, ← hp14]; exact heap_alloc_new _ _
          rw [hWc, hp14]
          have HBc : Hid (Below Wq.heap.size Wq Wc) := hid (below_both HBi.out hbc)
          have hx11 := (HX7.out Wc HBc.out).2.2
          have f0 := cell_of_row _ _ 0 _ _ _ hx11
          have f1 := cell_of_row _ _ 1 _ _ _ hx11
          have f2 := cell_of_row _ _ 2 _ _ _ hx11
          have f3 := cell_of_row _ _ 3 _ _ _ hx11
          have f4 := cell_of_row _ _ 4 _ _ _ hx11
          have f5 := cell_of_row _ _ 5 _ _ _ hx11
          have f6 := cell_of_row _ _ 6 _ _ _ hx11
          have f7 := cell_of_row _ _ 7 _ _ _ hx11
          have v0 := cell_of_row _ _ 0 _ _ _ hxc
          have v1 := cell_of_row _ _ 1 _ _ _ hxc
          have v2 := cell_of_row _ _ 2 _ _ _ hxc
          have v3 := cell_of_row _ _ 3 _ _ _ hxc
          have v4 := cell_of_row _ _ 4 _ _ _ hxc
          have v5 := cell_of_row _ _ 5 _ _ _ hxc
          have v6 := cell_of_row _ _ 6 _ _ _ hxc
          have v7 := cell_of_row _ _ 7 _ _ _ hxc
          have v8 := cell_of_row _ _ 8 _ _ _ hxc
          clear hWc hp14 hbc hxc hx11
          obtain ⟨ok, hok⟩ : ∃ ok, (b0 || anyC ca j i [s0, s1, s2, s3, s4, s5, s6, s7]) = ok := ⟨_, rfl⟩
          rw [hok]
          have HOK := hid hok
          clear hok
          rcases ok with _ | _
          · by_cases hai : ca1 = (i : Int)
            · have da : (ca1 == (i : Int)) = true := by simpa using hai
              have da' : decide (ca1 = (i : Int)) = true := decide_eq_true hai
              obtain ⟨b2, hb2⟩ : ∃ b, decide ([c0, c1, c2, c3, c4, c5, c6', c7] = [s0, s1, s2, s3, s4, s5, s6, s7]) = b := ⟨_, rfl⟩
              have heq2 : ∀ W : World, (Op.equalIn 10000 73 (.agg #[.int .u8 (c0 : Int), .int .u8 (c1 : Int), .int .u8 (c2 : Int), .int .u8 (c3 : Int), .int .u8 (c4 : Int), .int .u8 (c5 : Int), .int .u8 (c6' : Int), .int .u8 (c7 : Int)]) (.agg #[.int .u8 (s0 : Int), .int .u8 (s1 : Int), .int .u8 (s2 : Int), .int .u8 (s3 : Int), .int .u8 (s4 : Int), .int .u8 (s5 : Int), .int .u8 (s6 : Int), .int .u8 (s7 : Int)])).run Try.prog W = .ok b2 W := fun W => by
                have h := eql_sec [c0, c1, c2, c3, c4, c5, c6', c7] [s0, s1, s2, s3, s4, s5, s6, s7] rfl rfl H8C.out H8S.out W
                rw [hb2] at h
                exact h
              have HREL : Hid (b2 = (b0 || anyC ca (j + 1) i [s0, s1, s2, s3, s4, s5, s6, s7])) := hid (by rw [HSU.out, ← Bool.or_assoc, HOK.out, Bool.false_or, da', Bool.true_and, hb2])
              clear hb2
              go_wp2_with fail
              go_roundw
              case rel => exact ⟨j + 1, by omega, by go_num, congrArg _ HREL.out, HBc⟩
              case measure => simp [Go.RowKit.intOf]; omega
            · have da : (ca1 == (i : Int)) = false := by simpa using hai
              have da' : decide (ca1 = (i : Int)) = false := decide_eq_false hai
              have HREL : Hid (false = (b0 || anyC ca (j + 1) i [s0, s1, s2, s3, s4, s5, s6, s7])) := hid (by rw [HSU.out, ← Bool.or_assoc, HOK.out, Bool.false_or, da', Bool.false_and])
              go_wp2_with fail
              go_roundw
              case rel => exact ⟨j + 1, by omega, by go_num, congrArg _ HREL.out, HBc⟩
              case measure => simp [Go.RowKit.intOf]; omega
          · have HREL : Hid (true = (b0 || anyC ca (j + 1) i [s0, s1, s2, s3, s4, s5, s6, s7])) := hid (by rw [HSU.out, ← Bool.or_assoc, HOK.out, Bool.true_or])
            go_wp2_with fail
            go_roundw
            case rel => exact ⟨j + 1, by omega, by go_num, congrArg _ HREL.out, HBc⟩
            case measure => simp [Go.RowKit.intOf]; omega
        · obtain rfl : m = j := by omega
          have d2 : decide ((m : Int) < (m : Int)) = false := decide_eq_false (by omega)
          have hok : (b0 || anyC ca m i [s0, s1, s2, s3, s4, s5, s6, s7]) = true := by
            rcases HCI.out with h | h
            · have h2 := HTI.out
              rw [h] at h2
              injection h2 with h2
              rw [← HB0.out, decide_eq_true h2, Bool.true_or]
            · have h2 := anyC_all h
              rw [HM.out] at h2
              rw [h2, Bool.or_true]
          rw [hok]
          clear hok
          go_wp2_with fail
          go_roundw
          case rel => exact ⟨i + 1, by omega, by go_num, hid (below_both HB9o.out (below_both HBq.out HBi.out))⟩
          case measure => simp [Go.RowKit.intOf]; omega
    · obtain rfl : n = i := by omega
      have d0 : decide ((n : Int) < (n : Int)) = false := decide_eq_false (by omega)
      have hx7w := (HP7.out wr HB7.out).1
      have x0 := cell_of_row _ _ 0 _ _ _ hx7w
      have x1 := cell_of_row _ _ 1 _ _ _ hx7w
      have HSN := hid (by
        have h := sync_any st ca _ _ wr (HP7.out wr HB7.out).2.1 (HP7.out wr HB7.out).2.2.1 (HP7.out wr HB7.out).2.2.2 (by rw [HN.out]; omega) (by rw [HM.out]; omega)
        rw [HSY.out] at h
        exact h)
      clear hx7w
      go_upto_region 20 with (go_at_call 24; refine HSN.out.mono ?_; intro e Xa hQ; obtain ⟨Aa, cca, Ba, da, rfl, hka, hba⟩ := HTO.out _ _ _ hQ; have HKA := hid hka; have HBA := hid hba; clear hQ hka hba)
      clear x0 x1
      obtain ⟨Wb, hWb⟩ : ∃ X, Xa.alloc (.cells #[.slice Aa n cca, .slice Ba 0 da] 25) = X := ⟨_, rfl⟩
      obtain ⟨pb, hpb⟩ : ∃ p, Xa.heap.size = p := ⟨_, rfl⟩
      have hbb : Below Xa.heap.size Xa Wb := by rw [← hWb]; exact al1 _ _
      have hxb : Wb.heap[pb]? = some (.cells #[.slice Aa n cca, .slice Ba 0 da] 25) := by rw [← hWb, ← hpb]; exact heap_alloc_new _ _
      rw [hWb, hpb]
      have HBWb : Hid (Below w.heap.size w Wb) := hid (below_both HBW7.out (below_both HB7.out (below_both HBA.out hbb)))
      have HPb := hid (fun X (hX : Below Wb.heap.size Wb X) => (show X.heap[pb]? = some (.cells #[.slice Aa n cca, .slice Ba 0 da] 25) ∧ Dk X (.agg #[.slice Aa n cca, .slice Ba 0 da]) ns [] ∧ Ints X (.slice L M lc) l from ⟨(hX.block _ (box_lt hxb)).trans hxb, (HKA.out.below hbb).below hX, (HDK.out X (below_both HBWb.out hX)).2⟩))
      have x0 := cell_of_row _ _ 0 _ _ _ hxb
      have x1 := cell_of_row _ _ 1 _ _ _ hxb
      have HCR2 := hid (by
        have h0 := HPb.out Wb (Below.refl _ _)
        have h1 := dk_parts h0.2.1
        have h := crash_any ns [] _ _ _ l Wb h1.1 h1.2.1 h1.2.2 h0.2.2 (by rw [HNL.out]; omega) (by simp) (by rw [HLM.out]; omega)
        rw [HCY.out] at h
        exact h)
      clear hWb hpb hbb hxb
      go_upto_region 21 with (go_at_call 31; refine HCR2.out.mono ?_; intro e Xc hQ; obtain ⟨Ac, cc, Bc, dc, Uc, uc, rfl, hkc, hic, hbc⟩ := HYO.out _ _ _ hQ; have HKC := hid hkc; have HIC := hid hic; have HBC := hid hbc; clear hQ hkc hic hbc)
      clear x0 x1
      obtain ⟨Wd, hWd⟩ : ∃ X, Xc.alloc (.cells #[.slice Ac n cc, .slice Bc 0 dc] 25) = X := ⟨_, rfl⟩
      obtain ⟨pd, hpd⟩ : ∃ p, Xc.heap.size = p := ⟨_, rfl⟩
      have hbd : Below Xc.heap.size Xc Wd := by rw [← hWd]; exact al1 _ _
      have hxd : Wd.heap[pd]? = some (.cells #[.slice Ac n cc, .slice Bc 0 dc] 25) := by rw [← hWd, ← hpd]; exact heap_alloc_new _ _
      rw [hWd, hpd]
      have HBbd : Hid (Below Wb.heap.size Wb Wd) := hid (below_both HBC.out hbd)
      have HPd := hid (fun X (hX : Below Wd.heap.size Wd X) => (show X.heap[pb]? = some (.cells #[.slice Aa n cca, .slice Ba 0 da] 25) ∧ Dk X (.agg #[.slice Aa n cca, .slice Ba 0 da]) ns [] ∧ Ints X (.slice L M lc) l ∧ Dk X (.agg #[.slice Ac n cc, .slice Bc 0 dc]) ns [] ∧ Ints X (.slice Uc M uc) l from (by
        have h := HPb.out X (below_both HBbd.out hX)
        exact ⟨h.1, h.2.1, h.2.2, (HKC.out.below hbd).below hX, (HIC.out.below hbd).below hX⟩)))
      have z0 := cell_of_row _ _ 0 _ _ _ hxd
      have z1 := cell_of_row _ _ 1 _ _ _ hxd
      have hxb := (HPd.out Wd (Below.refl _ _)).1
      have x0 := cell_of_row _ _ 0 _ _ _ hxb
      have x1 := cell_of_row _ _ 1 _ _ _ hxb
      clear hWd hpd hbd hxd hxb
      have HS18 := hid (same_eq ns [] _ _ Wd (HPd.out Wd (Below.refl _ _)).2.2.2.1 (HPd.out Wd (Below.refl _ _)).2.1 (by simp))
      have HS33 := hid (fun X (hX : Below Wd.heap.size Wd X) => sameInts_any l _ _ X (HPd.out X hX).2.2.2.2 (HPd.out X hX).2.2.1 (by rw [HLM.out]; omega))
      have HUN := hid (fun X (hX : Below Wd.heap.size Wd X) => (by
        have h1 := dk_parts (HPd.out X hX).2.1
        exact unsynced_any ns [] _ _ X h1.1 h1.2.2 (by simp)))
      have HUO := hid (fun (X X' : World) (e : Ending) (h : UnsQ ns.length [] X e X') => (by
        obtain ⟨v, l, rfl, hc, hm, he, hb⟩ := h
        have hl0 := canon_none hc (fun x => by rw [hm]; unfold setU; rw [show (G [] x).isEmpty = true from rfl]; simp)
        subst hl0
        obtain ⟨E, ec, rfl⟩ := Xt.ext_form he
        exact ⟨E, ec, rfl, hb⟩ : ∃ E ec, e = .returned (.slice E 0 ec) ∧ Below X.heap.size X X'))
      have HBw : Hid (Below w.heap.size w Wd) := hid (below_both HBWb.out HBbd.out)
      go_wp2_with (first
        | (have Z := HBU; go_at_call 13; refine (HAW.out _).mono ?_; rintro e Xh ⟨rfl, hbh⟩; have HBH := hid hbh; clear hbh)
        | (have Z := HBG; go_at_call 27; refine (HUN.out Xg HBG.out).mono ?_; intro e Xu hQ; obtain ⟨Eu, eu, rfl, hbu⟩ := HUO.out _ _ _ hQ; have HBU : Hid (Below Wd.heap.size Wd Xu) := hid (below_both HBG.out hbu); clear hQ hbu)
        | (have Z := HBF; go_at_call 33; refine (HS33.out Xf HBF.out).mono ?_; rintro e Xg ⟨rfl, hbg⟩; have HBG : Hid (Below Wd.heap.size Wd Xg) := hid (below_both HBF.out hbg); have hxb := (HPd.out Xg HBG.out).1; have x0 := cell_of_row _ _ 0 _ _ _ hxb; have x1 := cell_of_row _ _ 1 _ _ _ hxb; clear hbg hxb)
        | (go_at_call 18; refine HS18.out.mono ?_; rintro e Xf ⟨rfl, hbf⟩; have HBF : Hid (Below Wd.heap.size Wd Xf) := hid hbf; clear hbf))
      go_ret
      exact ⟨rfl, below_both HBw.out (below_both HBU.out HBH.out)⟩
end Go.Proofs.Ytoefbgkeinhibaa

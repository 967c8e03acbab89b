/- The walk of DiskChooses. -/
import Derived.Test.YtoefbgkeinhibaaWd
import Derived.Test.YtoefbgkeinhibaaSb
import Derived.OpenShut
import Derived.BigRegion
namespace Go.Proofs.Ytoefbgkeinhibaa
open Go.RowKit Go.Lib Go.Maps

theorem dk_form {w : World} {v : Value} {st : List Sect} {ca : List Ca} (h : Dk w v st ca) : ∃ A c B d, v = .agg #[.slice A st.length c, .slice B ca.length d] := by
  obtain ⟨sv, cv, rfl, h1, h2, h3⟩ := h
  obtain ⟨A, c, rfl⟩ := sec_form h1
  obtain ⟨B, d, rfl⟩ := cas_form h3
  exact ⟨A, c, B, d, rfl⟩
theorem u8n {x : Int} (h : (Lit.int .u8 x).wf = true) : ∃ y : Nat, x = (y : Int) ∧ y < 256 := by
  have hb := Go.bounds_u8 h
  obtain ⟨y, rfl⟩ := Int.eq_ofNat_of_zero_le hb.1
  exact ⟨y, rfl, by omega⟩
theorem rightS_tot (st : List Sect) (ca : List Ca) (ops : List OpT) : (rightS st ca ops).2.length ≤ ca.length + tot ops := by
  induction ops generalizing st ca with
  | nil => exact Nat.le_add_right _ _
  | cons x r ih =>
    have ht : tot (x :: r) = x.l.length + tot r := rfl
    rw [rightS, ht]
    split
    · have h1 := ih (runS st ca [x]).2.2.1 (runS st ca [x]).2.2.2
      have h2 := (runS_len st ca [x]).2
      have h3 : tot [x] = x.l.length := by simp [tot]
      omega
    · have h1 := ih st ca
      omega
theorem crash_open {w w' : World} {rs : List Sect} {rc : List Ca} {rl : List Int} {e : Ending} (h : CrashQ w (rs, rc, rl) e w') (hr : ∀ x ∈ rl, R64 x) : ∃ A c B d U uc, e = .returned (.tuple #[.agg #[.slice A rs.length c, .slice B rc.length d], .slice U rl.length uc]) ∧ Dk w' (.agg #[.slice A rs.length c, .slice B rc.length d]) rs rc ∧ Ints w' (.slice U rl.length uc) rl ∧ Below w.heap.size w w' := by
  obtain ⟨v, u, rfl, ⟨⟨sv, cv, rfl, h1, h2⟩, h3⟩, h4, hb⟩ := h
  dsimp only at h1 h2 h3 h4
  obtain ⟨A, c, rfl⟩ := ownAny_form h1
  obtain ⟨B, d, rfl⟩ := ownAny_form h2
  obtain ⟨U, uc, rfl⟩ := own_formE h4
  exact ⟨A, c, B, d, U, uc, rfl, dk_own ⟨_, _, rfl, h1, h2⟩ h3.1 h3.2, ints_of_own h4 hr, hb⟩
theorem crashS_ch {st : List Sect} {ca : List Ca} {l : List Int} {x : Int} (h : x ∈ (crashS st ca l).2.2) : x ∈ l := by
  unfold crashS at h
  split at h
  · dsimp only at h
    rw [crs_ch] at h
    exact List.mem_of_mem_drop h
  · exact h
theorem chkC_in {n : Nat} {ca : List Ca} (h : chkC n ca = 0) {c : Ca} (hc : c ∈ ca) : 0 ≤ c.1 ∧ c.1 < n := by
  induction ca with
  | nil => cases hc
  | cons x r ih =>
    rw [chkC] at h
    split at h
    · exact absurd h (by decide)
    · rename_i hx
      rcases List.mem_cons.1 hc with rfl | hc
      · have hx' : insB n c.1 1 = true := by simpa using hx
        have := of_decide_eq_true hx'
        omega
      · exact ih h hc
theorem plc_le (n : Nat) (ca : List Ca) (κ : Int) (i : Nat) : plc n ca κ i ≤ n := by
  unfold plc
  exact Nat.le_trans (List.length_filter_le _ _) (by rw [List.length_range]; exact Nat.le_refl _)
theorem ver_le (ca : List Ca) (κ : Int) (j i : Nat) : ver ca κ j i ≤ i := by
  unfold ver G
  rw [List.length_map]
  refine Nat.le_trans (List.length_filter_le _ _) ?_
  rw [List.length_take]
  omega
theorem make55 (W : World) (n : Nat) (hn : n ≤ 1000000) : (Instr.makeSlice 55 (.int .i64 n) (.int .i64 n)).run Try.prog W = .ok (.slice (some ⟨W.heap.size, 0, none⟩) n n) (W.alloc (.cells (List.replicate n (.int .i64 0)).toArray 3)) := by
  have hinf : (Try.prog.info? 3).map (fun i => (i.zero, i.size, i.bytes)) = some (some (.int .i64 0), 1, 8) := by kernel_rfl
  obtain ⟨i0, hi, hz0, hz1, hz2⟩ := info_parts hinf
  have h := run_make (P := Try.prog) W 55 3 i0 (.int .i64 0) Try.underlying55 hi hz0 .i64 .i64 (n : Int) (n : Int) (by omega) (by omega) (by rw [hz2]; omega) (by omega)
  rw [hz1, Int.toNat_natCast, Nat.mul_one] at h
  have e : madeCells #[.int .i64 0] n = (List.replicate n (Value.int .i64 0)).toArray := by
    rw [← toList_madeCells_one]
  rw [show (Value.int .i64 0).cells = #[.int .i64 0] from rfl, e] at h
  exact h
theorem set_at (n k : Nat) (v : Value) : (List.replicate n (Value.int .i64 0)).toArray.setIfInBounds k v = ((List.replicate n (Value.int .i64 0)).set k v).toArray := by
  rw [List.setIfInBounds_toArray]
theorem rep_set (k : Nat) (v : Int) : (List.replicate (k + 1) (Value.int .i64 0)).set k (.int .i64 v) = (List.replicate k 0 ++ [v]).map intV := by
  induction k with
  | zero => rfl
  | succ k ih =>
    rw [List.replicate_succ, List.set_cons_succ, ih, List.replicate_succ]
    rfl
theorem size77 : (Try.prog.info? 77).map (·.size) = some 9 := by kernel_rfl
theorem plc_zero (n : Nat) (ca : List Ca) (κ : Int) : plc n ca κ 0 = 0 := by
  unfold plc seenK
  simp
theorem ver_zero (ca : List Ca) (κ : Int) (j : Nat) : ver ca κ j 0 = 0 := by
  unfold ver G
  simp
theorem below_drewN' {B : Nat} {a w : World} (h : Below B a w) (n : Nat) : Below B a (w.drewN n) := ⟨h.os, h.tape, h.output, h.size, h.block⟩
theorem rep_set2 (k : Nat) (v x : Int) : ((List.replicate k 0 ++ [v]).map intV).set k (.int .i64 x) = (List.replicate k 0 ++ [x]).map intV := by
  induction k with
  | zero => rfl
  | succ k ih =>
    rw [List.replicate_succ, List.cons_append, List.map_cons, List.set_cons_succ, ih, List.cons_append, List.map_cons]
theorem u16n {x : Int} (h : (Lit.int .u16 x).wf = true) : ∃ y : Nat, x = (y : Int) ∧ y < 65536 := by
  have hb := Go.bounds_u16 h
  obtain ⟨y, rfl⟩ := Int.eq_ofNat_of_zero_le hb.1
  exact ⟨y, rfl, by omega⟩
set_option maxHeartbeats 8000000 in
set_option maxRecDepth 100000 in
theorem chooses_any (bz : Int) (ov : Value) (ops : List OpT) (bw : Int) (w : World) (hbz : (Lit.int .u8 bz).wf = true) (ho : OpsA w ov ops) (hbig : BigO ops) (hbw : (Lit.int .u16 bw).wf = true) :
    Calls Try.prog 9 #[.int .u8 bz, ov, .int .u16 bw] w (TrueQ w) := by
  obtain ⟨z, rfl, hz⟩ := u8n hbz
  obtain ⟨q, rfl, hq⟩ := u16n hbw
  clear hbz hbw
  obtain ⟨O, oc, rfl⟩ := ops_form ho
  have HDK := hid (fun X (hX : Below w.heap.size w X) => (show OpsA X (.slice O ops.length oc) ops from ho.below hX))
  have HAW := hid (fun W => awake_any W)
  have HF := hid (fewOps_any ops (.slice O ops.length oc) w ho hbig)
  clear ho
  obtain ⟨f1, hf1⟩ : ∃ b, fewO ops = b := ⟨_, rfl⟩
  rw [hf1] at HF
  rcases f1 with _ | _
  · clear hf1
    go_enter Try.func9, Try.ntmps9
    go_upto_region 2 with (go_at_call 12; refine HF.out.mono ?_; rintro e X4 ⟨rfl, hb4⟩; have HB4 := hid hb4; clear hb4)
    go_wp2_with (go_at_call 13; refine (HAW.out _).mono ?_; rintro e X5 ⟨rfl, hb5⟩; have HB5 := hid hb5; clear hb5)
    go_ret
    exact ⟨rfl, below_both HB4.out HB5.out⟩
  obtain ⟨hol, htot⟩ := fewO_tot hf1
  clear hf1
  obtain ⟨n, hn⟩ : ∃ n, z % 40 = n := ⟨_, rfl⟩
  have hn40 : n < 40 := by omega
  obtain ⟨r, hr⟩ : ∃ r, rightS (List.replicate n zs) [] ops = r := ⟨_, rfl⟩
  obtain ⟨hrn, hrk0⟩ := rightS_new n (by omega) ops
  have hrt := rightS_tot (List.replicate n zs) [] ops
  rw [hr] at hrn hrk0 hrt
  have HRI := hid (fun X (hX : Below w.heap.size w X) => (by
    have h := right_any z ops _ X (HDK.out X hX) hz (by omega)
    rw [hn, hr] at h
    exact h : Calls Try.prog 36 #[.int .u8 (z : Int), .slice O ops.length oc] X (SyQ X r)))
  obtain ⟨st, ca⟩ := r
  dsimp only at hrn hrk0 hrt
  rw [List.length_nil, Nat.zero_add] at hrt
  obtain ⟨m, hm⟩ : ∃ m, ca.length = m := ⟨_, rfl⟩
  obtain ⟨on, hon⟩ : ∃ q, ops.length = q := ⟨_, rfl⟩
  rw [hm] at hrt
  rw [hon] at HF HRI HDK
  rw [hon]
  have HSO := hid (fun (X X' : World) (e : Ending) (h : SyQ X (st, ca) e X') => (by
    obtain ⟨v, rfl, ho, hb⟩ := h
    have ho := ho.dk
    dsimp only at ho
    obtain ⟨A, c, B, d, rfl⟩ := dk_form ho
    rw [hrn, hm] at ho ⊢
    exact ⟨A, c, B, d, rfl, ho, hb⟩ : ∃ A c B d, e = .returned (.agg #[.slice A n c, .slice B m d]) ∧ Dk X' (.agg #[.slice A n c, .slice B m d]) st ca ∧ Below X.heap.size X X'))
  have HK0 := hid hrk0
  have HN := hid hrn
  have HM := hid hm
  clear hr hn hrn hrk0 hm hon
  go_enter Try.func9, Try.ntmps9
  go_upto_region 4 with (first
    | (have Z := HB4; go_at_call 36; refine (HRI.out X4 HB4.out).mono ?_; intro e X6 hQ; obtain ⟨A6, c6, B6, d6, rfl, hk6, hb6⟩ := HSO.out _ _ _ hQ; have HK6 := hid hk6; have HB6 := hid hb6; clear hQ hk6 hb6)
    | (go_at_call 12; refine HF.out.mono ?_; rintro e X4 ⟨rfl, hb4⟩; have HB4 := hid hb4; clear hb4))
  obtain ⟨W7, hW7⟩ : ∃ X, X6.alloc (.cells #[.slice A6 n c6, .slice B6 m d6] 25) = X := ⟨_, rfl⟩
  obtain ⟨p7, hp7⟩ : ∃ p, X6.heap.size = p := ⟨_, rfl⟩
  have hb7 : Below X6.heap.size X6 W7 := by rw [← hW7]; exact al1 _ _
  have hx7 : W7.heap[p7]? = some (.cells #[.slice A6 n c6, .slice B6 m d6] 25) := by rw [← hW7, ← hp7]; exact heap_alloc_new _ _
  rw [hW7, hp7]
  have HBW7 : Hid (Below w.heap.size w W7) := hid (below_both HB4.out (below_both HB6.out hb7))
  have HP7 := hid (fun X (hX : Below W7.heap.size W7 X) => (show X.heap[p7]? = some (.cells #[.slice A6 n c6, .slice B6 m d6] 25) ∧ Sec X (.slice A6 n c6) st ∧ NilOk (.slice A6 n c6) ∧ Cas X (.slice B6 m d6) ca from ⟨(hX.block _ (box_lt hx7)).trans hx7, dk_parts ((HK6.out.below hb7).below hX)⟩))
  have x0 := cell_of_row _ _ 0 _ _ _ hx7
  have x1 := cell_of_row _ _ 1 _ _ _ hx7
  clear hW7 hp7 hb7 hx7
  by_cases hm0 : m = 0
  · subst hm0
    go_wp2_with (go_at_call 13; refine (HAW.out _).mono ?_; rintro e X5 ⟨rfl, hb5⟩; have HB5 := hid hb5; clear hb5)
    go_ret
    exact ⟨rfl, below_both HBW7.out HB5.out⟩
  have em : decide ((m : Int) = 0) = false := decide_eq_false (by omega)
  have em' : ((m : Int) == 0) = false := by simpa using hm0
  obtain ⟨jx, hjx⟩ : ∃ j, q % m = j := ⟨_, rfl⟩
  have hjm : jx < m := by rw [← hjx]; exact Nat.mod_lt _ (by omega)
  have hjm' : (jx : Int) < (m : Int) := by omega
  have hwq : IntKind.i64.wrap (q : Int) = (q : Int) := by rw [IntKind.wrap_i64]; omega
  have hrem' : (q : Int).tmod (m : Int) = (jx : Int) := by rw [← hjx]; rfl
  have hrem : IntKind.i64.wrap ((q : Int).tmod (m : Int)) = (jx : Int) := by rw [hrem', IntKind.wrap_i64]; omega
  have hcas := (HP7.out W7 (Below.refl _ _)).2.2.2
  obtain ⟨cb, co, hB6, hcb, hcc⟩ := arr_at1 hcas.2.2 (by rw [List.length_map, HM.out]; omega)
  subst hB6
  obtain ⟨cx, hcx⟩ : ∃ s, ca[jx]? = some s := ⟨ca[jx]'(by rw [HM.out]; exact hjm), List.getElem?_eq_getElem _⟩
  have hcm := chkC_in (n := n) (by have h := HK0.out; rw [show chkD n ca = chkC n ca from by unfold chkD; rw [if_neg (by omega)]] at h; exact h) (List.mem_of_getElem? hcx)
  have h8c := hcas.1 cx (List.mem_of_getElem? hcx)
  have HCX := hid (fun (t : Nat) (u : Value) (hu : (cCa cx)[t]? = some u) => hcc jx _ (by rw [List.getElem?_map, hcx]; rfl) t u hu)
  obtain ⟨cz, cd⟩ := cx
  dsimp only at h8c hcm
  obtain ⟨kN, rfl⟩ := Int.eq_ofNat_of_zero_le hcm.1
  have hkn : kN < n := by have := hcm.2; omega
  obtain ⟨s0, s1, s2, s3, s4, s5, s6, s7, rfl⟩ := list8 h8c.1
  have HJX := hid hcx
  have H8C := hid h8c.2.1
  have q0 : W7.cell? ⟨cb, co + jx * 9, none⟩ = some (.int .i64 (kN : Int)) := HCX.out 0 _ rfl
  have HK := hid (fun (X : World) (hX : Below W7.heap.size W7 X) => (show X.cell? ⟨p7, 1, none⟩ = some (.slice (some ⟨cb, co, none⟩) m d6) ∧ X.cell? ⟨cb, co + jx * 9, none⟩ = some (.int .i64 (kN : Int)) ∧ X.cell? ⟨cb, co + jx * 9 + 1, none⟩ = some (.int .u8 (s0 : Int)) ∧ X.cell? ⟨cb, co + jx * 9 + 2, none⟩ = some (.int .u8 (s1 : Int)) ∧ X.cell? ⟨cb, co + jx * 9 + 3, none⟩ = some (.int .u8 (s2 : Int)) ∧ X.cell? ⟨cb, co + jx * 9 + 4, none⟩ = some (.int .u8 (s3 : Int)) ∧ X.cell? ⟨cb, co + jx * 9 + 5, none⟩ = some (.int .u8 (s4 : Int)) ∧ X.cell? ⟨cb, co + jx * 9 + 6, none⟩ = some (.int .u8 (s5 : Int)) ∧ X.cell? ⟨cb, co + jx * 9 + 7, none⟩ = some (.int .u8 (s6 : Int)) ∧ X.cell? ⟨cb, co + jx * 9 + 8, none⟩ = some (.int .u8 (s7 : Int)) from (by
    have g3 : ∀ (t : Nat) (u : Value), (cCa ((kN : Int), [s0, s1, s2, s3, s4, s5, s6, s7]))[t]? = some u → X.cell? ⟨cb, co + jx * 9 + t, none⟩ = some u := fun t u hu => by
      have h := HCX.out t u hu
      unfold World.cell? at h ⊢
      rw [hX.block cb hcb]
      exact h
    exact ⟨cell_of_row _ _ 1 _ _ _ (HP7.out X hX).1, g3 0 _ rfl, g3 1 _ rfl, g3 2 _ rfl, g3 3 _ rfl, g3 4 _ rfl, g3 5 _ rfl, g3 6 _ rfl, g3 7 _ rfl, g3 8 _ rfl⟩)))
  clear hcas hcc hcx h8c hcm hcb
  go_upto_region 6 with fail
  clear x0 x1
  refine region_tail 11 (fun X => X.cell? ⟨p7, 1, none⟩ = some (.slice (some ⟨cb, co, none⟩) m d6) ∧ X.cell? ⟨cb, co + jx * 9, none⟩ = some (.int .i64 (kN : Int)) ∧ X.cell? ⟨cb, co + jx * 9 + 1, none⟩ = some (.int .u8 (s0 : Int)) ∧ X.cell? ⟨cb, co + jx * 9 + 2, none⟩ = some (.int .u8 (s1 : Int)) ∧ X.cell? ⟨cb, co + jx * 9 + 3, none⟩ = some (.int .u8 (s2 : Int)) ∧ X.cell? ⟨cb, co + jx * 9 + 4, none⟩ = some (.int .u8 (s3 : Int)) ∧ X.cell? ⟨cb, co + jx * 9 + 5, none⟩ = some (.int .u8 (s4 : Int)) ∧ X.cell? ⟨cb, co + jx * 9 + 6, none⟩ = some (.int .u8 (s5 : Int)) ∧ X.cell? ⟨cb, co + jx * 9 + 7, none⟩ = some (.int .u8 (s6 : Int)) ∧ X.cell? ⟨cb, co + jx * 9 + 8, none⟩ = some (.int .u8 (s7 : Int))) (by kernel_rfl) ?_
  obtain ⟨X0, hX0⟩ : ∃ X, W7.drew = X := ⟨_, rfl⟩
  have hBX0 : Below W7.heap.size W7 X0 := by rw [← hX0]; exact (Below.refl W7.heap.size W7).drew
  have hHeld := HK.out X0 hBX0
  rw [hX0]
  clear hX0
  refine' wpAnyT_take (i := 0) (oi := ?oia0) (v := ?va0) ?hia0 (by kernel_rfl) (by kernel_rfl) ?hqa0 ?hya0 hHeld ?resta0
  case hia0 => (simp only [List.getElem?_toArray, List.getElem?_cons_zero]; rfl)
  case hqa0 => exact fun _ _ _ h => h
  case hya0 => (refine Or.inl ⟨by rfl, ?_⟩; intro w' hSw; (try dsimp only at hSw); go_simp; try with_reducible rfl)
  (try simp only [Act.put, List.setIfInBounds_toArray, List.set_cons_zero, List.set_cons_succ])
  refine' wpAnyT_take (i := 1) (oi := ?oia1) (v := ?va1) ?hia1 (by kernel_rfl) (by kernel_rfl) ?hqa1 ?hya1 hHeld ?resta1
  case hia1 => (simp only [List.getElem?_toArray, List.getElem?_cons_zero, List.getElem?_cons_succ]; rfl)
  case hqa1 => exact fun _ _ _ h => h
  case hya1 => (refine Or.inl ⟨by rfl, ?_⟩; intro w' hSw; (try dsimp only at hSw); go_simp; try with_reducible rfl)
  (try simp only [Act.put, List.setIfInBounds_toArray, List.set_cons_zero, List.set_cons_succ])
  refine' wpAnyT_take (i := 2) (oi := ?oia2) (v := ?va2) ?hia2 (by kernel_rfl) (by kernel_rfl) ?hqa2 ?hya2 hHeld ?resta2
  case hia2 => (simp only [List.getElem?_toArray, List.getElem?_cons_zero, List.getElem?_cons_succ]; rfl)
  case hqa2 => exact fun _ _ _ h => h
  case hya2 => (refine Or.inl ⟨by rfl, ?_⟩; intro w' hSw; (try dsimp only at hSw); go_simp; try with_reducible rfl)
  (try simp only [Act.put, List.setIfInBounds_toArray, List.set_cons_zero, List.set_cons_succ])
  refine' wpAnyT_take (i := 3) (oi := ?oia3) (v := ?va3) ?hia3 (by kernel_rfl) (by kernel_rfl) ?hqa3 ?hya3 hHeld ?resta3
  case hia3 => (simp only [List.getElem?_toArray, List.getElem?_cons_zero, List.getElem?_cons_succ]; rfl)
  case hqa3 => exact fun _ _ _ h => h
  case hya3 => (refine Or.inl ⟨by rfl, ?_⟩; intro w' hSw; (try dsimp only at hSw); go_simp; try with_reducible rfl)
  (try simp only [Act.put, List.setIfInBounds_toArray, List.set_cons_zero, List.set_cons_succ])
  refine' wpAnyT_take (i := 4) (oi := ?oia4) (v := ?va4) ?hia4 (by kernel_rfl) (by kernel_rfl) ?hqa4 ?hya4 hHeld ?resta4
  case hia4 => (simp only [List.getElem?_toArray, List.getElem?_cons_zero, List.getElem?_cons_succ]; rfl)
  case hqa4 => exact fun _ _ _ h => h
  case hya4 => (refine Or.inl ⟨by rfl, ?_⟩; intro w' hSw; (try dsimp only at hSw); go_simp; try with_reducible rfl)
  (try simp only [Act.put, List.setIfInBounds_toArray, List.set_cons_zero, List.set_cons_succ])
  refine' wpAnyT_take (i := 5) (oi := ?oia5) (v := ?va5) ?hia5 (by kernel_rfl) (by kernel_rfl) ?hqa5 ?hya5 hHeld ?resta5
  case hia5 => (simp only [List.getElem?_toArray, List.getElem?_cons_zero, List.getElem?_cons_succ]; rfl)
  case hqa5 => exact fun _ _ _ h => h
  case hya5 => (refine Or.inl ⟨by rfl, ?_⟩; intro w' hSw; (try dsimp only at hSw); go_simp; try with_reducible rfl)
  (try simp only [Act.put, List.setIfInBounds_toArray, List.set_cons_zero, List.set_cons_succ])
  refine' wpAnyT_take (i := 6) (oi := ?oia6) (v := ?va6) ?hia6 (by kernel_rfl) (by kernel_rfl) ?hqa6 ?hya6 hHeld ?resta6
  case hia6 => (simp only [List.getElem?_toArray, List.getElem?_cons_zero, List.getElem?_cons_succ]; rfl)
  case hqa6 => exact fun _ _ _ h => h
  case hya6 => (refine Or.inl ⟨by rfl, ?_⟩; intro w' hSw; (try dsimp only at hSw); go_simp; try with_reducible rfl)
  (try simp only [Act.put, List.setIfInBounds_toArray, List.set_cons_zero, List.set_cons_succ])
  refine' wpAnyT_take (i := 7) (oi := ?oia7) (v := ?va7) ?hia7 (by kernel_rfl) (by kernel_rfl) ?hqa7 ?hya7 hHeld ?resta7
  case hia7 => (simp only [List.getElem?_toArray, List.getElem?_cons_zero, List.getElem?_cons_succ]; rfl)
  case hqa7 => exact fun _ _ _ h => h
  case hya7 => (refine Or.inl ⟨by rfl, ?_⟩; intro w' hSw; (try dsimp only at hSw); go_simp; try with_reducible rfl)
  (try simp only [Act.put, List.setIfInBounds_toArray, List.set_cons_zero, List.set_cons_succ])
  refine' wpAnyT_take (i := 8) (oi := ?oia8) (v := ?va8) ?hia8 (by kernel_rfl) (by kernel_rfl) ?hqa8 ?hya8 hHeld ?resta8
  case hia8 => (simp only [List.getElem?_toArray, List.getElem?_cons_zero, List.getElem?_cons_succ]; rfl)
  case hqa8 => exact fun _ _ _ h => h
  case hya8 => (refine Or.inl ⟨by rfl, ?_⟩; intro w' hSw; (try dsimp only at hSw); go_simp; try with_reducible rfl)
  (try simp only [Act.put, List.setIfInBounds_toArray, List.set_cons_zero, List.set_cons_succ])
  refine' wpAnyT_take (i := 9) (oi := ?oia9) (v := ?va9) ?hia9 (by kernel_rfl) (by kernel_rfl) ?hqa9 ?hya9 hHeld ?resta9
  case hia9 => (simp only [List.getElem?_toArray, List.getElem?_cons_zero, List.getElem?_cons_succ]; rfl)
  case hqa9 => exact fun _ _ _ h => h
  case hya9 => (refine Or.inl ⟨by rfl, ?_⟩; intro w' hSw; (try dsimp only at hSw); go_simp; try with_reducible rfl)
  (try simp only [Act.put, List.setIfInBounds_toArray, List.set_cons_zero, List.set_cons_succ])
  refine' wpAnyT_one (i := 10) (o := ?oia10) (by kernel_rfl) ?hia10 (fun K hK => ?sta10)
  case hia10 => (simp only [List.getElem?_toArray, List.getElem?_cons_zero, List.getElem?_cons_succ]; rfl)
  go_simp
  obtain ⟨Z8, hZ8⟩ : ∃ X, X0.alloc (.cells #[.int .i64 0, .int .u8 0, .int .u8 0, .int .u8 0, .int .u8 0, .int .u8 0, .int .u8 0, .int .u8 0, .int .u8 0] 77) = X := ⟨_, rfl⟩
  obtain ⟨p8, hp8⟩ : ∃ p, X0.heap.size = p := ⟨_, rfl⟩
  have hbz : Below X0.heap.size X0 Z8 := by rw [← hZ8]; exact al1 _ _
  have hxz : Z8.heap[p8]? = some (.cells #[.int .i64 0, .int .u8 0, .int .u8 0, .int .u8 0, .int .u8 0, .int .u8 0, .int .u8 0, .int .u8 0, .int .u8 0] 77) := by rw [← hZ8, ← hp8]; exact heap_alloc_new _ _
  rw [hZ8, hp8]
  have hB8 : Below W7.heap.size W7 Z8 := hBX0.trans (hbz.mono hBX0.size)
  clear hHeld
  have hHeld := HK.out Z8 hB8
  have hp8g : W7.heap.size ≤ p8 := by rw [← hp8]; exact hBX0.size
  obtain ⟨W8, hW8⟩ : ∃ X, Z8.setRow p8 #[.int .i64 (kN : Int), .int .u8 (s0 : Int), .int .u8 (s1 : Int), .int .u8 (s2 : Int), .int .u8 (s3 : Int), .int .u8 (s4 : Int), .int .u8 (s5 : Int), .int .u8 (s6 : Int), .int .u8 (s7 : Int)] = X := ⟨_, rfl⟩
  have HR : Hid ((Instr.storeAt 77 (.pointer (some ⟨p8, 0, none⟩)) (.agg #[.int .i64 (kN : Int), .int .u8 (s0 : Int), .int .u8 (s1 : Int), .int .u8 (s2 : Int), .int .u8 (s3 : Int), .int .u8 (s4 : Int), .int .u8 (s5 : Int), .int .u8 (s6 : Int), .int .u8 (s7 : Int)])).run Try.prog Z8 = .ok () W8) := hid (by
    rw [← hW8]
    exact run_storeAt_row Z8 p8 0 77 77 [.int .i64 (kN : Int), .int .u8 (s0 : Int), .int .u8 (s1 : Int), .int .u8 (s2 : Int), .int .u8 (s3 : Int), .int .u8 (s4 : Int), .int .u8 (s5 : Int), .int .u8 (s6 : Int), .int .u8 (s7 : Int)] #[.int .i64 0, .int .u8 0, .int .u8 0, .int .u8 0, .int .u8 0, .int .u8 0, .int .u8 0, .int .u8 0, .int .u8 0] hxz size77 (by simp) (fun v hv => by simp only [List.mem_cons, List.not_mem_nil, or_false] at hv; rcases hv with rfl | rfl | rfl | rfl | rfl | rfl | rfl | rfl | rfl <;> rfl))
  have HX8 : Hid (W8.heap[p8]? = some (.cells #[.int .i64 (kN : Int), .int .u8 (s0 : Int), .int .u8 (s1 : Int), .int .u8 (s2 : Int), .int .u8 (s3 : Int), .int .u8 (s4 : Int), .int .u8 (s5 : Int), .int .u8 (s6 : Int), .int .u8 (s7 : Int)] 77)) := hid (by rw [← hW8]; unfold World.setRow; simp [Array.getElem?_modify, hxz])
  have HB8 : Hid (Below W7.heap.size W7 W8) := hid (by rw [← hW8]; exact below_setRow hB8 hp8g _)
  clear hZ8 hp8 hbz hxz hB8 hp8g hW8
  refine hK.out _ _ (fun _ => hHeld) ?_
  clear hK K
  (try simp only [Act.put, List.setIfInBounds_toArray, List.set_cons_zero, List.set_cons_succ])
  refine' wpAnyT_one (i := 11) (o := ?oia11) (by kernel_rfl) ?hia11 (fun K hK => ?sta11)
  case hia11 => (simp only [List.getElem?_toArray, List.getElem?_cons_zero, List.getElem?_cons_succ]; rfl)
  refine step_store_run rfl 77 (.tmp 8) (.tmp 40) rfl (.pointer (some ⟨p8, 0, none⟩)) (.agg #[.int .i64 (kN : Int), .int .u8 (s0 : Int), .int .u8 (s1 : Int), .int .u8 (s2 : Int), .int .u8 (s3 : Int), .int .u8 (s4 : Int), .int .u8 (s5 : Int), .int .u8 (s6 : Int), .int .u8 (s7 : Int)]) (by simp [Act.eval]) (by simp [Act.eval]) HR.out ?_
  refine hK.out _ _ (fun h => absurd h (by decide)) ?_
  clear hK K
  refine wpAnyT_done (by kernel_rfl) ?_ _
  clear HR hHeld hBX0 em em' hjx
  have HBW8 : Hid (Below w.heap.size w W8) := hid (below_both HBW7.out HB8.out)
  have HP8 := hid (fun X (hX : Below W8.heap.size W8 X) => (show X.heap[p7]? = some (.cells #[.slice A6 n c6, .slice (some ⟨cb, co, none⟩) m d6] 25) ∧ X.heap[p8]? = some (.cells #[.int .i64 (kN : Int), .int .u8 (s0 : Int), .int .u8 (s1 : Int), .int .u8 (s2 : Int), .int .u8 (s3 : Int), .int .u8 (s4 : Int), .int .u8 (s5 : Int), .int .u8 (s6 : Int), .int .u8 (s7 : Int)] 77) ∧ Sec X (.slice A6 n c6) st ∧ NilOk (.slice A6 n c6) ∧ Cas X (.slice (some ⟨cb, co, none⟩) m d6) ca from (by
    have h := HP7.out X (below_both HB8.out hX)
    exact ⟨h.1, (hX.block _ (box_lt HX8.out)).trans HX8.out, h.2⟩)))
  have hmk : ∀ W, (Instr.makeMap 80 none).run Try.prog W = .ok (.map (some W.heap.size)) (W.alloc (.map #[] 0)) := fun _ => rfl
  obtain ⟨pm, hpm⟩ : ∃ p, W8.heap.size = p := ⟨_, rfl⟩
  obtain ⟨W9, hW9⟩ : ∃ X, W8.alloc (.map #[] 0) = X := ⟨_, rfl⟩
  have HM0 : Hid (W9.ownsMap (H := Unit) Try.prog 3 (plainElem Try.prog 4) pm 0 (.map [])) := hid (by
    have h := World.ownsMap_made (H := Unit) W8 Try.prog 3 (plainElem Try.prog 4)
    rw [hW9, hpm] at h
    exact h)
  have HB9 : Hid (Below W8.heap.size W8 W9) := hid (by rw [← hW9]; exact al1 _ _)
  have HPM := hid hpm
  have HW9S : Hid (W9.heap.size = pm + 1) := hid (by rw [← hW9, ← hpm]; simp)
  have hx79 := (HP8.out W9 HB9.out).1
  have x1 := cell_of_row _ _ 1 _ _ _ hx79
  go_upto_region 9 with fail
  (try rw [hW9])
  (try rw [hpm])
  clear hW9 hpm hx79
  go_upto_region 10 with fail
  clear x1 hmk
  go_loopw [45, 9, 10] (fun iv pv vv wr => ∃ (i : Nat) (L : List Int), i ≤ m ∧ iv = .int .i64 (i : Int) ∧ pv = .int .i64 ((plc n ca (kN : Int) i : Nat) : Int) ∧ vv = .int .i64 ((ver ca (kN : Int) jx i : Nat) : Int) ∧ Hid (wr.ownsMap (H := Unit) Try.prog 3 (plainElem Try.prog 4) pm L.length (snD L)) ∧ Hid (L.length ≤ i ∧ ∀ k, k < (kN : Int) → snB L k = seenK ca i k) ∧ Hid (Below W8.heap.size W9 wr)) (fun iv _ _ _ => m - (Go.RowKit.intOf iv).toNat)
  case atStart => exact ⟨0, [], Nat.zero_le _, rfl, by rw [plc_zero]; rfl, by rw [ver_zero]; rfl, HM0, hid ⟨Nat.le_refl _, fun k _ => rfl⟩, hid (Below.refl _ _)⟩
  case round =>
    obtain ⟨i, L, hi, rfl, rfl, rfl, HMm, HL, HB9r⟩ := hrel
    have HB : Hid (Below W8.heap.size W8 wr) := hid (HB9.out.trans HB9r.out)
    have HSZ : Hid (pm < wr.heap.size) := hid (by have h1 := HB9r.out.size; have h2 := HW9S.out; omega)
    have hll := HL.out.1
    by_cases him : i < m
    · have d0 : decide ((i : Int) < (m : Int)) = true := decide_eq_true (by omega)
      have him' : (i : Int) < (m : Int) := by omega
      have hcas := (HP8.out wr HB.out).2.2.2.2
      obtain ⟨xb, xo, hX, hxb, hxc⟩ := arr_at1 hcas.2.2 (by rw [List.length_map, HM.out]; omega)
      injection hX with hX
      injection hX with hX1 hX2
      subst hX1 hX2
      obtain ⟨cx, hcx⟩ : ∃ s, ca[i]? = some s := ⟨ca[i]'(by rw [HM.out]; exact him), List.getElem?_eq_getElem _⟩
      have hcm := chkC_in (n := n) (by have h := HK0.out; rw [show chkD n ca = chkC n ca from by unfold chkD; rw [if_neg (by omega)]] at h; exact h) (List.mem_of_getElem? hcx)
      have h8c := hcas.1 cx (List.mem_of_getElem? hcx)
      have HCI := hid (fun (t : Nat) (u : Value) (hu : (cCa cx)[t]? = some u) => hxc i _ (by rw [List.getElem?_map, hcx]; rfl) t u hu)
      have HVS := hid (ver_succ (κ := (kN : Int)) (j := jx) hcx)
      have HSK := hid (seenK_succ hcx)
      have HPA := hid (fun hc => plc_same (n := n) (κ := (kN : Int)) hcx hc)
      have HPB := hid (fun hlt hc => plc_more (n := n) (κ := (kN : Int)) hcx hcm.1 hcm.2 hlt hc)
      obtain ⟨xa, xd⟩ := cx
      dsimp only at h8c HVS HSK HPA HPB
      obtain ⟨t0, t1, t2, t3, t4, t5, t6, t7, rfl⟩ := list8 h8c.1
      have HXR := hid h8c.2.2
      obtain ⟨pl, hpl⟩ : ∃ p, plc n ca (kN : Int) i = p := ⟨_, rfl⟩
      obtain ⟨vr, hvr⟩ : ∃ p, ver ca (kN : Int) jx i = p := ⟨_, rfl⟩
      have hpn : pl ≤ n := by rw [← hpl]; exact plc_le _ _ _ _
      have hvi : vr ≤ i := by rw [← hvr]; exact ver_le _ _ _ _
      rw [hpl] at HPA HPB ⊢
      rw [hvr] at HVS ⊢
      clear hpl hvr
      have r0 : wr.cell? ⟨cb, co + i * 9, none⟩ = some (.int .i64 xa) := HCI.out 0 _ rfl
      have r1 : wr.cell? ⟨cb, co + i * 9 + 1, none⟩ = some (.int .u8 (t0 : Int)) := HCI.out 1 _ rfl
      have r2 : wr.cell? ⟨cb, co + i * 9 + 2, none⟩ = some (.int .u8 (t1 : Int)) := HCI.out 2 _ rfl
      have r3 : wr.cell? ⟨cb, co + i * 9 + 3, none⟩ = some (.int .u8 (t2 : Int)) := HCI.out 3 _ rfl
      have r4 : wr.cell? ⟨cb, co + i * 9 + 4, none⟩ = some (.int .u8 (t3 : Int)) := HCI.out 4 _ rfl
      have r5 : wr.cell? ⟨cb, co + i * 9 + 5, none⟩ = some (.int .u8 (t4 : Int)) := HCI.out 5 _ rfl
      have r6 : wr.cell? ⟨cb, co + i * 9 + 6, none⟩ = some (.int .u8 (t5 : Int)) := HCI.out 6 _ rfl
      have r7 : wr.cell? ⟨cb, co + i * 9 + 7, none⟩ = some (.int .u8 (t6 : Int)) := HCI.out 7 _ rfl
      have r8 : wr.cell? ⟨cb, co + i * 9 + 8, none⟩ = some (.int .u8 (t7 : Int)) := HCI.out 8 _ rfl
      clear hcas hxc hcx h8c hcm hxb
      go_upto_region 12 with fail
      clear r0 r1 r2 r3 r4 r5 r6 r7 r8
      obtain ⟨Wc, hWc⟩ : ∃ X, wr.alloc (.cells #[.int .i64 xa, .int .u8 (t0 : Int), .int .u8 (t1 : Int), .int .u8 (t2 : Int), .int .u8 (t3 : Int), .int .u8 (t4 : Int), .int .u8 (t5 : Int), .int .u8 (t6 : Int), .int .u8 (t7 : Int)] 77) = X := ⟨_, rfl⟩
      obtain ⟨p13, hp13⟩ : ∃ p, wr.heap.size = p := ⟨_, rfl⟩
      have hbc : Below wr.heap.size wr Wc := by rw [← hWc]; exact al1 _ _
      have hxc : Wc.heap[p13]? = some (.cells #[.int .i64 xa, .int .u8 (t0 : Int), .int .u8 (t1 : Int), .int .u8 (t2 : Int), .int .u8 (t3 : Int), .int .u8 (t4 : Int), .int .u8 (t5 : Int), .int .u8 (t6 : Int), .int .u8 (t7 : Int)] 77) := by rw [← hWc, ← hp13]; exact heap_alloc_new _ _
      rw [hWc, hp13]
      have HBc : Hid (Below W8.heap.size W9 Wc) := hid (HB9r.out.trans (hbc.mono (by have := HB.out.size; omega)))
      have HBc8 : Hid (Below W8.heap.size W8 Wc) := hid (HB9.out.trans HBc.out)
      have HMc : Hid (Wc.ownsMap (H := Unit) Try.prog 3 (plainElem Try.prog 4) pm L.length (snD L)) := hid (HMm.out.kept (grown_of_below hbc) (by simp))
      have hp := HP8.out Wc HBc8.out
      have HK8 := hid hp.2.1
      have HK13 := hid hxc
      have HLT : Hid (p8 < Wc.heap.size ∧ p8 < pm ∧ p13 < Wc.heap.size ∧ pm < p13) := hid ⟨box_lt hp.2.1, by have := box_lt HX8.out; have := HPM.out; omega, box_lt hxc, by rw [← hp13]; exact HSZ.out⟩
      have x1 := cell_of_row _ _ 1 _ _ _ hp.1
      have k0 := cell_of_row _ _ 0 _ _ _ hp.2.1
      have r0 := cell_of_row _ _ 0 _ _ _ hxc
      clear hWc hp13 hbc hxc hp
      have hwp : IntKind.i64.wrap ((pl : Int) + 1) = (pl : Int) + 1 := by rw [IntKind.wrap_i64]; omega
      have hwv : IntKind.i64.wrap ((vr : Int) + 1) = (vr : Int) + 1 := by rw [IntKind.wrap_i64]; omega
      by_cases hlt : xa < (kN : Int)
      · have d1 : decide (xa < (kN : Int)) = true := decide_eq_true hlt
        have d2 : decide (xa = (kN : Int)) = false := decide_eq_false (by omega)
        have d2' : (xa == (kN : Int)) = false := by simpa using (show ¬xa = (kN : Int) by omega)
        have HV2 : Hid (ver ca (kN : Int) jx (i + 1) = vr) := hid (by rw [HVS.out, if_neg (fun h => by omega), Nat.add_zero])
        obtain ⟨sb, hsb⟩ : ∃ b, snB L xa = b := ⟨_, rfl⟩
        have hlk := look_sn HMc.out HXR.out
        rw [hsb] at hlk
        have HSB := hid hsb
        have HSB2 : Hid (seenK ca i xa = sb) := hid (by rw [← HL.out.2 xa hlt, hsb])
        clear hsb
        rcases sb with _ | _
        · have HP2 : Hid (plc n ca (kN : Int) (i + 1) = pl + 1) := hid (HPB.out hlt HSB2.out)
          have HL2 : Hid ((L ++ [xa]).length ≤ i + 1 ∧ ∀ k, k < (kN : Int) → snB (L ++ [xa]) k = seenK ca (i + 1) k) := hid ⟨by rw [List.length_append, List.length_singleton]; omega, fun k hk => by rw [snB_snoc, HSK.out, HL.out.2 k hk]⟩
          go_wp2_with (first | (at_mapUpdate; refine wpList_mapUpdate_own _ rfl _ _ _ 80 rfl 3 4 sn_law3 Try.underlying80 _ pm L.length _ rfl HMc.out (by show _ < 2 ^ 63 - 1; omega) _ _ (.int .i64 xa) rfl rfl (sn_key3 HXR.out) (.lit (.bool true)) [] (plainElem_bool Try.underlying4 true) ?_; intro w6 ho6 hg6; have HM6 := hid ho6; have HG6 := hid hg6; have k0 : w6.cell? ⟨p8, 0, none⟩ = some (.int .i64 (kN : Int)) := cell_of_row _ _ 0 _ _ _ ((hg6.block p8 HLT.out.1 (fun e => by injection e with e; have := HLT.out; omega)).trans HK8.out); have r0 : w6.cell? ⟨p13, 0, none⟩ = some (.int .i64 xa) := cell_of_row _ _ 0 _ _ _ ((hg6.block p13 HLT.out.2.2.1 (fun e => by injection e with e; have := HLT.out; omega)).trans HK13.out); clear ho6 hg6) | fail)
          go_roundw
          case rel => exact ⟨i + 1, L ++ [xa], by omega, by go_num, by rw [HP2.out]; first | rfl | go_num, by rw [HV2.out], hid (by rw [snD_snoc, List.length_append, List.length_singleton]; exact HM6.out), HL2, hid (HBc.out.grown HG6.out (by have := HLT.out; have := HPM.out; omega) (fun r hr => by injection hr with hr; have := HPM.out; omega))⟩
          case measure => simp [Go.RowKit.intOf]; omega
        · have HP2 : Hid (plc n ca (kN : Int) (i + 1) = pl) := hid (HPA.out (.inr HSB2.out))
          have HL2 : Hid (L.length ≤ i + 1 ∧ ∀ k, k < (kN : Int) → snB L k = seenK ca (i + 1) k) := hid ⟨by omega, fun k hk => by
            rw [HSK.out, HL.out.2 k hk]
            by_cases he : xa = k
            · rw [← he, HSB2.out, Bool.true_or]
            · rw [decide_eq_false he, Bool.or_false]⟩
          go_wp2_with fail
          go_roundw
          case rel => exact ⟨i + 1, L, by omega, by go_num, by rw [HP2.out], by rw [HV2.out], HMc, HL2, HBc⟩
          case measure => simp [Go.RowKit.intOf]; omega
      · have d1 : decide (xa < (kN : Int)) = false := decide_eq_false hlt
        have HP2 : Hid (plc n ca (kN : Int) (i + 1) = pl) := hid (HPA.out (.inl hlt))
        have HL2 : Hid (L.length ≤ i + 1 ∧ ∀ k, k < (kN : Int) → snB L k = seenK ca (i + 1) k) := hid ⟨by omega, fun k hk => by rw [HSK.out, HL.out.2 k hk, decide_eq_false (show ¬xa = k by omega), Bool.or_false]⟩
        by_cases hxe : xa = (kN : Int)
        · have d2 : decide (xa = (kN : Int)) = true := decide_eq_true hxe
          have d2' : (xa == (kN : Int)) = true := by simpa using hxe
          by_cases hij : i ≤ jx
          · have d3 : decide ((i : Int) ≤ (jx : Int)) = true := decide_eq_true (by omega)
            have d3' : decide (i ≤ jx) = true := decide_eq_true hij
            have HV2 : Hid (ver ca (kN : Int) jx (i + 1) = vr + 1) := hid (by rw [HVS.out, if_pos ⟨hxe, hij⟩])
            go_wp2_with fail
            go_roundw
            case rel => exact ⟨i + 1, L, by omega, by go_num, by rw [HP2.out], by rw [HV2.out]; first | rfl | go_num, HMc, HL2, HBc⟩
            case measure => simp [Go.RowKit.intOf]; omega
          · have d3 : decide ((i : Int) ≤ (jx : Int)) = false := decide_eq_false (by omega)
            have d3' : decide (i ≤ jx) = false := decide_eq_false hij
            have HV2 : Hid (ver ca (kN : Int) jx (i + 1) = vr) := hid (by rw [HVS.out, if_neg (fun h => hij h.2), Nat.add_zero])
            go_wp2_with fail
            go_roundw
            case rel => exact ⟨i + 1, L, by omega, by go_num, by rw [HP2.out], by rw [HV2.out], HMc, HL2, HBc⟩
            case measure => simp [Go.RowKit.intOf]; omega
        · have d2 : decide (xa = (kN : Int)) = false := decide_eq_false hxe
          have d2' : (xa == (kN : Int)) = false := by simpa using hxe
          have HV2 : Hid (ver ca (kN : Int) jx (i + 1) = vr) := hid (by rw [HVS.out, if_neg (fun h => hxe h.1), Nat.add_zero])
          go_wp2_with fail
          go_roundw
          case rel => exact ⟨i + 1, L, by omega, by go_num, by rw [HP2.out], by rw [HV2.out], HMc, HL2, HBc⟩
          case measure => simp [Go.RowKit.intOf]; omega
    · obtain rfl : m = i := by omega
      have d0 : decide ((m : Int) < (m : Int)) = false := decide_eq_false (by omega)
      obtain ⟨pl, hpl⟩ : ∃ p, plc n ca (kN : Int) m = p := ⟨_, rfl⟩
      obtain ⟨vr, hvr⟩ : ∃ p, ver ca (kN : Int) jx m = p := ⟨_, rfl⟩
      have hpn : pl ≤ n := by rw [← hpl]; exact plc_le _ _ _ _
      have hvi : vr ≤ m := by rw [← hvr]; exact ver_le _ _ _ _
      rw [hpl, hvr]
      obtain ⟨l1, hl1⟩ : ∃ l, List.replicate pl 0 ++ [(vr : Int)] = l := ⟨_, rfl⟩
      obtain ⟨l2, hl2⟩ : ∃ l, List.replicate pl 0 ++ [(0 : Int)] = l := ⟨_, rfl⟩
      have hl1n : l1.length = pl + 1 := by rw [← hl1]; simp
      have hl2n : l2.length = pl + 1 := by rw [← hl2]; simp
      have HR1 := hid (show ∀ x ∈ l1, R64 x from fun x hx => by
        rw [← hl1] at hx
        rcases List.mem_append.1 hx with hx | hx
        · rw [List.eq_of_mem_replicate hx]; exact ⟨by omega, by omega⟩
        · rw [List.mem_singleton.1 hx]; exact ⟨by omega, by omega⟩)
      have HR2 := hid (show ∀ x ∈ l2, x = 0 from fun x hx => by
        rw [← hl2] at hx
        rcases List.mem_append.1 hx with hx | hx
        · exact List.eq_of_mem_replicate hx
        · exact List.mem_singleton.1 hx)
      have HC1 : Hid (crashS st ca l1 = (st.set kN [s0, s1, s2, s3, s4, s5, s6, s7], [], (crashS st ca l1).2.2)) := hid (by
        have h := chooses_pick (st := st) (by rw [HN.out]; exact HK0.out) HJX.out (by simp) (by rw [HN.out]; simpa using hkn)
        rw [HN.out, HM.out] at h
        dsimp only at h
        rw [hpl, hvr, hl1, Int.toNat_natCast] at h
        refine Prod.ext h (Prod.ext ?_ rfl)
        unfold crashS
        rw [if_pos (by rw [HN.out]; exact HK0.out)])
      have HC2 : Hid (crashS st ca l2 = (st, [], (crashS st ca l2).2.2)) := hid (by
        refine Prod.ext (chooses_none HR2.out) (Prod.ext ?_ rfl)
        unfold crashS
        rw [if_pos (by rw [HN.out]; exact HK0.out)])
      obtain ⟨k1, hk1⟩ : ∃ k, (crashS st ca l1).2.2 = k := ⟨_, rfl⟩
      obtain ⟨k2, hk2⟩ : ∃ k, (crashS st ca l2).2.2 = k := ⟨_, rfl⟩
      rw [hk1] at HC1
      rw [hk2] at HC2
      obtain ⟨sX, hs1⟩ : ∃ s, st.set kN [s0, s1, s2, s3, s4, s5, s6, s7] = s := ⟨_, rfl⟩
      have HS1 : Hid (sX.length = n ∧ sX[kN]? = some [s0, s1, s2, s3, s4, s5, s6, s7]) := hid (by rw [← hs1]; exact ⟨by rw [List.length_set, HN.out], by rw [List.getElem?_set_self (by rw [HN.out]; exact hkn)]⟩)
      rw [hs1] at HC1
      have HCO := hid (fun (Y : List Sect) (hY : Y.length = n) (k : List Int) (X X' : World) (e : Ending) (h : CrashQ X (Y, [], k) e X') => (by
        obtain ⟨v, u, rfl, ho, h4, hb⟩ := h
        have ho' := ho
        obtain ⟨⟨sv, cv, rfl, h1, h2⟩, h3⟩ := ho'
        dsimp only at h1 h2 h3 h4 ho
        obtain ⟨A, c, rfl⟩ := ownAny_form h1
        obtain ⟨B, d, rfl⟩ := ownAny_form h2
        obtain ⟨U, uc, rfl⟩ := own_formE h4
        rw [hY, List.length_nil] at ho ⊢
        exact ⟨A, c, B, d, U, uc, rfl, ho, hb⟩ : ∃ A c B d U uc, e = .returned (.tuple #[.agg #[.slice A n c, .slice B 0 d], .slice U k.length uc]) ∧ OwnG X' X.heap.size Y [] (.agg #[.slice A n c, .slice B 0 d]) ∧ Below X.heap.size X X'))
      have HL1 := hid hl1
      have HL2 := hid hl2
      clear hpl hvr hl1 hl2 hk1 hk2 hs1
      have hwp : IntKind.i64.wrap ((pl : Int) + 1) = (pl : Int) + 1 := by rw [IntKind.wrap_i64]; omega
      have hmk : ∀ W, (Instr.makeSlice 55 (.int .i64 ((pl : Int) + 1)) (.int .i64 ((pl : Int) + 1))).run Try.prog W = .ok (.slice (some ⟨W.heap.size, 0, none⟩) (pl + 1) (pl + 1)) (W.alloc (.cells (Array.replicate (pl + 1) (.int .i64 0)) 3)) := fun W => by
        rw [show (pl : Int) + 1 = ((pl + 1 : Nat) : Int) by omega]
        rw [← List.toArray_replicate]
        exact make55 W (pl + 1) (by omega)
      go_upto_region 18 with fail
      obtain ⟨Wm, hWm⟩ : ∃ X, wr.alloc (.cells (Array.replicate (pl + 1) (.int .i64 0)) 3) = X := ⟨_, rfl⟩
      obtain ⟨p14, hp14⟩ : ∃ p, wr.heap.size = p := ⟨_, rfl⟩
      have hbm : Below wr.heap.size wr Wm := by rw [← hWm]; exact al1 _ _
      have hxm : Wm.heap[p14]? = some (.cells (List.replicate (pl + 1) (.int .i64 0)).toArray 3) := by rw [← hWm, ← hp14, List.toArray_replicate]; exact heap_alloc_new _ _
      have HP14 : Hid (W8.heap.size ≤ p14) := hid (by rw [← hp14]; exact HB.out.size)
      have HBm : Hid (Below W8.heap.size W8 Wm) := hid (HB.out.trans (hbm.mono HB.out.size))
      go_upto_region 19 with fail
      (try rw [hWm])
      (try rw [hp14])
      clear hmk hWm hp14 hbm
      have hip : (pl : Int) < (pl : Int) + 1 := by omega
      have z0 : Wm.cell? ⟨p14, pl, none⟩ = some (.int .i64 0) := by
        unfold World.cell?
        rw [hxm]
        simp
      have zf : Wm.frozen? ⟨p14, pl, none⟩ = false := by
        unfold World.frozen?
        rw [hxm]
        simp
      go_upto_region 20 with fail
      clear z0 zf
      obtain ⟨Wn, hWn⟩ : ∃ X, Wm.setCell ⟨p14, pl, none⟩ (.int .i64 (vr : Int)) = X := ⟨_, rfl⟩
      have HXn : Hid (Wn.heap[p14]? = some (.cells (l1.map intV).toArray 3)) := hid (by
        rw [← hWn, ← HL1.out, ← rep_set]
        exact box_set hxm pl _)
      have HBn : Hid (Below W8.heap.size W8 Wn) := hid (by rw [← hWn]; exact HBm.out.setCell HP14.out _)
      rw [hWn]
      clear hWn hxm
      have hp := HP8.out Wn HBn.out
      have x0 := cell_of_row _ _ 0 _ _ _ hp.1
      have x1 := cell_of_row _ _ 1 _ _ _ hp.1
      have HCR := hid (by
        have hi := ints_lit HR1.out (by omega) HXn.out
        rw [hl1n] at hi
        have h := crash_any st ca _ _ _ l1 Wn hp.2.2.1 hp.2.2.2.1 hp.2.2.2.2 hi (by rw [HN.out]; omega) (by rw [HM.out]; omega) (by omega)
        rw [HC1.out] at h
        exact h)
      clear hp
      go_upto_region 21 with (go_at_call 31; refine HCR.out.mono ?_; intro e Xn hQ; obtain ⟨A13, c13, B13, d13, U13, uc13, rfl, ho13, hb13⟩ := HCO.out _ HS1.out.1 _ _ _ _ hQ; have HO13 := hid ho13; have HB13 := hid hb13; clear hQ ho13 hb13)
      clear x0 x1
      obtain ⟨Wo, hWo⟩ : ∃ X, Xn.alloc (.cells #[.slice A13 n c13, .slice B13 0 d13] 25) = X := ⟨_, rfl⟩
      obtain ⟨p15, hp15⟩ : ∃ p, Xn.heap.size = p := ⟨_, rfl⟩
      have hbo : Below Xn.heap.size Xn Wo := by rw [← hWo]; exact al1 _ _
      have hxo : Wo.heap[p15]? = some (.cells #[.slice A13 n c13, .slice B13 0 d13] 25) := by rw [← hWo, ← hp15]; exact heap_alloc_new _ _
      rw [hWo, hp15]
      have HXo : Hid (Wo.heap[p14]? = some (.cells (l1.map intV).toArray 3)) := hid ((below_both HB13.out hbo).block p14 (box_lt HXn.out) |>.trans HXn.out)
      have HOo : Hid (OwnG Wo 0 sX [] (.agg #[.slice A13 n c13, .slice B13 0 d13])) := hid (HO13.out.keep (keep_below hbo) (keep_below hbo) (Nat.zero_le _))
      have HBo : Hid (Below W8.heap.size W8 Wo) := hid (HBn.out.trans ((below_both HB13.out hbo).mono HBn.out.size))
      have HPN : Hid (p15 ≠ p14) := hid (by have h1 := box_lt HXn.out; have h2 := HB13.out.size; omega)
      have z0 : Wo.cell? ⟨p14, pl, none⟩ = some (.int .i64 (vr : Int)) := by
        unfold World.cell?
        rw [HXo.out, ← HL1.out]
        simp [intV]
      have zf : Wo.frozen? ⟨p14, pl, none⟩ = false := by
        unfold World.frozen?
        rw [HXo.out]
        simp
      clear hWo hp15 hbo
      go_upto_region 22 with fail
      clear z0 zf
      obtain ⟨Wp, hWp⟩ : ∃ X, Wo.setCell ⟨p14, pl, none⟩ (.int .i64 0) = X := ⟨_, rfl⟩
      have HXp : Hid (Wp.heap[p14]? = some (.cells (l2.map intV).toArray 3)) := hid (by
        rw [← hWp, ← HL2.out, ← rep_set2 pl (vr : Int), HL1.out]
        exact box_set HXo.out pl _)
      have HBp : Hid (Below W8.heap.size W8 Wp) := hid (by rw [← hWp]; exact HBo.out.setCell HP14.out _)
      have HOp : Hid (OwnG Wp 0 sX [] (.agg #[.slice A13 n c13, .slice B13 0 d13])) := hid (by rw [← hWp]; exact HOo.out.keep (keep_box HXo.out (by decide) _ _) (keep_box HXo.out (by decide) _ _) (Nat.zero_le _))
      have HX15 : Hid (Wp.heap[p15]? = some (.cells #[.slice A13 n c13, .slice B13 0 d13] 25)) := hid (by rw [← hWp]; exact (Below.heap_setCell _ _ _ _ HPN.out).trans hxo)
      rw [hWp]
      clear hWp hxo
      have hp := HP8.out Wp HBp.out
      have x0 := cell_of_row _ _ 0 _ _ _ hp.1
      have x1 := cell_of_row _ _ 1 _ _ _ hp.1
      have HCS := hid (by
        have hi := ints_lit (fun x hx => by rw [HR2.out x hx]; exact ⟨by omega, by omega⟩) (by omega) HXp.out
        rw [hl2n] at hi
        have h := crash_any st ca _ _ _ l2 Wp hp.2.2.1 hp.2.2.2.1 hp.2.2.2.2 hi (by rw [HN.out]; omega) (by rw [HM.out]; omega) (by omega)
        rw [HC2.out] at h
        exact h)
      clear hp
      go_upto_region 23 with (go_at_call 31; refine HCS.out.mono ?_; intro e Xq hQ; obtain ⟨A16, c16, B16, d16, U16, uc16, rfl, ho16, hb16⟩ := HCO.out _ HN.out _ _ _ _ hQ; have HO16 := hid ho16; have HB16 := hid hb16; clear hQ ho16 hb16)
      clear x0 x1
      obtain ⟨W17, hW17⟩ : ∃ X, Xq.alloc (.cells #[.slice A16 n c16, .slice B16 0 d16] 25) = X := ⟨_, rfl⟩
      obtain ⟨p17, hp17⟩ : ∃ p, Xq.heap.size = p := ⟨_, rfl⟩
      have hbr : Below Xq.heap.size Xq W17 := by rw [← hW17]; exact al1 _ _
      have hxr : W17.heap[p17]? = some (.cells #[.slice A16 n c16, .slice B16 0 d16] 25) := by rw [← hW17, ← hp17]; exact heap_alloc_new _ _
      rw [hW17, hp17]
      have hb17 := below_both HB16.out hbr
      have HB17 : Hid (Below W8.heap.size W8 W17) := hid (HBp.out.trans (hb17.mono HBp.out.size))
      have hsx : Sec W17 (.slice A13 n c13) sX := (dk_parts ((HOp.out.dk).below hb17)).1
      have hsy : Sec W17 (.slice A16 n c16) st := (dk_parts ((HO16.out.dk).below hbr)).1
      have hx15 : W17.heap[p15]? = some (.cells #[.slice A13 n c13, .slice B13 0 d13] 25) := (hb17.block p15 (box_lt HX15.out)).trans HX15.out
      obtain ⟨xb, xo, hA13, hxb, hxc⟩ := arr_at1 hsx.2 (by rw [List.length_map, HS1.out.1]; omega)
      subst hA13
      have h8s := hsx.1 _ (List.mem_of_getElem? HS1.out.2)
      have HXC := hid (fun (t : Nat) (u : Value) (hu : (cSec [s0, s1, s2, s3, s4, s5, s6, s7])[t]? = some u) => hxc kN _ (by rw [List.getElem?_map, HS1.out.2]; rfl) t u hu)
      have HSS := hid (fun X (hX : Below W17.heap.size W17 X) => (by
        have hy := hsy.below hX
        have hd := (HP8.out X (HB17.out.trans (hX.mono HB17.out.size))).2.2.1
        have h := eqSame_any st st _ _ X hy.2 hd.2 hy.1 hd.1
        rw [decide_eq_true rfl] at h
        exact h : Calls Try.prog 19 #[.slice A16 n c16, .slice A6 n c6] X (SaysQ true X)))
      have HK := hid (fun (X : World) (hX : Below W17.heap.size W17 X) => (show X.cell? ⟨p15, 0, none⟩ = some (.slice (some ⟨xb, xo, none⟩) n c13) ∧ X.cell? ⟨p8, 0, none⟩ = some (.int .i64 (kN : Int)) ∧ X.cell? ⟨p17, 0, none⟩ = some (.slice A16 n c16) ∧ X.cell? ⟨p7, 0, none⟩ = some (.slice A6 n c6) ∧ X.cell? ⟨xb, xo + kN * 8, none⟩ = some (.int .u8 (s0 : Int)) ∧ X.cell? ⟨xb, xo + kN * 8 + 1, none⟩ = some (.int .u8 (s1 : Int)) ∧ X.cell? ⟨xb, xo + kN * 8 + 2, none⟩ = some (.int .u8 (s2 : Int)) ∧ X.cell? ⟨xb, xo + kN * 8 + 3, none⟩ = some (.int .u8 (s3 : Int)) ∧ X.cell? ⟨xb, xo + kN * 8 + 4, none⟩ = some (.int .u8 (s4 : Int)) ∧ X.cell? ⟨xb, xo + kN * 8 + 5, none⟩ = some (.int .u8 (s5 : Int)) ∧ X.cell? ⟨xb, xo + kN * 8 + 6, none⟩ = some (.int .u8 (s6 : Int)) ∧ X.cell? ⟨xb, xo + kN * 8 + 7, none⟩ = some (.int .u8 (s7 : Int)) ∧ X.cell? ⟨p8, 1, none⟩ = some (.int .u8 (s0 : Int)) ∧ X.cell? ⟨p8, 2, none⟩ = some (.int .u8 (s1 : Int)) ∧ X.cell? ⟨p8, 3, none⟩ = some (.int .u8 (s2 : Int)) ∧ X.cell? ⟨p8, 4, none⟩ = some (.int .u8 (s3 : Int)) ∧ X.cell? ⟨p8, 5, none⟩ = some (.int .u8 (s4 : Int)) ∧ X.cell? ⟨p8, 6, none⟩ = some (.int .u8 (s5 : Int)) ∧ X.cell? ⟨p8, 7, none⟩ = some (.int .u8 (s6 : Int)) ∧ X.cell? ⟨p8, 8, none⟩ = some (.int .u8 (s7 : Int)) from (by
        have g1 := HP8.out X (HB17.out.trans (hX.mono HB17.out.size))
        have g3 : ∀ (t : Nat) (u : Value), (cSec [s0, s1, s2, s3, s4, s5, s6, s7])[t]? = some u → X.cell? ⟨xb, xo + kN * 8 + t, none⟩ = some u := fun t u hu => by
          have h := HXC.out t u hu
          unfold World.cell? at h ⊢
          rw [hX.block xb hxb]
          exact h
        exact ⟨cell_of_row _ _ 0 _ _ _ ((hX.block p15 (box_lt hx15)).trans hx15), cell_of_row _ _ 0 _ _ _ g1.2.1, cell_of_row _ _ 0 _ _ _ ((hX.block p17 (box_lt hxr)).trans hxr), cell_of_row _ _ 0 _ _ _ g1.1, g3 0 _ rfl, g3 1 _ rfl, g3 2 _ rfl, g3 3 _ rfl, g3 4 _ rfl, g3 5 _ rfl, g3 6 _ rfl, g3 7 _ rfl, cell_of_row _ _ 1 _ _ _ g1.2.1, cell_of_row _ _ 2 _ _ _ g1.2.1, cell_of_row _ _ 3 _ _ _ g1.2.1, cell_of_row _ _ 4 _ _ _ g1.2.1, cell_of_row _ _ 5 _ _ _ g1.2.1, cell_of_row _ _ 6 _ _ _ g1.2.1, cell_of_row _ _ 7 _ _ _ g1.2.1, cell_of_row _ _ 8 _ _ _ g1.2.1⟩)))
      have heq : ∀ W : World, (Op.equalIn 10000 73 (.agg #[.int .u8 (s0 : Int), .int .u8 (s1 : Int), .int .u8 (s2 : Int), .int .u8 (s3 : Int), .int .u8 (s4 : Int), .int .u8 (s5 : Int), .int .u8 (s6 : Int), .int .u8 (s7 : Int)]) (.agg #[.int .u8 (s0 : Int), .int .u8 (s1 : Int), .int .u8 (s2 : Int), .int .u8 (s3 : Int), .int .u8 (s4 : Int), .int .u8 (s5 : Int), .int .u8 (s6 : Int), .int .u8 (s7 : Int)])).run Try.prog W = .ok true W := fun W => by
        have h := eql_sec [s0, s1, s2, s3, s4, s5, s6, s7] [s0, s1, s2, s3, s4, s5, s6, s7] rfl rfl h8s.2 h8s.2 W
        rw [decide_eq_true rfl] at h
        exact h
      have e1 : decide ((n : Int) ≤ (kN : Int)) = false := decide_eq_false (by omega)
      have e1' : decide (n ≤ kN) = false := decide_eq_false (by omega)
      have e2 : decide ((kN : Int) < 0) = false := decide_eq_false (by omega)
      have hkn' : (kN : Int) < (n : Int) := by omega
      have hh := HK.out W17 (Below.refl _ _)
      have y0 := hh.1
      have y1 := hh.2.1
      have y2 := hh.2.2.1
      clear hW17 hp17 hbr hxr hb17 hsx hsy hx15 hxb hxc h8s hh
      go_upto_region 25 with fail
      clear y0 y1 y2
      refine region_tail 19 (fun X => X.cell? ⟨p15, 0, none⟩ = some (.slice (some ⟨xb, xo, none⟩) n c13) ∧ X.cell? ⟨p8, 0, none⟩ = some (.int .i64 (kN : Int)) ∧ X.cell? ⟨p17, 0, none⟩ = some (.slice A16 n c16) ∧ X.cell? ⟨p7, 0, none⟩ = some (.slice A6 n c6) ∧ X.cell? ⟨xb, xo + kN * 8, none⟩ = some (.int .u8 (s0 : Int)) ∧ X.cell? ⟨xb, xo + kN * 8 + 1, none⟩ = some (.int .u8 (s1 : Int)) ∧ X.cell? ⟨xb, xo + kN * 8 + 2, none⟩ = some (.int .u8 (s2 : Int)) ∧ X.cell? ⟨xb, xo + kN * 8 + 3, none⟩ = some (.int .u8 (s3 : Int)) ∧ X.cell? ⟨xb, xo + kN * 8 + 4, none⟩ = some (.int .u8 (s4 : Int)) ∧ X.cell? ⟨xb, xo + kN * 8 + 5, none⟩ = some (.int .u8 (s5 : Int)) ∧ X.cell? ⟨xb, xo + kN * 8 + 6, none⟩ = some (.int .u8 (s6 : Int)) ∧ X.cell? ⟨xb, xo + kN * 8 + 7, none⟩ = some (.int .u8 (s7 : Int)) ∧ X.cell? ⟨p8, 1, none⟩ = some (.int .u8 (s0 : Int)) ∧ X.cell? ⟨p8, 2, none⟩ = some (.int .u8 (s1 : Int)) ∧ X.cell? ⟨p8, 3, none⟩ = some (.int .u8 (s2 : Int)) ∧ X.cell? ⟨p8, 4, none⟩ = some (.int .u8 (s3 : Int)) ∧ X.cell? ⟨p8, 5, none⟩ = some (.int .u8 (s4 : Int)) ∧ X.cell? ⟨p8, 6, none⟩ = some (.int .u8 (s5 : Int)) ∧ X.cell? ⟨p8, 7, none⟩ = some (.int .u8 (s6 : Int)) ∧ X.cell? ⟨p8, 8, none⟩ = some (.int .u8 (s7 : Int))) (by kernel_rfl) ?_
      obtain ⟨X0, hX0⟩ : ∃ X, W17.drew = X := ⟨_, rfl⟩
      have hBX0 : Below W17.heap.size W17 X0 := by rw [← hX0]; exact (Below.refl W17.heap.size W17).drew
      have hHeld := HK.out X0 hBX0
      rw [hX0]
      clear hX0
      refine' wpAnyT_take (i := 0) (oi := ?oiz0) (v := ?vz0) ?hiz0 (by kernel_rfl) (by kernel_rfl) ?hqz0 ?hyz0 hHeld ?restz0
      case hiz0 => (simp only [List.getElem?_toArray, List.getElem?_cons_zero]; rfl)
      case hqz0 => exact fun _ _ _ h => h
      case hyz0 => (refine Or.inl ⟨by rfl, ?_⟩; intro w' hSw; (try dsimp only at hSw); go_simp; try with_reducible rfl)
      (try simp only [Act.put, List.setIfInBounds_toArray, List.set_cons_zero, List.set_cons_succ])
      refine' wpAnyT_take (i := 1) (oi := ?oiz1) (v := ?vz1) ?hiz1 (by kernel_rfl) (by kernel_rfl) ?hqz1 ?hyz1 hHeld ?restz1
      case hiz1 => (simp only [List.getElem?_toArray, List.getElem?_cons_zero, List.getElem?_cons_succ]; rfl)
      case hqz1 => exact fun _ _ _ h => h
      case hyz1 => (refine Or.inl ⟨by rfl, ?_⟩; intro w' hSw; (try dsimp only at hSw); go_simp; try with_reducible rfl)
      (try simp only [Act.put, List.setIfInBounds_toArray, List.set_cons_zero, List.set_cons_succ])
      refine' wpAnyT_take (i := 2) (oi := ?oiz2) (v := ?vz2) ?hiz2 (by kernel_rfl) (by kernel_rfl) ?hqz2 ?hyz2 hHeld ?restz2
      case hiz2 => (simp only [List.getElem?_toArray, List.getElem?_cons_zero, List.getElem?_cons_succ]; rfl)
      case hqz2 => exact fun _ _ _ h => h
      case hyz2 => (refine Or.inl ⟨by rfl, ?_⟩; intro w' hSw; (try dsimp only at hSw); go_simp; try with_reducible rfl)
      (try simp only [Act.put, List.setIfInBounds_toArray, List.set_cons_zero, List.set_cons_succ])
      refine' wpAnyT_take (i := 3) (oi := ?oiz3) (v := ?vz3) ?hiz3 (by kernel_rfl) (by kernel_rfl) ?hqz3 ?hyz3 hHeld ?restz3
      case hiz3 => (simp only [List.getElem?_toArray, List.getElem?_cons_zero, List.getElem?_cons_succ]; rfl)
      case hqz3 => exact fun _ _ _ h => h
      case hyz3 => (refine Or.inl ⟨by rfl, ?_⟩; intro w' hSw; (try dsimp only at hSw); go_simp; try with_reducible rfl)
      (try simp only [Act.put, List.setIfInBounds_toArray, List.set_cons_zero, List.set_cons_succ])
      refine' wpAnyT_take (i := 4) (oi := ?oiz4) (v := ?vz4) ?hiz4 (by kernel_rfl) (by kernel_rfl) ?hqz4 ?hyz4 hHeld ?restz4
      case hiz4 => (simp only [List.getElem?_toArray, List.getElem?_cons_zero, List.getElem?_cons_succ]; rfl)
      case hqz4 => exact fun _ _ _ h => h
      case hyz4 => (refine Or.inl ⟨by rfl, ?_⟩; intro w' hSw; (try dsimp only at hSw); go_simp; try with_reducible rfl)
      (try simp only [Act.put, List.setIfInBounds_toArray, List.set_cons_zero, List.set_cons_succ])
      refine' wpAnyT_take (i := 5) (oi := ?oiz5) (v := ?vz5) ?hiz5 (by kernel_rfl) (by kernel_rfl) ?hqz5 ?hyz5 hHeld ?restz5
      case hiz5 => (simp only [List.getElem?_toArray, List.getElem?_cons_zero, List.getElem?_cons_succ]; rfl)
      case hqz5 => exact fun _ _ _ h => h
      case hyz5 => (refine Or.inl ⟨by rfl, ?_⟩; intro w' hSw; (try dsimp only at hSw); go_simp; try with_reducible rfl)
      (try simp only [Act.put, List.setIfInBounds_toArray, List.set_cons_zero, List.set_cons_succ])
      refine' wpAnyT_take (i := 6) (oi := ?oiz6) (v := ?vz6) ?hiz6 (by kernel_rfl) (by kernel_rfl) ?hqz6 ?hyz6 hHeld ?restz6
      case hiz6 => (simp only [List.getElem?_toArray, List.getElem?_cons_zero, List.getElem?_cons_succ]; rfl)
      case hqz6 => exact fun _ _ _ h => h
      case hyz6 => (refine Or.inl ⟨by rfl, ?_⟩; intro w' hSw; (try dsimp only at hSw); go_simp; try with_reducible rfl)
      (try simp only [Act.put, List.setIfInBounds_toArray, List.set_cons_zero, List.set_cons_succ])
      refine' wpAnyT_take (i := 7) (oi := ?oiz7) (v := ?vz7) ?hiz7 (by kernel_rfl) (by kernel_rfl) ?hqz7 ?hyz7 hHeld ?restz7
      case hiz7 => (simp only [List.getElem?_toArray, List.getElem?_cons_zero, List.getElem?_cons_succ]; rfl)
      case hqz7 => exact fun _ _ _ h => h
      case hyz7 => (refine Or.inl ⟨by rfl, ?_⟩; intro w' hSw; (try dsimp only at hSw); go_simp; try with_reducible rfl)
      (try simp only [Act.put, List.setIfInBounds_toArray, List.set_cons_zero, List.set_cons_succ])
      refine' wpAnyT_take (i := 8) (oi := ?oiz8) (v := ?vz8) ?hiz8 (by kernel_rfl) (by kernel_rfl) ?hqz8 ?hyz8 hHeld ?restz8
      case hiz8 => (simp only [List.getElem?_toArray, List.getElem?_cons_zero, List.getElem?_cons_succ]; rfl)
      case hqz8 => exact fun _ _ _ h => h
      case hyz8 => (refine Or.inl ⟨by rfl, ?_⟩; intro w' hSw; (try dsimp only at hSw); go_simp; try with_reducible rfl)
      (try simp only [Act.put, List.setIfInBounds_toArray, List.set_cons_zero, List.set_cons_succ])
      refine' wpAnyT_take (i := 9) (oi := ?oiz9) (v := ?vz9) ?hiz9 (by kernel_rfl) (by kernel_rfl) ?hqz9 ?hyz9 hHeld ?restz9
      case hiz9 => (simp only [List.getElem?_toArray, List.getElem?_cons_zero, List.getElem?_cons_succ]; rfl)
      case hqz9 => exact fun _ _ _ h => h
      case hyz9 => (refine Or.inl ⟨by rfl, ?_⟩; intro w' hSw; (try dsimp only at hSw); go_simp; try with_reducible rfl)
      (try simp only [Act.put, List.setIfInBounds_toArray, List.set_cons_zero, List.set_cons_succ])
      refine' wpAnyT_take (i := 10) (oi := ?oiz10) (v := ?vz10) ?hiz10 (by kernel_rfl) (by kernel_rfl) ?hqz10 ?hyz10 hHeld ?restz10
      case hiz10 => (simp only [List.getElem?_toArray, List.getElem?_cons_zero, List.getElem?_cons_succ]; rfl)
      case hqz10 => exact fun _ _ _ h => h
      case hyz10 => (refine Or.inl ⟨by rfl, ?_⟩; intro w' hSw; (try dsimp only at hSw); go_simp; try with_reducible rfl)
      (try simp only [Act.put, List.setIfInBounds_toArray, List.set_cons_zero, List.set_cons_succ])
      refine' wpAnyT_take (i := 11) (oi := ?oiz11) (v := ?vz11) ?hiz11 (by kernel_rfl) (by kernel_rfl) ?hqz11 ?hyz11 hHeld ?restz11
      case hiz11 => (simp only [List.getElem?_toArray, List.getElem?_cons_zero, List.getElem?_cons_succ]; rfl)
      case hqz11 => exact fun _ _ _ h => h
      case hyz11 => (refine Or.inl ⟨by rfl, ?_⟩; intro w' hSw; (try dsimp only at hSw); go_simp; try with_reducible rfl)
      (try simp only [Act.put, List.setIfInBounds_toArray, List.set_cons_zero, List.set_cons_succ])
      refine' wpAnyT_take (i := 12) (oi := ?oiz12) (v := ?vz12) ?hiz12 (by kernel_rfl) (by kernel_rfl) ?hqz12 ?hyz12 hHeld ?restz12
      case hiz12 => (simp only [List.getElem?_toArray, List.getElem?_cons_zero, List.getElem?_cons_succ]; rfl)
      case hqz12 => exact fun _ _ _ h => h
      case hyz12 => (refine Or.inl ⟨by rfl, ?_⟩; intro w' hSw; (try dsimp only at hSw); go_simp; try with_reducible rfl)
      (try simp only [Act.put, List.setIfInBounds_toArray, List.set_cons_zero, List.set_cons_succ])
      refine' wpAnyT_take (i := 13) (oi := ?oiz13) (v := ?vz13) ?hiz13 (by kernel_rfl) (by kernel_rfl) ?hqz13 ?hyz13 hHeld ?restz13
      case hiz13 => (simp only [List.getElem?_toArray, List.getElem?_cons_zero, List.getElem?_cons_succ]; rfl)
      case hqz13 => exact fun _ _ _ h => h
      case hyz13 => (refine Or.inl ⟨by rfl, ?_⟩; intro w' hSw; (try dsimp only at hSw); go_simp; try with_reducible rfl)
      (try simp only [Act.put, List.setIfInBounds_toArray, List.set_cons_zero, List.set_cons_succ])
      refine' wpAnyT_one (i := 14) (o := ?oiz14) (by kernel_rfl) ?hiz14 (fun K hK => ?stz14)
      case hiz14 => (simp only [List.getElem?_toArray, List.getElem?_cons_zero, List.getElem?_cons_succ]; rfl)
      go_simp
      go_at_call 19
      refine (HSS.out X0 hBX0).mono ?_
      rintro e X1 ⟨rfl, nn, hnn⟩
      have hBX1 : Below W17.heap.size W17 X1 := by rw [hnn]; exact below_drewN' hBX0 _
      clear hHeld hnn
      have hHeld := HK.out X1 hBX1
      refine hK.out _ _ (fun _ => hHeld) ?_
      clear hK K
      (try simp only [Act.put, List.setIfInBounds_toArray, List.set_cons_zero, List.set_cons_succ])
      refine' wpAnyT_take (i := 15) (oi := ?oiz15) (v := ?vz15) ?hiz15 (by kernel_rfl) (by kernel_rfl) ?hqz15 ?hyz15 hHeld ?restz15
      case hiz15 => (simp only [List.getElem?_toArray, List.getElem?_cons_zero, List.getElem?_cons_succ]; rfl)
      case hqz15 => exact fun _ _ _ h => h
      case hyz15 => (refine Or.inl ⟨by rfl, ?_⟩; intro w' hSw; (try dsimp only at hSw); go_simp; try with_reducible rfl)
      (try simp only [Act.put, List.setIfInBounds_toArray, List.set_cons_zero, List.set_cons_succ])
      refine' wpAnyT_take (i := 16) (oi := ?oiz16) (v := ?vz16) ?hiz16 (by kernel_rfl) (by kernel_rfl) ?hqz16 ?hyz16 hHeld ?restz16
      case hiz16 => (simp only [List.getElem?_toArray, List.getElem?_cons_zero, List.getElem?_cons_succ]; rfl)
      case hqz16 => exact fun _ _ _ h => h
      case hyz16 => (refine Or.inl ⟨by rfl, ?_⟩; intro w' hSw; (try dsimp only at hSw); go_simp; try with_reducible rfl)
      (try simp only [Act.put, List.setIfInBounds_toArray, List.set_cons_zero, List.set_cons_succ])
      refine' wpAnyT_one (i := 17) (o := ?oiz17) (by kernel_rfl) ?hiz17 (fun K hK => ?stz17)
      case hiz17 => (simp only [List.getElem?_toArray, List.getElem?_cons_zero, List.getElem?_cons_succ]; rfl)
      go_simp
      go_at_call 13
      refine (HAW.out X1).mono ?_
      rintro e X2 ⟨rfl, hb⟩
      have hBX2 : Below W17.heap.size W17 X2 := hBX1.trans (hb.mono hBX1.size)
      clear hHeld hb
      have hHeld := HK.out X2 hBX2
      refine hK.out _ _ (fun _ => hHeld) ?_
      clear hK K
      (try simp only [Act.put, List.setIfInBounds_toArray, List.set_cons_zero, List.set_cons_succ])
      refine' wpAnyT_take (i := 18) (oi := ?oiz18) (v := ?vz18) ?hiz18 (by kernel_rfl) (by kernel_rfl) ?hqz18 ?hyz18 hHeld ?restz18
      case hiz18 => (simp only [List.getElem?_toArray, List.getElem?_cons_zero, List.getElem?_cons_succ]; rfl)
      case hqz18 => exact fun _ _ _ h => h
      case hyz18 => (refine Or.inl ⟨by rfl, ?_⟩; intro w' hSw; (try dsimp only at hSw); go_simp; try with_reducible rfl)
      (try simp only [Act.put, List.setIfInBounds_toArray, List.set_cons_zero, List.set_cons_succ])
      refine' wpAnyT_one (i := 19) (o := ?oiz19) (by kernel_rfl) ?hiz19 (fun K hK => ?stz19)
      case hiz19 => (simp only [List.getElem?_toArray, List.getElem?_cons_zero, List.getElem?_cons_succ]; rfl)
      go_simp
      refine hK.out _ _ (fun h => absurd h (by decide)) ?_
      clear hK K
      (try simp only [Act.put, List.setIfInBounds_toArray, List.set_cons_zero, List.set_cons_succ])
      refine wpAnyT_done (by kernel_rfl) ?_ _
      go_wp2_with fail
      go_ret
      exact ⟨rfl, below_both HBW8.out (HB17.out.trans (hBX2.mono HB17.out.size))⟩
end Go.Proofs.Ytoefbgkeinhibaa

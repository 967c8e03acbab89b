/- The reference's Decode. -/
import Derived.Test.YtielamoaghibgaaSd
import Derived.Laws.CopyOwn
namespace Go.Proofs.Ytielamoaghibgaa
open Go.RowKit Go.Lib

theorem run_slice_mid (A : Option Addr) (n c lo hi : Nat) (x y : Int) (hx : x = (lo : Int)) (hy : y = (hi : Int)) (h1 : lo ≤ hi) (h2 : hi ≤ c) (W : World) : (Instr.slice 24 (.slice A n c) (some (.int .i64 x)) (some (.int .i64 y)) none).run Try.prog W = .ok (.slice (fromA A c lo) (hi - lo) (c - lo)) W := by
  subst hx hy
  simp [Instr.slice, run_underlying Try.underlying24, Instr.sliceBounds, Sem.run_bind, run_sliceBound_if, fromA, h1, h2]
theorem splice_all (zs cs : List Value) (h : zs.length = cs.length) : splice zs 0 cs = cs := by
  unfold splice
  rw [List.drop_of_length_le (by omega)]
  simp
theorem size5' : (Try.prog.info? 5).map (·.size) = some 1 := by kernel_rfl
theorem fromA_at {A : Option Addr} {b off c k : Nat} (hA : A = some ⟨b, off, none⟩) (hk : k < c) : fromA A c k = some ⟨b, off + k, none⟩ := by
  unfold fromA
  rw [if_neg (by omega), hA]
  simp [Addr.add]
/-- Eight bytes out of a row. -/
theorem eight_at {w : World} {A : Option Addr} {n c k : Nat} {u : List Nat} (h : Byt w (.slice A n c) u) (hk : k + 8 ≤ u.length) : ∃ b off, A = some ⟨b, off, none⟩ ∧ ∀ (j : Nat) (v : Value), (cSec ((u.drop k).take 8))[j]? = some v → w.cell? ((⟨b, off + k, none⟩ : Addr).add j) = some v := by
  obtain ⟨b, off, hA, _, hc⟩ := byt_at h (by omega)
  refine ⟨b, off, hA, fun j v hj => ?_⟩
  unfold cSec at hj
  rw [List.getElem?_map] at hj
  obtain ⟨x, hx, rfl⟩ := Option.map_eq_some_iff.1 hj
  have e : (⟨b, off + k, none⟩ : Addr).add j = ⟨b, off + (k + j), none⟩ := by unfold Addr.add; split <;> simp_all [Nat.add_assoc]
  rw [e]
  refine hc _ _ ?_
  rw [List.getElem?_take] at hx
  split at hx
  · rwa [List.getElem?_drop] at hx
  · cases hx
theorem eight_sec {u : List Nat} {k : Nat} (h8 : B8 u) (hk : k + 8 ≤ u.length) : ((u.drop k).take 8).length = 8 ∧ B8 ((u.drop k).take 8) :=
  ⟨by rw [List.length_take, List.length_drop]; omega, fun x hx => h8 x (List.mem_of_mem_drop (List.mem_of_mem_take hx))⟩
theorem secs_one {s : Sect} (h : s.length = 8 ∧ B8 s) : Secs [s] := fun t ht => by rw [List.mem_singleton] at ht; subst ht; exact h
set_option maxHeartbeats 2000000 in
set_option maxRecDepth 100000 in
theorem rsame_any (a b : List Nat) (v u : Value) (w : World) (hv : Byt w v a) (hu : Byt w u b) :
    Calls Try.prog 31 #[v, u] w (Says (decide (a = b)) w) := by
  obtain ⟨A, c, rfl⟩ := byt_form hv
  obtain ⟨C, d, rfl⟩ := byt_form hu
  have e1 := byt_conv hv
  have e2 := byt_conv hu
  have e3 := str_eq hv.1 hu.1
  obtain ⟨s, hs⟩ : ∃ s, strOfNums (ints a) = s := ⟨_, rfl⟩
  obtain ⟨t, ht⟩ : ∃ t, strOfNums (ints b) = t := ⟨_, rfl⟩
  obtain ⟨q, hq⟩ : ∃ q, decide (a = b) = q := ⟨_, rfl⟩
  rw [hs] at e1 e3
  rw [ht] at e2 e3
  rw [hq] at e3 ⊢
  clear hs ht hq hv hu
  go_enter Try.func31, Try.ntmps31
  go_wp2
  go_ret
  exact ⟨rfl, rfl⟩
theorem zs_sec : zs.length = 8 ∧ B8 zs := ⟨rfl, fun x hx => by simp [zs] at hx; omega⟩

theorem run_slice_fromI (A : Option Addr) (n c k : Nat) (x : Int) (hx : x = (k : Int)) (hk : k ≤ n) (W : World) : (Instr.slice 24 (.slice A n c) (some (.int .i64 x)) none none).run Try.prog W = .ok (.slice (fromA A c k) (n - k) (c - k)) W := by
  subst hx
  exact run_slice_from A n c k hk W
theorem rest_nilOk {A : Option Addr} {n c : Nat} (h : NilOk (.slice A n c)) (k m : Nat) : NilOk (.slice (fromA A c k) m (c - k)) := by
  rcases A with _ | a
  · have hc := h _ _ rfl
    subst hc
    intro n' c' h
    injection h with _ _ h3
    omega
  · intro n' c' h
    injection h with h1
    unfold fromA at h1
    split at h1 <;> cases h1
set_option maxHeartbeats 8000000 in
set_option maxRecDepth 100000 in
theorem refDecode_any (b : List Nat) (v : Value) (most : Int) (w : World) (hv : Byt w v b) (hn : NilOk v) (hl : b.length ≤ 90000) :
    Calls Try.prog 16 #[v, .int .i64 most] w (DecQ w b (capm most)) := by
  obtain ⟨A, c, rfl⟩ := byt_form hv
  have HV := hid hv
  have HN := hid hn
  clear hv hn
  have hcap : max 0 (min most 4096) = ((capm most : Nat) : Int) := by unfold capm; omega
  have hM4 : capm most ≤ 4096 := by unfold capm; omega
  obtain ⟨M, hM⟩ : ∃ M, capm most = M := ⟨_, rfl⟩
  rw [hM] at hcap hM4 ⊢
  have HCAP := hid hcap
  clear hM hcap
  go_enter Try.func16, Try.ntmps16
  go_wp2_with fail
  rw [HCAP.out]
  clear HCAP
  go_loopw [6, 7] (fun ov tv wr => ∃ (l : List Sect) (t : List Nat) (tA : Option Addr) (tc : Nat), t.length ≤ 90000 ∧ l.length ≤ M ∧ tv = .slice tA t.length tc ∧ Hid (Byt wr (.slice tA t.length tc) t) ∧ Hid (NilOk (.slice tA t.length tc)) ∧ Hid (Secs l) ∧ Hid (dA M [] b = dA M l t) ∧ Hid (wr.ownsRow w.heap.size 41 8 ov l.length (l.map cSec).flatten) ∧ Hid (Below w.heap.size w wr)) (fun _ tv _ => match tv with | .slice _ n _ => n | _ => 0)
  case atStart => exact ⟨[], b, A, c, hl, Nat.zero_le _, rfl, HV, HN, hid (fun s h => by cases h), hid rfl, hid (own_none41 _ _), hid (Below.refl _ _)⟩
  case round =>
    obtain ⟨l, t, tA, tc, htl, hlm, rfl, HT, HTN, HS, HD, HO, HB⟩ := hrel
    obtain ⟨lA, lc, rfl⟩ := own_form41 HO.out
    by_cases h0 : t = []
    · subst h0
      have HE := hid (refEncode_any l _ wr (sec_of_own HO.out HS.out) (by omega))
      have H8 := hid (b8_rl _ l (Nat.le_refl _) HS.out)
      have HDC : Hid (dA M [] b = .ok l) := hid (by rw [HD.out]; exact dA_nil _ _)
      obtain ⟨L, hL⟩ : ∃ L, l.length = L := ⟨_, rfl⟩
      have HL := hid hL
      rw [hL] at HE HO ⊢
      clear hL hlm
      go_wp2_with fail
      refine HE.out.mono ?_
      rintro e w4 ⟨v4, rfl, ho4, hb4⟩
      have HB4 := hid (below_both HB.out hb4)
      have HQ := hid (rsame_any (rl l) b v4 (.slice A b.length c) w4 (byt_of_own ho4 H8.out) (HV.out.below HB4.out))
      have HO4 := hid (own_keep HO.out (keep_below hb4))
      obtain ⟨eA, ec, rfl⟩ := own_form ho4
      clear ho4 hb4
      go_wp2_with fail
      refine HQ.out.mono ?_
      rintro e w5 ⟨rfl, rfl⟩
      by_cases heq : rl l = b
      · rw [decide_eq_true heq]
        have HDD : Hid (dec M b = .ok l) := hid (by unfold dec; rw [HDC.out]; exact if_pos heq)
        clear HQ heq
        go_wp2
        refine bodyPost_ret (v := .tuple #[.slice lA L lc, .int .i64 0]) (by simp [results, Try.results16, go_sem]) rfl ?_
        exact ⟨HB4.out, .inl ⟨l, _, HDD.out, rfl, HS.out, by rw [HL.out]; exact HO4.out⟩⟩
      · rw [decide_eq_false heq]
        have HDD : Hid (dec M b = .error 3) := hid (by unfold dec; rw [HDC.out]; exact if_neg heq)
        clear HQ heq
        go_wp2
        refine bodyPost_ret (v := .tuple #[.slice none 0 0, .int .i64 3]) (by simp [results, Try.results16, go_sem]) rfl ?_
        exact ⟨HB4.out, .inr ⟨3, HDD.out, rfl⟩⟩
    · have htp : (0 : Int) < (t.length : Int) := by have := List.length_pos_iff.2 h0; omega
      have HC := hid (rint t _ wr HT.out HTN.out htl)
      have H0 := hid h0
      have HERR : Hid (∀ er, dGrp (M - l.length) t = .error er → dec M b = .error er) := hid (fun er h => by unfold dec; rw [HD.out, dA_err h0 h])
      have HOK : Hid (∀ gl t', dGrp (M - l.length) t = .ok (gl, t') → dA M [] b = dA M (l ++ gl) t' ∧ t'.length < t.length) := hid (fun gl t' h => ⟨by rw [HD.out, dA_ok h0 h], (dGrp_inv h).1⟩)
      have HT8 := hid HT.out.1
      obtain ⟨L, hL⟩ : ∃ L, l.length = L := ⟨_, rfl⟩
      have HL := hid hL
      rw [hL] at HO HERR HOK hlm ⊢
      obtain ⟨TL, hTL⟩ : ∃ TL, t.length = TL := ⟨_, rfl⟩
      have HTL := hid hTL
      rw [hTL] at HC HT HTN htp htl HOK ⊢
      clear hL h0 HD hTL
      go_wp2_with fail
      refine HC.out.mono ?_
      rintro e w1 h
      clear HC
      rcases hd : dNum t with er | ⟨x, u⟩
      · obtain ⟨rfl, hb1, hne⟩ := red_err h hd
        have HB1 := hid (below_both HB.out hb1)
        have HE : Hid (dec M b = .error er) := hid (HERR.out er (by unfold dGrp; rw [hd]))
        have d1 : (er != 0) = true := by simpa using hne
        clear h hd hb1 hne
        go_wp2
        refine bodyPost_ret (v := .tuple #[.slice none 0 0, .int .i64 er]) (by simp [results, Try.results16, go_sem]) rfl ?_
        exact ⟨HB1.out, .inr ⟨er, HE.out, rfl⟩⟩
      · obtain ⟨_, r, rfl, hb1, rfl, hu8, ub, huo⟩ := red_ok h hd
        have HD := hid hd
        have hx53 : x ≤ 9007199254740991 := (num_code.once t x u HT8.out hd).2
        have HB1 := hid (below_both HB.out hb1)
        have HO1 := hid (own_keep HO.out (keep_below hb1))
        obtain ⟨rA, rc, rfl⟩ := own_form huo
        have HU1 := hid (own_base huo (Nat.zero_le _))
        have hul : u.length < 90000 := by have := dNum_lt hd; have := HTL.out; omega
        obtain ⟨R, hR⟩ : ∃ R, u.length = R := ⟨_, rfl⟩
        have HRL := hid hR
        rw [hR] at HU1 hul ⊢
        have hrc : R ≤ rc := by have h := byt_cap (byt_of_own HU1.out hu8); rw [hR] at h; exact h
        have hrcm : rc ≤ 9223372036854775807 := by
          obtain ⟨_, A', c', e1, _, h2, _⟩ := byt_of_own HU1.out hu8
          injection e1 with _ _ e3
          subst e3
          unfold maxLen at h2
          exact h2
        have HU8 := hid hu8
        obtain ⟨q, hq⟩ : ∃ q, x / 4 = q := ⟨_, rfl⟩
        obtain ⟨r, hrr⟩ : ∃ r, x % 4 = r := ⟨_, rfl⟩
        have HQ := hid hq
        have HRR := hid hrr
        have he1 : (x : Int) % 4 = (r : Int) := by omega
        have he2 : (x : Int) / 4 = (q : Int) := by omega
        have hx0 : (0 : Int) ≤ (x : Int) := by omega
        have hr4 : r < 4 := by omega
        have hq53 : q ≤ 9007199254740991 := by omega
        clear h hd hb1 huo hR hu8 hq hrr HO HB HT HTN
        by_cases hbad : 2 < r ∨ q = 0
        · have HE : Hid (dec M b = .error 3) := hid (HERR.out 3 (by unfold dGrp; rw [HD.out]; simp only; rw [HQ.out, HRR.out, if_pos hbad]))
          rcases Nat.lt_or_ge 2 r with h2 | h2
          · obtain rfl : r = 3 := by omega
            clear hbad h2
            go_wp2
            refine bodyPost_ret (v := .tuple #[.slice none 0 0, .int .i64 3]) (by simp [results, Try.results16, go_sem]) rfl ?_
            exact ⟨HB1.out, .inr ⟨3, HE.out, rfl⟩⟩
          · obtain rfl : q = 0 := by omega
            have d1 : ((r : Int) == 3) = false := by rw [beq_eq_false_iff_ne]; omega
            clear hbad h2
            go_wp2
            refine bodyPost_ret (v := .tuple #[.slice none 0 0, .int .i64 3]) (by simp [results, Try.results16, go_sem]) rfl ?_
            exact ⟨HB1.out, .inr ⟨3, HE.out, rfl⟩⟩
        · have d1 : ((r : Int) == 3) = false := by rw [beq_eq_false_iff_ne]; omega
          have d2 : ((q : Int) == 0) = false := by rw [beq_eq_false_iff_ne]; omega
          have hq0 : 0 < q := by omega
          have hr2 : r = 0 ∨ r = 1 ∨ r = 2 := by omega
          by_cases hlong : M - L < q
          · have HE : Hid (dec M b = .error 5) := hid (HERR.out 5 (by unfold dGrp; rw [HD.out]; simp only; rw [HQ.out, HRR.out, if_neg hbad, if_pos hlong]))
            have d3 : decide ((M : Int) - (L : Int) < (q : Int)) = true := by simp; omega
            clear hbad hlong hr2
            go_wp2
            refine bodyPost_ret (v := .tuple #[.slice none 0 0, .int .i64 5]) (by simp [results, Try.results16, go_sem]) rfl ?_
            exact ⟨HB1.out, .inr ⟨5, HE.out, rfl⟩⟩
          · have d3 : decide ((M : Int) - (L : Int) < (q : Int)) = false := by simp; omega
            have hqM : L + q ≤ M := by omega
            have HBAD := hid hbad
            have HLG := hid hlong
            clear hbad hlong
            rcases hr2 with hr | hr | hr
            · have HRR : Hid (x % 4 = 0) := hid (by rw [HRR.out, hr])
              have HBAD : Hid (¬(2 < 0 ∨ q = 0)) := hid (by have h := HBAD.out; rw [hr] at h; exact h)
              have dk0 : ((r : Int) == 0) = true := by rw [hr]; rfl
              have dk1 : ((r : Int) == 1) = false := by rw [hr]; rfl
              clear hr
              by_cases hfit : R < 8 * q
              · have HE : Hid (dec M b = .error 10) := hid (HERR.out 10 (by unfold dGrp; rw [HD.out]; simp only; rw [HQ.out, HRR.out, if_neg HBAD.out, if_neg HLG.out, if_neg (by decide), if_neg (by decide), if_pos (by rw [HRL.out]; exact hfit)]))
                have d4 : decide ((R : Int) < (q : Int) * 8) = true := by simp; omega
                clear hfit
                go_wp2
                refine bodyPost_ret (v := .tuple #[.slice none 0 0, .int .i64 10]) (by simp [results, Try.results16, go_sem]) rfl ?_
                exact ⟨HB1.out, .inr ⟨10, HE.out, rfl⟩⟩
              · have HG : Hid (dGrp (M - L) t = .ok (chk q u, u.drop (8 * q))) := hid (by unfold dGrp; rw [HD.out]; simp only; rw [HQ.out, HRR.out, if_neg HBAD.out, if_neg HLG.out, if_neg (by decide), if_neg (by decide), if_neg (by rw [HRL.out]; exact hfit)])
                have d4 : decide ((R : Int) < (q : Int) * 8) = false := by simp; omega
                have hfit2 : 8 * q ≤ R := by omega
                clear hfit
                go_wp2_with fail
                rw [he1]
                go_loopw [6, 14] (fun v i wy => ∃ (a : Nat), a ≤ q ∧ i = .int .i64 (a : Int) ∧ Hid (wy.ownsRow w.heap.size 41 8 v (L + a) ((l ++ chk a u).map cSec).flatten) ∧ Hid (wy.ownsRow 0 5 1 (.slice rA R rc) R (u.map byteV)) ∧ Hid (Below w.heap.size w wy)) (fun _ i _ => q - (Lib.intOf i).toNat)
                case atStart => exact ⟨0, Nat.zero_le _, rfl, hid (by rw [show chk 0 u = [] from rfl, List.append_nil]; exact HO1.out), HU1, HB1⟩
                case round =>
                  clear HO1 HU1 HB1
                  obtain ⟨a, ha, rfl, HOa, HUa, HBa⟩ := hrel
                  obtain ⟨oA, oc, rfl⟩ := own_form41 HOa.out
                  have hza := HBa.out.size
                  by_cases haN : a < q
                  · have hac : (a : Int) < (q : Int) := by omega
                    have hsec : ((u.drop (8 * a)).take 8).length = 8 ∧ B8 ((u.drop (8 * a)).take 8) := eight_sec HU8.out (by rw [HRL.out]; omega)
                    obtain ⟨y, hy⟩ : ∃ y, (u.drop (8 * a)).take 8 = y := ⟨_, rfl⟩
                    have HST : Hid (((l ++ chk (a + 1) u).map cSec).flatten = ((l ++ chk a u).map cSec).flatten ++ ([y].map cSec).flatten) := hid (by rw [chk_snoc, ← hy]; simp)
                    rw [hy] at hsec
                    have HSEC := hid (secs_one hsec)
                    have hy8 := hid hsec.2
                    obtain ⟨gL, hgL⟩ : ∃ gL, ((l ++ chk a u).map cSec).flatten = gL := ⟨_, rfl⟩
                    rw [hgL] at HOa HST
                    clear hgL
                    obtain ⟨pb, po, hpA, hpc⟩ := eight_at (k := 8 * a) (byt_of_own HUa.out HU8.out) (by rw [HRL.out]; omega)
                    rw [show (u.drop (8 * a)).take 8 = y from hy] at hpc
                    subst hpA
                    have hSL := fun (W : World) => run_slice_mid (some ⟨pb, po, none⟩) R rc (8 * a) (8 * (a + 1)) ((a : Int) * 8) (((a : Int) + 1) * 8) (by omega) (by omega) (by omega) (by omega) W
                    rw [fromA_at rfl (show 8 * a < rc by omega), show 8 * (a + 1) - 8 * a = 8 by omega] at hSL
                    obtain ⟨cc, hcc⟩ : ∃ cc, rc - 8 * a = cc := ⟨_, rfl⟩
                    rw [hcc] at hSL
                    obtain ⟨pp, hpp⟩ : ∃ pp, po + 8 * a = pp := ⟨_, rfl⟩
                    rw [hpp] at hSL hpc
                    have e1 : IntKind.i64.wrap ((a : Int) * 8) = (a : Int) * 8 := IntWalk.i64_in _ (by omega)
                    have e2 : IntKind.i64.wrap ((a : Int) + 1) = (a : Int) + 1 := IntWalk.i64_in _ (by omega)
                    have e3 : IntKind.i64.wrap (((a : Int) + 1) * 8) = ((a : Int) + 1) * 8 := IntWalk.i64_in _ (by omega)
                    have HPC := hid hpc
                    have hylen := hid hsec.1
                    have HX := hid (heap_alloc_new wr (.cells #[.int .u8 0, .int .u8 0, .int .u8 0, .int .u8 0, .int .u8 0, .int .u8 0, .int .u8 0, .int .u8 0] 41))
                    have HAL := hid (al1 wr (.cells #[.int .u8 0, .int .u8 0, .int .u8 0, .int .u8 0, .int .u8 0, .int .u8 0, .int .u8 0, .int .u8 0] 41))
                    have hpl : pb < wr.heap.size := by rcases byt_at (byt_of_own HUa.out HU8.out) (by rw [HRL.out]; omega) with ⟨b1, o1, e, h, _⟩; injection e with e; injection e with e; rw [e]; exact h
                    have HPC2 : Hid (∀ (j : Nat) (v : Value), (cSec y)[j]? = some v → (wr.alloc (.cells #[.int .u8 0, .int .u8 0, .int .u8 0, .int .u8 0, .int .u8 0, .int .u8 0, .int .u8 0, .int .u8 0] 41)).drew.cell? ((⟨pb, pp, none⟩ : Addr).add j) = some v) := hid (fun j v hj => (HAL.out.cell (p := (⟨pb, pp, none⟩ : Addr).add j) (by rw [show (⟨pb, pp, none⟩ : Addr).add j = ⟨pb, pp + j, none⟩ by unfold Addr.add; split <;> simp_all]; exact hpl)).trans (HPC.out j v hj))
                    clear hpc hcc hpp hy hsec hpl
                    go_wp2_with fail
                    go_region_law (refine step_copy_splice rfl (.tmp 66) (.tmp 73) 24 24 rfl 5 Try.underlying24 size5' (some ⟨wr.heap.size, 0, none⟩) (some ⟨pb, pp, none⟩) 8 8 8 cc (by simp [Act.eval, Act.put]) (by simp [Act.eval, Act.put]) wr.heap.size 0 [.int .u8 0, .int .u8 0, .int .u8 0, .int .u8 0, .int .u8 0, .int .u8 0, .int .u8 0, .int .u8 0] 41 HX.out (cSec y) (by unfold cSec; rw [List.length_map, hylen.out]; rfl) (fun _ => ⟨rfl, _, rfl, HPC2.out⟩) (by unfold cSec; rw [List.length_map, hylen.out]; exact Nat.le_refl _) (byteV_one y) wr.heap.size wr (below_drew HAL.out) (Nat.le_refl _) ?_; intro w4 hg4 hb4; rw [splice_all _ _ (by unfold cSec; rw [List.length_map, hylen.out]; rfl)] at hg4; clear HX HPC2)
                    have HB4 := hid hb4
                    clear hb4
                    have hz4 := HB4.out.size
                    have HO4 := hid (own_keep HOa.out (keep_below HB4.out))
                    have HU4 := hid (own_keep HUa.out (keep_below HB4.out))
                    have HBA4 := hid (HBa.out.trans (HB4.out.mono hza))
                    obtain ⟨gB, hgB⟩ : ∃ gB, wr.heap.size = gB := ⟨_, rfl⟩
                    rw [hgB] at hg4 ⊢
                    obtain ⟨y0, y1, y2, y3, y4, y5, y6, y7, rfl⟩ := list8 hylen.out
                    have r0 : w4.cell? ⟨gB, 0, none⟩ = some (.int .u8 (y0 : Int)) := cell_of_row _ _ 0 _ _ _ hg4.out
                    have r1 : w4.cell? ⟨gB, 1, none⟩ = some (.int .u8 (y1 : Int)) := cell_of_row _ _ 1 _ _ _ hg4.out
                    have r2 : w4.cell? ⟨gB, 2, none⟩ = some (.int .u8 (y2 : Int)) := cell_of_row _ _ 2 _ _ _ hg4.out
                    have r3 : w4.cell? ⟨gB, 3, none⟩ = some (.int .u8 (y3 : Int)) := cell_of_row _ _ 3 _ _ _ hg4.out
                    have r4 : w4.cell? ⟨gB, 4, none⟩ = some (.int .u8 (y4 : Int)) := cell_of_row _ _ 4 _ _ _ hg4.out
                    have r5 : w4.cell? ⟨gB, 5, none⟩ = some (.int .u8 (y5 : Int)) := cell_of_row _ _ 5 _ _ _ hg4.out
                    have r6 : w4.cell? ⟨gB, 6, none⟩ = some (.int .u8 (y6 : Int)) := cell_of_row _ _ 6 _ _ _ hg4.out
                    have r7 : w4.cell? ⟨gB, 7, none⟩ = some (.int .u8 (y7 : Int)) := cell_of_row _ _ 7 _ _ _ hg4.out
                    clear HB4 HAL HPC
                    go_wp2_with (at_builtin; refine append_secs rfl (.tmp 81) (.tmp 83) rfl w.heap.size (.slice oA (L + a) oc) (L + a) _ rfl (own_keep HO4.out (keep_below (al1 _ _))) [[y0, y1, y2, y3, y4, y5, y6, y7]] ⟨w4.heap.size, 0, none⟩ 1 1 rfl HSEC.out rfl (fun j u hu => by rw [add_at', cell_of_row _ _ _ _ _ _ (heap_alloc_new w4 _)]; simpa [cSec, byteV, zs] using hu) (by omega) (by simp; omega) ?_; intro v5 w5 hown5 hg5; obtain ⟨a5, k5, rfl⟩ := own_form41 hown5; have HO5 := hid hown5; have HG5 := hid hg5; clear hown5 hg5)
                    have HU5 := hid (own_keep HU4.out ((keep_below (al1 w4 (.cells #[.int .u8 (y0 : Int), .int .u8 (y1 : Int), .int .u8 (y2 : Int), .int .u8 (y3 : Int), .int .u8 (y4 : Int), .int .u8 (y5 : Int), .int .u8 (y6 : Int), .int .u8 (y7 : Int)] 41))).trans (keep_grown (own_keep HO4.out (keep_below (al1 w4 (.cells #[.int .u8 (y0 : Int), .int .u8 (y1 : Int), .int .u8 (y2 : Int), .int .u8 (y3 : Int), .int .u8 (y4 : Int), .int .u8 (y5 : Int), .int .u8 (y6 : Int), .int .u8 (y7 : Int)] 41)))) (by decide) HG5.out)))
                    have HB5 := hid ((HBA4.out.alloc (by omega) (.cells #[.int .u8 (y0 : Int), .int .u8 (y1 : Int), .int .u8 (y2 : Int), .int .u8 (y3 : Int), .int .u8 (y4 : Int), .int .u8 (y5 : Int), .int .u8 (y6 : Int), .int .u8 (y7 : Int)] 41)).grown HG5.out (by simp; omega) (fun k e => (HO4.out.lt k e).1))
                    go_roundw
                    case rel => exact ⟨a + 1, by omega, by go_num, hid (by rw [HST.out, show L + (a + 1) = L + a + 1 by omega]; exact HO5.out), HU5, HB5⟩
                    case measure => simp [Lib.intOf]; omega
                  · obtain rfl : a = q := by omega
                    obtain ⟨h1, h2⟩ := HOK.out _ _ HG.out
                    have HD2 := hid h1
                    have HS2 : Hid (Secs (l ++ chk a u)) := hid (fun s hs => (List.mem_append.1 hs).elim (HS.out s) (fun hs => chk_secs a u HU8.out (by rw [HRL.out]; omega) s hs))
                    have HLL : Hid ((l ++ chk a u).length = L + a) := hid (by rw [List.length_append, HL.out, chk_len])
                    have hUB := byt_of_own HUa.out HU8.out
                    rw [← HRL.out] at hUB
                    have hdr := byt_from hUB (k := 8 * a) (by rw [HRL.out]; omega)
                    have hnk : NilOk (.slice (fromA rA rc (8 * a)) (u.length - 8 * a) (rc - 8 * a)) := rest_nilOk (own_nilOk HUa.out) _ _
                    obtain ⟨D, hD⟩ : ∃ D, u.drop (8 * a) = D := ⟨_, rfl⟩
                    have hDl : u.length - 8 * a = D.length := by rw [← hD, List.length_drop]
                    rw [hD] at HD2 h2
                    rw [hD, hDl] at hdr
                    rw [hDl] at hnk
                    have hSL := fun (W : World) => run_slice_fromI rA R rc (8 * a) ((a : Int) * 8) (by omega) (by omega) W
                    rw [show R - 8 * a = D.length by rw [← HRL.out]; exact hDl] at hSL
                    obtain ⟨fA, hfA⟩ : ∃ fA, fromA rA rc (8 * a) = fA := ⟨_, rfl⟩
                    rw [hfA] at hdr hnk hSL
                    have HDR := hid hdr
                    have HNK := hid hnk
                    have hD9 : D.length ≤ 90000 := by omega
                    clear hdr hnk hD hDl hfA hUB h1 HG
                    have hDT : D.length < TL := h2
                    clear h2
                    go_wp2_with fail
                    refine ⟨⟨_, D, fA, _, hD9, by rw [HLL.out]; omega, rfl, HDR, HNK, HS2, HD2, hid (by rw [HLL.out]; exact HOa.out), HBa⟩, ?_⟩
                    simpa using hDT
            · have HRR : Hid (x % 4 = 1) := hid (by rw [HRR.out, hr])
              have HBAD : Hid (¬(2 < 1 ∨ q = 0)) := hid (by have h := HBAD.out; rw [hr] at h; exact h)
              have dk0 : ((r : Int) == 0) = false := by rw [hr]; rfl
              have dk1 : ((r : Int) == 1) = true := by rw [hr]; rfl
              clear hr
              by_cases hfit : R < 8
              · have HE : Hid (dec M b = .error 10) := hid (HERR.out 10 (by unfold dGrp; rw [HD.out]; simp only; rw [HQ.out, HRR.out, if_neg HBAD.out, if_neg HLG.out, if_neg (by decide), if_pos rfl, if_pos (by rw [HRL.out]; exact hfit)]))
                have d4 : decide ((R : Int) < 8) = true := by simp; omega
                clear hfit
                go_wp2
                refine bodyPost_ret (v := .tuple #[.slice none 0 0, .int .i64 10]) (by simp [results, Try.results16, go_sem]) rfl ?_
                exact ⟨HB1.out, .inr ⟨10, HE.out, rfl⟩⟩
              · have HG : Hid (dGrp (M - L) t = .ok (List.replicate q (u.take 8), u.drop (8))) := hid (by unfold dGrp; rw [HD.out]; simp only; rw [HQ.out, HRR.out, if_neg HBAD.out, if_neg HLG.out, if_neg (by decide), if_pos rfl, if_neg (by rw [HRL.out]; exact hfit)])
                have d4 : decide ((R : Int) < 8) = false := by simp; omega
                have hfit2 : 8 ≤ R := by omega
                clear hfit
                go_wp2_with fail
                rw [he1]
                go_loopw [6, 14] (fun v i wy => ∃ (a : Nat), a ≤ q ∧ i = .int .i64 (a : Int) ∧ Hid (wy.ownsRow w.heap.size 41 8 v (L + a) ((l ++ List.replicate a (u.take 8)).map cSec).flatten) ∧ Hid (wy.ownsRow 0 5 1 (.slice rA R rc) R (u.map byteV)) ∧ Hid (Below w.heap.size w wy)) (fun _ i _ => q - (Lib.intOf i).toNat)
                case atStart => exact ⟨0, Nat.zero_le _, rfl, hid (by rw [List.replicate_zero, List.append_nil]; exact HO1.out), HU1, HB1⟩
                case round =>
                  clear HO1 HU1 HB1
                  obtain ⟨a, ha, rfl, HOa, HUa, HBa⟩ := hrel
                  obtain ⟨oA, oc, rfl⟩ := own_form41 HOa.out
                  have hza := HBa.out.size
                  by_cases haN : a < q
                  · have hac : (a : Int) < (q : Int) := by omega
                    have hsec : (u.take 8).length = 8 ∧ B8 (u.take 8) := eight_sec (k := 0) HU8.out (by rw [HRL.out]; omega)
                    obtain ⟨y, hy⟩ : ∃ y, u.take 8 = y := ⟨_, rfl⟩
                    have HST : Hid (((l ++ List.replicate (a + 1) (u.take 8)).map cSec).flatten = ((l ++ List.replicate a (u.take 8)).map cSec).flatten ++ ([y].map cSec).flatten) := hid (by rw [← hy]; exact rep_snoc l a _)
                    rw [hy] at hsec
                    have HSEC := hid (secs_one hsec)
                    have hy8 := hid hsec.2
                    obtain ⟨gL, hgL⟩ : ∃ gL, ((l ++ List.replicate a (u.take 8)).map cSec).flatten = gL := ⟨_, rfl⟩
                    rw [hgL] at HOa HST
                    clear hgL
                    obtain ⟨pb, po, hpA, hpc⟩ := eight_at (k := 0) (byt_of_own HUa.out HU8.out) (by rw [HRL.out]; omega)
                    rw [show (u.drop (0)).take 8 = y from by rw [List.drop_zero]; exact hy] at hpc
                    subst hpA
                    have hSL : ∀ (W : World), (Instr.slice 24 (.slice (some ⟨pb, po, none⟩) R rc) none (some (.int .i64 8)) none).run Try.prog W = .ok (.slice (some ⟨pb, po, none⟩) 8 rc) W := fun (W : World) => run_slice_to (some ⟨pb, po, none⟩) R rc 8 (by omega) W
                    have hrc8 : (8 : Int) ≤ (rc : Int) := by omega
                    rw [Nat.add_zero] at hpc
                    clear hSL
                    have HPC := hid hpc
                    have hylen := hid hsec.1
                    have HX := hid (heap_alloc_new wr (.cells #[.int .u8 0, .int .u8 0, .int .u8 0, .int .u8 0, .int .u8 0, .int .u8 0, .int .u8 0, .int .u8 0] 41))
                    have HAL := hid (al1 wr (.cells #[.int .u8 0, .int .u8 0, .int .u8 0, .int .u8 0, .int .u8 0, .int .u8 0, .int .u8 0, .int .u8 0] 41))
                    have hpl : pb < wr.heap.size := by rcases byt_at (byt_of_own HUa.out HU8.out) (by rw [HRL.out]; omega) with ⟨b1, o1, e, h, _⟩; injection e with e; injection e with e; rw [e]; exact h
                    have HPC2 : Hid (∀ (j : Nat) (v : Value), (cSec y)[j]? = some v → (wr.alloc (.cells #[.int .u8 0, .int .u8 0, .int .u8 0, .int .u8 0, .int .u8 0, .int .u8 0, .int .u8 0, .int .u8 0] 41)).drew.cell? ((⟨pb, po, none⟩ : Addr).add j) = some v) := hid (fun j v hj => (HAL.out.cell (p := (⟨pb, po, none⟩ : Addr).add j) (by rw [show (⟨pb, po, none⟩ : Addr).add j = ⟨pb, po + j, none⟩ by unfold Addr.add; split <;> simp_all]; exact hpl)).trans (HPC.out j v hj))
                    clear hpc hy hsec hpl
                    go_wp2_with fail
                    go_region_law (refine step_copy_splice rfl (.tmp 77) (.tmp 79) 24 24 rfl 5 Try.underlying24 size5' (some ⟨wr.heap.size, 0, none⟩) (some ⟨pb, po, none⟩) 8 8 8 rc (by simp [Act.eval, Act.put]) (by simp [Act.eval, Act.put]) wr.heap.size 0 [.int .u8 0, .int .u8 0, .int .u8 0, .int .u8 0, .int .u8 0, .int .u8 0, .int .u8 0, .int .u8 0] 41 HX.out (cSec y) (by unfold cSec; rw [List.length_map, hylen.out]; rfl) (fun _ => ⟨rfl, _, rfl, HPC2.out⟩) (by unfold cSec; rw [List.length_map, hylen.out]; exact Nat.le_refl _) (byteV_one y) wr.heap.size wr (below_drew HAL.out) (Nat.le_refl _) ?_; intro w4 hg4 hb4; rw [splice_all _ _ (by unfold cSec; rw [List.length_map, hylen.out]; rfl)] at hg4; clear HX HPC2)
                    have HB4 := hid hb4
                    clear hb4
                    have hz4 := HB4.out.size
                    have HO4 := hid (own_keep HOa.out (keep_below HB4.out))
                    have HU4 := hid (own_keep HUa.out (keep_below HB4.out))
                    have HBA4 := hid (HBa.out.trans (HB4.out.mono hza))
                    obtain ⟨gB, hgB⟩ : ∃ gB, wr.heap.size = gB := ⟨_, rfl⟩
                    rw [hgB] at hg4 ⊢
                    obtain ⟨y0, y1, y2, y3, y4, y5, y6, y7, rfl⟩ := list8 hylen.out
                    have r0 : w4.cell? ⟨gB, 0, none⟩ = some (.int .u8 (y0 : Int)) := cell_of_row _ _ 0 _ _ _ hg4.out
                    have r1 : w4.cell? ⟨gB, 1, none⟩ = some (.int .u8 (y1 : Int)) := cell_of_row _ _ 1 _ _ _ hg4.out
                    have r2 : w4.cell? ⟨gB, 2, none⟩ = some (.int .u8 (y2 : Int)) := cell_of_row _ _ 2 _ _ _ hg4.out
                    have r3 : w4.cell? ⟨gB, 3, none⟩ = some (.int .u8 (y3 : Int)) := cell_of_row _ _ 3 _ _ _ hg4.out
                    have r4 : w4.cell? ⟨gB, 4, none⟩ = some (.int .u8 (y4 : Int)) := cell_of_row _ _ 4 _ _ _ hg4.out
                    have r5 : w4.cell? ⟨gB, 5, none⟩ = some (.int .u8 (y5 : Int)) := cell_of_row _ _ 5 _ _ _ hg4.out
                    have r6 : w4.cell? ⟨gB, 6, none⟩ = some (.int .u8 (y6 : Int)) := cell_of_row _ _ 6 _ _ _ hg4.out
                    have r7 : w4.cell? ⟨gB, 7, none⟩ = some (.int .u8 (y7 : Int)) := cell_of_row _ _ 7 _ _ _ hg4.out
                    clear HB4 HAL HPC
                    go_wp2_with (at_builtin; refine append_secs rfl (.tmp 81) (.tmp 83) rfl w.heap.size (.slice oA (L + a) oc) (L + a) _ rfl (own_keep HO4.out (keep_below (al1 _ _))) [[y0, y1, y2, y3, y4, y5, y6, y7]] ⟨w4.heap.size, 0, none⟩ 1 1 rfl HSEC.out rfl (fun j u hu => by rw [add_at', cell_of_row _ _ _ _ _ _ (heap_alloc_new w4 _)]; simpa [cSec, byteV, zs] using hu) (by omega) (by simp; omega) ?_; intro v5 w5 hown5 hg5; obtain ⟨a5, k5, rfl⟩ := own_form41 hown5; have HO5 := hid hown5; have HG5 := hid hg5; clear hown5 hg5)
                    have HU5 := hid (own_keep HU4.out ((keep_below (al1 w4 (.cells #[.int .u8 (y0 : Int), .int .u8 (y1 : Int), .int .u8 (y2 : Int), .int .u8 (y3 : Int), .int .u8 (y4 : Int), .int .u8 (y5 : Int), .int .u8 (y6 : Int), .int .u8 (y7 : Int)] 41))).trans (keep_grown (own_keep HO4.out (keep_below (al1 w4 (.cells #[.int .u8 (y0 : Int), .int .u8 (y1 : Int), .int .u8 (y2 : Int), .int .u8 (y3 : Int), .int .u8 (y4 : Int), .int .u8 (y5 : Int), .int .u8 (y6 : Int), .int .u8 (y7 : Int)] 41)))) (by decide) HG5.out)))
                    have HB5 := hid ((HBA4.out.alloc (by omega) (.cells #[.int .u8 (y0 : Int), .int .u8 (y1 : Int), .int .u8 (y2 : Int), .int .u8 (y3 : Int), .int .u8 (y4 : Int), .int .u8 (y5 : Int), .int .u8 (y6 : Int), .int .u8 (y7 : Int)] 41)).grown HG5.out (by simp; omega) (fun k e => (HO4.out.lt k e).1))
                    go_roundw
                    case rel => exact ⟨a + 1, by omega, by go_num, hid (by rw [HST.out, show L + (a + 1) = L + a + 1 by omega]; exact HO5.out), HU5, HB5⟩
                    case measure => simp [Lib.intOf]; omega
                  · obtain rfl : a = q := by omega
                    obtain ⟨h1, h2⟩ := HOK.out _ _ HG.out
                    have HD2 := hid h1
                    have HS2 : Hid (Secs (l ++ List.replicate a (u.take 8))) := hid (fun s hs => (List.mem_append.1 hs).elim (HS.out s) (fun hs => by obtain ⟨_, rfl⟩ := List.mem_replicate.1 hs; have h := eight_sec (k := 0) HU8.out (by rw [HRL.out]; omega); rw [List.drop_zero] at h; exact h))
                    have HLL : Hid ((l ++ List.replicate a (u.take 8)).length = L + a) := hid (by rw [List.length_append, HL.out, List.length_replicate])
                    have hUB := byt_of_own HUa.out HU8.out
                    rw [← HRL.out] at hUB
                    have hdr := byt_from hUB (k := 8) (by rw [HRL.out]; omega)
                    have hnk : NilOk (.slice (fromA rA rc (8)) (u.length - 8) (rc - 8)) := rest_nilOk (own_nilOk HUa.out) _ _
                    obtain ⟨D, hD⟩ : ∃ D, u.drop (8) = D := ⟨_, rfl⟩
                    have hDl : u.length - 8 = D.length := by rw [← hD, List.length_drop]
                    rw [hD] at HD2 h2
                    rw [hD, hDl] at hdr
                    rw [hDl] at hnk
                    have hSL := fun (W : World) => run_slice_fromI rA R rc (8) (8) (by omega) (by omega) W
                    rw [show R - 8 = D.length by rw [← HRL.out]; exact hDl] at hSL
                    obtain ⟨fA, hfA⟩ : ∃ fA, fromA rA rc (8) = fA := ⟨_, rfl⟩
                    rw [hfA] at hdr hnk hSL
                    have HDR := hid hdr
                    have HNK := hid hnk
                    have hD9 : D.length ≤ 90000 := by omega
                    clear hdr hnk hD hDl hfA hUB h1 HG
                    have hDT : D.length < TL := h2
                    clear h2
                    go_wp2_with fail
                    refine ⟨⟨_, D, fA, _, hD9, by rw [HLL.out]; omega, rfl, HDR, HNK, HS2, HD2, hid (by rw [HLL.out]; exact HOa.out), HBa⟩, ?_⟩
                    simpa using hDT
            · have HRR : Hid (x % 4 = 2) := hid (by rw [HRR.out, hr])
              have HBAD : Hid (¬(2 < 2 ∨ q = 0)) := hid (by have h := HBAD.out; rw [hr] at h; exact h)
              have dk0 : ((r : Int) == 0) = false := by rw [hr]; rfl
              have dk1 : ((r : Int) == 1) = false := by rw [hr]; rfl
              clear hr
              · have HG : Hid (dGrp (M - L) t = .ok (List.replicate q zs, u)) := hid (by unfold dGrp; rw [HD.out]; simp only; rw [HQ.out, HRR.out, if_neg HBAD.out, if_neg HLG.out, if_pos rfl])
                have d4 : decide ((R : Int) < 0) = false := by simp
                go_wp2_with fail
                rw [he1]
                go_loopw [6, 14] (fun v i wy => ∃ (a : Nat), a ≤ q ∧ i = .int .i64 (a : Int) ∧ Hid (wy.ownsRow w.heap.size 41 8 v (L + a) ((l ++ List.replicate a zs).map cSec).flatten) ∧ Hid (wy.ownsRow 0 5 1 (.slice rA R rc) R (u.map byteV)) ∧ Hid (Below w.heap.size w wy)) (fun _ i _ => q - (Lib.intOf i).toNat)
                case atStart => exact ⟨0, Nat.zero_le _, rfl, hid (by rw [List.replicate_zero, List.append_nil]; exact HO1.out), HU1, HB1⟩
                case round =>
                  clear HO1 HU1 HB1
                  obtain ⟨a, ha, rfl, HOa, HUa, HBa⟩ := hrel
                  obtain ⟨oA, oc, rfl⟩ := own_form41 HOa.out
                  have hza := HBa.out.size
                  by_cases haN : a < q
                  · have hac : (a : Int) < (q : Int) := by omega
                    have hsec : (zs).length = 8 ∧ B8 (zs) := zs_sec
                    obtain ⟨y, hy⟩ : ∃ y, zs = y := ⟨_, rfl⟩
                    have HST : Hid (((l ++ List.replicate (a + 1) zs).map cSec).flatten = ((l ++ List.replicate a zs).map cSec).flatten ++ ([y].map cSec).flatten) := hid (by rw [← hy]; exact rep_snoc l a _)
                    rw [hy] at hsec
                    have HSEC := hid (secs_one hsec)
                    have hy8 := hid hsec.2
                    obtain ⟨gL, hgL⟩ : ∃ gL, ((l ++ List.replicate a zs).map cSec).flatten = gL := ⟨_, rfl⟩
                    rw [hgL] at HOa HST
                    clear hgL
                    subst hy
                    have HAL := hid (al1 wr (.cells #[.int .u8 0, .int .u8 0, .int .u8 0, .int .u8 0, .int .u8 0, .int .u8 0, .int .u8 0, .int .u8 0] 41))
                    obtain ⟨w4, hw4⟩ : ∃ w4, wr.alloc (.cells #[.int .u8 0, .int .u8 0, .int .u8 0, .int .u8 0, .int .u8 0, .int .u8 0, .int .u8 0, .int .u8 0] 41) = w4 := ⟨_, rfl⟩
                    have hg4 := hid (heap_alloc_new wr (.cells #[.int .u8 0, .int .u8 0, .int .u8 0, .int .u8 0, .int .u8 0, .int .u8 0, .int .u8 0, .int .u8 0] 41))
                    rw [hw4] at HAL hg4
                    have hz4 := HAL.out.size
                    have HO4 := hid (own_keep HOa.out (keep_below HAL.out))
                    have HU4 := hid (own_keep HUa.out (keep_below HAL.out))
                    have HBA4 := hid (HBa.out.trans (HAL.out.mono hza))
                    have r0 := cell_of_row _ _ 0 _ _ _ hg4.out
                    have r1 := cell_of_row _ _ 1 _ _ _ hg4.out
                    have r2 := cell_of_row _ _ 2 _ _ _ hg4.out
                    have r3 := cell_of_row _ _ 3 _ _ _ hg4.out
                    have r4 := cell_of_row _ _ 4 _ _ _ hg4.out
                    have r5 := cell_of_row _ _ 5 _ _ _ hg4.out
                    have r6 := cell_of_row _ _ 6 _ _ _ hg4.out
                    have r7 := cell_of_row _ _ 7 _ _ _ hg4.out
                    clear HAL hsec
                    go_wp2_with (at_builtin; refine append_secs rfl (.tmp 81) (.tmp 83) rfl w.heap.size (.slice oA (L + a) oc) (L + a) _ rfl (own_keep HO4.out (keep_below (al1 _ _))) [zs] ⟨w4.heap.size, 0, none⟩ 1 1 rfl HSEC.out rfl (fun j u hu => by rw [add_at', cell_of_row _ _ _ _ _ _ (heap_alloc_new w4 _)]; simpa [cSec, byteV, zs] using hu) (by omega) (by simp; omega) ?_; intro v5 w5 hown5 hg5; obtain ⟨a5, k5, rfl⟩ := own_form41 hown5; have HO5 := hid hown5; have HG5 := hid hg5; clear hown5 hg5)
                    have HU5 := hid (own_keep HU4.out ((keep_below (al1 w4 (.cells #[.int .u8 0, .int .u8 0, .int .u8 0, .int .u8 0, .int .u8 0, .int .u8 0, .int .u8 0, .int .u8 0] 41))).trans (keep_grown (own_keep HO4.out (keep_below (al1 w4 (.cells #[.int .u8 0, .int .u8 0, .int .u8 0, .int .u8 0, .int .u8 0, .int .u8 0, .int .u8 0, .int .u8 0] 41)))) (by decide) HG5.out)))
                    have HB5 := hid ((HBA4.out.alloc (by omega) (.cells #[.int .u8 0, .int .u8 0, .int .u8 0, .int .u8 0, .int .u8 0, .int .u8 0, .int .u8 0, .int .u8 0] 41)).grown HG5.out (by simp; omega) (fun k e => (HO4.out.lt k e).1))
                    go_roundw
                    case rel => exact ⟨a + 1, by omega, by go_num, hid (by rw [HST.out, show L + (a + 1) = L + a + 1 by omega]; exact HO5.out), HU5, HB5⟩
                    case measure => simp [Lib.intOf]; omega
                  · obtain rfl : a = q := by omega
                    obtain ⟨h1, h2⟩ := HOK.out _ _ HG.out
                    have HD2 := hid h1
                    have HS2 : Hid (Secs (l ++ List.replicate a zs)) := hid (fun s hs => (List.mem_append.1 hs).elim (HS.out s) (fun hs => by obtain ⟨_, rfl⟩ := List.mem_replicate.1 hs; exact zs_sec))
                    have HLL : Hid ((l ++ List.replicate a zs).length = L + a) := hid (by rw [List.length_append, HL.out, List.length_replicate])
                    have hUB := byt_of_own HUa.out HU8.out
                    rw [← HRL.out] at hUB
                    have hdr := byt_from hUB (k := 0) (by rw [HRL.out]; omega)
                    have hnk : NilOk (.slice (fromA rA rc (0)) (u.length - 0) (rc - 0)) := rest_nilOk (own_nilOk HUa.out) _ _
                    obtain ⟨D, hD⟩ : ∃ D, u.drop (0) = D := ⟨_, rfl⟩
                    have hDl : u.length - 0 = D.length := by rw [← hD, List.length_drop]
                    rw [show u = D by rw [← hD, List.drop_zero]] at HD2 h2
                    rw [hD, hDl] at hdr
                    rw [hDl] at hnk
                    have hSL := fun (W : World) => run_slice_fromI rA R rc (0) (0) (by omega) (by omega) W
                    rw [show R - 0 = D.length by rw [← HRL.out]; exact hDl] at hSL
                    obtain ⟨fA, hfA⟩ : ∃ fA, fromA rA rc (0) = fA := ⟨_, rfl⟩
                    rw [hfA] at hdr hnk hSL
                    have HDR := hid hdr
                    have HNK := hid hnk
                    have hD9 : D.length ≤ 90000 := by omega
                    clear hdr hnk hD hDl hfA hUB h1 HG
                    have hDT : D.length < TL := h2
                    clear h2
                    go_wp2_with fail
                    refine ⟨⟨_, D, fA, _, hD9, by rw [HLL.out]; omega, rfl, HDR, HNK, HS2, HD2, hid (by rw [HLL.out]; exact HOa.out), HBa⟩, ?_⟩
                    simpa using hDT
end Go.Proofs.Ytielamoaghibgaa

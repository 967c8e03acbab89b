/- The reference's Crash. -/
import Derived.Test.YtoefbgkeinhibaaSf
import Derived.Test.YtoefbgkeinhibaaSa
namespace Go.Proofs.Ytoefbgkeinhibaa
open Go.RowKit Go.Lib

def RCrQ (w : World) (r : List Sect × List Ca × List Int) (e : Ending) (w' : World) : Prop := ∃ v u, e = .returned (.tuple #[v, u]) ∧ Dk w' v r.1 r.2.1 ∧ Ints w' u r.2.2 ∧ Below w.heap.size w w'
def restK (n : Nat) (l : List Ca) (a : Nat) : List Int := (((List.range n).drop a).filter fun (i : Nat) => !(G l (i : Int)).isEmpty).map fun (i : Nat) => (i : Int)
theorem restK_end (n : Nat) (l : List Ca) : restK n l n = [] := by
  unfold restK
  rw [List.drop_of_length_le (by simp)]
  rfl
theorem restK_skip {n a : Nat} {l : List Ca} (h : a < n) (hg : G l (a : Int) = []) : restK n l a = restK n l (a + 1) := by
  unfold restK
  rw [drop_cons (l := List.range n) (k := a) (x := a) (by simp [h]), List.filter_cons, hg]
  rfl
theorem restK_take {n a : Nat} {l : List Ca} (h : a < n) (hg : G l (a : Int) ≠ []) : restK n l a = (a : Int) :: restK n l (a + 1) := by
  unfold restK
  rw [drop_cons (l := List.range n) (k := a) (x := a) (by simp [h]), List.filter_cons, if_pos (by simpa using hg)]
  rfl
set_option maxHeartbeats 8000000 in
set_option maxRecDepth 100000 in
theorem refCrash_any (st : List Sect) (ca : List Ca) (sv cv lv : Value) (l : List Int) (w : World) (hs : Sec w sv st) (hsn : NilOk sv) (hc : Cas w cv ca) (hl : Ints w lv l) (hca : ca.length ≤ 500000) :
    Calls Try.prog 32 #[.agg #[sv, cv], lv] w (RCrQ w (crashS st ca l)) := by
  have HDK : Hid (Dk w (.agg #[sv, cv]) st ca) := hid ⟨_, _, rfl, hs, hsn, hc⟩
  obtain ⟨A, c, rfl⟩ := sec_form hs
  obtain ⟨B, d, rfl⟩ := cas_form hc
  have HSS := hid hs.1
  have HCS : Hid (CasL ca) := hid hc.1
  obtain ⟨n, hn⟩ : ∃ n, st.length = n := ⟨_, rfl⟩
  obtain ⟨m, hm⟩ : ∃ n, ca.length = n := ⟨_, rfl⟩
  rw [hn] at hs hsn HDK ⊢
  rw [hm] at hc hca HDK ⊢
  obtain ⟨g, hg⟩ : ∃ g, w.heap.size = g := ⟨_, rfl⟩
  obtain ⟨W1, hW1⟩ : ∃ X, (w.alloc (.cells #[.slice A n c, .slice B m d] 25)).alloc (.cells #[.slice none 0 0, .slice none 0 0] 25) = X := ⟨_, rfl⟩
  have hb1 : Below w.heap.size w W1 := by rw [← hW1]; exact ((Below.refl _ w).alloc (Nat.le_refl _) _).alloc (by simp) _
  have hx1 : W1.heap[g]? = some (.cells #[.slice A n c, .slice B m d] 25) := by rw [← hW1, ← hg]; exact (Below.heap_alloc _ _ _ (by simp)).trans (heap_alloc_new w _)
  have hy1 : W1.heap[g + 1]? = some (.cells #[.slice none 0 0, .slice none 0 0] 25) := by rw [← hW1, ← hg]; simpa using heap_alloc_new (w.alloc (.cells #[.slice A n c, .slice B m d] 25)) (.cells #[.slice none 0 0, .slice none 0 0] 25)
  have hge : w.heap.size ≤ g := Nat.le_of_eq hg
  have hge1 : w.heap.size ≤ g + 1 := by omega
  obtain ⟨k0, hk0⟩ : ∃ k, chkD n ca = k := ⟨_, rfl⟩
  have HCK : Hid (∀ X, Below W1.heap.size W1 X → Calls Try.prog 23 #[.agg #[.slice A n c, .slice B m d]] X fun e w' => e = .returned (.int .i64 k0) ∧ Below X.heap.size X w') := hid (fun X hX => by
    have h := refCheck_any st ca (.slice A n c) (.slice B m d) X (hs.below (hb1.trans (hX.mono hb1.size))) (hc.below (hb1.trans (hX.mono hb1.size)))
    rwa [hn, hk0] at h)
  have HS := hid hs
  have HSN := hid hsn
  have HC := hid hc
  have HL := hid hl
  have HX1 := hid hx1
  have HY1 := hid hy1
  have HB1 := hid hb1
  have HW1 := hid hW1
  have HG := hid hg
  have HN := hid hn
  have HM := hid hm
  have HK0 := hid hk0
  have x0 := cell_of_row _ _ 0 _ _ _ hx1
  have x1 := cell_of_row _ _ 1 _ _ _ hx1
  clear hs hc hl hsn hn hm hb1 hx1 hy1 hW1 hg hk0
  go_enter Try.func32, Try.ntmps32
  go_upto_region 1 with fail
  rw [HW1.out, HG.out]
  by_cases h0 : k0 = 0
  rotate_left
  · have dk : (k0 != 0) = true := by rw [bne_iff_ne]; exact h0
    have HR : Hid (crashS st ca l = (st, ca, l)) := hid (by unfold crashS; rw [HN.out, HK0.out, if_neg h0])
    go_upto_region 2 with (go_at_call 23; refine (HCK.out W1 (Below.refl _ _)).mono ?_; rintro e X1 ⟨rfl, hb2⟩)
    have HY2 := hid ((hb2.block _ (box_lt HY1.out)).trans HY1.out)
    have HX2 := hid ((hb2.block _ (box_lt HX1.out)).trans HX1.out)
    have HB2 := hid (HB1.out.trans (hb2.mono HB1.out.size))
    have z0 := cell_of_row _ _ 0 _ _ _ HX2.out
    have z1 := cell_of_row _ _ 1 _ _ _ HX2.out
    have y0 := cell_of_row _ _ 0 _ _ _ HY2.out
    have y1 := cell_of_row _ _ 1 _ _ _ HY2.out
    have f0 := box_fr HY2.out 0
    have f1 := box_fr HY2.out 1
    clear hb2 x0 x1
    go_wp2_with fail
    refine bodyPost_ret (results_v1 rfl _ _ (g + 1) _ rfl (disk_load (disk_set HY2.out _ _)) _ rfl) rfl ?_
    rw [HR.out]
    have hbb := (HB2.out.setCell (p := ⟨g + 1, 0, none⟩) hge1 (.slice A n c)).setCell (p := ⟨g + 1, 1, none⟩) hge1 (.slice B m d)
    exact ⟨_, _, rfl, HDK.out.below hbb, HL.out.below hbb, hbb⟩
  · subst h0
    obtain ⟨hn4, hkC⟩ := chkD_C HK0.out
    have dk : ((0 : Int) != 0) = false := rfl
    go_upto_region 4 with (go_at_call 23; refine (HCK.out W1 (Below.refl _ _)).mono ?_; rintro e X1 ⟨rfl, hb2⟩; have HB2 := hid hb2; clear hb2)
    obtain ⟨W4, hW4⟩ : ∃ X, X1.alloc (.cells #[.slice none 0 0, .slice none 0 0] 25) = X := ⟨_, rfl⟩
    obtain ⟨p, hp⟩ : ∃ p, X1.heap.size = p := ⟨_, rfl⟩
    rw [hW4, hp]
    have hb4 : Below X1.heap.size X1 W4 := by rw [← hW4]; exact al1 _ _
    have hz4 : W4.heap.size = p + 1 := by rw [← hW4, ← hp]; simp
    have hpx : W4.heap[p]? = some (.cells #[.slice none 0 0, .slice none 0 0] 25) := by rw [← hW4, ← hp]; exact heap_alloc_new _ _
    have hgx : X1.heap[g]? = some (.cells #[.slice A n c, .slice B m d] 25) := (HB2.out.block _ (box_lt HX1.out)).trans HX1.out
    have hgp : g < p := by rw [← hp]; exact box_lt hgx
    have hyx : X1.heap[g + 1]? = some (.cells #[.slice none 0 0, .slice none 0 0] 25) := (HB2.out.block _ (box_lt HY1.out)).trans HY1.out
    have HBX : Hid (Below w.heap.size w X1) := hid (HB1.out.trans (HB2.out.mono HB1.out.size))
    have hwp : w.heap.size ≤ p := by rw [← hp]; exact HBX.out.size
    have HS4 : Hid (Sec W4 (.slice A n c) st) := hid (HS.out.below (HBX.out.trans (hb4.mono HBX.out.size)))
    have z0 := cell_of_row _ _ 0 _ _ _ ((hb4.block _ (box_lt hgx)).trans hgx)
    have p0 := cell_of_row _ _ 0 _ _ _ hpx
    have HP4 := hid hpx
    have HGX := hid hgx
    have HYX := hid hyx
    have HB4 := hid hb4
    have HZ4 := hid hz4
    have HPP := hid hp
    have ha1 : 0 + st.length ≤ 1000000000 := by rw [HN.out]; omega
    clear hW4 hp hb4 hpx hgx hyx x0 x1
    go_upto_region 5 with (at_builtin; refine append_sec rfl (.tmp 18) (.tmp 20) rfl (p + 1) (.slice none 0 0) 0 [] rfl (World.ownsRow_nil _ _ _ _) st _ rfl HS4.out HSN.out ha1 (Nat.le_of_eq HZ4.out.symm) ?_; intro v2 w2 ho2 hg2; rw [Nat.zero_add, HN.out] at ho2; obtain ⟨A2, c2, rfl⟩ := ownAny_form ho2; have HO2 := hid ho2; have HBa := hid (below_own (Below.refl W4.heap.size W4) (World.ownsRow_nil W4 (p + 1) 73 8) hg2 (Nat.le_refl _) (Nat.le_of_eq HZ4.out)); have hz2 := (HBa.out.block _ (box_lt HP4.out)).trans HP4.out; have q0 := cell_of_row _ _ 0 _ _ _ hz2; have fz0 := box_fr hz2 0; have HZ2 := hid hz2; clear ho2 hg2 hz2 p0)
    obtain ⟨W5, hW5⟩ : ∃ X, w2.setCell ⟨p, 0, none⟩ (.slice A2 n c2) = X := ⟨_, rfl⟩
    rw [hW5]
    have HP5 : Hid (W5.heap[p]? = some (.cells #[.slice A2 n c2, .slice none 0 0] 25)) := hid (by rw [← hW5]; exact box_set (cs := [.slice none 0 0, .slice none 0 0]) HZ2.out 0 _)
    have HO5 : Hid (W5.ownsRow (p + 1) 73 8 (.slice A2 n c2) n (st.map cSec).flatten) := hid (by
      have h := own_keep HO2.out (keep_box HZ2.out (by decide) 0 (.slice A2 n c2))
      rw [hW5] at h
      simpa using h)
    have HB5 : Hid (Below X1.heap.size X1 W5) := hid (by rw [← hW5]; exact (HB4.out.trans (HBa.out.mono HB4.out.size)).setCell (Nat.le_of_eq HPP.out) _)
    obtain ⟨r, hr⟩ : ∃ r, crs ca (keysL n ca) st l = r := ⟨_, rfl⟩
    have HR : Hid (crashS st ca l = (r.1, [], r.2)) := hid (by unfold crashS; rw [HN.out, HK0.out, if_pos rfl, hr])
    have HR0 : Hid (crs ca (restK n ca 0) st l = r) := hid hr
    clear q0 fz0 z0 hr hW5 hkC
    go_upto_region 6 with fail
    go_loopw [1, 7] (fun lx iv wr => ∃ (q : Nat) (lu : Value), q ≤ n ∧ iv = .int .i64 (q : Int) ∧ lu = lx ∧ Hid (∃ st' ch', crs ca (restK n ca q) st' ch' = r ∧ wr.ownsRow (p + 1) 73 8 (.slice A2 n c2) n (st'.map cSec).flatten ∧ Secs st' ∧ st'.length = n ∧ Ints w lu ch') ∧ Hid (Below X1.heap.size X1 wr) ∧ Hid (wr.heap[p]? = some (.cells #[.slice A2 n c2, .slice none 0 0] 25))) (fun _ i _ => n - (Go.RowKit.intOf i).toNat)
    case atStart => exact ⟨0, lv, Nat.zero_le _, rfl, rfl, hid ⟨st, l, HR0.out, HO5.out, HSS.out, HN.out, HL.out⟩, HB5, HP5⟩
    case round =>
      obtain ⟨q, lu, hq, rfl, rfl, HX, HB, HP⟩ := hrel
      obtain ⟨st', ch', hcr, hos, hss, hsn', hin⟩ := HX.out
      have HCR := hid hcr
      have HOS := hid hos
      have HSS' := hid hss
      have HSN' := hid hsn'
      have HIN := hid hin
      clear hcr hos hss hsn' hin
      have p0 := cell_of_row _ _ 0 _ _ _ HP.out
      have HGo := hid ((HB.out.block _ (box_lt HGX.out)).trans HGX.out)
      have HYo := hid ((HB.out.block _ (box_lt HYX.out)).trans HYX.out)
      have HBw := hid (HBX.out.trans (HB.out.mono HBX.out.size))
      obtain ⟨Wo, hWo⟩ : ∃ X, X = wr := ⟨_, rfl⟩
      subst hWo
      have hpo : p < Wo.heap.size := box_lt HP.out
      by_cases hqn : q < n
      · have e1 : decide ((q : Int) < (n : Int)) = true := decide_eq_true (by omega)
        go_upto_region 10 with fail
        obtain ⟨D, hD⟩ : ∃ D, Wo.heap.size = D := ⟨_, rfl⟩
        have HD := hid hD
        clear hD
        go_loopw [8, 9] (fun sx iv wr => ∃ (j : Nat) (su : Value), j ≤ m ∧ iv = .int .i64 (j : Int) ∧ su = sx ∧ Hid (wr.ownsRow D 73 8 su (G (ca.take j) (q : Int)).length ((G (ca.take j) (q : Int)).map cSec).flatten) ∧ Hid (Below D Wo wr)) (fun _ i _ => m - (Go.RowKit.intOf i).toNat)
        case atStart => exact ⟨0, _, Nat.zero_le _, rfl, rfl, hid (World.ownsRow_nil _ _ _ _), hid (Below.refl _ _)⟩
        case round =>
        obtain ⟨t, su, ht, rfl, rfl, HO, HBi⟩ := hrel
        have hgr := (HBi.out.block _ (Nat.lt_of_lt_of_eq (box_lt HGo.out) HD.out)).trans HGo.out
        have u1 := cell_of_row _ _ 1 _ _ _ hgr
        clear hgr
        by_cases htm : t < m
        · have e2 : decide ((t : Int) < (m : Int)) = true := decide_eq_true (by omega)
          have htm' : (t : Int) < (m : Int) := by omega
          obtain ⟨b, off, rfl, hb, hcc⟩ := cas_cells HC.out (by rw [HM.out]; omega)
          obtain ⟨x, hx⟩ : ∃ x, ca[t]? = some x := ⟨ca[t]'(by rw [HM.out]; exact htm), List.getElem?_eq_getElem _⟩
          have h8 := HCS.out x (List.mem_of_getElem? hx)
          have HTK := hid (show ca.take (t + 1) = ca.take t ++ [x] from by rw [List.take_add_one, hx]; rfl)
          obtain ⟨a, s⟩ := x
          dsimp only at h8
          obtain ⟨s0, s1, s2, s3, s4, s5, s6, s7, rfl⟩ := list8 h8.1
          have hbw : wr.heap[b]? = w.heap[b]? := (HBi.out.block b (Nat.lt_of_lt_of_eq (Nat.lt_of_lt_of_le hb HBw.out.size) HD.out)).trans (HBw.out.block b hb)
          have HKC := hid (fun (i : Nat) (u : Value) (hu : (cCa (a, [s0, s1, s2, s3, s4, s5, s6, s7]))[i]? = some u) => (show wr.cell? ⟨b, off + t * 9 + i, none⟩ = some u from (by
            have h := hcc t _ hx i u hu
            unfold World.cell? at h ⊢
            rw [hbw]
            exact h)))
          have H8 := hid h8
          have k0 := HKC.out 0 (.int .i64 a) rfl
          rw [Nat.add_zero] at k0
          have k1 := HKC.out 1 (.int .u8 (s0 : Int)) rfl
          have k2 := HKC.out 2 (.int .u8 (s1 : Int)) rfl
          have k3 := HKC.out 3 (.int .u8 (s2 : Int)) rfl
          have k4 := HKC.out 4 (.int .u8 (s3 : Int)) rfl
          have k5 := HKC.out 5 (.int .u8 (s4 : Int)) rfl
          have k6 := HKC.out 6 (.int .u8 (s5 : Int)) rfl
          have k7 := HKC.out 7 (.int .u8 (s6 : Int)) rfl
          have k8 := HKC.out 8 (.int .u8 (s7 : Int)) rfl
          clear hcc hx hbw h8
          by_cases hax : a = (q : Int)
          · subst hax
            have ea : ((q : Int) == (q : Int)) = true := by simp
            have hgl : (G (ca.take t) (q : Int)).length + 1 ≤ 1000000000 := by
              have h1 := g_len (ca.take t) (q : Int)
              rw [List.length_take] at h1
              have h2 := HM.out
              omega
            obtain ⟨W6, hW6⟩ : ∃ X, wr.alloc (.cells #[.int .u8 (s0 : Int), .int .u8 (s1 : Int), .int .u8 (s2 : Int), .int .u8 (s3 : Int), .int .u8 (s4 : Int), .int .u8 (s5 : Int), .int .u8 (s6 : Int), .int .u8 (s7 : Int)] 73) = X := ⟨_, rfl⟩
            have HO6 : Hid (W6.ownsRow D 73 8 su (G (ca.take t) (q : Int)).length ((G (ca.take t) (q : Int)).map cSec).flatten) := hid (by rw [← hW6]; exact own_keep HO.out (keep_below (al1 _ _)))
            have HB6 : Hid (Below D Wo W6) := hid (by rw [← hW6]; exact HBi.out.alloc (Nat.le_trans (Nat.le_of_eq HD.out.symm) HBi.out.size) _)
            have HD6 : Hid (D ≤ W6.heap.size) := hid (Nat.le_trans (Nat.le_of_eq HD.out.symm) HB6.out.size)
            have HSC : Hid (Sec W6 (.slice (some ⟨wr.heap.size, 0, none⟩) 1 1) [[s0, s1, s2, s3, s4, s5, s6, s7]]) := hid (by
              rw [← hW6]
              exact sec_lit (l := [[s0, s1, s2, s3, s4, s5, s6, s7]]) (fun s hs => by rw [List.mem_singleton] at hs; subst hs; exact ⟨H8.out.1, H8.out.2.1⟩) (by simp) (heap_alloc_new wr _))
            have HW6 := hid hW6
            clear hW6
            go_upto_region 13 with fail
            go_upto_region 11 with (at_builtin; rw [HW6.out]; refine append_sec rfl (.tmp 45) (.tmp 52) rfl D su _ _ rfl HO6.out [[s0, s1, s2, s3, s4, s5, s6, s7]] _ rfl HSC.out (nilOk_some _ _ _) hgl HD6.out ?_; intro v3 w3 ho3 hg3; have HO3 := hid ho3; have HB3 := hid (below_own HB6.out HO6.out hg3 HD6.out (Nat.le_refl _)); clear ho3 hg3)
            go_wp2_with fail
            go_roundw
            case rel => exact ⟨t + 1, _, by omega, by go_num, rfl, hid (by rw [HTK.out, g_snoc, if_pos rfl]; simpa using HO3.out), HB3⟩
            case measure => simp [Go.RowKit.intOf]; omega
          · have ea : (a == (q : Int)) = false := by rw [beq_eq_false_iff_ne]; exact hax
            go_wp2_with fail
            go_roundw
            case rel => exact ⟨t + 1, _, by omega, by go_num, rfl, hid (by rw [HTK.out, g_snoc, if_neg hax, List.append_nil]; exact HO.out), HBi⟩
            case measure => simp [Go.RowKit.intOf]; omega
        · obtain rfl : m = t := by omega
          have e2 : decide ((m : Int) < (m : Int)) = false := decide_eq_false (by omega)
          have HTA := hid (show ca.take m = ca from List.take_of_length_le (by rw [HM.out]; exact Nat.le_refl _))
          rw [HTA.out] at HO
          obtain ⟨V, vc, rfl⟩ := ownAny_form HO.out
          have hgs := g_secs HCS.out (q : Int)
          obtain ⟨gl, hgl⟩ : ∃ gl, (G ca (q : Int)).length = gl := ⟨_, rfl⟩
          have hglm : gl ≤ 500000 := by rw [← hgl]; exact Nat.le_trans (g_len _ _) (by rw [HM.out]; omega)
          have hsec : Sec wr (.slice V gl vc) (G ca (q : Int)) := by
            have h := sec_of_own HO.out hgs
            rwa [hgl] at h
          rw [hgl]
          have HSEC := hid hsec
          have HGL := hid hgl
          have HGS := hid hgs
          have HBr : Hid (Below X1.heap.size X1 wr) := hid (HB.out.trans (HBi.out.mono (by rw [← HD.out]; exact HB.out.size)))
          have HBwr := hid (HBX.out.trans (HBr.out.mono HBX.out.size))
          have HPr := hid ((HBi.out.block _ (Nat.lt_of_lt_of_eq hpo HD.out)).trans HP.out)
          have HOSr := hid (by
            have h := HBi.out
            rw [← HD.out] at h
            exact own_keep HOS.out (keep_below h))
          clear hsec hgl hgs
          by_cases hg0 : gl = 0
          · subst hg0
            have d0 : (((0 : Nat) : Int) == 0) = true := rfl
            have d0' : ((0 : Int) == 0) = true := rfl
            have HNE : Hid (G ca (q : Int) = []) := hid (List.eq_nil_of_length_eq_zero HGL.out)
            go_wp2_with fail
            go_roundw
            case rel => exact ⟨q + 1, lu, by omega, by go_num, rfl, hid ⟨st', ch', by rw [← HCR.out, restK_skip hqn HNE.out], HOSr.out, HSS'.out, HSN'.out, HIN.out⟩, HBr, HPr⟩
            case measure => simp [Go.RowKit.intOf]; omega
          · have d0 : ((gl : Int) == 0) = false := by rw [beq_eq_false_iff_ne]; omega
            have HNE : Hid (G ca (q : Int) ≠ []) := hid (fun e => hg0 (by rw [← HGL.out, e]; rfl))
            have hw1 : IntKind.i64.wrap ((gl : Int) + 1) = (gl : Int) + 1 := by rw [IntKind.wrap_i64]; omega
            have HDE := hid (refDecide_any ch' lu ((gl : Int) + 1) wr (HIN.out.below HBwr.out) (by omega) (by omega))
            obtain ⟨dn, hdn⟩ : ∃ dn, dec ch' ((gl : Int) + 1) = dn := ⟨_, rfl⟩
            have hdnr : 0 ≤ dn ∧ dn ≤ gl := by
              have := dec_range ch' (show 0 < (gl : Int) + 1 by omega)
              rw [hdn] at this
              omega
            have HDIS : Hid (dn = dec ch' (((G ca (q : Int)).length : Int) + 1)) := hid (by rw [HGL.out]; exact hdn.symm)
            have HDQ := hid (show ∀ e X8, RDecQ wr lu ch' ((gl : Int) + 1) e X8 → ∃ u, e = .returned (.tuple #[.int .i64 dn, u]) ∧ (∀ X, Ints X lu ch' → Ints X u ch'.tail) ∧ Below wr.heap.size wr X8 from fun e X8 h => by rw [← hdn]; exact h)
            clear hdn
            by_cases hd0 : 0 < dn
            rotate_left
            · have d1 : decide (0 < dn) = false := decide_eq_false hd0
              go_upto_region 17 with (go_at_call 55; refine HDE.out.mono ?_; intro e X8 hQ; obtain ⟨u8, rfl, hin8, hb8⟩ := HDQ.out e X8 hQ; have HI8 := hid hin8; have HB8 := hid hb8; clear hQ hin8 hb8)
              go_wp2_with fail
              go_roundw
              case rel => exact ⟨q + 1, u8, by omega, by go_num, rfl, hid ⟨st', ch'.tail, by rw [← HCR.out, restK_take hqn HNE.out, crs, ← HDIS.out, if_neg (by omega)], own_keep HOSr.out (keep_below HB8.out), HSS'.out, HSN'.out, HI8.out _ HIN.out⟩, hid (HBr.out.trans (HB8.out.mono HBr.out.size)), hid ((HB8.out.block _ (box_lt HPr.out)).trans HPr.out)⟩
              case measure => simp [Go.RowKit.intOf]; omega
            · have d1 : decide (0 < dn) = true := decide_eq_true hd0
              obtain ⟨j, rfl⟩ : ∃ j : Nat, dn = (j : Int) + 1 := ⟨(dn - 1).toNat, by omega⟩
              have hjg : j < gl := by omega
              have hsub : IntKind.i64.wrap (j : Int) = (j : Int) := by rw [IntKind.wrap_i64]; omega
              go_upto_region 17 with (go_at_call 55; refine HDE.out.mono ?_; intro e X8 hQ; obtain ⟨u8, rfl, hin8, hb8⟩ := HDQ.out e X8 hQ; have HI8 := hid hin8; have HB8 := hid hb8; clear hQ hin8 hb8)
              have hp8 : X8.heap[p]? = some (.cells #[.slice A2 n c2, .slice none 0 0] 25) := (HB8.out.block _ (box_lt HPr.out)).trans HPr.out
              have ho8 := own_keep HOSr.out (keep_below HB8.out)
              obtain ⟨ob, rfl⟩ : ∃ ob, A2 = some ⟨ob, 0, none⟩ := by
                rcases ho8.2 with ⟨e, _⟩ | ⟨ob, cap, cur, e, _⟩
                · injection e with _ e _
                  omega
                · injection e with e _ _
                  exact ⟨ob, e⟩
              have hob := ho8.lt ob rfl
              obtain ⟨vb, voff, rfl, hvb, hvc⟩ := arr_at1 HSEC.out.2 (by rw [List.length_map, HGL.out]; omega)
              obtain ⟨s, hsj⟩ : ∃ s, (G ca (q : Int))[j]? = some s := ⟨(G ca (q : Int))[j]'(by rw [HGL.out]; exact hjg), List.getElem?_eq_getElem _⟩
              have h8 := HGS.out s (List.mem_of_getElem? hsj)
              have hGD : (G ca (q : Int)).getD ((j : Int) + 1 - 1).toNat [] = s := by rw [show ((j : Int) + 1 - 1).toNat = j by omega, List.getD_eq_getElem?_getD, hsj]; rfl
              obtain ⟨X0, hX0⟩ : ∃ X, X8.drew = X := ⟨_, rfl⟩
              have hB0 : Below X8.heap.size X8 X0 := by rw [← hX0]; exact (Below.refl X8.heap.size X8).drew
              have ho0 := own_keep ho8 (keep_below hB0)
              obtain ⟨X9, hrun, ho9, hbl9, hsz9, hk9, hbb9⟩ := store_sec ho0 HSN'.out HSS'.out hqn h8
              have HRH := hid (show ∀ (k : Nat) (u : Value), (cSec s)[k]? = some u → ∀ X, Below X8.heap.size X8 X → X.cell? ⟨vb, voff + j * 8 + k, none⟩ = some u from fun k u hu X hX => by
                have h := hvc j _ (by rw [List.getElem?_map, hsj]; rfl) k u hu
                have e2 := (hX.block vb (Nat.lt_of_lt_of_le hvb HB8.out.size)).trans (HB8.out.block vb hvb)
                unfold World.cell? at h ⊢
                rw [e2]
                exact h)
              obtain ⟨s0, s1, s2, s3, s4, s5, s6, s7, rfl⟩ := list8 h8.1
              have HHD := hid (fun (X : World) (hX : Below X8.heap.size X8 X) => (show X.cell? ⟨p, 0, none⟩ = some (.slice (some ⟨ob, 0, none⟩) n c2) ∧ X.cell? ⟨vb, voff + j * 8, none⟩ = some (.int .u8 (s0 : Int)) ∧ X.cell? ⟨vb, voff + j * 8 + 1, none⟩ = some (.int .u8 (s1 : Int)) ∧ X.cell? ⟨vb, voff + j * 8 + 2, none⟩ = some (.int .u8 (s2 : Int)) ∧ X.cell? ⟨vb, voff + j * 8 + 3, none⟩ = some (.int .u8 (s3 : Int)) ∧ X.cell? ⟨vb, voff + j * 8 + 4, none⟩ = some (.int .u8 (s4 : Int)) ∧ X.cell? ⟨vb, voff + j * 8 + 5, none⟩ = some (.int .u8 (s5 : Int)) ∧ X.cell? ⟨vb, voff + j * 8 + 6, none⟩ = some (.int .u8 (s6 : Int)) ∧ X.cell? ⟨vb, voff + j * 8 + 7, none⟩ = some (.int .u8 (s7 : Int)) from (by
                have g1 := (hX.block _ (box_lt hp8)).trans hp8
                exact ⟨cell_of_row _ _ 0 _ _ _ g1, HRH.out 0 _ rfl X hX, HRH.out 1 _ rfl X hX, HRH.out 2 _ rfl X hX, HRH.out 3 _ rfl X hX, HRH.out 4 _ rfl X hX, HRH.out 5 _ rfl X hX, HRH.out 6 _ rfl X hX, HRH.out 7 _ rfl X hX⟩)))
              have hHeld := HHD.out X0 hB0
              have HRN := hid hrun
              have HO9 := hid ho9
              have hb80 : Below X1.heap.size X1 X0 := (HBr.out.trans (HB8.out.mono HBr.out.size)).trans (hB0.mono (Nat.le_trans HBr.out.size HB8.out.size))
              have HB9 : Hid (Below X1.heap.size X1 X9) := hid (hbb9 _ _ hb80 (by rw [HPP.out]; exact Nat.le_trans (Nat.le_succ _) hob.1))
              have HP9 : Hid (X9.heap[p]? = some (.cells #[.slice (some ⟨ob, 0, none⟩) n c2, .slice none 0 0] 25)) := hid (hk9 25 (by decide) _ _ ((hB0.block _ (box_lt hp8)).trans hp8))
              have HGD := hid hGD
              have HSEC9 := hid (secs_set (i := q) HSS'.out h8)
              clear hp8 ho8 hob hsj h8 hGD hB0 ho0 hrun ho9 hbl9 hsz9 hk9 hbb9 hvc hb80
              go_upto_region 18 with fail
              refine region_tail 9 (fun X => X.cell? ⟨p, 0, none⟩ = some (.slice (some ⟨ob, 0, none⟩) n c2) ∧ X.cell? ⟨vb, voff + j * 8, none⟩ = some (.int .u8 (s0 : Int)) ∧ X.cell? ⟨vb, voff + j * 8 + 1, none⟩ = some (.int .u8 (s1 : Int)) ∧ X.cell? ⟨vb, voff + j * 8 + 2, none⟩ = some (.int .u8 (s2 : Int)) ∧ X.cell? ⟨vb, voff + j * 8 + 3, none⟩ = some (.int .u8 (s3 : Int)) ∧ X.cell? ⟨vb, voff + j * 8 + 4, none⟩ = some (.int .u8 (s4 : Int)) ∧ X.cell? ⟨vb, voff + j * 8 + 5, none⟩ = some (.int .u8 (s5 : Int)) ∧ X.cell? ⟨vb, voff + j * 8 + 6, none⟩ = some (.int .u8 (s6 : Int)) ∧ X.cell? ⟨vb, voff + j * 8 + 7, none⟩ = some (.int .u8 (s7 : Int))) (by kernel_rfl) ?_
              rw [hX0]
              clear hX0
              refine' wpAnyT_take (i := 0) (oi := ?oia0) (v := ?va0) ?hia0 (by kernel_rfl) (by kernel_rfl) ?hqa0 ?hya0 hHeld ?resta0
              case hia0 => (simp only [List.getElem?_toArray, List.getElem?_cons_zero]; rfl)
              case hqa0 => exact fun _ _ _ h => h
              case hya0 => (refine Or.inl ⟨by rfl, ?_⟩; intro w' hSw; (try dsimp only at hSw); go_simp; try with_reducible rfl)
              (try simp only [Act.put, List.setIfInBounds_toArray, List.set_cons_zero, List.set_cons_succ])
              refine' wpAnyT_take (i := 1) (oi := ?oia1) (v := ?va1) ?hia1 (by kernel_rfl) (by kernel_rfl) ?hqa1 ?hya1 hHeld ?resta1
              case hia1 => (simp only [List.getElem?_toArray, List.getElem?_cons_zero, List.getElem?_cons_succ]; rfl)
              case hqa1 => exact fun _ _ _ h => h
              case hya1 => (refine Or.inl ⟨by rfl, ?_⟩; intro w' hSw; (try dsimp only at hSw); go_simp; try with_reducible rfl)
              (try simp only [Act.put, List.setIfInBounds_toArray, List.set_cons_zero, List.set_cons_succ])
              refine' wpAnyT_take (i := 2) (oi := ?oia2) (v := ?va2) ?hia2 (by kernel_rfl) (by kernel_rfl) ?hqa2 ?hya2 hHeld ?resta2
              case hia2 => (simp only [List.getElem?_toArray, List.getElem?_cons_zero, List.getElem?_cons_succ]; rfl)
              case hqa2 => exact fun _ _ _ h => h
              case hya2 => (refine Or.inl ⟨by rfl, ?_⟩; intro w' hSw; (try dsimp only at hSw); go_simp; try with_reducible rfl)
              (try simp only [Act.put, List.setIfInBounds_toArray, List.set_cons_zero, List.set_cons_succ])
              refine' wpAnyT_take (i := 3) (oi := ?oia3) (v := ?va3) ?hia3 (by kernel_rfl) (by kernel_rfl) ?hqa3 ?hya3 hHeld ?resta3
              case hia3 => (simp only [List.getElem?_toArray, List.getElem?_cons_zero, List.getElem?_cons_succ]; rfl)
              case hqa3 => exact fun _ _ _ h => h
              case hya3 => (refine Or.inl ⟨by rfl, ?_⟩; intro w' hSw; (try dsimp only at hSw); go_simp; try with_reducible rfl)
              (try simp only [Act.put, List.setIfInBounds_toArray, List.set_cons_zero, List.set_cons_succ])
              refine' wpAnyT_take (i := 4) (oi := ?oia4) (v := ?va4) ?hia4 (by kernel_rfl) (by kernel_rfl) ?hqa4 ?hya4 hHeld ?resta4
              case hia4 => (simp only [List.getElem?_toArray, List.getElem?_cons_zero, List.getElem?_cons_succ]; rfl)
              case hqa4 => exact fun _ _ _ h => h
              case hya4 => (refine Or.inl ⟨by rfl, ?_⟩; intro w' hSw; (try dsimp only at hSw); go_simp; try with_reducible rfl)
              (try simp only [Act.put, List.setIfInBounds_toArray, List.set_cons_zero, List.set_cons_succ])
              refine' wpAnyT_take (i := 5) (oi := ?oia5) (v := ?va5) ?hia5 (by kernel_rfl) (by kernel_rfl) ?hqa5 ?hya5 hHeld ?resta5
              case hia5 => (simp only [List.getElem?_toArray, List.getElem?_cons_zero, List.getElem?_cons_succ]; rfl)
              case hqa5 => exact fun _ _ _ h => h
              case hya5 => (refine Or.inl ⟨by rfl, ?_⟩; intro w' hSw; (try dsimp only at hSw); go_simp; try with_reducible rfl)
              (try simp only [Act.put, List.setIfInBounds_toArray, List.set_cons_zero, List.set_cons_succ])
              refine' wpAnyT_take (i := 6) (oi := ?oia6) (v := ?va6) ?hia6 (by kernel_rfl) (by kernel_rfl) ?hqa6 ?hya6 hHeld ?resta6
              case hia6 => (simp only [List.getElem?_toArray, List.getElem?_cons_zero, List.getElem?_cons_succ]; rfl)
              case hqa6 => exact fun _ _ _ h => h
              case hya6 => (refine Or.inl ⟨by rfl, ?_⟩; intro w' hSw; (try dsimp only at hSw); go_simp; try with_reducible rfl)
              (try simp only [Act.put, List.setIfInBounds_toArray, List.set_cons_zero, List.set_cons_succ])
              refine' wpAnyT_take (i := 7) (oi := ?oia7) (v := ?va7) ?hia7 (by kernel_rfl) (by kernel_rfl) ?hqa7 ?hya7 hHeld ?resta7
              case hia7 => (simp only [List.getElem?_toArray, List.getElem?_cons_zero, List.getElem?_cons_succ]; rfl)
              case hqa7 => exact fun _ _ _ h => h
              case hya7 => (refine Or.inl ⟨by rfl, ?_⟩; intro w' hSw; (try dsimp only at hSw); go_simp; try with_reducible rfl)
              (try simp only [Act.put, List.setIfInBounds_toArray, List.set_cons_zero, List.set_cons_succ])
              refine' wpAnyT_one (i := 8) (o := ?oia8) (by kernel_rfl) ?hia8 (fun K hK => ?sta8)
              case hia8 => (simp only [List.getElem?_toArray, List.getElem?_cons_zero, List.getElem?_cons_succ]; rfl)
              go_simp
              refine hK.out _ _ (fun _ => hHeld) ?_
              clear hK K
              (try simp only [Act.put, List.setIfInBounds_toArray, List.set_cons_zero, List.set_cons_succ])
              refine' wpAnyT_one (i := 9) (o := ?oia9) (by kernel_rfl) ?hia9 (fun K hK => ?sta9)
              case hia9 => (simp only [List.getElem?_toArray, List.getElem?_cons_zero, List.getElem?_cons_succ]; rfl)
              refine step_store_run rfl 73 (.tmp 76) (.tmp 75) rfl (.pointer (some ⟨ob, q * 8, none⟩)) (.agg #[.int .u8 (s0 : Int), .int .u8 (s1 : Int), .int .u8 (s2 : Int), .int .u8 (s3 : Int), .int .u8 (s4 : Int), .int .u8 (s5 : Int), .int .u8 (s6 : Int), .int .u8 (s7 : Int)]) (by simp [Act.eval]) (by simp [Act.eval]) HRN.out ?_
              refine hK.out _ _ (fun h => absurd h (by decide)) ?_
              clear hK K
              refine wpAnyT_done (by kernel_rfl) ?_ _
              go_wp2_with fail
              go_roundw
              case rel => exact ⟨q + 1, u8, by omega, by go_num, rfl, hid ⟨st'.set q [s0, s1, s2, s3, s4, s5, s6, s7], ch'.tail, by rw [← HCR.out, restK_take hqn HNE.out, crs, ← HDIS.out, if_pos hd0, HGD.out]; rfl, HO9.out, HSEC9.out, by rw [List.length_set]; exact HSN'.out, HI8.out _ HIN.out⟩, HB9, HP9⟩
              case measure => simp [Go.RowKit.intOf]; omega
      · obtain rfl : n = q := by omega
        have e1 : decide ((n : Int) < (n : Int)) = false := decide_eq_false (by omega)
        have hE := HCR.out
        rw [restK_end] at hE
        obtain ⟨rs, rc⟩ := r
        have HE := hid (show st' = rs ∧ ch' = rc from by injection hE with e1 e2; exact ⟨e1, e2⟩)
        have q1 := cell_of_row _ _ 1 _ _ _ HP.out
        have y0 := cell_of_row _ _ 0 _ _ _ HYo.out
        have y1 := cell_of_row _ _ 1 _ _ _ HYo.out
        have f0 := box_fr HYo.out 0
        have f1 := box_fr HYo.out 1
        clear hE
        go_wp2_with fail
        refine bodyPost_ret (results_v1 rfl _ _ (g + 1) _ rfl (disk_load (disk_set HYo.out _ _)) _ rfl) rfl ?_
        rw [HR.out, ← HE.out.1, ← HE.out.2]
        have hbb := (HBw.out.setCell (p := ⟨g + 1, 0, none⟩) hge1 (.slice A2 n c2)).setCell (p := ⟨g + 1, 1, none⟩) hge1 (.slice none 0 0)
        exact ⟨_, _, rfl, OwnG.dk (OwnG.keep (B' := p + 1) (show OwnG Wo (p + 1) st' [] (.agg #[.slice A2 n c2, .slice none 0 0]) from ⟨⟨_, _, rfl, by rw [HSN'.out]; exact HOS.out, World.ownsRow_nil _ _ _ _⟩, HSS'.out, (fun x (hx : x ∈ []) => by cases hx)⟩) (keep_two HYo.out (by decide)) (keep_two HYo.out (by decide)) (Nat.le_refl _)), HIN.out.below hbb, hbb⟩
end Go.Proofs.Ytoefbgkeinhibaa

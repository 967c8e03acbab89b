/- The law EventqueueExpires. -/
import Derived.Test.YtjpfogdfgcfkcaaSf
namespace Go.Proofs.Ytjpfogdfgcfkcaa
open Go.RowKit Go.Lib

theorem Own.base {w : World} {base base' n : Nat} {v : Value} {l : List Ec} {vs : List Ev} (h : Own w base v n l vs) (hb : base' ≤ base) : Own w base' v n l vs := ⟨own_base h.1 hb, h.2⟩

set_option maxHeartbeats 4000000 in
set_option maxRecDepth 100000 in
theorem expires_walk (l : List Nat) (ni : Int) (v : Value) (w : World) (hv : UL w v l) (hni : (Lit.int .u8 ni).wf = true) :
    Calls Try.prog 7 #[v, .int .u8 ni] w fun e w' => e = .returned (.bool true) ∧ Below w.heap.size w w' := by
  have hb := bounds_u8 hni
  have hwn : IntKind.i64.wrap ni = ni := by rw [IntKind.wrap_i64]; omega
  have HTM := hid (times_any l v w hv)
  obtain ⟨T, hT⟩ : ∃ T, tmsL l = T := ⟨_, rfl⟩
  have hT30 : T.length ≤ 30 := by rw [← hT]; exact tms_len l
  have hTok : ∀ t ∈ T, 0 ≤ t ∧ t ≤ 1073741824 := by rw [← hT]; exact fun t => tms_ok
  rw [hT] at HTM
  obtain ⟨n, hn⟩ : ∃ n, T.length = n := ⟨_, rfl⟩
  obtain ⟨L, hL1, hL2, hL3⟩ := adds_good T [] 0 good_nil rfl (by omega) hTok
  rw [Nat.zero_add, hn] at hL1 hL2 hL3
  rw [hn] at HTM hT30
  have HL1 := hid hL1
  have HL2 := hid hL2
  have HN := hid hn
  have HLEN := hid hL3
  obtain ⟨d, hd⟩ : ∃ d, dueN L (n : Int) ni = d := ⟨_, rfl⟩
  have hdu' : d = unt L ni := by rw [← hd]; unfold dueN; rw [if_pos hL2.chk]
  have hdn : d ≤ n := by rw [hdu', ← hL3]; exact unt_le L ni
  have HTK : Hid (∀ (k : Nat) (y : Ec), k < d → L[k]? = some y → y.1 ≤ ni) := hid (fun k y hk hy => by
    have h : y ∈ L.take (unt L ni) := by
      rw [← hdu']
      exact List.mem_of_getElem? (i := k) (by rw [List.getElem?_take_of_lt hk]; exact hy)
    rw [take_unt] at h
    exact take_le y h)
  have HDR : Hid (∀ y ∈ L.drop d, ni < y.1) := hid (by
    rw [hdu', drop_unt]
    exact drop_gt hL2.ord)
  have HD := hid hd
  obtain ⟨A, c, rfl⟩ := ul_form hv
  obtain ⟨N, hN⟩ : ∃ N, l.length = N := ⟨_, rfl⟩
  rw [hN] at HTM ⊢
  clear hv hni hb hT hTok hn hL1 hL2 hL3 hN hd hdu'
  go_enter Try.func7, Try.ntmps7
  go_wp2_with fail
  refine HTM.out.mono ?_
  rintro e w1 ⟨tA, tc, rfl, hil1, hb1⟩
  have HAD := hid (added_any T _ w1 hil1 (by rw [HN.out]; omega))
  have HB1 := hid hb1
  clear hil1 hb1 HTM
  go_wp2_with fail
  refine HAD.out.mono ?_
  rintro e w2 ⟨q, rfl, hq⟩
  rw [HL1.out] at hq ⊢
  dsimp only at hq ⊢
  obtain ⟨A2, c2, vs2, rfl, ho2, hb2⟩ := own_of_qu hq
  rw [HLEN.out] at ho2 ⊢
  obtain ⟨W3, hW3⟩ : ∃ W3, w2.alloc (.cells #[.slice A2 n c2, .int .i64 (n : Int)] 24) = W3 := ⟨_, rfl⟩
  obtain ⟨g, hg⟩ : ∃ g, w2.heap.size = g := ⟨_, rfl⟩
  have hb3 : Below w2.heap.size w2 W3 := by rw [← hW3]; exact al1 _ _
  have HX3 : Hid (W3.heap[g]? = some (.cells #[.slice A2 n c2, .int .i64 (n : Int)] 24)) := hid (by rw [← hW3, ← hg]; exact heap_alloc_new w2 _)
  have HO3 : Hid (Own W3 w.heap.size (.slice A2 n c2) n L vs2) := hid ((ho2.below hb3).base HB1.out.size)
  have HB3 : Hid (Below w.heap.size w W3) := hid (HB1.out.trans ((hb2.trans (hb3.mono hb2.size)).mono HB1.out.size))
  have hgw : w.heap.size ≤ g := by rw [← hg]; exact Nat.le_trans HB1.out.size hb2.size
  have HW3 := hid hW3
  have HG := hid hg
  have hdu := due_any vs2 (.slice A2 n c2) (n : Int) ni W3 HO3.out.el (HO3.out.all (P := fun e => R64 e.2.1) HL2.out.r64) (by rw [HO3.out.2.1]; omega) (HO3.out.all (P := fun e => e.2.2.2.2.length ≤ 100000) HL2.out.body)
  rw [HO3.out.2.2.1, HD.out] at hdu
  have HDU := hid hdu
  have x0 : (w2.alloc (.cells #[.slice A2 n c2, .int .i64 (n : Int)] 24)).cell? ⟨w2.heap.size, 0, none⟩ = some (.slice A2 n c2) := cell_of_row _ _ 0 _ _ _ (heap_alloc_new w2 _)
  have x1 : (w2.alloc (.cells #[.slice A2 n c2, .int .i64 (n : Int)] 24)).cell? ⟨w2.heap.size, 1, none⟩ = some (.int .i64 (n : Int)) := cell_of_row _ _ 1 _ _ _ (heap_alloc_new w2 _)
  clear hq ho2 hb2 hW3 hb3 hg HAD hdu
  go_wp2_with fail
  rw [HW3.out, HG.out]
  refine HDU.out.mono ?_
  rintro e w4 ⟨q, va, vsa, rfl, hq, hoa, hca, hpa⟩
  obtain ⟨A4, c4, vs4, rfl, ho4, hb4⟩ := own_of_qu hq
  have hla : vsa.length = d := by have h := congrArg List.length hca; rw [List.length_map, List.length_take, HLEN.out] at h; omega
  rw [hla] at hoa
  obtain ⟨aA, ac, rfl⟩ := own_form32 hoa
  have hlr : (L.drop d).length = n - d := by rw [List.length_drop, HLEN.out]
  obtain ⟨e4, he4⟩ : ∃ e4, n - d = e4 := ⟨_, rfl⟩
  rw [hlr, he4] at ho4 ⊢
  obtain ⟨W5, hW5⟩ : ∃ W5, w4.alloc (.cells #[.slice A4 e4 c4, .int .i64 (n : Int)] 24) = W5 := ⟨_, rfl⟩
  obtain ⟨g7, hg7⟩ : ∃ g, w4.heap.size = g := ⟨_, rfl⟩
  have hb5 : Below w4.heap.size w4 W5 := by rw [← hW5]; exact al1 _ _
  have hb35 := hb4.trans (hb5.mono hb4.size)
  have HY5 : Hid (W5.heap[g7]? = some (.cells #[.slice A4 e4 c4, .int .i64 (n : Int)] 24)) := hid (by rw [← hW5, ← hg7]; exact heap_alloc_new w4 _)
  have HX5 := hid ((hb35.block _ (box_lt HX3.out)).trans HX3.out)
  have HO5 := hid (HO3.out.below hb35)
  have HR5 : Hid (Own W5 w.heap.size (.slice A4 e4 c4) e4 (L.drop d) vs4) := hid ((ho4.below hb5).base HB3.out.size)
  have HA5 : Hid (Own W5 w.heap.size (.slice aA d ac) d (L.take d) vsa) := hid ((Own.below (w := w4) (base := W3.heap.size) ⟨hoa, hla, hca, hpa⟩ hb5).base HB3.out.size)
  have HB5 := hid (HB3.out.trans (hb35.mono HB3.out.size))
  have hgg : g < g7 := by rw [← hg7]; exact Nat.lt_of_lt_of_le (box_lt HX3.out) hb4.size
  have HW5 := hid hW5
  have HG7 := hid hg7
  have HE4 := hid he4
  clear hq hoa hca hpa ho4 hb4 hla hlr he4 hW5 hg7 hb5 hb35 HDU x0 x1
  go_wp2_with fail
  rw [HW5.out, HG7.out]
  go_loopw [9] (fun iv wr => ∃ (k m : Nat) (vs : List Ev) (qA : Option Addr) (qc : Nat), k ≤ d ∧ iv = .int .i64 (k : Int) ∧ Hid (k + m = n) ∧
    Hid (wr.heap[g]? = some (.cells #[.slice qA m qc, .int .i64 (n : Int)] 24)) ∧ Hid (wr.heap[g7]? = some (.cells #[.slice A4 e4 c4, .int .i64 (n : Int)] 24)) ∧ Hid (Own wr w.heap.size (.slice qA m qc) m (L.drop k) vs) ∧ Hid (Own wr w.heap.size (.slice A4 e4 c4) e4 (L.drop d) vs4) ∧ Hid (Own wr w.heap.size (.slice aA d ac) d (L.take d) vsa) ∧ Hid (Below w.heap.size w wr)) (fun i _ => d - (Lib.intOf i).toNat)
  case atStart => exact ⟨0, n, vs2, A2, c2, Nat.zero_le _, rfl, hid (by omega), HX5, HY5, by rw [List.drop_zero]; exact HO5, HR5, HA5, HB5⟩
  case round =>
    obtain ⟨k, m, vs, qA, qc, hk, rfl, HKM, HX, HY, HO, HR, HA, HB⟩ := hrel
    have HGK : Hid (Good (L.drop k) (n : Int)) := hid (HL2.out.drop k)
    have hfst := first_any vs (.slice qA m qc) (n : Int) wr HO.out.el (HO.out.all (P := fun e => R64 e.2.1) HGK.out.r64) (HO.out.all (P := fun e => e.2.2.2.2.length ≤ 100000) HGK.out.body) (by rw [HO.out.2.2.1]; exact HGK.out.chk)
    rw [HO.out.2.2.1] at hfst
    have HFST := hid hfst
    have x0 := cell_of_row _ _ 0 _ _ _ HX.out
    have x1 := cell_of_row _ _ 1 _ _ _ HX.out
    clear hfst
    by_cases hkd : k < d
    · have hkd' : (k : Int) < (d : Int) := by omega
      have hLk : ∃ y r, L.drop k = y :: r ∧ L.drop (k + 1) = r ∧ L[k]? = some y := by
        have hkl : k < L.length := by rw [HLEN.out]; omega
        exact ⟨L[k], L.drop (k + 1), List.drop_eq_getElem_cons hkl, rfl, List.getElem?_eq_getElem hkl⟩
      obtain ⟨y, r, hR, hR1, hLy⟩ := hLk
      have hyt := HTK.out k y hkd hLy
      have hvz : ∃ z, vsa[k]? = some z ∧ core z = y := by
        have h1 : (vsa.map core)[k]? = some y := by rw [HA.out.2.2.1, List.getElem?_take_of_lt hkd]; exact hLy
        rw [List.getElem?_map] at h1
        rcases hz : vsa[k]? with _ | z
        · rw [hz] at h1; cases h1
        · rw [hz] at h1; injection h1 with h1; exact ⟨z, rfl, h1⟩
      go_wp2_with fail
      refine HFST.out.mono ?_
      rintro e w3 ⟨hb3, (⟨h, _⟩ | ⟨y', r', x, hR', rfl, hcx, hpx⟩)⟩
      · exfalso; rw [hR] at h; cases h
      obtain ⟨hyy, hrr⟩ : y = y' ∧ r = r' := by rw [hR] at hR'; injection hR' with h1 h2; exact ⟨h1, h2⟩
      subst hyy
      subst hrr
      obtain ⟨f, hf⟩ : ∃ f, w3.heap.size = f := ⟨_, rfl⟩
      obtain ⟨z, hz, hzc⟩ := hvz
      obtain ⟨xt, xn, xk, xo, xd, xp⟩ := x
      subst hcx
      have hyt' : xt ≤ ni := hyt
      have hpb : Byt w3 xd xp := hpx.byt.1
      obtain ⟨xA, xc, rfl⟩ := byt_form hpb
      obtain ⟨xm, hxm⟩ : ∃ xm, xp.length = xm := ⟨_, rfl⟩
      dsimp only at ⊢
      rw [hxm] at hpb ⊢
      obtain ⟨W4, hW4⟩ : ∃ W4, w3.alloc (.cells #[.int .i64 xt, .int .i64 xn, .int .i64 xk, .int .i64 xo, .slice xA xm xc] 32) = W4 := ⟨_, rfl⟩
      have hb4 : Below w3.heap.size w3 W4 := by rw [← hW4]; exact al1 _ _
      have hb34 := hb3.trans (hb4.mono hb3.size)
      have HF4 : Hid (W4.heap[f]? = some (.cells #[.int .i64 xt, .int .i64 xn, .int .i64 xk, .int .i64 xo, .slice xA xm xc] 32)) := hid (by rw [← hW4, ← hf]; exact heap_alloc_new w3 _)
      have HX4 := hid ((hb34.block _ (box_lt HX.out)).trans HX.out)
      have HY4 := hid ((hb34.block _ (box_lt HY.out)).trans HY.out)
      have HO4 := hid (HO.out.below hb34)
      have HR4 := hid (HR.out.below hb34)
      have HA4 := hid (HA.out.below hb34)
      have HB4 := hid (HB.out.trans (hb34.mono HB.out.size))
      have HPB := hid (hpb.below hb4)
      have HW4 := hid hW4
      have HF := hid hf
      have hpop := pop_any vs (.slice qA m qc) (n : Int) W4 HO4.out.el (HO4.out.all (P := fun e => R64 e.2.1) HGK.out.r64) (by rw [HO4.out.2.1]; have := HKM.out; omega) (HO4.out.all (P := fun e => e.2.2.2.2.length ≤ 100000) HGK.out.body) (by rw [HO4.out.2.2.1]; exact HGK.out.chk)
      rw [HO4.out.2.2.1] at hpop
      have HPOP := hid hpop
      have HR1 := hid hR1
      have HRK := hid hR
      clear hR hR' hR1 hLy hyt hb3 hb4 hb34 hpx hpb hxm hf hW4 hpop HFST x0 x1
      have x0 : (w3.alloc (.cells #[.int .i64 xt, .int .i64 xn, .int .i64 xk, .int .i64 xo, .slice xA xm xc] 32)).cell? ⟨g, 0, none⟩ = some (.slice qA m qc) := by rw [HW4.out]; exact cell_of_row _ _ 0 _ _ _ HX4.out
      have x1 : (w3.alloc (.cells #[.int .i64 xt, .int .i64 xn, .int .i64 xk, .int .i64 xo, .slice xA xm xc] 32)).cell? ⟨g, 1, none⟩ = some (.int .i64 (n : Int)) := by rw [HW4.out]; exact cell_of_row _ _ 1 _ _ _ HX4.out
      go_wp2_with fail
      rw [HW4.out, HF.out]
      refine HPOP.out.mono ?_
      rintro e w5 (⟨h, _⟩ | ⟨y2, r2, q, u, hR2, rfl, hq, hcu, hpu⟩)
      · exfalso; have h1 := HRK.out; rw [h] at h1; cases h1
      obtain ⟨h1, rfl⟩ : core ⟨xt, xn, xk, xo, .slice xA xm xc, xp⟩ = y2 ∧ r = r2 := by have h := HRK.out; rw [hR2] at h; injection h with h1 h2; exact ⟨h1.symm, h2.symm⟩
      subst h1
      obtain ⟨B5, c5, vs5, rfl, ho5, hb5⟩ := own_of_qu hq
      obtain ⟨m5, hm5⟩ : ∃ m5, r.length = m5 := ⟨_, rfl⟩
      rw [hm5] at ho5 ⊢
      have HKM5 : Hid (k + 1 + m5 = n) := hid (by
        have h1 := congrArg List.length HRK.out
        rw [List.length_drop, List.length_cons, HLEN.out, hm5] at h1
        omega)
      obtain ⟨ut, un, uk, uo, ud, up⟩ := u
      obtain ⟨rfl, rfl, rfl, rfl, rfl⟩ : ut = xt ∧ un = xn ∧ uk = xk ∧ uo = xo ∧ up = xp := by
        have h := hcu
        unfold core at h
        simp only [Prod.mk.injEq] at h
        exact h
      have hub : Byt w5 ud up := hpu.byt.1
      obtain ⟨uA, uc, rfl⟩ := byt_form hub
      obtain ⟨xm2, hxm⟩ : ∃ xm, up.length = xm := ⟨_, rfl⟩
      obtain rfl : xm2 = xm := by
        obtain ⟨_, _, e⟩ := byt_form HPB.out
        injection e with _ e _
        omega
      dsimp only at ⊢
      rw [hxm] at hub ⊢
      obtain ⟨W6, hW6⟩ : ∃ W6, (w5.alloc (.cells #[.slice B5 m5 c5, .int .i64 (n : Int)] 24)).alloc (.cells #[.int .i64 ut, .int .i64 un, .int .i64 uk, .int .i64 uo, .slice uA xm2 uc] 32) = W6 := ⟨_, rfl⟩
      obtain ⟨h, hh⟩ : ∃ h, w5.heap.size = h := ⟨_, rfl⟩
      have hb6 : Below w5.heap.size w5 W6 := by rw [← hW6]; exact ((Below.refl _ w5).alloc (Nat.le_refl _) _).alloc (by simp) _
      have HP6 : Hid (W6.heap[h]? = some (.cells #[.slice B5 m5 c5, .int .i64 (n : Int)] 24)) := hid (by rw [← hW6, ← hh]; exact (Below.heap_alloc _ _ _ (by simp)).trans (heap_alloc_new w5 _))
      have HQ6 : Hid (W6.heap[h + 1]? = some (.cells #[.int .i64 ut, .int .i64 un, .int .i64 uk, .int .i64 uo, .slice uA xm2 uc] 32)) := hid (by
        rw [← hW6, ← hh]
        have h := heap_alloc_new (w5.alloc (.cells #[.slice B5 m5 c5, .int .i64 (n : Int)] 24)) (.cells #[.int .i64 ut, .int .i64 un, .int .i64 uk, .int .i64 uo, .slice uA xm2 uc] 32)
        simpa using h)
      have hb46 : Below W4.heap.size W4 W6 := hb5.trans (hb6.mono hb5.size)
      have HF6 := hid ((hb46.block _ (box_lt HF4.out)).trans HF4.out)
      have HX6 := hid ((hb46.block _ (box_lt HX4.out)).trans HX4.out)
      have HY6 := hid ((hb46.block _ (box_lt HY4.out)).trans HY4.out)
      have HO6 : Hid (Own W6 w.heap.size (.slice B5 m5 c5) m5 r vs5) := hid ((ho5.below hb6).base HB4.out.size)
      have HR6 := hid (HR4.out.below hb46)
      have HA6 := hid (HA4.out.below hb46)
      have HB6 := hid (HB4.out.trans (hb46.mono HB4.out.size))
      have HPB6 := hid (HPB.out.below hb46)
      have HUB6 := hid (hub.below hb6)
      have HZE := hid HA6.out.el
      obtain ⟨b, off, rfl, hbl, hc⟩ := el_cells HZE.out (by rw [HA6.out.2.1]; omega)
      have hzb := (HZE.out.1 z (List.mem_of_getElem? hz)).1
      obtain ⟨z0, z1, z2, z3, z4⟩ := hc k z hz
      obtain ⟨zt, zn, zk, zo, zd, zp⟩ := z
      obtain ⟨rfl, rfl, rfl, rfl, rfl⟩ : zt = ut ∧ zn = un ∧ zk = uk ∧ zo = uo ∧ zp = up := by
        have h := hzc
        unfold core at h
        simp only [Prod.mk.injEq] at h
        exact h
      dsimp only at z0 z1 z2 z3 z4 hzb
      obtain ⟨zA, zc, rfl⟩ := byt_form hzb
      rw [hxm] at z4 hzb
      have HSA := hid (fun (X : World) (hX : Below W6.heap.size W6 X) => sameEv_any zt zn zk zo zp _ _ X (HPB6.out.below hX) (HUB6.out.below hX))
      have HSB := hid (fun (X : World) (hX : Below W6.heap.size W6 X) => sameEv_any zt zn zk zo zp _ _ X (HPB6.out.below hX) (hzb.below hX))
      have HKF := hid (fun (X : World) (hX : Below W6.heap.size W6 X) => (hX.block _ (box_lt HF6.out)).trans HF6.out)
      have HKQ := hid (fun (X : World) (hX : Below W6.heap.size W6 X) => (hX.block _ (box_lt HQ6.out)).trans HQ6.out)
      have HKZ := hid (fun (X : World) (hX : Below W6.heap.size W6 X) => And.intro ((hX.cell (p := ⟨b, off + k * 5, none⟩) hbl).trans z0) (And.intro ((hX.cell (p := ⟨b, off + k * 5 + 1, none⟩) hbl).trans z1) (And.intro ((hX.cell (p := ⟨b, off + k * 5 + 2, none⟩) hbl).trans z2) (And.intro ((hX.cell (p := ⟨b, off + k * 5 + 3, none⟩) hbl).trans z3) ((hX.cell (p := ⟨b, off + k * 5 + 4, none⟩) hbl).trans z4)))))
      have p0 := cell_of_row _ _ 0 _ _ _ HF6.out
      have p1 := cell_of_row _ _ 1 _ _ _ HF6.out
      have p2 := cell_of_row _ _ 2 _ _ _ HF6.out
      have p3 := cell_of_row _ _ 3 _ _ _ HF6.out
      have p4 := cell_of_row _ _ 4 _ _ _ HF6.out
      have q0 := cell_of_row _ _ 0 _ _ _ HQ6.out
      have q1 := cell_of_row _ _ 1 _ _ _ HQ6.out
      have q2 := cell_of_row _ _ 2 _ _ _ HQ6.out
      have q3 := cell_of_row _ _ 3 _ _ _ HQ6.out
      have q4 := cell_of_row _ _ 4 _ _ _ HQ6.out
      have hlf := box_lt HF6.out
      have hlq := box_lt HQ6.out
      have f1 : decide (ni < zt) = false := decide_eq_false (by omega)
      have HW6 := hid hW6
      have HHH := hid hh
      clear hR2 hq ho5 hb5 hm5 hcu hpu hub hxm hb6 hb46 hW6 hh hz hzc hzb hc HPOP x0 x1
      go_wp2_with fail
      rw [HW6.out, HHH.out]
      go_region_held3 (fun X => X.cell? ⟨f, 0, none⟩ = some (.int .i64 zt) ∧ X.cell? ⟨f, 1, none⟩ = some (.int .i64 zn) ∧ X.cell? ⟨f, 2, none⟩ = some (.int .i64 zk) ∧ X.cell? ⟨f, 3, none⟩ = some (.int .i64 zo) ∧ X.cell? ⟨f, 4, none⟩ = some (.slice xA xm2 xc) ∧ X.cell? ⟨h + 1, 0, none⟩ = some (.int .i64 zt) ∧ X.cell? ⟨h + 1, 1, none⟩ = some (.int .i64 zn) ∧ X.cell? ⟨h + 1, 2, none⟩ = some (.int .i64 zk) ∧ X.cell? ⟨h + 1, 3, none⟩ = some (.int .i64 zo) ∧ X.cell? ⟨h + 1, 4, none⟩ = some (.slice uA xm2 uc) ∧ X.cell? ⟨b, off + k * 5, none⟩ = some (.int .i64 zt) ∧ X.cell? ⟨b, off + k * 5 + 1, none⟩ = some (.int .i64 zn) ∧ X.cell? ⟨b, off + k * 5 + 2, none⟩ = some (.int .i64 zk) ∧ X.cell? ⟨b, off + k * 5 + 3, none⟩ = some (.int .i64 zo) ∧ X.cell? ⟨b, off + k * 5 + 4, none⟩ = some (.slice zA xm2 zc)) (go_keep)
        (first | (have HC8 := HB8.out; go_at_call 19; refine (HSB.out w8 HC8).mono ?_; rintro e w9 ⟨rfl, hb9'⟩; have hb9 : Below W6.heap.size W6 w9 := HC8.trans (hb9'.mono HC8.size); have HB9 := hid hb9; obtain ⟨z0, z1, z2, z3, z4⟩ := HKZ.out w9 hb9; have p0 := cell_of_row _ _ 0 _ _ _ (HKF.out w9 hb9); have p1 := cell_of_row _ _ 1 _ _ _ (HKF.out w9 hb9); have p2 := cell_of_row _ _ 2 _ _ _ (HKF.out w9 hb9); have p3 := cell_of_row _ _ 3 _ _ _ (HKF.out w9 hb9); have p4 := cell_of_row _ _ 4 _ _ _ (HKF.out w9 hb9); have q0 := cell_of_row _ _ 0 _ _ _ (HKQ.out w9 hb9); have q1 := cell_of_row _ _ 1 _ _ _ (HKQ.out w9 hb9); have q2 := cell_of_row _ _ 2 _ _ _ (HKQ.out w9 hb9); have q3 := cell_of_row _ _ 3 _ _ _ (HKQ.out w9 hb9); have q4 := cell_of_row _ _ 4 _ _ _ (HKQ.out w9 hb9); clear hb9 hb9') | (go_at_call 19; refine (HSA.out W6.drew (below_both_drewN (Below.refl _ _) 1)).mono ?_; rintro e w8 ⟨rfl, hb8'⟩; have hb8 : Below W6.heap.size W6 w8 := ⟨hb8'.os, hb8'.tape, hb8'.output, hb8'.size, hb8'.block⟩; have HB8 := hid hb8; obtain ⟨z0, z1, z2, z3, z4⟩ := HKZ.out w8 hb8; have p0 := cell_of_row _ _ 0 _ _ _ (HKF.out w8 hb8); have p1 := cell_of_row _ _ 1 _ _ _ (HKF.out w8 hb8); have p2 := cell_of_row _ _ 2 _ _ _ (HKF.out w8 hb8); have p3 := cell_of_row _ _ 3 _ _ _ (HKF.out w8 hb8); have p4 := cell_of_row _ _ 4 _ _ _ (HKF.out w8 hb8); have q0 := cell_of_row _ _ 0 _ _ _ (HKQ.out w8 hb8); have q1 := cell_of_row _ _ 1 _ _ _ (HKQ.out w8 hb8); have q2 := cell_of_row _ _ 2 _ _ _ (HKQ.out w8 hb8); have q3 := cell_of_row _ _ 3 _ _ _ (HKQ.out w8 hb8); have q4 := cell_of_row _ _ 4 _ _ _ (HKQ.out w8 hb8); clear hb8 hb8'))
      have HX9 := hid ((HB9.out.block _ (box_lt HX6.out)).trans HX6.out)
      have HY9 := hid ((HB9.out.block _ (box_lt HY6.out)).trans HY6.out)
      have HP9 := hid ((HB9.out.block _ (box_lt HP6.out)).trans HP6.out)
      have HO9 := hid (HO6.out.below HB9.out)
      have HR9 := hid (HR6.out.below HB9.out)
      have HA9 := hid (HA6.out.below HB9.out)
      have HBB9 := hid (HB6.out.trans (HB9.out.mono HB6.out.size))
      clear p0 p1 p2 p3 p4 q0 q1 q2 q3 q4 z0 z1 z2 z3 z4
      have x0 := cell_of_row _ _ 0 _ _ _ HX9.out
      have x1 := cell_of_row _ _ 1 _ _ _ HX9.out
      have fx0 := box_fr HX9.out 0
      have fx1 := box_fr HX9.out 1
      have p0 := cell_of_row _ _ 0 _ _ _ HP9.out
      have p1 := cell_of_row _ _ 1 _ _ _ HP9.out
      go_wp2_with fail
      have HXZ : Hid ((set2 w9 g (.slice B5 m5 c5) (.int .i64 (n : Int))).heap[g]? = some (.cells #[.slice B5 m5 c5, .int .i64 (n : Int)] 24)) := hid (set2h _ _ HX9.out)
      have HYZ : Hid ((set2 w9 g (.slice B5 m5 c5) (.int .i64 (n : Int))).heap[g7]? = some (.cells #[.slice A4 e4 c4, .int .i64 (n : Int)] 24)) := hid ((set2o _ _ (by omega)).trans HY9.out)
      have HOZ : Hid (Own (set2 w9 g (.slice B5 m5 c5) (.int .i64 (n : Int))) w.heap.size (.slice B5 m5 c5) m5 (L.drop (k + 1)) vs5) := hid (by rw [HR1.out]; exact HO9.out.set2 HX9.out _ _)
      have HRZ := hid (HR9.out.set2 HX9.out (.slice B5 m5 c5) (.int .i64 (n : Int)))
      have HAZ := hid (HA9.out.set2 HX9.out (.slice B5 m5 c5) (.int .i64 (n : Int)))
      have HBZ : Hid (Below w.heap.size w (set2 w9 g (.slice B5 m5 c5) (.int .i64 (n : Int)))) := hid (set2b _ _ HBB9.out hgw)
      go_roundw
      case rel => exact ⟨k + 1, m5, vs5, B5, c5, by omega, by go_num, HKM5, HXZ, HYZ, HOZ, HRZ, HAZ, HBZ⟩
      case measure => simp [Lib.intOf]; omega
    · obtain rfl : k = d := by omega
      have HNE : Hid (e4 = m) := hid (by have h1 := HKM.out; have h2 := HE4.out; omega)
      obtain rfl := HNE.out
      go_wp2_with fail
      refine HFST.out.mono ?_
      rintro e w3 ⟨hb3, hcase⟩
      rcases hcase with ⟨hnil, rfl⟩ | ⟨y, r, x, hR, rfl, hcx, hpx⟩
      · obtain ⟨W4, hW4⟩ : ∃ W4, w3.alloc (.cells #[.int .i64 0, .int .i64 0, .int .i64 0, .int .i64 0, .slice none 0 0] 32) = W4 := ⟨_, rfl⟩
        have hb4 : Below w3.heap.size w3 W4 := by rw [← hW4]; exact al1 _ _
        have hb34 := hb3.trans (hb4.mono hb3.size)
        have HB4 := hid (HB.out.trans (hb34.mono HB.out.size))
        have HX4 := hid ((hb34.block _ (box_lt HX.out)).trans HX.out)
        have HY4 := hid ((hb34.block _ (box_lt HY.out)).trans HY.out)
        have HO4 := hid (HO.out.below hb34)
        have HR4 := hid (HR.out.below hb34)
        have HW4 := hid hW4
        clear hb3 hb4 hb34 hW4 HFST x0 x1
        go_wp2_with fail
        rw [HW4.out]
        refine (awake_any W4).mono ?_
        rintro e w6 ⟨rfl, hb6⟩
        have HB6 := hid (HB4.out.trans (hb6.mono HB4.out.size))
        have HX6 := hid ((hb6.block _ (box_lt HX4.out)).trans HX4.out)
        have HY6 := hid ((hb6.block _ (box_lt HY4.out)).trans HY4.out)
        have HO6 := hid (HO4.out.below hb6)
        have HR6 := hid (HR4.out.below hb6)
        have x0 := cell_of_row _ _ 0 _ _ _ HX6.out
        have x1 := cell_of_row _ _ 1 _ _ _ HX6.out
        have y0 := cell_of_row _ _ 0 _ _ _ HY6.out
        have y1 := cell_of_row _ _ 1 _ _ _ HY6.out
        have HS := hid (sameQ_any vs4 vs (.slice A4 e4 c4) (.slice qA e4 qc) (n : Int) w6 HR6.out.el HO6.out.el (by rw [HR6.out.2.1]; have := HKM.out; omega) (HR6.out.2.2.1.trans HO6.out.2.2.1.symm))
        clear hb6
        go_wp2_with fail
        refine HS.out.mono ?_
        rintro e w7 ⟨rfl, hb7⟩
        have HB7 := hid (HB6.out.trans (hb7.mono HB6.out.size))
        clear hb7
        go_wp2
        go_ret
        exact ⟨rfl, HB7.out⟩
      · have hyt := HDR.out y (by rw [hR]; exact List.mem_cons_self ..)
        obtain ⟨xt, xn, xk, xo, xd, xp⟩ := x
        subst hcx
        have hyt' : ni < xt := hyt
        have f1 : decide (ni < xt) = true := decide_eq_true hyt'
        have hpb : Byt w3 xd xp := hpx.byt.1
        obtain ⟨xA, xc, rfl⟩ := byt_form hpb
        obtain ⟨xm, hxm⟩ : ∃ xm, xp.length = xm := ⟨_, rfl⟩
        dsimp only at ⊢
        rw [hxm]
        obtain ⟨W4, hW4⟩ : ∃ W4, w3.alloc (.cells #[.int .i64 xt, .int .i64 xn, .int .i64 xk, .int .i64 xo, .slice xA xm xc] 32) = W4 := ⟨_, rfl⟩
        obtain ⟨f, hf⟩ : ∃ f, w3.heap.size = f := ⟨_, rfl⟩
        have hb4 : Below w3.heap.size w3 W4 := by rw [← hW4]; exact al1 _ _
        have hb34 := hb3.trans (hb4.mono hb3.size)
        have HF4 : Hid (W4.heap[f]? = some (.cells #[.int .i64 xt, .int .i64 xn, .int .i64 xk, .int .i64 xo, .slice xA xm xc] 32)) := hid (by rw [← hW4, ← hf]; exact heap_alloc_new w3 _)
        have HB4 := hid (HB.out.trans (hb34.mono HB.out.size))
        have HX4 := hid ((hb34.block _ (box_lt HX.out)).trans HX.out)
        have HY4 := hid ((hb34.block _ (box_lt HY.out)).trans HY.out)
        have HO4 := hid (HO.out.below hb34)
        have HR4 := hid (HR.out.below hb34)
        have HW4 := hid hW4
        have HF := hid hf
        clear hb3 hb4 hb34 hW4 hf HFST x0 x1 hpb hpx hR hxm hyt
        go_wp2_with fail
        rw [HW4.out, HF.out]
        refine (awake_any W4).mono ?_
        rintro e w6 ⟨rfl, hb6⟩
        have HB6 := hid (HB4.out.trans (hb6.mono HB4.out.size))
        have HF6 := hid ((hb6.block _ (box_lt HF4.out)).trans HF4.out)
        have HX6 := hid ((hb6.block _ (box_lt HX4.out)).trans HX4.out)
        have HY6 := hid ((hb6.block _ (box_lt HY4.out)).trans HY4.out)
        have HO6 := hid (HO4.out.below hb6)
        have HR6 := hid (HR4.out.below hb6)
        have x0 := cell_of_row _ _ 0 _ _ _ HX6.out
        have x1 := cell_of_row _ _ 1 _ _ _ HX6.out
        have y0 := cell_of_row _ _ 0 _ _ _ HY6.out
        have y1 := cell_of_row _ _ 1 _ _ _ HY6.out
        have HS := hid (sameQ_any vs4 vs (.slice A4 e4 c4) (.slice qA e4 qc) (n : Int) w6 HR6.out.el HO6.out.el (by rw [HR6.out.2.1]; have := HKM.out; omega) (HR6.out.2.2.1.trans HO6.out.2.2.1.symm))
        clear hb6
        go_wp2_with fail
        refine HS.out.mono ?_
        rintro e w7 ⟨rfl, hb7⟩
        have HB7 := hid (HB6.out.trans (hb7.mono HB6.out.size))
        have HF7 := hid ((hb7.block _ (box_lt HF6.out)).trans HF6.out)
        have z0 := cell_of_row _ _ 0 _ _ _ HF7.out
        clear hb7 x0 x1 y0 y1
        go_wp2
        go_ret
        exact ⟨rfl, HB7.out⟩
end Go.Proofs.Ytjpfogdfgcfkcaa

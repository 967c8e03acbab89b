/- The encoder's enter. -/
import Derived.Test.YtldlddoealpomaaFb
import Derived.Test.YtldlddoealpomaaEg
namespace Go.Proofs.Ytldlddoealpomaa
open Go.RowKit Go.Lib

/-- The encoder at a position: its tokens l, and the places below a; W0 is the world in which its map was made. -/
def St (W0 w : World) (g : Nat) (x : List Nat) (vx : Value) (a : Nat) (l : List Nat) : Prop := ∃ vt, w.heap[g]? = some (.cells #[vt, vx, .map (some W0.heap.size)] 51) ∧ w.ownsRow (W0.heap.size + 1) 5 1 vt l.length (l.map byteV) ∧ Plc w W0.heap.size x a ∧ Below W0.heap.size W0 w ∧ W0.heap.size < g
theorem run_arrayAt95 (ad : Addr) (n c : Nat) (h : 4 ≤ n) (W : World) : (Instr.arrayAt 95 (.slice (some ad) n c)).run Try.prog W = .ok (.pointer (some ad)) W := by
  have h' : ¬ n < 4 := by omega
  simp [Instr.arrayAt, run_underlying Try.underlying95, h']
theorem byt_at {w : World} {A : Option Addr} {n c : Nat} {l : List Nat} (h : Byt w (.slice A n c) l) (hp : 0 < l.length) : ∃ b off, A = some ⟨b, off, none⟩ ∧ b < w.heap.size ∧ ∀ (i y : Nat), l[i]? = some y → w.cell? ⟨b, off + i, none⟩ = some (.int .u8 (y : Int)) := by
  obtain ⟨_, A', c', e, _, _, b, off, hA, hc⟩ := h
  injection e with e
  subst e
  exact ⟨b, off, (hA hp).1, (hA hp).2, hc⟩
theorem wpAnyT_all {P : Program} {md : Region.Mode} {ops : Array Oper} {Q : Exit → Act → World → Prop} {S : World → Prop} {n : Nat} {l : List Nat} {fuel : Nat} {listed : Array Bool} {a : Act} {w : World} (hr : Region.ready md ops listed = l) (hne : l ≠ [])
    (h : ∀ i ∈ l, ∃ o, ops[i]? = some o ∧ ∀ K' : Act → World → Prop, Shut (∀ a w, (i < n → S w) → wpAnyT P md ops Q S n fuel (listed.setIfInBounds i true) a w → K' a w) → if Region.wanted o (yielded ops a.tmps) = true then Oper.wp P o a w K' Q else K' (a.put o.dst undef) w) :
    wpAnyT P md ops Q S n (fuel + 1) listed a w := by
  refine ⟨fun h0 => (by rw [hr] at h0; exact absurd h0 hne), fun j hj => ?_⟩
  rw [hr] at hj
  obtain ⟨o, ho, hk⟩ := h j hj
  exact wpOp_step ho (fun K' hK => hk K' (fun a w hS hW => hK a w ⟨hS, hW⟩))
theorem info3 : (Try.prog.info? 3).map (fun i => (i.zero, i.size, i.bytes)) = some (some (.int .i64 0), 1, 8) := by kernel_rfl
set_option maxRecDepth 100000 in
theorem step_append_int_at {ops : Array Oper} {o : Oper} {a : Act} {w : World} {K : Act → World → Prop} {Q : Exit → Act → World → Prop} {E : Prop} (hgd : o.guard = none) (s x : Operand) (ho : o.op = .call { callee := .builtin .append, args := #[s, x], argTypes := #[96, 96] })
    (base : Nat) (v : Value) (k : Nat) (xs : List Value) (hs : a.eval s = v) (hown : w.ownsRow base 3 1 v k xs) (ad : Addr) (c : Nat) (y : Int) (hx : a.eval x = .slice (some ad) 1 c) (hc : w.cell? ad = some (.int .i64 y)) (hk : k ≤ 1000000000000) (hbase : base ≤ w.heap.size)
    (h : ∀ v' w', w'.ownsRow base 3 1 v' (k + 1) (xs ++ [.int .i64 y]) → w.grownBy w' v.ownBlock → (v'.ownBlock = v.ownBlock ∨ v'.ownBlock = some w.heap.size) → K (a.put o.dst v') w') :
    if Region.wanted o (yielded ops a.tmps) = true then Oper.wp Try.prog o a w K Q else E := by
  obtain ⟨i0, hi, hz0, hz1, hz2⟩ := info_parts info3
  have hw : Region.wanted o (yielded ops a.tmps) = true := by simp [Region.wanted, hgd]
  rw [if_pos hw]
  obtain ⟨v', w', hrun, r1, r2, _, r4⟩ := run_append_own_at (P := Try.prog) w base 96 o.type 3 i0 _ 1 8 Try.underlying96 hi hz0 hz1 hz2 rfl (by decide) v k xs hown ad 1 c [.int .i64 y] rfl (fun j u hu => by
    rcases j with _ | j
    · simp at hu; subst hu
      rw [show ad.add 0 = ad by unfold Addr.add; split <;> simp_all]; exact hc
    · simp at hu) (fun u hu => by simp at hu; subst hu; rfl) (by unfold maxLen; omega) (by omega) hbase
  unfold Oper.wp
  simp [execOp, ho, resolve, invoke, builtin, hs, hx, hrun, Result.andThen]
  exact h v' w' r1 r2 r4
/-- What is no row of places and no map stays. -/
def KN (w w' : World) : Prop := ∀ (k : Nat) (cs : Array Value) (T : TypeId), T ≠ 3 → w.heap[k]? = some (.cells cs T) → w'.heap[k]? = some (.cells cs T)
theorem KN.trans {a b c : World} (h : KN a b) (k : KN b c) : KN a c := fun i cs T hT hi => k i cs T hT (h i cs T hT hi)
theorem kn_below {a b : World} (h : Below a.heap.size a b) : KN a b := fun i _ _ _ hi => (h.block i (box_lt hi)).trans hi
theorem kn_map {w w' : World} {bm : Nat} {es : Array MapEntry} {c : Nat} (hb : w.heap[bm]? = some (.map es c)) (hg : w.grownBy w' (some bm)) : KN w w' := fun i cs T _ hi => (hg.block i (box_lt hi) (fun e => by injection e with e; rw [e, hb] at hi; cases hi)).trans hi
theorem kn_row {w w' : World} {B st n : Nat} {v : Value} {xs : List Value} (ho : w.ownsRow B 3 st v n xs) (hg : w.grownBy w' v.ownBlock) : KN w w' := fun i cs T hT hi => (hg.block i (box_lt hi) (fun e => by
    obtain ⟨cs', hcs⟩ := own_type ho e.symm
    rw [hi] at hcs
    injection hcs with hcs
    injection hcs with _ h2
    exact hT h2)).trans hi
theorem KN.keep {w w' : World} (h : KN w w') {T : TypeId} (hT : T ≠ 3) : Keep T w w' := fun i cs hi => h i cs T hT hi
set_option maxHeartbeats 4000000 in
set_option maxRecDepth 100000 in
theorem enter_any (W0 w : World) (g a : Nat) (x l : List Nat) (vx : Value) (hs : St W0 w g x vx a l) (hx : Byt W0 vx x) (hxl : x.length ≤ 1000000000) (hal : a ≤ x.length) :
    Calls Try.prog 42 #[.pointer (some ⟨g, 0, none⟩), .int .i64 (a : Int)] w fun e w' => (∃ r, e = .returned r) ∧ St W0 w' g x vx (a + 1) l ∧ Keep 68 w w' ∧ w.heap.size ≤ w'.heap.size := by
  obtain ⟨vt, hb, ho, hp, hbw, hg0⟩ := hs
  obtain ⟨A, c, rfl⟩ := byt_form hx
  obtain ⟨n, hn⟩ : ∃ n, x.length = n := ⟨_, rfl⟩
  have hcap := byt_cap hx
  rw [hn] at hx hcap hxl hal hb ⊢
  have c1 : w.cell? ⟨g, 1, none⟩ = some (.slice A n c) := cell_of_row _ _ 1 _ _ _ hb
  have c2 : w.cell? ⟨g, 2, none⟩ = some (.map (some W0.heap.size)) := cell_of_row _ _ 2 _ _ _ hb
  have hwr : IntKind.i64.wrap ((n : Int) - 4) = (n : Int) - 4 := by rw [IntKind.wrap_i64]; omega
  by_cases h4 : a + 4 ≤ n
  · have d1 : decide ((n : Int) - 4 < (a : Int)) = false := decide_eq_false (by omega)
    obtain ⟨b, off, rfl, hbl, hc⟩ := byt_at hx (by rw [hn]; omega)
    obtain ⟨κ, hκ⟩ : ∃ κ, (x.drop a).take 4 = κ := ⟨_, rfl⟩
    obtain ⟨k0, k1, k2, k3, hk⟩ : ∃ k0 k1 k2 k3, κ = [k0, k1, k2, k3] := by
      have hl : κ.length = 4 := by rw [← hκ, List.length_take, List.length_drop]; omega
      match κ, hl with
      | [p, q, r, s], _ => exact ⟨p, q, r, s, rfl⟩
    have hB4 : B4 κ := ⟨by rw [hk]; rfl, by rw [← hκ]; exact b8_take (b8_drop hx.1 a) 4⟩
    have hat : ∀ (i y : Nat), κ[i]? = some y → w.cell? ⟨b, off + a + i, none⟩ = some (.int .u8 (y : Int)) := fun i y hi => by
      rw [← hκ, List.getElem?_take] at hi
      split at hi
      · rw [List.getElem?_drop] at hi
        have h := hc (a + i) y hi
        rw [show off + (a + i) = off + a + i by omega] at h
        exact (hbw.cell (p := ⟨b, off + a + i, none⟩) hbl).trans h
      · cases hi
    have q0 := hat 0 k0 (by rw [hk]; rfl)
    have q1 := hat 1 k1 (by rw [hk]; rfl)
    have q2 := hat 2 k2 (by rw [hk]; rfl)
    have q3 := hat 3 k3 (by rw [hk]; rfl)
    rw [Nat.add_zero] at q0
    have hfrom : fromA (some ⟨b, off, none⟩) c a = some ⟨b, off + a, none⟩ := by unfold fromA; rw [if_neg (by omega)]; simp [Addr.add]
    have hsl := run_slice_from (some ⟨b, off, none⟩) n c a (by omega)
    rw [hfrom] at hsl
    have haa := run_arrayAt95 ⟨b, off + a, none⟩ (n - a) (c - a) (by omega)
    obtain ⟨W1, hW1⟩ : ∃ W1, w.alloc (.cells #[.int .u8 (k0 : Int), .int .u8 (k1 : Int), .int .u8 (k2 : Int), .int .u8 (k3 : Int)] 95) = W1 := ⟨_, rfl⟩
    obtain ⟨kb, hkb⟩ : ∃ kb, w.heap.size = kb := ⟨_, rfl⟩
    have hb1 : Below w.heap.size w W1 := by rw [← hW1]; exact al1 _ _
    have hz1 : W1.heap[kb]? = some (.cells #[.int .u8 (k0 : Int), .int .u8 (k1 : Int), .int .u8 (k2 : Int), .int .u8 (k3 : Int)] 95) := by rw [← hW1, ← hkb]; exact heap_alloc_new _ _
    have HB1 := hid hb1
    have HG1 := hid ((hb1.block g (box_lt hb)).trans hb)
    have HO1 := hid (own_keep ho (keep_below hb1))
    have HP1 := hid (hp.below hb1)
    have HBW1 := hid (hbw.trans (hb1.mono hbw.size))
    have HZ1 := hid hz1
    have HW1 := hid hW1
    have HKB := hid hkb
    have HG := hid hb
    have HX := hid hx
    have HXN := hid hn
    have HK4 := hid hB4
    have HKK := hid hk
    have HKE := hid hκ
    clear hb ho hp hbw hx hn hb1 hz1 hW1 hkb hat hc hB4 hk hκ hfrom
    go_enter Try.func42, Try.ntmps42
    go_wp2_with fail
    rw [HW1.out, HKB.out]
    have HK := hid (show ∀ X, KN W1 X → X.cell? ⟨g, 2, none⟩ = some (.map (some W0.heap.size)) ∧ X.cell? ⟨kb, 0, none⟩ = some (.int .u8 (k0 : Int)) ∧ X.cell? ⟨kb, 1, none⟩ = some (.int .u8 (k1 : Int)) ∧ X.cell? ⟨kb, 2, none⟩ = some (.int .u8 (k2 : Int)) ∧ X.cell? ⟨kb, 3, none⟩ = some (.int .u8 (k3 : Int)) from fun X hX => by
      have h1 := hX _ _ 51 (by decide) HG1.out
      have h2 := hX _ _ 95 (by decide) HZ1.out
      exact ⟨cell_of_row _ _ 2 _ _ _ h1, cell_of_row _ _ 0 _ _ _ h2, cell_of_row _ _ 1 _ _ _ h2, cell_of_row _ _ 2 _ _ _ h2, cell_of_row _ _ 3 _ _ _ h2⟩)
    clear c1 c2 q0 q1 q2 q3 hsl haa d1 hwr
    refine region_tail 11 (fun X => X.cell? ⟨g, 2, none⟩ = some (.map (some W0.heap.size)) ∧ X.cell? ⟨kb, 0, none⟩ = some (.int .u8 (k0 : Int)) ∧ X.cell? ⟨kb, 1, none⟩ = some (.int .u8 (k1 : Int)) ∧ X.cell? ⟨kb, 2, none⟩ = some (.int .u8 (k2 : Int)) ∧ X.cell? ⟨kb, 3, none⟩ = some (.int .u8 (k3 : Int))) (by kernel_rfl) ?_
    obtain ⟨X0, hX0⟩ : ∃ X, W1.drew = X := ⟨_, rfl⟩
    have hB0 : Below W1.heap.size W1 X0 := by rw [← hX0]; exact (Below.refl W1.heap.size W1).drew
    have hkn0 := kn_below hB0
    have hp0 := HP1.out.below hB0
    have hbw0 := HBW1.out.trans (hB0.mono HBW1.out.size)
    have hHeld := HK.out X0 hkn0
    rw [hX0]
    clear hX0
    refine' wpAnyT_take (i := 0) (oi := ?oirt0) (v := ?vrt0) ?hirt0 (by kernel_rfl) (by kernel_rfl) ?hqrt0 ?hyrt0 hHeld ?restrt0
    case hirt0 => (simp only [List.getElem?_toArray, List.getElem?_cons_zero]; rfl)
    case hqrt0 => exact fun _ _ _ h => h
    case hyrt0 => (refine Or.inl ⟨by rfl, ?_⟩; intro w' hSw; (try dsimp only at hSw); go_simp; try with_reducible rfl)
    (try simp only [Act.put, List.setIfInBounds_toArray, List.set_cons_zero, List.set_cons_succ])
    refine' wpAnyT_take (i := 1) (oi := ?oirt1) (v := ?vrt1) ?hirt1 (by kernel_rfl) (by kernel_rfl) ?hqrt1 ?hyrt1 hHeld ?restrt1
    case hirt1 => (simp only [List.getElem?_toArray, List.getElem?_cons_zero, List.getElem?_cons_succ]; rfl)
    case hqrt1 => exact fun _ _ _ h => h
    case hyrt1 => (refine Or.inl ⟨by rfl, ?_⟩; intro w' hSw; (try dsimp only at hSw); go_simp; try with_reducible rfl)
    (try simp only [Act.put, List.setIfInBounds_toArray, List.set_cons_zero, List.set_cons_succ])
    refine' wpAnyT_take (i := 2) (oi := ?oirt2) (v := ?vrt2) ?hirt2 (by kernel_rfl) (by kernel_rfl) ?hqrt2 ?hyrt2 hHeld ?restrt2
    case hirt2 => (simp only [List.getElem?_toArray, List.getElem?_cons_zero, List.getElem?_cons_succ]; rfl)
    case hqrt2 => exact fun _ _ _ h => h
    case hyrt2 => (refine Or.inl ⟨by rfl, ?_⟩; intro w' hSw; (try dsimp only at hSw); go_simp; try with_reducible rfl)
    (try simp only [Act.put, List.setIfInBounds_toArray, List.set_cons_zero, List.set_cons_succ])
    refine' wpAnyT_take (i := 3) (oi := ?oirt3) (v := ?vrt3) ?hirt3 (by kernel_rfl) (by kernel_rfl) ?hqrt3 ?hyrt3 hHeld ?restrt3
    case hirt3 => (simp only [List.getElem?_toArray, List.getElem?_cons_zero, List.getElem?_cons_succ]; rfl)
    case hqrt3 => exact fun _ _ _ h => h
    case hyrt3 => (refine Or.inl ⟨by rfl, ?_⟩; intro w' hSw; (try dsimp only at hSw); go_simp; try with_reducible rfl)
    (try simp only [Act.put, List.setIfInBounds_toArray, List.set_cons_zero, List.set_cons_succ])
    refine' wpAnyT_take (i := 4) (oi := ?oirt4) (v := ?vrt4) ?hirt4 (by kernel_rfl) (by kernel_rfl) ?hqrt4 ?hyrt4 hHeld ?restrt4
    case hirt4 => (simp only [List.getElem?_toArray, List.getElem?_cons_zero, List.getElem?_cons_succ]; rfl)
    case hqrt4 => exact fun _ _ _ h => h
    case hyrt4 => (refine Or.inl ⟨by rfl, ?_⟩; intro w' hSw; (try dsimp only at hSw); go_simp; try with_reducible rfl)
    (try simp only [Act.put, List.setIfInBounds_toArray, List.set_cons_zero, List.set_cons_succ])
    refine' wpAnyT_take (i := 5) (oi := ?oirt5) (v := ?vrt5) ?hirt5 (by kernel_rfl) (by kernel_rfl) ?hqrt5 ?hyrt5 hHeld ?restrt5
    case hirt5 => (simp only [List.getElem?_toArray, List.getElem?_cons_zero, List.getElem?_cons_succ]; rfl)
    case hqrt5 => exact fun _ _ _ h => h
    case hyrt5 => (refine Or.inl ⟨by rfl, ?_⟩; intro w' hSw; (try dsimp only at hSw); go_simp; try with_reducible rfl)
    (try simp only [Act.put, List.setIfInBounds_toArray, List.set_cons_zero, List.set_cons_succ])
    obtain ⟨X2, hALa⟩ : ∃ X, X0.alloc (.cells #[.int .i64 (a : Int)] 3) = X := ⟨_, rfl⟩
    obtain ⟨rb, hrb⟩ : ∃ rb, X0.heap.size = rb := ⟨_, rfl⟩
    have hba : Below X0.heap.size X0 X2 := by rw [← hALa]; exact al1 _ _
    have hrow : X2.cell? ⟨rb, 0, none⟩ = some (.int .i64 (a : Int)) := by rw [← hALa, ← hrb]; exact cell_of_row _ _ 0 _ _ _ (heap_alloc_new _ _)
    have hkn2 := hkn0.trans (kn_below hba)
    have hHeld2 := HK.out X2 hkn2
    have hp2 := hp0.below hba
    have hbw2 := hbw0.trans (hba.mono hbw0.size)
    have hs02 : W1.heap.size ≤ X2.heap.size := Nat.le_trans hB0.size hba.size
    refine' wpAnyT_one (i := 6) (o := ?oiea6) (by kernel_rfl) ?hiea6 (fun K hK => ?stea6)
    case hiea6 => (simp only [List.getElem?_toArray, List.getElem?_cons_zero, List.getElem?_cons_succ]; rfl)
    go_simp
    (try rw [hALa]); (try rw [hrb])
    refine hK.out _ _ (fun _ => hHeld2) ?_
    clear hK K
    (try simp only [Act.put, List.setIfInBounds_toArray, List.set_cons_zero, List.set_cons_succ])
    clear hHeld
    have hHeld := hHeld2
    clear hHeld2
    obtain ⟨v0, st, wm, hrun, hgm, hown, hmapm, hback⟩ := plc_entry hp2 (show a + 4 ≤ x.length by rw [HXN.out]; exact h4) HKE.out HK4.out
    rw [HKK.out] at hrun
    have hrun' : (Instr.mapEntry 47 (.map (some W0.heap.size)) (.agg #[.int .u8 (k0 : Int), .int .u8 (k1 : Int), .int .u8 (k2 : Int), .int .u8 (k3 : Int)])).run Try.prog X2 = .ok (.tuple #[v0, .int .i64 (st : Int)]) wm := hrun
    clear hrun
    obtain ⟨es2, cl2, hbm2, hp2r⟩ := hp2
    have hknr : KN W1 wm := hkn2.trans (kn_map hbm2 hgm)
    have hrw : wm.cell? ⟨rb, 0, none⟩ = some (.int .i64 (a : Int)) := by
      refine (World.cell?_of_block (hgm.block rb (by rw [← hrb]; rw [← hALa]; simp) (fun e => ?_))).trans hrow
      injection e with e
      have := hbw0.size
      rw [← e, ← hALa, ← hrb, heap_alloc_new] at hbm2
      cases hbm2
    have hownr := hown
    have hbase : W0.heap.size + 1 ≤ wm.heap.size := by have h1 := box_lt HG1.out; have h2 := hgm.size; omega
    have hszr : wm.heap.size ≤ wm.heap.size := Nat.le_refl _
    have hszW : W1.heap.size ≤ wm.heap.size := Nat.le_trans hs02 hgm.size
    have hbwr : Below W0.heap.size W0 wm := hbw2.grown hgm hbw2.size (fun k e => by injection e with e; omega)
    have hmap5 : ∀ w5, wm.grownBy w5 v0.ownBlock → ∃ es c, w5.heap[W0.heap.size]? = some (.map es c) := fun w5 hg => by
      obtain ⟨es3, c3, hm3⟩ := hmapm
      exact ⟨es3, c3, (hg.block _ (box_lt hm3) (fun e => own_map hown hm3 _ e.symm rfl)).trans hm3⟩
    refine' wpAnyT_one (i := 7) (o := ?oiea7) (by kernel_rfl) ?hiea7 (fun K hK => ?stea7)
    case hiea7 => (simp only [List.getElem?_toArray, List.getElem?_cons_zero, List.getElem?_cons_succ]; rfl)
    go_simp
    have hHeld2 := HK.out wm hknr
    refine hK.out _ _ (fun _ => hHeld2) ?_
    clear hK K
    (try simp only [Act.put, List.setIfInBounds_toArray, List.set_cons_zero, List.set_cons_succ])
    clear hHeld
    have hHeld := hHeld2
    clear hHeld2
    refine' wpAnyT_take (i := 8) (oi := ?oiet8) (v := ?vet8) ?hiet8 (by kernel_rfl) (by kernel_rfl) ?hqet8 ?hyet8 hHeld ?restet8
    case hiet8 => (simp only [List.getElem?_toArray, List.getElem?_cons_zero, List.getElem?_cons_succ]; rfl)
    case hqet8 => exact fun _ _ _ h => h
    case hyet8 => (refine Or.inl ⟨by rfl, ?_⟩; intro w' hSw; (try dsimp only at hSw); go_simp; try with_reducible rfl)
    (try simp only [Act.put, List.setIfInBounds_toArray, List.set_cons_zero, List.set_cons_succ])
    refine' wpAnyT_take (i := 10) (oi := ?oiet10) (v := ?vet10) ?hiet10 (by kernel_rfl) (by kernel_rfl) ?hqet10 ?hyet10 hHeld ?restet10
    case hiet10 => (simp only [List.getElem?_toArray, List.getElem?_cons_zero, List.getElem?_cons_succ]; rfl)
    case hqet10 => exact fun _ _ _ h => h
    case hyet10 => (refine Or.inl ⟨by rfl, ?_⟩; intro w' hSw; (try dsimp only at hSw); go_simp; try with_reducible rfl)
    (try simp only [Act.put, List.setIfInBounds_toArray, List.set_cons_zero, List.set_cons_succ])
    refine' wpAnyT_one (i := 9) (o := ?oiet9) (by kernel_rfl) ?hiet9 (fun K hK => ?stet9)
    case hiet9 => (simp only [List.getElem?_toArray, List.getElem?_cons_zero, List.getElem?_cons_succ]; rfl)
    refine step_append_int_at rfl (.tmp 26) (.tmp 28) rfl (W0.heap.size + 1) v0 _ _ (by simp [Act.eval]) hownr ⟨rb, 0, none⟩ 1 (a : Int) (by simp [Act.eval]) hrw (by have := pf_len x a κ; omega) hbase ?_
    intro v5 w5 ho5 hg5 hat5
    have hkn5 := hknr.trans (kn_row hownr hg5)
    obtain ⟨w6, hst, hg6, hp6⟩ := hback w5 v5 hg5 ho5 (hat5.imp id fun h => ⟨_, h, hszr⟩)
    have hst' : (Instr.entryStore 47 (.map (some W0.heap.size)) (.int .i64 (st : Int)) v5).run Try.prog w5 = .ok () w6 := hst
    have hHeld5 := HK.out w5 hkn5
    refine hK.out _ _ (fun _ => hHeld5) ?_
    clear hK K
    (try simp only [Act.put, List.setIfInBounds_toArray, List.set_cons_zero, List.set_cons_succ])
    clear hHeld
    have hHeld := hHeld5
    clear hHeld5
    refine' wpAnyT_one (i := 11) (o := ?oetl) (by kernel_rfl) ?hietl (fun K hK => ?stetl)
    case hietl => (simp only [List.getElem?_toArray, List.getElem?_cons_zero, List.getElem?_cons_succ]; rfl)
    go_simp
    refine hK.out _ _ (fun h => absurd h (by decide)) ?_
    clear hK K
    (try simp only [Act.put, List.setIfInBounds_toArray, List.set_cons_zero, List.set_cons_succ])
    refine wpAnyT_done (by kernel_rfl) ?_ _
    have hbm5 : ∃ es c, w5.heap[W0.heap.size]? = some (.map es c) := hmap5 w5 hg5
    obtain ⟨es5, c5, hbm5⟩ := hbm5
    have hknf := hkn5.trans (kn_map hbm5 hg6)
    have hsz6 : W1.heap.size ≤ w6.heap.size := Nat.le_trans hszW (Nat.le_trans hg5.size hg6.size)
    have hbw5 : Below W0.heap.size W0 w5 := hbwr.grown hg5 hbwr.size (fun k e => by have := (hownr.lt k e).1; omega)
    have hbw6 : Below W0.heap.size W0 w6 := hbw5.grown hg6 hbw5.size (fun k e => by injection e with e; omega)
    have hfin : St W0 w6 g x (.slice (some ⟨b, off, none⟩) n c) (a + 1) l := ⟨vt, hknf g _ 51 (by decide) HG1.out, own_keep HO1.out (hknf.keep (by decide)), hp6, hbw6, hg0⟩
    have hk68 : Keep 68 w w6 := fun i cs hi => (hknf.keep (by decide)) i cs ((HB1.out.block i (box_lt hi)).trans hi)
    have hsf : w.heap.size ≤ w6.heap.size := Nat.le_trans HB1.out.size hsz6
    have HFIN := hid hfin
    have HK68 := hid hk68
    clear hfin hk68
    go_wp2_with fail
    go_end0
    exact ⟨⟨_, rfl⟩, HFIN.out, HK68.out, hsf⟩
  · have d1 : decide ((n : Int) - 4 < (a : Int)) = true := decide_eq_true (by omega)
    have HP := hid (plc_skip hp (by rw [hn]; exact h4))
    have HB := hid hb
    have HO := hid ho
    have HBW := hid hbw
    clear hb ho hp hbw h4 hx hn
    go_enter Try.func42, Try.ntmps42
    go_wp2_with fail
    refine bodyPost_ret (results_none rfl _ _ _) rfl ?_
    exact ⟨⟨_, rfl⟩, ⟨vt, HB.out, HO.out, HP.out, HBW.out, hg0⟩, fun _ _ h => h, Nat.le_refl _⟩
end Go.Proofs.Ytldlddoealpomaa

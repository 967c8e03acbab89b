/- flush. -/
import Derived.Test.YtnocgfhcamnjdaaI
namespace Go.Proofs.Ytnocgfhcamnjdaa
open Go.RowKit Go.Lib

theorem keep_setRow {W : World} {g : Nat} {T E : TypeId} {cs : Array Value} (h : W.heap[g]? = some (.cells cs E)) (hT : T ≠ E) (cs' : Array Value) : Keep T W (W.setRow g cs') := fun k ck hk => (setRow_other W g k cs' (fun e => by
  rw [e, h] at hk
  cases hk
  exact hT rfl)).trans hk
/-- A disk in a box. -/
structure DB (w : World) (B p : Nat) (st : List Sect) (ca : List Ca) (sv cv : Value) : Prop where
  box : w.heap[p]? = some (.cells #[sv, cv] 35)
  os : w.ownsRow B 57 8 sv st.length (st.map cSec).flatten
  oc : w.ownsRow B 112 9 cv ca.length (ca.map cCa).flatten
  ss : Secs st
  cs : CasL ca
set_option maxHeartbeats 8000000 in
set_option maxRecDepth 100000 in
theorem flush_any (B p : Nat) (st : List Sect) (ca : List Ca) (sv cv : Value) (o0 o1 : Int) (oA : Option Addr) (on oc : Nat) (w : World) (hd : DB w B p st ca sv cv) (hBp : B ≤ p) (hBw : B ≤ w.heap.size) (hk0 : chkC st.length ca = 0) :
    Calls Try.prog 60 #[.pointer (some ⟨p, 0, none⟩), .agg #[.int .i64 o0, .int .i64 o1, .slice oA on oc]] w fun e w' => e = .returned (.int .i64 0) ∧ DB w' B p (newL st ca) [] sv (.slice none 0 0) ∧ Below B w w' ∧ ∀ T, T ≠ 57 → T ≠ 35 → Keep T w w' := by
  obtain ⟨A, c, rfl⟩ := ownAny_form hd.os
  obtain ⟨C, d, rfl⟩ := ownAny_form hd.oc
  obtain ⟨n, hn⟩ : ∃ n, st.length = n := ⟨_, rfl⟩
  obtain ⟨N, hN⟩ : ∃ n, ca.length = n := ⟨_, rfl⟩
  have HIN := hid (chkC_mem hk0)
  have HSS := hid hd.ss
  have HCS := hid hd.cs
  have hbox := hd.box
  have hos := hd.os
  have hoc := hd.oc
  rw [hn] at hos hbox HIN ⊢
  rw [hN] at hoc hbox
  have HN := hid hn
  have HM := hid hN
  have HNM : Hid (N ≤ 9223372036854775807) := hid (by
    have h1 := cas_of_own (by rw [hN]; exact hoc : w.ownsRow B 112 9 (.slice C N d) ca.length _) hd.cs
    obtain ⟨_, h5, h6⟩ := arr_cap h1.2.2
    omega)
  clear hd hk0 hn hN
  obtain ⟨W1, hW1⟩ : ∃ X, w.alloc (.cells #[.int .i64 o0, .int .i64 o1, .slice oA on oc] 75) = X := ⟨_, rfl⟩
  have hb1 : Below w.heap.size w W1 := by rw [← hW1]; exact al1 _ _
  have HX1 : Hid (W1.heap[p]? = some (.cells #[.slice A n c, .slice C N d] 35)) := hid ((hb1.block _ (box_lt hbox)).trans hbox)
  have HO1 : Hid (W1.ownsRow B 57 8 (.slice A n c) n ((newL st (ca.take 0)).map cSec).flatten) := hid (own_keep hos (keep_below hb1))
  have HC1 := hid (own_keep hoc (keep_below hb1))
  have HB1 : Hid (Below B w W1) := hid (hb1.mono hBw)
  have HKW : Hid (∀ T, Keep T w W1) := hid (fun T => keep_below hb1)
  have hBW : B ≤ W1.heap.size := Nat.le_trans hBw hb1.size
  have HW1 := hid hW1
  have x1 := cell_of_row _ _ 1 _ _ _ HX1.out
  clear hbox hos hoc hb1 hW1
  go_enter Try.func60, Try.ntmps60
  go_upto_region 1 with fail
  rw [HW1.out]
  go_upto_region 2 with fail
  clear x1
  go_loopw [12] (fun iv wr => ∃ q : Nat, q ≤ N ∧ iv = .int .i64 (q : Int) ∧ Hid (wr.ownsRow B 57 8 (.slice A n c) n ((newL st (ca.take q)).map cSec).flatten) ∧ Hid (∀ T, T ≠ 57 → Keep T W1 wr) ∧ Hid (Below B W1 wr)) (fun i _ => N - (Go.RowKit.intOf i).toNat)
  case atStart => exact ⟨0, Nat.zero_le _, rfl, HO1, hid (fun _ _ _ _ h => h), hid (Below.refl _ _)⟩
  case round =>
    obtain ⟨q, hq, rfl, HO, HKK, HB⟩ := hrel
    have hxr := HKK.out 35 (by decide) _ _ HX1.out
    have hwr : B ≤ wr.heap.size := Nat.le_trans hBW HB.out.size
    by_cases hqn : q < N
    · have hqn' : (q : Int) < (N : Int) := by omega
      have hcas : Cas wr (.slice C N d) ca := by
        have h := own_keep HC1.out (HKK.out 112 (by decide))
        rw [← HM.out] at h ⊢
        exact cas_of_own h HCS.out
      obtain ⟨b, off, rfl, hb, hcc⟩ := cas_cells hcas (by rw [HM.out]; omega)
      obtain ⟨x, hxk⟩ : ∃ x, ca[q]? = some x := ⟨ca[q]'(by rw [HM.out]; exact hqn), List.getElem?_eq_getElem _⟩
      have h8 := hcas.1 x (List.mem_of_getElem? hxk)
      obtain ⟨hi0, hi1⟩ := HIN.out x (List.mem_of_getElem? hxk)
      have HTK := hid (show ca.take (q + 1) = ca.take q ++ [x] from by rw [List.take_add_one, hxk]; rfl)
      have hNm := HNM.out
      obtain ⟨at_, s⟩ := x
      dsimp only at h8 hi0 hi1
      obtain ⟨a, rfl⟩ : ∃ a : Nat, at_ = (a : Int) := ⟨at_.toNat, by omega⟩
      obtain ⟨s0, s1, s2, s3, s4, s5, s6, s7, rfl⟩ := list8 h8.1
      have han : a < n := by omega
      have c0 := hcc q _ hxk 0 (.int .i64 (a : Int)) rfl
      rw [Nat.add_zero] at c0
      have c1 := hcc q _ hxk 1 (.int .u8 (s0 : Int)) rfl
      have c2 := hcc q _ hxk 2 (.int .u8 (s1 : Int)) rfl
      have c3 := hcc q _ hxk 3 (.int .u8 (s2 : Int)) rfl
      have c4 := hcc q _ hxk 4 (.int .u8 (s3 : Int)) rfl
      have c5 := hcc q _ hxk 5 (.int .u8 (s4 : Int)) rfl
      have c6 := hcc q _ hxk 6 (.int .u8 (s5 : Int)) rfl
      have c7 := hcc q _ hxk 7 (.int .u8 (s6 : Int)) rfl
      have c8 := hcc q _ hxk 8 (.int .u8 (s7 : Int)) rfl
      obtain ⟨W5, hW5⟩ : ∃ X, wr.alloc (.cells #[.int .i64 (a : Int), .int .u8 (s0 : Int), .int .u8 (s1 : Int), .int .u8 (s2 : Int), .int .u8 (s3 : Int), .int .u8 (s4 : Int), .int .u8 (s5 : Int), .int .u8 (s6 : Int), .int .u8 (s7 : Int)] 112) = X := ⟨_, rfl⟩
      obtain ⟨h, hh⟩ : ∃ h, wr.heap.size = h := ⟨_, rfl⟩
      have hb5 : Below wr.heap.size wr W5 := by rw [← hW5]; exact al1 _ _
      have hz5 : W5.heap[h]? = some (.cells #[.int .i64 (a : Int), .int .u8 (s0 : Int), .int .u8 (s1 : Int), .int .u8 (s2 : Int), .int .u8 (s3 : Int), .int .u8 (s4 : Int), .int .u8 (s5 : Int), .int .u8 (s6 : Int), .int .u8 (s7 : Int)] 112) := by rw [← hW5, ← hh]; exact heap_alloc_new _ _
      have hx5 := (hb5.block _ (box_lt hxr)).trans hxr
      have HO5 := hid (own_keep HO.out (keep_below hb5))
      obtain ⟨ob, rfl⟩ : ∃ ob, A = some ⟨ob, 0, none⟩ := by
        rcases HO5.out.2 with ⟨e, _⟩ | ⟨ob, cap, cur, e, _⟩
        · injection e with _ e _
          omega
        · injection e with e _ _
          exact ⟨ob, e⟩
      have HK := hid (fun (X : World) (hX : Below W5.heap.size W5 X) => (show X.cell? ⟨p, 0, none⟩ = some (.slice (some ⟨ob, 0, none⟩) n c) ∧ X.cell? ⟨h, 0, none⟩ = some (.int .i64 (a : Int)) ∧ X.cell? ⟨h, 1, none⟩ = some (.int .u8 (s0 : Int)) ∧ X.cell? ⟨h, 2, none⟩ = some (.int .u8 (s1 : Int)) ∧ X.cell? ⟨h, 3, none⟩ = some (.int .u8 (s2 : Int)) ∧ X.cell? ⟨h, 4, none⟩ = some (.int .u8 (s3 : Int)) ∧ X.cell? ⟨h, 5, none⟩ = some (.int .u8 (s4 : Int)) ∧ X.cell? ⟨h, 6, none⟩ = some (.int .u8 (s5 : Int)) ∧ X.cell? ⟨h, 7, none⟩ = some (.int .u8 (s6 : Int)) ∧ X.cell? ⟨h, 8, none⟩ = some (.int .u8 (s7 : Int)) from (by
        have g1 := (hX.block _ (box_lt hx5)).trans hx5
        have g2 := (hX.block _ (box_lt hz5)).trans hz5
        exact ⟨cell_of_row _ _ 0 _ _ _ g1, cell_of_row _ _ 0 _ _ _ g2, cell_of_row _ _ 1 _ _ _ g2, cell_of_row _ _ 2 _ _ _ g2, cell_of_row _ _ 3 _ _ _ g2, cell_of_row _ _ 4 _ _ _ g2, cell_of_row _ _ 5 _ _ _ g2, cell_of_row _ _ 6 _ _ _ g2, cell_of_row _ _ 7 _ _ _ g2, cell_of_row _ _ 8 _ _ _ g2⟩)))
      obtain ⟨X0, hX0⟩ : ∃ X, W5.drew = X := ⟨_, rfl⟩
      have hB0 : Below W5.heap.size W5 X0 := by rw [← hX0]; exact (Below.refl W5.heap.size W5).drew
      have HO0 := hid (own_keep HO5.out (keep_below hB0))
      have hsecs : Secs (newL st (ca.take q)) := newL_secs HSS.out (fun y hy => ⟨(HCS.out y (List.mem_of_mem_take hy)).1, (HCS.out y (List.mem_of_mem_take hy)).2.1⟩)
      have hlen := flat_cells hsecs
      rw [newL_len, HN.out] at hlen
      obtain ⟨hob, _, cur, hcur, hcs, _⟩ := own_at HO0.out
      have hsl : (cSec [s0, s1, s2, s3, s4, s5, s6, s7]).length = 8 := rfl
      obtain ⟨hfit, hown⟩ := own_splice (o := a * 8) (D := cSec [s0, s1, s2, s3, s4, s5, s6, s7]) HO0.out hcur (by rw [hsl, hlen]; omega)
      obtain ⟨W6, hW6⟩ : ∃ X, X0.setRow ob (cur.toList.take (a * 8) ++ cSec [s0, s1, s2, s3, s4, s5, s6, s7] ++ cur.toList.drop (a * 8 + (cSec [s0, s1, s2, s3, s4, s5, s6, s7]).length)).toArray = X := ⟨_, rfl⟩
      have HR : Hid ((Instr.storeAt 57 (.pointer (some ⟨ob, a * 8, none⟩)) (.agg #[.int .u8 (s0 : Int), .int .u8 (s1 : Int), .int .u8 (s2 : Int), .int .u8 (s3 : Int), .int .u8 (s4 : Int), .int .u8 (s5 : Int), .int .u8 (s6 : Int), .int .u8 (s7 : Int)])).run Try.prog X0 = .ok () W6) := hid (by
        rw [← hW6]
        exact run_storeAt_row X0 ob (a * 8) 57 57 (cSec [s0, s1, s2, s3, s4, s5, s6, s7]) cur hcur size73 hfit (byteV_one _))
      have HO6 : Hid (W6.ownsRow B 57 8 (.slice (some ⟨ob, 0, none⟩) n c) n ((newL st (ca.take (q + 1))).map cSec).flatten) := hid (by
        rw [HTK.out, newL_snoc]
        show W6.ownsRow B 57 8 _ n (((newL st (ca.take q)).set a [s0, s1, s2, s3, s4, s5, s6, s7]).map cSec).flatten
        rw [← spl_one _ _ _ (by rw [newL_len, HN.out]; exact han), flat_spl hsecs (fun y hy => by rw [List.mem_singleton] at hy; subst hy; exact ⟨h8.1, h8.2.1⟩) (by rw [newL_len, HN.out]; exact han), ← hW6]
        exact hown)
      have hk6 : ∀ T, T ≠ 57 → Keep T wr W6 := fun T hT => ((keep_below hb5).trans (keep_below hB0)).trans (by rw [← hW6]; exact keep_setRow hcur hT _)
      have HK6 : Hid (∀ T, T ≠ 57 → Keep T W1 W6) := hid (fun T hT => (HKK.out T hT).trans (hk6 T hT))
      have HB6 : Hid (Below B W1 W6) := hid (by rw [← hW6]; exact below_setRow (HB.out.trans ((hb5.trans (hB0.mono hb5.size)).mono hwr)) hob _)
      have hHeld := HK.out X0 hB0
      have HW5 := hid hW5
      have HH := hid hh
      clear hcas hcc hxk h8 hi0 hi1 hW5 hh hb5 hz5 hx5 hxr hB0 hsecs hlen hob hcur hcs hsl hfit hown hW6 hk6
      go_upto_region 4 with fail
      rw [HW5.out, HH.out]
      clear c0 c1 c2 c3 c4 c5 c6 c7 c8
      refine region_tail 9 (fun X => X.cell? ⟨p, 0, none⟩ = some (.slice (some ⟨ob, 0, none⟩) n c) ∧ X.cell? ⟨h, 0, none⟩ = some (.int .i64 (a : Int)) ∧ X.cell? ⟨h, 1, none⟩ = some (.int .u8 (s0 : Int)) ∧ X.cell? ⟨h, 2, none⟩ = some (.int .u8 (s1 : Int)) ∧ X.cell? ⟨h, 3, none⟩ = some (.int .u8 (s2 : Int)) ∧ X.cell? ⟨h, 4, none⟩ = some (.int .u8 (s3 : Int)) ∧ X.cell? ⟨h, 5, none⟩ = some (.int .u8 (s4 : Int)) ∧ X.cell? ⟨h, 6, none⟩ = some (.int .u8 (s5 : Int)) ∧ X.cell? ⟨h, 7, none⟩ = some (.int .u8 (s6 : Int)) ∧ X.cell? ⟨h, 8, none⟩ = some (.int .u8 (s7 : Int))) (by kernel_rfl) ?_
      rw [hX0]
      clear hX0
      refine' wpAnyT_take (i := 0) (oi := ?oia0) (v := ?va0) ?hia0 (by kernel_rfl) (by kernel_rfl) ?hqa0 ?hya0 hHeld ?resta0
      case hia0 => (simp only [List.getElem?_toArray, List.getElem?_cons_zero]; rfl)
      case hqa0 => exact fun _ _ _ h => h
      case hya0 => (refine Or.inl ⟨by rfl, ?_⟩; intro w' hSw; (try dsimp only at hSw); go_simp; try with_reducible rfl)
      (try simp only [Act.put, List.setIfInBounds_toArray, List.set_cons_zero, List.set_cons_succ])
      refine' wpAnyT_take (i := 1) (oi := ?oia1) (v := ?va1) ?hia1 (by kernel_rfl) (by kernel_rfl) ?hqa1 ?hya1 hHeld ?resta1
      case hia1 => (simp only [List.getElem?_toArray, List.getElem?_cons_zero, List.getElem?_cons_succ]; rfl)
      case hqa1 => exact fun _ _ _ h => h
      case hya1 => (refine Or.inl ⟨by rfl, ?_⟩; intro w' hSw; (try dsimp only at hSw); go_simp; try with_reducible rfl)
      (try simp only [Act.put, List.setIfInBounds_toArray, List.set_cons_zero, List.set_cons_succ])
      refine' wpAnyT_take (i := 2) (oi := ?oia2) (v := ?va2) ?hia2 (by kernel_rfl) (by kernel_rfl) ?hqa2 ?hya2 hHeld ?resta2
      case hia2 => (simp only [List.getElem?_toArray, List.getElem?_cons_zero, List.getElem?_cons_succ]; rfl)
      case hqa2 => exact fun _ _ _ h => h
      case hya2 => (refine Or.inl ⟨by rfl, ?_⟩; intro w' hSw; (try dsimp only at hSw); go_simp; try with_reducible rfl)
      (try simp only [Act.put, List.setIfInBounds_toArray, List.set_cons_zero, List.set_cons_succ])
      refine' wpAnyT_take (i := 3) (oi := ?oia3) (v := ?va3) ?hia3 (by kernel_rfl) (by kernel_rfl) ?hqa3 ?hya3 hHeld ?resta3
      case hia3 => (simp only [List.getElem?_toArray, List.getElem?_cons_zero, List.getElem?_cons_succ]; rfl)
      case hqa3 => exact fun _ _ _ h => h
      case hya3 => (refine Or.inl ⟨by rfl, ?_⟩; intro w' hSw; (try dsimp only at hSw); go_simp; try with_reducible rfl)
      (try simp only [Act.put, List.setIfInBounds_toArray, List.set_cons_zero, List.set_cons_succ])
      refine' wpAnyT_take (i := 4) (oi := ?oia4) (v := ?va4) ?hia4 (by kernel_rfl) (by kernel_rfl) ?hqa4 ?hya4 hHeld ?resta4
      case hia4 => (simp only [List.getElem?_toArray, List.getElem?_cons_zero, List.getElem?_cons_succ]; rfl)
      case hqa4 => exact fun _ _ _ h => h
      case hya4 => (refine Or.inl ⟨by rfl, ?_⟩; intro w' hSw; (try dsimp only at hSw); go_simp; try with_reducible rfl)
      (try simp only [Act.put, List.setIfInBounds_toArray, List.set_cons_zero, List.set_cons_succ])
      refine' wpAnyT_take (i := 5) (oi := ?oia5) (v := ?va5) ?hia5 (by kernel_rfl) (by kernel_rfl) ?hqa5 ?hya5 hHeld ?resta5
      case hia5 => (simp only [List.getElem?_toArray, List.getElem?_cons_zero, List.getElem?_cons_succ]; rfl)
      case hqa5 => exact fun _ _ _ h => h
      case hya5 => (refine Or.inl ⟨by rfl, ?_⟩; intro w' hSw; (try dsimp only at hSw); go_simp; try with_reducible rfl)
      (try simp only [Act.put, List.setIfInBounds_toArray, List.set_cons_zero, List.set_cons_succ])
      refine' wpAnyT_take (i := 6) (oi := ?oia6) (v := ?va6) ?hia6 (by kernel_rfl) (by kernel_rfl) ?hqa6 ?hya6 hHeld ?resta6
      case hia6 => (simp only [List.getElem?_toArray, List.getElem?_cons_zero, List.getElem?_cons_succ]; rfl)
      case hqa6 => exact fun _ _ _ h => h
      case hya6 => (refine Or.inl ⟨by rfl, ?_⟩; intro w' hSw; (try dsimp only at hSw); go_simp; try with_reducible rfl)
      (try simp only [Act.put, List.setIfInBounds_toArray, List.set_cons_zero, List.set_cons_succ])
      refine' wpAnyT_take (i := 7) (oi := ?oia7) (v := ?va7) ?hia7 (by kernel_rfl) (by kernel_rfl) ?hqa7 ?hya7 hHeld ?resta7
      case hia7 => (simp only [List.getElem?_toArray, List.getElem?_cons_zero, List.getElem?_cons_succ]; rfl)
      case hqa7 => exact fun _ _ _ h => h
      case hya7 => (refine Or.inl ⟨by rfl, ?_⟩; intro w' hSw; (try dsimp only at hSw); go_simp; try with_reducible rfl)
      (try simp only [Act.put, List.setIfInBounds_toArray, List.set_cons_zero, List.set_cons_succ])
      refine' wpAnyT_one (i := 8) (o := ?oia8) (by kernel_rfl) ?hia8 (fun K hK => ?sta8)
      case hia8 => (simp only [List.getElem?_toArray, List.getElem?_cons_zero, List.getElem?_cons_succ]; rfl)
      go_simp
      refine hK.out _ _ (fun _ => hHeld) ?_
      clear hK K
      (try simp only [Act.put, List.setIfInBounds_toArray, List.set_cons_zero, List.set_cons_succ])
      refine' wpAnyT_one (i := 9) (o := ?oia9) (by kernel_rfl) ?hia9 (fun K hK => ?sta9)
      case hia9 => (simp only [List.getElem?_toArray, List.getElem?_cons_zero, List.getElem?_cons_succ]; rfl)
      refine step_store_run rfl 57 (.tmp 24) (.tmp 23) rfl (.pointer (some ⟨ob, a * 8, none⟩)) (.agg #[.int .u8 (s0 : Int), .int .u8 (s1 : Int), .int .u8 (s2 : Int), .int .u8 (s3 : Int), .int .u8 (s4 : Int), .int .u8 (s5 : Int), .int .u8 (s6 : Int), .int .u8 (s7 : Int)]) (by simp [Act.eval]) (by simp [Act.eval]) HR.out ?_
      refine hK.out _ _ (fun h => absurd h (by decide)) ?_
      clear hK K
      refine wpAnyT_done (by kernel_rfl) ?_ _
      go_upto_region 5 with fail
      go_wp2_with fail
      go_roundw
      case rel => exact ⟨q + 1, by omega, by go_num, HO6, HK6, HB6⟩
      case measure => simp [Go.RowKit.intOf]; omega
    · obtain rfl : N = q := by omega
      have hqn' : ¬ ((N : Nat) : Int) < (N : Int) := by omega
      have HXr := hid hxr
      have x1 := cell_of_row _ _ 1 _ _ _ hxr
      have f1 := box_fr hxr 1
      have hO := HO.out
      rw [show ca.take N = ca from List.take_of_length_le (by rw [HM.out]; exact Nat.le_refl _)] at hO
      have HOF := hid hO
      clear hxr hO
      go_wp2_with fail
      go_ret
      refine ⟨rfl, ⟨box_set (cs := [.slice A n c, .slice C N d]) HXr.out 1 _, ?_, World.ownsRow_nil _ _ _ _, newL_secs HSS.out (fun y hy => ⟨(HCS.out y hy).1, (HCS.out y hy).2.1⟩), fun x hx => by cases hx⟩, (HB1.out.trans (HB.out)).setCell hBp _, fun T h1 h2 => ((HKW.out T).trans (HKK.out T h1)).trans (keep_box HXr.out h2 _ _)⟩
      rw [newL_len, HN.out]
      exact own_keep HOF.out (keep_box HXr.out (by decide) _ _)
end Go.Proofs.Ytnocgfhcamnjdaa

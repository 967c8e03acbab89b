/- deliver on no message or one. -/
import Derived.Test.YtkdladacmjkdoaaLa
import Derived.Test.YtkdladacmjkdoaaR
namespace Go.Proofs.Ytkdladacmjkdoaa
open Go.RowKit Go.Lib
theorem cutD {G : World → Nat → Value → Prop} {R : Prop} (F : World → Nat → Value → Prop) (main : (∀ X p v, F X p v → G X p v) → R) (cont : ∀ X p v, F X p v → G X p v) : R := main cont
/-- What deliver returns. -/
def dlv (s : Ses) : List Mes → Ses × List Mes
  | [] => (s, [])
  | m :: _ => recR s m
def DlvQ (x : Ses × List Mes) (w : World) (f : Ending) (w' : World) : Prop := ∃ v, f = .returned (.tuple #[sv x.1, v]) ∧ MsgT w' v x.2 ∧ Below w.heap.size w w'
theorem msgT_form {w : World} {v : Value} {l : List Mes} (h : MsgT w v l) : ∃ A c, v = .slice A l.length c := by
  rcases h with ⟨A, c, rfl, rfl⟩ | ⟨b, m, c, cs, rfl, rfl, _, _⟩
  · exact ⟨A, c, rfl⟩
  · exact ⟨_, c, rfl⟩
set_option maxHeartbeats 8000000 in
set_option maxRecDepth 100000 in
theorem deliver_any (s : Ses) (l : List Mes) (u : Value) (w : World) (hu : MsgT w u l) : Calls Try.prog 28 #[sv s, u] w (DlvQ (dlv s l) w) := by
  obtain ⟨g, hg⟩ : ∃ g, w.heap.size = g := ⟨_, rfl⟩
  obtain ⟨W2, hW2⟩ : ∃ X, (w.alloc (.cells (cS s) 23)).alloc (.cells (cS z6) 23) = X := ⟨_, rfl⟩
  have HB2 : Hid (Below g w W2) := hid (by rw [← hW2, ← hg]; exact below_both (al1 w _) (al1 _ _))
  have H3 : Hid (W2.heap[g]? = some (.cells (cS s) 23)) := hid (by rw [← hW2, ← hg]; exact (Below.heap_alloc _ _ _ (by rw [World.size_alloc]; omega)).trans (heap_alloc_new w _))
  have H6 : Hid (W2.heap[g + 1]? = some (.cells (cS z6) 23)) := hid (by rw [← hW2, ← hg]; exact new_two w _ _)
  have HW2 := hid hW2
  have HG := hid hg
  clear hW2
  rcases hu with ⟨A, c, rfl, rfl⟩ | ⟨b, m, c, cs, rfl, rfl, hbr, hmv⟩
  · obtain ⟨y0, y1, y2, y3, y4, y5⟩ := load6 H3.out
    obtain ⟨v0, v1, v2, v3, v4, v5⟩ := load6 H6.out
    have f6 := box_fr H6.out
    clear hg
    obtain ⟨l, r, se, sn, sp, sd⟩ := s
    unfold sv dlv
    simp only at y0 y1 y2 y3 y4 y5 ⊢
    simp only [z6] at v0 v1 v2 v3 v4 v5
    simp only [cS, z6] at HW2
    go_enter Try.func28, Try.ntmps28
    go_upto_region 1 with fail
    rw [HG.out, HW2.out]
    go_upto_region 3 with fail
    go_loop [6, 7] (fun o i => i = .int .i64 0 ∧ o = .slice none 0 0) (fun _ _ => 0)
    case atStart => exact ⟨rfl, rfl⟩
    case round =>
      obtain ⟨rfl, rfl⟩ := hrel
      go_wp2_with fail
      refine bodyPost_ret (results_s1 rfl _ _ (g + 1) 23 ⟨l, r, se, sn, sp, sd⟩ rfl (set6h ⟨l, r, se, sn, sp, sd⟩ H6.out) _ rfl) rfl ?_
      exact ⟨_, rfl, .inl ⟨none, 0, rfl, rfl⟩, by rw [HG.out]; exact set6b ⟨l, r, se, sn, sp, sd⟩ HB2.out (Nat.le_succ _)⟩
  · have hmc := msg_cells hbr hmv
    have hbl := box_lt hbr
    clear hbr hmv
    obtain ⟨⟨⟨l', r', e', n', p', d'⟩, ms⟩, hR⟩ : ∃ R, recR s m = R := ⟨_, rfl⟩
    have hRC := fun W => receive_any s 0 m 0 none 0 0 none 0 0 W
    have hml := recR_len s m
    rw [hR] at hRC hml
    have HML := hid hml
    rw [show dlv s [m] = recR s m from rfl, hR]
    obtain ⟨k, f, t, mn, me⟩ := m
    obtain ⟨l, r, se, sn, sp, sd⟩ := s
    have HRC : Hid (∀ W, Calls Try.prog 24 #[.agg #[.int .i64 l, .int .i64 r, .int .i64 se, .int .i64 sn, .int .i64 sp, .int .i64 sd], .int .i64 0, .agg #[.int .i64 k, .int .i64 f, .int .i64 t, .int .i64 mn, .int .i64 0, .int .i64 me, .slice none 0 0, .slice none 0 0]] W fun e w' => ∃ v, e = .returned (.tuple #[.agg #[.int .i64 l', .int .i64 r', .int .i64 e', .int .i64 n', .int .i64 p', .int .i64 d'], v]) ∧ MsgQ W.heap.size w' v ms ∧ Below W.heap.size W w') := hid hRC
    have HMC := hid hmc
    have HBL := hid (show b < g by rw [← hg]; exact hbl)
    unfold sv
    simp only [cS, z6] at HW2
    clear hRC hml hR hmc hbl hg
    go_enter Try.func28, Try.ntmps28
    go_upto_region 1 with fail
    rw [HG.out, HW2.out]
    go_upto_region 3 with fail
    go_loopw [6, 7] (fun ov iv wr => ∃ (i : Nat) (q : Ses) (ls : List Mes) (OA : Option Addr) (on oc : Nat), i ≤ 1 ∧ iv = .int .i64 (i : Int) ∧ ov = .slice OA on oc ∧ Hid (i = 0 → q = ⟨l, r, se, sn, sp, sd⟩ ∧ OA = none ∧ on = 0 ∧ oc = 0) ∧ Hid (i = 1 → q = ⟨l', r', e', n', p', d'⟩ ∧ ls = ms) ∧ Hid (wr.heap[g]? = some (.cells (cS q) 23)) ∧ Hid (wr.heap[g + 1]? = some (.cells (cS z6) 23)) ∧ Hid (MsgT wr (.slice OA on oc) ls) ∧ Hid (Below g w wr)) (fun _ iv _ => 1 - (RowKit.intOf iv).toNat)
    case atStart => exact ⟨0, _, [], none, 0, 0, by omega, rfl, rfl, hid (fun _ => ⟨rfl, rfl, rfl, rfl⟩), hid (fun h => absurd h (by decide)), H3, H6, hid (.inl ⟨none, 0, rfl, rfl⟩), HB2⟩
    case round =>
      obtain ⟨i, q, ls, OA, on, oc, hi, rfl, rfl, HQ0, HQ1, HK3, HK6, HMT, HB⟩ := hrel
      rcases Nat.eq_zero_or_pos i with h0 | h0
      · subst h0
        obtain ⟨rfl, rfl, rfl, rfl⟩ := HQ0.out rfl
        have HLW : Hid (g ≤ wr.heap.size) := hid (Nat.le_of_lt (box_lt HK3.out))
        have HK : Hid (∀ X, Below wr.heap.size wr X → X.cell? ⟨g, 0, none⟩ = some (.int .i64 l) ∧ X.cell? ⟨g, 1, none⟩ = some (.int .i64 r) ∧ X.cell? ⟨g, 2, none⟩ = some (.int .i64 se) ∧ X.cell? ⟨g, 3, none⟩ = some (.int .i64 sn) ∧ X.cell? ⟨g, 4, none⟩ = some (.int .i64 sp) ∧ X.cell? ⟨g, 5, none⟩ = some (.int .i64 sd) ∧ X.cell? ⟨b, 0, none⟩ = some (.int .i64 k) ∧ X.cell? ⟨b, 1, none⟩ = some (.int .i64 f) ∧ X.cell? ⟨b, 2, none⟩ = some (.int .i64 t) ∧ X.cell? ⟨b, 3, none⟩ = some (.int .i64 mn) ∧ X.cell? ⟨b, 4, none⟩ = some (.int .i64 0) ∧ X.cell? ⟨b, 5, none⟩ = some (.int .i64 me) ∧ X.cell? ⟨b, 6, none⟩ = some (.slice none 0 0) ∧ X.cell? ⟨b, 7, none⟩ = some (.slice none 0 0)) := hid (fun X hX => by
          have a1 := load6 ((hX.block _ (box_lt HK3.out)).trans HK3.out)
          simp only at a1
          have hc : ∀ j, X.cell? ⟨b, j, none⟩ = w.cell? ⟨b, j, none⟩ := fun j => ((hX.mono HLW.out).cell (p := ⟨b, j, none⟩) HBL.out).trans (HB.out.cell (p := ⟨b, j, none⟩) HBL.out)
          obtain ⟨c0, c1, c2, c3, c4, c5, c6, c7⟩ := HMC.out
          obtain ⟨b0, b1, b2, b3, b4, b5⟩ := a1
          exact ⟨b0, b1, b2, b3, b4, b5, (hc 0).trans c0, (hc 1).trans c1, (hc 2).trans c2, (hc 3).trans c3, (hc 4).trans c4, (hc 5).trans c5, (hc 6).trans c6, (hc 7).trans c7⟩)
        go_upto_region 5 with fail
        apply cutD (fun X px v9 => Below wr.heap.size wr X ∧ wr.heap.size ≤ px ∧ X.heap[px]? = some (.cells (cS ⟨l', r', e', n', p', d'⟩) 23) ∧ MsgQ wr.heap.size X v9 ms)
        · intro HC
          have HC := hid HC
          refine region_tail 11 (fun X => X.cell? ⟨g, 0, none⟩ = some (.int .i64 l) ∧ X.cell? ⟨g, 1, none⟩ = some (.int .i64 r) ∧ X.cell? ⟨g, 2, none⟩ = some (.int .i64 se) ∧ X.cell? ⟨g, 3, none⟩ = some (.int .i64 sn) ∧ X.cell? ⟨g, 4, none⟩ = some (.int .i64 sp) ∧ X.cell? ⟨g, 5, none⟩ = some (.int .i64 sd) ∧ X.cell? ⟨b, 0, none⟩ = some (.int .i64 k) ∧ X.cell? ⟨b, 1, none⟩ = some (.int .i64 f) ∧ X.cell? ⟨b, 2, none⟩ = some (.int .i64 t) ∧ X.cell? ⟨b, 3, none⟩ = some (.int .i64 mn) ∧ X.cell? ⟨b, 4, none⟩ = some (.int .i64 0) ∧ X.cell? ⟨b, 5, none⟩ = some (.int .i64 me) ∧ X.cell? ⟨b, 6, none⟩ = some (.slice none 0 0) ∧ X.cell? ⟨b, 7, none⟩ = some (.slice none 0 0)) (by kernel_rfl) ?_
          obtain ⟨X0, hX0⟩ : ∃ X, wr.drew = X := ⟨_, rfl⟩
          have hB0 : Below wr.heap.size wr X0 := by rw [← hX0]; exact (Below.refl wr.heap.size wr).drew
          have hHeld := HK.out X0 hB0
          rw [hX0]
          clear hX0
          refine' wpAnyT_take (i := 0) (oi := ?oiq1) (v := ?vq1) ?hiq1 (by kernel_rfl) (by kernel_rfl) ?hqq1 ?hyq1 hHeld ?restq1
          case hiq1 => (simp only [List.getElem?_toArray, List.getElem?_cons_zero]; rfl)
          case hqq1 => exact fun _ _ _ h => h
          case hyq1 => (refine Or.inl ⟨by rfl, ?_⟩; intro w' hSw; (try dsimp only at hSw); go_simp; try with_reducible rfl)
          (try simp only [Act.put, List.setIfInBounds_toArray, List.set_cons_zero, List.set_cons_succ])
          refine' wpAnyT_take (i := 1) (oi := ?oiq2) (v := ?vq2) ?hiq2 (by kernel_rfl) (by kernel_rfl) ?hqq2 ?hyq2 hHeld ?restq2
          case hiq2 => (simp only [List.getElem?_toArray, List.getElem?_cons_zero, List.getElem?_cons_succ]; rfl)
          case hqq2 => exact fun _ _ _ h => h
          case hyq2 => (refine Or.inl ⟨by rfl, ?_⟩; intro w' hSw; (try dsimp only at hSw); go_simp; try with_reducible rfl)
          (try simp only [Act.put, List.setIfInBounds_toArray, List.set_cons_zero, List.set_cons_succ])
          refine' wpAnyT_take (i := 2) (oi := ?oiq3) (v := ?vq3) ?hiq3 (by kernel_rfl) (by kernel_rfl) ?hqq3 ?hyq3 hHeld ?restq3
          case hiq3 => (simp only [List.getElem?_toArray, List.getElem?_cons_zero, List.getElem?_cons_succ]; rfl)
          case hqq3 => exact fun _ _ _ h => h
          case hyq3 => (refine Or.inl ⟨by rfl, ?_⟩; intro w' hSw; (try dsimp only at hSw); go_simp; try with_reducible rfl)
          (try simp only [Act.put, List.setIfInBounds_toArray, List.set_cons_zero, List.set_cons_succ])
          refine' wpAnyT_take (i := 3) (oi := ?oiq4) (v := ?vq4) ?hiq4 (by kernel_rfl) (by kernel_rfl) ?hqq4 ?hyq4 hHeld ?restq4
          case hiq4 => (simp only [List.getElem?_toArray, List.getElem?_cons_zero, List.getElem?_cons_succ]; rfl)
          case hqq4 => exact fun _ _ _ h => h
          case hyq4 => (refine Or.inl ⟨by rfl, ?_⟩; intro w' hSw; (try dsimp only at hSw); go_simp; try with_reducible rfl)
          (try simp only [Act.put, List.setIfInBounds_toArray, List.set_cons_zero, List.set_cons_succ])
          refine' wpAnyT_take (i := 4) (oi := ?oiq5) (v := ?vq5) ?hiq5 (by kernel_rfl) (by kernel_rfl) ?hqq5 ?hyq5 hHeld ?restq5
          case hiq5 => (simp only [List.getElem?_toArray, List.getElem?_cons_zero, List.getElem?_cons_succ]; rfl)
          case hqq5 => exact fun _ _ _ h => h
          case hyq5 => (refine Or.inl ⟨by rfl, ?_⟩; intro w' hSw; (try dsimp only at hSw); go_simp; try with_reducible rfl)
          (try simp only [Act.put, List.setIfInBounds_toArray, List.set_cons_zero, List.set_cons_succ])
          refine wpAnyT_all (l := [5, 9]) (by kernel_rfl) (by decide) ?_
          intro i hi
          simp only [List.mem_cons, List.not_mem_nil, or_false] at hi
          rcases hi with rfl | rfl
          · refine ⟨_, by (simp only [List.getElem?_toArray, List.getElem?_cons_zero, List.getElem?_cons_succ]; rfl), fun K hK => ?_⟩
            go_simp
            go_at_call 24
            (with_reducible refine (HRC.out X0).mono ?_)
            rintro e Yq22 ⟨v9, rfl, hm9, hbb22⟩
            have HM9 := hid hm9
            have HCS : Hid (wr.heap.size ≤ X0.heap.size) := hid hB0.size
            clear hm9
            clear hHeld
            have hHeld := HK.out Yq22 (below_both hB0 hbb22)
            refine hK.out _ _ (fun _ => hHeld) ?_
            clear hK K
            (try simp only [Act.put, List.setIfInBounds_toArray, List.set_cons_zero, List.set_cons_succ])
            refine' wpAnyT_take (i := 6) (oi := ?oiq6) (v := ?vq6) ?hiq6 (by kernel_rfl) (by kernel_rfl) ?hqq6 ?hyq6 hHeld ?restq6
            case hiq6 => (simp only [List.getElem?_toArray, List.getElem?_cons_zero, List.getElem?_cons_succ]; rfl)
            case hqq6 => exact fun _ _ _ h => h
            case hyq6 => (refine Or.inl ⟨by rfl, ?_⟩; intro w' hSw; (try dsimp only at hSw); go_simp; try with_reducible rfl)
            (try simp only [Act.put, List.setIfInBounds_toArray, List.set_cons_zero, List.set_cons_succ])
            refine' wpAnyT_take (i := 7) (oi := ?oiq7) (v := ?vq7) ?hiq7 (by kernel_rfl) (by kernel_rfl) ?hqq7 ?hyq7 hHeld ?restq7
            case hiq7 => (simp only [List.getElem?_toArray, List.getElem?_cons_zero, List.getElem?_cons_succ]; rfl)
            case hqq7 => exact fun _ _ _ h => h
            case hyq7 => (refine Or.inl ⟨by rfl, ?_⟩; intro w' hSw; (try dsimp only at hSw); go_simp; try with_reducible rfl)
            (try simp only [Act.put, List.setIfInBounds_toArray, List.set_cons_zero, List.set_cons_succ])
            refine' wpAnyT_take (i := 8) (oi := ?oiq8) (v := ?vq8) ?hiq8 (by kernel_rfl) (by kernel_rfl) ?hqq8 ?hyq8 hHeld ?restq8
            case hiq8 => (simp only [List.getElem?_toArray, List.getElem?_cons_zero, List.getElem?_cons_succ]; rfl)
            case hqq8 => exact fun _ _ _ h => h
            case hyq8 => (refine Or.inl ⟨by rfl, ?_⟩; intro w' hSw; (try dsimp only at hSw); go_simp; try with_reducible rfl)
            (try simp only [Act.put, List.setIfInBounds_toArray, List.set_cons_zero, List.set_cons_succ])
            refine' wpAnyT_one (i := 9) (o := ?oiq9) (by kernel_rfl) ?hiq9 (fun K hK => ?stq9)
            case hiq9 => (simp only [List.getElem?_toArray, List.getElem?_cons_zero, List.getElem?_cons_succ]; rfl)
            go_simp
            obtain ⟨Yq8, hY⟩ : ∃ X, Yq22.alloc (.cells #[.int .i64 0, .int .i64 0, .int .i64 0, .int .i64 0, .int .i64 0, .int .i64 0] 23) = X := ⟨_, rfl⟩
            obtain ⟨px, hh⟩ : ∃ h, Yq22.heap.size = h := ⟨_, rfl⟩
            have hbb8 : Below Yq22.heap.size Yq22 Yq8 := by rw [← hY]; exact al1 _ _
            have HZpx : Hid (Yq8.heap[px]? = some (.cells #[.int .i64 0, .int .i64 0, .int .i64 0, .int .i64 0, .int .i64 0, .int .i64 0] 23)) := hid (by rw [← hY, ← hh]; exact heap_alloc_new _ _)
            have HPW : Hid (wr.heap.size ≤ px) := hid (by rw [← hh]; exact (below_both hB0 hbb22).size)
            rw [hY, hh]
            clear hY hh
            clear hHeld
            have hHeld := HK.out Yq8 (below_both hB0 (below_both hbb22 hbb8))
            refine hK.out _ _ (fun _ => hHeld) ?_
            clear hK K
            (try simp only [Act.put, List.setIfInBounds_toArray, List.set_cons_zero, List.set_cons_succ])
            refine' wpAnyT_one (i := 10) (o := ?oiq10) (by kernel_rfl) ?hiq10 (fun K hK => ?stq10)
            case hiq10 => (simp only [List.getElem?_toArray, List.getElem?_cons_zero, List.getElem?_cons_succ]; rfl)
            have hp15 : Yq8.heap[px]? = some (.cells (cS z6) 23) := (((Below.refl _ _).block _ (box_lt HZpx.out)).trans HZpx.out)
            obtain ⟨q0, q1, q2, q3, q4, q5⟩ := load6 hp15
            simp only [z6] at q0 q1 q2 q3 q4 q5
            have fp := box_fr hp15
            go_simp
            obtain ⟨YqN10, hY⟩ : ∃ X, set6 Yq8 px ⟨l', r', e', n', p', d'⟩ = X := ⟨_, rfl⟩
            have HP15 : Hid (YqN10.heap[px]? = some (.cells (cS ⟨l', r', e', n', p', d'⟩) 23)) := hid (by rw [← hY]; exact set6h ⟨l', r', e', n', p', d'⟩ hp15)
            have HMQ : Hid (MsgQ wr.heap.size YqN10 v9 ms) := hid (by rw [← hY]; exact ((HM9.out.below HCS.out hbb8).keepT (Nat.le_refl _) (keepT_set6 ⟨l', r', e', n', p', d'⟩ hp15)))
            have hbbnone10 : Below wr.heap.size wr YqN10 := by rw [← hY]; exact set6b ⟨l', r', e', n', p', d'⟩ (below_both hB0 (below_both hbb22 hbb8)) HPW.out
            simp only [set6] at hY
            rw [hY]
            clear hY hp15 q0 q1 q2 q3 q4 q5 fp
            clear hHeld
            have hHeld := HK.out YqN10 hbbnone10
            refine hK.out _ _ (fun _ => hHeld) ?_
            clear hK K
            refine' wpAnyT_one (i := 11) (o := ?oiq11) (by kernel_rfl) ?hiq11 (fun K hK => ?stq11)
            case hiq11 => (simp only [List.getElem?_toArray, List.getElem?_cons_zero, List.getElem?_cons_succ]; rfl)
            go_simp
            refine hK.out _ _ (fun h => absurd h (by decide)) ?_
            clear hK K
            (try simp only [Act.put, List.setIfInBounds_toArray, List.set_cons_zero, List.set_cons_succ])
            refine wpAnyT_done (by kernel_rfl) ?_ _
            exact HC.out YqN10 px v9 ⟨hbbnone10, HPW.out, HP15.out, HMQ.out⟩
          · refine ⟨_, by (simp only [List.getElem?_toArray, List.getElem?_cons_zero, List.getElem?_cons_succ]; rfl), fun K hK => ?_⟩
            go_simp
            obtain ⟨Yq8, hY⟩ : ∃ X, X0.alloc (.cells #[.int .i64 0, .int .i64 0, .int .i64 0, .int .i64 0, .int .i64 0, .int .i64 0] 23) = X := ⟨_, rfl⟩
            obtain ⟨px, hh⟩ : ∃ h, X0.heap.size = h := ⟨_, rfl⟩
            have hbb8 : Below X0.heap.size X0 Yq8 := by rw [← hY]; exact al1 _ _
            have HZpx : Hid (Yq8.heap[px]? = some (.cells #[.int .i64 0, .int .i64 0, .int .i64 0, .int .i64 0, .int .i64 0, .int .i64 0] 23)) := hid (by rw [← hY, ← hh]; exact heap_alloc_new _ _)
            have HPW : Hid (wr.heap.size ≤ px) := hid (by rw [← hh]; exact hB0.size)
            rw [hY, hh]
            clear hY hh
            clear hHeld
            have hHeld := HK.out Yq8 (below_both hB0 hbb8)
            refine hK.out _ _ (fun _ => hHeld) ?_
            clear hK K
            (try simp only [Act.put, List.setIfInBounds_toArray, List.set_cons_zero, List.set_cons_succ])
            refine' wpAnyT_one (i := 5) (o := ?oiq12) (by kernel_rfl) ?hiq12 (fun K hK => ?stq12)
            case hiq12 => (simp only [List.getElem?_toArray, List.getElem?_cons_zero, List.getElem?_cons_succ]; rfl)
            go_simp
            go_at_call 24
            (with_reducible refine (HRC.out Yq8).mono ?_)
            rintro e Yq22 ⟨v9, rfl, hm9, hbb22⟩
            have HM9 := hid hm9
            have HCS : Hid (wr.heap.size ≤ Yq8.heap.size) := hid (below_both hB0 hbb8).size
            clear hm9
            clear hHeld
            have hHeld := HK.out Yq22 (below_both hB0 (below_both hbb8 hbb22))
            refine hK.out _ _ (fun _ => hHeld) ?_
            clear hK K
            (try simp only [Act.put, List.setIfInBounds_toArray, List.set_cons_zero, List.set_cons_succ])
            refine' wpAnyT_take (i := 6) (oi := ?oiq13) (v := ?vq13) ?hiq13 (by kernel_rfl) (by kernel_rfl) ?hqq13 ?hyq13 hHeld ?restq13
            case hiq13 => (simp only [List.getElem?_toArray, List.getElem?_cons_zero, List.getElem?_cons_succ]; rfl)
            case hqq13 => exact fun _ _ _ h => h
            case hyq13 => (refine Or.inl ⟨by rfl, ?_⟩; intro w' hSw; (try dsimp only at hSw); go_simp; try with_reducible rfl)
            (try simp only [Act.put, List.setIfInBounds_toArray, List.set_cons_zero, List.set_cons_succ])
            refine' wpAnyT_take (i := 7) (oi := ?oiq14) (v := ?vq14) ?hiq14 (by kernel_rfl) (by kernel_rfl) ?hqq14 ?hyq14 hHeld ?restq14
            case hiq14 => (simp only [List.getElem?_toArray, List.getElem?_cons_zero, List.getElem?_cons_succ]; rfl)
            case hqq14 => exact fun _ _ _ h => h
            case hyq14 => (refine Or.inl ⟨by rfl, ?_⟩; intro w' hSw; (try dsimp only at hSw); go_simp; try with_reducible rfl)
            (try simp only [Act.put, List.setIfInBounds_toArray, List.set_cons_zero, List.set_cons_succ])
            refine' wpAnyT_take (i := 8) (oi := ?oiq15) (v := ?vq15) ?hiq15 (by kernel_rfl) (by kernel_rfl) ?hqq15 ?hyq15 hHeld ?restq15
            case hiq15 => (simp only [List.getElem?_toArray, List.getElem?_cons_zero, List.getElem?_cons_succ]; rfl)
            case hqq15 => exact fun _ _ _ h => h
            case hyq15 => (refine Or.inl ⟨by rfl, ?_⟩; intro w' hSw; (try dsimp only at hSw); go_simp; try with_reducible rfl)
            (try simp only [Act.put, List.setIfInBounds_toArray, List.set_cons_zero, List.set_cons_succ])
            refine' wpAnyT_one (i := 10) (o := ?oiq16) (by kernel_rfl) ?hiq16 (fun K hK => ?stq16)
            case hiq16 => (simp only [List.getElem?_toArray, List.getElem?_cons_zero, List.getElem?_cons_succ]; rfl)
            have hp15 : Yq22.heap[px]? = some (.cells (cS z6) 23) := ((hbb22.block _ (box_lt HZpx.out)).trans HZpx.out)
            obtain ⟨q0, q1, q2, q3, q4, q5⟩ := load6 hp15
            simp only [z6] at q0 q1 q2 q3 q4 q5
            have fp := box_fr hp15
            go_simp
            obtain ⟨YqN10, hY⟩ : ∃ X, set6 Yq22 px ⟨l', r', e', n', p', d'⟩ = X := ⟨_, rfl⟩
            have HP15 : Hid (YqN10.heap[px]? = some (.cells (cS ⟨l', r', e', n', p', d'⟩) 23)) := hid (by rw [← hY]; exact set6h ⟨l', r', e', n', p', d'⟩ hp15)
            have HMQ : Hid (MsgQ wr.heap.size YqN10 v9 ms) := hid (by rw [← hY]; exact ((HM9.out.below HCS.out (Below.refl _ _)).keepT (Nat.le_refl _) (keepT_set6 ⟨l', r', e', n', p', d'⟩ hp15)))
            have hbbnone10 : Below wr.heap.size wr YqN10 := by rw [← hY]; exact set6b ⟨l', r', e', n', p', d'⟩ (below_both hB0 (below_both hbb8 hbb22)) HPW.out
            simp only [set6] at hY
            rw [hY]
            clear hY hp15 q0 q1 q2 q3 q4 q5 fp
            clear hHeld
            have hHeld := HK.out YqN10 hbbnone10
            refine hK.out _ _ (fun _ => hHeld) ?_
            clear hK K
            refine' wpAnyT_one (i := 11) (o := ?oiq17) (by kernel_rfl) ?hiq17 (fun K hK => ?stq17)
            case hiq17 => (simp only [List.getElem?_toArray, List.getElem?_cons_zero, List.getElem?_cons_succ]; rfl)
            go_simp
            refine hK.out _ _ (fun h => absurd h (by decide)) ?_
            clear hK K
            (try simp only [Act.put, List.setIfInBounds_toArray, List.set_cons_zero, List.set_cons_succ])
            refine wpAnyT_done (by kernel_rfl) ?_ _
            exact HC.out YqN10 px v9 ⟨hbbnone10, HPW.out, HP15.out, HMQ.out⟩
        intro X1 px v9 ⟨hB, hpw, hpx, hmq⟩
        have HPX := hid hpx
        have HMQ := hid hmq
        have K5 : Hid (X1.heap[g]? = some (.cells (cS ⟨l, r, se, sn, sp, sd⟩) 23)) := hid ((hB.block _ (box_lt HK3.out)).trans HK3.out)
        have K7 : Hid (X1.heap[g + 1]? = some (.cells (cS z6) 23)) := hid ((hB.block _ (box_lt HK6.out)).trans HK6.out)
        have HB4 : Hid (Below g w X1) := hid (HB.out.trans (hB.mono HLW.out))
        have HPG : Hid (g + 1 < px) := hid (Nat.lt_of_lt_of_le (box_lt HK6.out) hpw)
        clear hB hpw hpx hmq
        go_upto_region 6 with fail
        obtain ⟨X0, hX0⟩ : ∃ X, X1.drew = X := ⟨_, rfl⟩
        have hp0 : X0.heap[px]? = some (.cells (cS ⟨l', r', e', n', p', d'⟩) 23) := by rw [← hX0]; exact HPX.out
        have hk0 : X0.heap[g]? = some (.cells (cS ⟨l, r, se, sn, sp, sd⟩) 23) := by rw [← hX0]; exact K5.out
        have hk1 : X0.heap[g + 1]? = some (.cells (cS z6) 23) := by rw [← hX0]; exact K7.out
        have hm0 : MsgQ wr.heap.size X0 v9 ms := by rw [← hX0]; exact HMQ.out
        have HB5 : Hid (Below g w X0) := hid (by rw [← hX0]; exact below_drew HB4.out)
        have hHeld := load6 hp0
        simp only at hHeld
        have HP0 := hid hp0
        have HG0 := hid hk0
        have HG1 := hid hk1
        have HMM := hid hm0.msgs
        have HX0 := hid hX0
        clear hX0 hp0 hk0 hk1 hm0
        refine region_tail 4 (fun X => X.cell? ⟨px, 0, none⟩ = some (.int .i64 l') ∧ X.cell? ⟨px, 1, none⟩ = some (.int .i64 r') ∧ X.cell? ⟨px, 2, none⟩ = some (.int .i64 e') ∧ X.cell? ⟨px, 3, none⟩ = some (.int .i64 n') ∧ X.cell? ⟨px, 4, none⟩ = some (.int .i64 p') ∧ X.cell? ⟨px, 5, none⟩ = some (.int .i64 d')) (by kernel_rfl) ?_
        rw [HX0.out]
        refine' wpAnyT_take (i := 0) (oi := ?oiz0) (v := ?vz0) ?hiz0 (by kernel_rfl) (by kernel_rfl) ?hqz0 ?hyz0 hHeld ?restz0
        case hiz0 => (simp only [List.getElem?_toArray, List.getElem?_cons_zero]; rfl)
        case hqz0 => exact fun _ _ _ h => h
        case hyz0 => (refine Or.inl ⟨by rfl, ?_⟩; intro w' hSw; (try dsimp only at hSw); go_simp; try with_reducible rfl)
        (try simp only [Act.put, List.setIfInBounds_toArray, List.set_cons_zero, List.set_cons_succ])
        refine' wpAnyT_take (i := 1) (oi := ?oiz1) (v := ?vz1) ?hiz1 (by kernel_rfl) (by kernel_rfl) ?hqz1 ?hyz1 hHeld ?restz1
        case hiz1 => (simp only [List.getElem?_toArray, List.getElem?_cons_zero, List.getElem?_cons_succ]; rfl)
        case hqz1 => exact fun _ _ _ h => h
        case hyz1 => (refine Or.inl ⟨by rfl, ?_⟩; intro w' hSw; (try dsimp only at hSw); go_simp; try with_reducible rfl)
        (try simp only [Act.put, List.setIfInBounds_toArray, List.set_cons_zero, List.set_cons_succ])
        refine' wpAnyT_take (i := 2) (oi := ?oiz2) (v := ?vz2) ?hiz2 (by kernel_rfl) (by kernel_rfl) ?hqz2 ?hyz2 hHeld ?restz2
        case hiz2 => (simp only [List.getElem?_toArray, List.getElem?_cons_zero, List.getElem?_cons_succ]; rfl)
        case hqz2 => exact fun _ _ _ h => h
        case hyz2 => (refine Or.inl ⟨by rfl, ?_⟩; intro w' hSw; (try dsimp only at hSw); go_simp; try with_reducible rfl)
        (try simp only [Act.put, List.setIfInBounds_toArray, List.set_cons_zero, List.set_cons_succ])
        refine' wpAnyT_one (i := 3) (o := ?oiz3) (by kernel_rfl) ?hiz3 (fun K hK => ?stz3)
        case hiz3 => (simp only [List.getElem?_toArray, List.getElem?_cons_zero, List.getElem?_cons_succ]; rfl)
        refine step_append_mes rfl (.tmp 26) (.tmp 27) rfl (g + 2) (.slice none 0 0) 0 [] rfl (World.ownsRow_nil _ _ _ _) ms v9 rfl HMM.out (by have := HML.out; omega) (by have := box_lt HP0.out; have := HPG.out; omega) ?_
        intro v8 X2 hown hgr
        have hb2 : Below X0.heap.size X0 X2 := (Below.refl _ X0).grown hgr (Nat.le_refl _) (fun k e => by simp [Value.ownBlock] at e)
        have HP2 := hid ((hb2.block _ (box_lt HP0.out)).trans HP0.out)
        have HG2 := hid ((hb2.block _ (box_lt HG0.out)).trans HG0.out)
        have HH2 := hid ((hb2.block _ (box_lt HG1.out)).trans HG1.out)
        have HB6 := hid (HB5.out.trans (hb2.mono (Nat.le_of_lt (box_lt HG0.out))))
        rw [Nat.zero_add, List.nil_append] at hown
        obtain ⟨A8, c8, rfl⟩ := ownAny_form hown
        have HOW := hid hown
        have hHeld := load6 HP2.out
        simp only at hHeld
        clear hown hgr hb2
        refine hK.out _ _ (fun _ => hHeld) ?_
        clear hK K
        (try simp only [Act.put, List.setIfInBounds_toArray, List.set_cons_zero, List.set_cons_succ])
        refine' wpAnyT_one (i := 4) (o := ?oiz4) (by kernel_rfl) ?hiz4 (fun K hK => ?stz4)
        case hiz4 => (simp only [List.getElem?_toArray, List.getElem?_cons_zero, List.getElem?_cons_succ]; rfl)
        obtain ⟨i0, i1, i2, i3, i4, i5⟩ := load6 HG2.out
        simp only at i0 i1 i2 i3 i4 i5
        have ff := box_fr HG2.out
        go_simp
        obtain ⟨Y, hY⟩ : ∃ X, set6 X2 g ⟨l', r', e', n', p', d'⟩ = X := ⟨_, rfl⟩
        have HY3 : Hid (Y.heap[g]? = some (.cells (cS ⟨l', r', e', n', p', d'⟩) 23)) := hid (by rw [← hY]; exact set6h ⟨l', r', e', n', p', d'⟩ HG2.out)
        have HY6 : Hid (Y.heap[g + 1]? = some (.cells (cS z6) 23)) := hid (by rw [← hY]; exact keep6 HH2.out (by omega) _)
        have HYM : Hid (MsgT Y (.slice A8 ms.length c8) ms) := hid (by rw [← hY]; exact own_msgT (own_keep HOW.out (keepT_set6 ⟨l', r', e', n', p', d'⟩ HG2.out)) HML.out)
        have HYB : Hid (Below g w Y) := hid (by rw [← hY]; exact set6b ⟨l', r', e', n', p', d'⟩ HB6.out (Nat.le_refl _))
        simp only [set6] at hY
        rw [hY]
        clear hY i0 i1 i2 i3 i4 i5 ff
        refine hK.out _ _ (fun h => absurd h (by decide)) ?_
        clear hK K
        (try simp only [Act.put, List.setIfInBounds_toArray, List.set_cons_zero, List.set_cons_succ])
        refine' wpAnyT_one (i := 5) (o := ?oiz5) (by kernel_rfl) ?hiz5 (fun K hK => ?stz5)
        case hiz5 => (simp only [List.getElem?_toArray, List.getElem?_cons_zero, List.getElem?_cons_succ]; rfl)
        go_simp
        refine hK.out _ _ (fun h => absurd h (by decide)) ?_
        clear hK K
        (try simp only [Act.put, List.setIfInBounds_toArray, List.set_cons_zero, List.set_cons_succ])
        refine wpAnyT_done (by kernel_rfl) ?_ _
        go_wp2_with fail
        go_roundw
        case rel => exact ⟨1, _, ms, _, _, _, by omega, by go_num, rfl, hid (fun h => absurd h (by decide)), hid (fun _ => ⟨rfl, rfl⟩), hid (HY3.out), hid (HY6.out), hid HYM.out, hid HYB.out⟩
        case measure => simp [RowKit.intOf]
      · obtain rfl : i = 1 := by omega
        obtain ⟨rfl, rfl⟩ := HQ1.out rfl
        obtain ⟨y0, y1, y2, y3, y4, y5⟩ := load6 HK3.out
        obtain ⟨v0, v1, v2, v3, v4, v5⟩ := load6 HK6.out
        have f6 := box_fr HK6.out
        simp only at y0 y1 y2 y3 y4 y5
        simp only [z6] at v0 v1 v2 v3 v4 v5
        go_wp2_with fail
        refine bodyPost_ret (results_s1 rfl _ _ (g + 1) 23 ⟨l', r', e', n', p', d'⟩ rfl (set6h ⟨l', r', e', n', p', d'⟩ HK6.out) _ rfl) rfl ?_
        refine ⟨_, rfl, ?_, by rw [HG.out]; exact set6b ⟨l', r', e', n', p', d'⟩ HB.out (Nat.le_succ _)⟩
        exact HMT.out.keep (keepT_set6 ⟨l', r', e', n', p', d'⟩ HK6.out)
end Go.Proofs.Ytkdladacmjkdoaa

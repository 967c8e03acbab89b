/- runlength's group, Decode's closure, Decode carried over. -/
import Derived.Test.YtldlddoealpomaaLx
import Derived.Defers
import Derived.Recover
import Derived.Laws.Pointers
namespace Go.Proofs.Ytldlddoealpomaa.Rl
open Go.RowKit Go.Lib

theorem keep_updc {T E : TypeId} {g : Nat} {a b : World} {x : Array Value} (h : Upd g a b) (hg : a.heap[g]? = some (.cells x E)) (hT : T ≠ E) : Keep T a b := fun i cs hi => by
  refine (h.block i (box_lt hi) (fun e => ?_)).trans hi
  subst e
  rw [hg] at hi
  cases hi
  exact hT rfl
theorem own_some {w : World} {base n c : Nat} {A : Option Addr} {xs : List Value} (h : w.ownsRow base 44 8 (.slice A n c) n xs) (hn : 0 < n) : ∃ b, A = some ⟨b, 0, none⟩ := by
  rcases h.2 with ⟨_, h0⟩ | ⟨g, cap, cur, e, _⟩
  · omega
  · injection e with e1
    exact ⟨g, e1⟩
theorem own_cells {w : World} {base n c b : Nat} {xs : List Value} (h : w.ownsRow base 44 8 (.slice (some ⟨b, 0, none⟩) n c) n xs) {j : Nat} {u : Value} (hj : xs[j]? = some u) : w.cell? ((⟨b, 0, none⟩ : Addr).add j) = some u := by
  rcases h.2 with ⟨e, _⟩ | ⟨g, cap, cur, e, _, hg, _, _, _, ht⟩
  · cases e
  · injection e with e1
    injection e1 with e1
    injection e1 with e1
    subst e1
    rw [add_at', cell_of_row _ _ _ _ _ _ hg]
    rw [← ht, List.getElem?_take] at hj
    split at hj
    · simpa using hj
    · cases hj
/-- What reading a group answers. -/
def GrpQ (w0 w : World) (g base most : Nat) (s : List Nat) (l : List Sect) (e : Ending) (w' : World) : Prop :=
  Below base w w' ∧ ((∃ gl t, dGrp (most - l.length) s = .ok (gl, t) ∧ (∃ v, e = .returned v) ∧ Secs gl ∧ Rdl w0 w' g base t (.int .i64 (most : Int)) (l ++ gl)) ∨ ∃ er, dGrp (most - l.length) s = .error er ∧ Pan er e)

set_option maxHeartbeats 4000000 in
set_option maxRecDepth 100000 in
theorem group_any (s : List Nat) (g base most : Nat) (l : List Sect) (w0 w : World) (hb0 : Below w0.heap.size w0 w) (hr : Rdl w0 w g base s (.int .i64 (most : Int)) l) (hs : s.length ≤ 90000) (hm : most ≤ 4096) (hl : l.length ≤ most) (hbg : base ≤ g) (h0b : w0.heap.size ≤ base) :
    Calls Try.prog 57 #[.pointer (some ⟨g, 0, none⟩)] w (GrpQ w0 w g base most s l) := by
  obtain ⟨lv, hrd, hown⟩ := hr
  have HN := hid (number_any s g _ lv w0 w hb0 hrd hs)
  have hgl := hrd.lt
  obtain ⟨v, hgb, hvb, hnb⟩ := hrd
  obtain ⟨lA, lc, rfl⟩ := own_form41 hown
  have HG0 := hid hgb
  have HO0 := hid hown
  have HS8 := hid hvb.1
  have HB0 := hid hb0
  obtain ⟨L, hL⟩ : ∃ L, l.length = L := ⟨_, rfl⟩
  have HL := hid hL
  rw [hL] at HN HG0 HO0 hl
  clear hgb hvb hnb hown hb0 hL
  go_enter Try.func57, Try.ntmps57
  go_wp2_with fail
  refine HN.out.mono ?_
  rintro e w1 ⟨hu1, ⟨x, t, hd, rfl, hr1⟩ | ⟨er, hd, hp⟩⟩
  · have HU1 := hid hu1
    have HO1 := hid (own_keep HO0.out (keep_updc hu1 HG0.out (by decide)))
    have HD := hid hd
    obtain ⟨v1, hg1, hv1, hn1⟩ := hr1
    have HG1 := hid hg1
    have hx53 : x ≤ 9007199254740991 := (num_code.once s x t HS8.out hd).2
    obtain ⟨q, hq⟩ : ∃ q, x / 4 = q := ⟨_, rfl⟩
    obtain ⟨r, hrr⟩ : ∃ r, x % 4 = r := ⟨_, rfl⟩
    have HQ := hid hq
    have HRR := hid hrr
    have he1 : (x : Int) % 4 = (r : Int) := by omega
    have he2 : (x : Int) / 4 = (q : Int) := by omega
    have hx0 : (0 : Int) ≤ (x : Int) := by omega
    have hr4 : r < 4 := by omega
    have hq53 : q ≤ 9007199254740991 := by omega
    have hb1 : Below base w w1 := hu1.below hbg (by have := hu1.low.size; omega)
    have HB1 := hid hb1
    have g1 : w1.cell? ⟨g, 1, none⟩ = some (.int .i64 (most : Int)) := cell_of_row _ _ 1 _ _ _ hg1
    have g2 : w1.cell? ⟨g, 2, none⟩ = some (.slice lA L lc) := cell_of_row _ _ 2 _ _ _ hg1
    have HV1 := hid hv1
    have HN1 := hid hn1
    clear hu1 hd hg1 hq hrr hb1 hv1 hn1
    by_cases hbad : 2 < r ∨ q = 0
    · have HE : Hid (dGrp (most - l.length) s = .error 3) := hid (by unfold dGrp; rw [HD.out]; simp only; rw [HQ.out, HRR.out, if_pos hbad])
      rcases Nat.lt_or_ge 2 r with h2 | h2
      · have d1 : decide ((2 : Int) < (r : Int)) = true := by simp; omega
        clear hbad
        go_wp2
        exact ⟨rfl, HB1.out, .inr ⟨3, HE.out, rfl⟩⟩
      · have d1 : decide ((2 : Int) < (r : Int)) = false := by simp; omega
        obtain rfl : q = 0 := by omega
        clear hbad
        go_wp2
        exact ⟨rfl, HB1.out, .inr ⟨3, HE.out, rfl⟩⟩
    · have d1 : decide ((2 : Int) < (r : Int)) = false := by simp; omega
      have d2 : ((q : Int) == 0) = false := by rw [beq_eq_false_iff_ne]; omega
      have hq0 : q ≠ 0 := by omega
      have hr2 : r ≤ 2 := by omega
      by_cases hlong : most - L < q
      · have HE : Hid (dGrp (most - l.length) s = .error 5) := hid (by unfold dGrp; rw [HD.out]; simp only; rw [HQ.out, HRR.out, if_neg hbad, HL.out, if_pos hlong])
        have d3 : decide ((most : Int) - (L : Int) < (q : Int)) = true := by simp; omega
        clear hbad
        go_wp2_with fail
        go_quiet (fail)
        go_wp2
        exact ⟨rfl, below_both_drewN HB1.out _, .inr ⟨5, HE.out, rfl⟩⟩
      · have d3 : decide ((most : Int) - (L : Int) < (q : Int)) = false := by simp; omega
        have HBAD := hid hbad
        have HLG := hid hlong
        clear hbad
        rcases r with _ | _ | _ | r
        · go_wp2_with fail
          go_quiet (fail)
          obtain ⟨w2, hw2⟩ : ∃ w2, w1.drewN nq = w2 := ⟨_, rfl⟩
          have HG2 := hid (show w2.heap[g]? = some (.cells #[v1, .int .i64 (most : Int), .slice lA L lc] 94) from hw2 ▸ HG1.out)
          have HO2 := hid (show w2.ownsRow base 44 8 (.slice lA L lc) L (l.map cSec).flatten from hw2 ▸ HO1.out)
          have HB2 := hid (show Below base w w2 from hw2 ▸ below_both_drewN HB1.out nq)
          have hz2 := HB2.out.size
          have HR2 := hid (show Rdr w0 w2 g t (.int .i64 (most : Int)) (.slice lA L lc) from ⟨v1, HG2.out, HV1.out, HN1.out⟩)
          have HB02 := hid (show Below w0.heap.size w0 w2 from HB0.out.trans (HB2.out.mono h0b))
          have hq4 : q ≤ 4096 := by omega
          have ht8 := hid HV1.out.1
          rw [hw2]
          clear hw2 g1 g2 HG1 HO1 HB1
          have HSC := hid (fun (n : Nat) (X : World) (hr : Rdr w0 X g t (.int .i64 (most : Int)) (.slice lA L lc)) (hn : n ≤ 4096) (hb : Below w0.heap.size w0 X) => sectors_any t g n _ _ w0 X hb hr hn (by omega))
          have HR2d : Hid (Rdr w0 w2.drew g t (.int .i64 (most : Int)) (.slice lA L lc)) := hid HR2.out
          have HO2d : Hid (w2.drew.ownsRow base 44 8 (.slice lA L lc) L (l.map cSec).flatten) := hid HO2.out
          have HG2d : Hid (w2.drew.heap[g]? = some (.cells #[v1, .int .i64 (most : Int), .slice lA L lc] 94)) := hid HG2.out
          have HB2d : Hid (Below base w w2.drew) := hid (below_drew HB2.out)
          have HB02d : Hid (Below w0.heap.size w0 w2.drew) := hid (below_drew HB02.out)
          go_wp2_with fail
          have hHeld : w2.drew.cell? ⟨g, 2, none⟩ = some (.slice lA L lc) := cell_of_row _ _ 2 _ _ _ HG2d.out
          refine region_tail 13 (fun X : World => X.cell? ⟨g, 2, none⟩ = some (.slice lA L lc)) (by kernel_rfl) ?_
          refine' wpAnyT_take (i := 0) (oi := ?oi1) (v := ?v1) ?hi1 (by kernel_rfl) (by kernel_rfl) ?hq1 ?hy1 hHeld ?rest1
          case hi1 => (simp only [List.getElem?_toArray, List.getElem?_cons_zero]; rfl)
          case hq1 => exact fun _ _ _ h => h
          case hy1 => (refine Or.inl ⟨by rfl, ?_⟩; intro w' hSw; (try dsimp only at hSw); go_simp; try with_reducible rfl)
          (try simp only [Act.put, List.setIfInBounds_toArray, List.set_cons_zero, List.set_cons_succ])
          refine' wpAnyT_take (i := 1) (oi := ?oi2) (v := ?v2) ?hi2 (by kernel_rfl) (by kernel_rfl) ?hq2 ?hy2 hHeld ?rest2
          case hi2 => (simp only [List.getElem?_toArray, List.getElem?_cons_zero, List.getElem?_cons_succ]; rfl)
          case hq2 => exact fun _ _ _ h => h
          case hy2 => (refine Or.inl ⟨by rfl, ?_⟩; intro w' hSw; (try dsimp only at hSw); go_simp; try with_reducible rfl)
          (try simp only [Act.put, List.setIfInBounds_toArray, List.set_cons_zero, List.set_cons_succ])
          refine' wpAnyT_take (i := 2) (oi := ?oi3) (v := ?v3) ?hi3 (by kernel_rfl) (by kernel_rfl) ?hq3 ?hy3 hHeld ?rest3
          case hi3 => (simp only [List.getElem?_toArray, List.getElem?_cons_zero, List.getElem?_cons_succ]; rfl)
          case hq3 => exact fun _ _ _ h => h
          case hy3 => (refine Or.inl ⟨by rfl, ?_⟩; intro w' hSw; (try dsimp only at hSw); go_simp; try with_reducible rfl)
          (try simp only [Act.put, List.setIfInBounds_toArray, List.set_cons_zero, List.set_cons_succ])
          refine' wpAnyT_take (i := 3) (oi := ?oi4) (v := ?v4) ?hi4 (by kernel_rfl) (by kernel_rfl) ?hq4 ?hy4 hHeld ?rest4
          case hi4 => (simp only [List.getElem?_toArray, List.getElem?_cons_zero, List.getElem?_cons_succ]; rfl)
          case hq4 => exact fun _ _ _ h => h
          case hy4 => (refine Or.inl ⟨by rfl, ?_⟩; intro w' hSw; (try dsimp only at hSw); go_simp; try with_reducible rfl)
          (try simp only [Act.put, List.setIfInBounds_toArray, List.set_cons_zero, List.set_cons_succ])
          refine' wpAnyT_take (i := 4) (oi := ?oi5) (v := ?v5) ?hi5 (by kernel_rfl) (by kernel_rfl) ?hq5 ?hy5 hHeld ?rest5
          case hi5 => (simp only [List.getElem?_toArray, List.getElem?_cons_zero, List.getElem?_cons_succ]; rfl)
          case hq5 => exact fun _ _ _ h => h
          case hy5 => (refine Or.inl ⟨by rfl, ?_⟩; intro w' hSw; (try dsimp only at hSw); go_simp; try with_reducible rfl)
          (try simp only [Act.put, List.setIfInBounds_toArray, List.set_cons_zero, List.set_cons_succ])
          refine' wpAnyT_take (i := 5) (oi := ?oi6) (v := ?v6) ?hi6 (by kernel_rfl) (by kernel_rfl) ?hq6 ?hy6 hHeld ?rest6
          case hi6 => (simp only [List.getElem?_toArray, List.getElem?_cons_zero, List.getElem?_cons_succ]; rfl)
          case hq6 => exact fun _ _ _ h => h
          case hy6 => (refine Or.inl ⟨by rfl, ?_⟩; intro w' hSw; (try dsimp only at hSw); go_simp; try with_reducible rfl)
          (try simp only [Act.put, List.setIfInBounds_toArray, List.set_cons_zero, List.set_cons_succ])
          refine' wpAnyT_take (i := 6) (oi := ?oi7) (v := ?v7) ?hi7 (by kernel_rfl) (by kernel_rfl) ?hq7 ?hy7 hHeld ?rest7
          case hi7 => (simp only [List.getElem?_toArray, List.getElem?_cons_zero, List.getElem?_cons_succ]; rfl)
          case hq7 => exact fun _ _ _ h => h
          case hy7 => (refine Or.inl ⟨by rfl, ?_⟩; intro w' hSw; (try dsimp only at hSw); go_simp; try with_reducible rfl)
          (try simp only [Act.put, List.setIfInBounds_toArray, List.set_cons_zero, List.set_cons_succ])
          refine' wpAnyT_take (i := 7) (oi := ?oi8) (v := ?v8) ?hi8 (by kernel_rfl) (by kernel_rfl) ?hq8 ?hy8 hHeld ?rest8
          case hi8 => (simp only [List.getElem?_toArray, List.getElem?_cons_zero, List.getElem?_cons_succ]; rfl)
          case hq8 => exact fun _ _ _ h => h
          case hy8 => (refine Or.inl ⟨by rfl, ?_⟩; intro w' hSw; (try dsimp only at hSw); go_simp; try with_reducible rfl)
          (try simp only [Act.put, List.setIfInBounds_toArray, List.set_cons_zero, List.set_cons_succ])
          refine' wpAnyT_take (i := 8) (oi := ?oi9) (v := ?v9) ?hi9 (by kernel_rfl) (by kernel_rfl) ?hq9 ?hy9 hHeld ?rest9
          case hi9 => (simp only [List.getElem?_toArray, List.getElem?_cons_zero, List.getElem?_cons_succ]; rfl)
          case hq9 => exact fun _ _ _ h => h
          case hy9 => (refine Or.inl ⟨by rfl, ?_⟩; intro w' hSw; (try dsimp only at hSw); go_simp; try with_reducible rfl)
          (try simp only [Act.put, List.setIfInBounds_toArray, List.set_cons_zero, List.set_cons_succ])
          refine' wpAnyT_one (i := 9) (o := ?oi981) (by kernel_rfl) ?hi981 (fun K hK => ?st981)
          case hi981 => (simp only [List.getElem?_toArray, List.getElem?_cons_zero, List.getElem?_cons_succ]; rfl)
          go_simp
          refine (HSC.out q w2.drew HR2d.out hq4 HB02d.out).mono ?_
          rintro e W3 ⟨hu3, ⟨hle, v3, rfl, ho3, hr3⟩ | ⟨hlt, hp⟩⟩
          rotate_left
          · have HE : Hid (dGrp (most - l.length) s = .error 10) := hid (by unfold dGrp; rw [HD.out]; simp only; rw [HQ.out, HRR.out, if_neg HBAD.out, HL.out, if_neg HLG.out, if_neg (by omega), if_neg (by omega), if_pos hlt])
            have hb3 : Below base w W3 := HB2d.out.trans (hu3.below hbg (by have := HB2d.out.size; omega))
            subst hp
            exact ⟨rfl, hb3, .inr ⟨10, HE.out, rfl⟩⟩
          have HE : Hid (dGrp (most - l.length) s = .ok (chk q t, t.drop (8 * q))) := hid (by unfold dGrp; rw [HD.out]; simp only; rw [HQ.out, HRR.out, if_neg HBAD.out, HL.out, if_neg HLG.out, if_neg (by omega), if_neg (by omega), if_neg (by omega)])
          have HB3 := hid (show Below base w W3 from HB2d.out.trans (hu3.below hbg (by have := HB2d.out.size; omega)))
          have HO3 := hid (own_keep HO2d.out (keep_updc hu3 HG2d.out (by decide)))
          obtain ⟨v5, hg3, hv3, hn3⟩ := hr3
          have hsecs := chk_secs q t ht8.out hle
          obtain ⟨a3, c3, rfl⟩ := own_form41 ho3
          obtain ⟨b3, rfl⟩ := own_some ho3 (by omega)
          have HSRC := hid (fun (j : Nat) (u : Value) (hj : ((chk q t).map cSec).flatten[j]? = some u) => own_cells ho3 hj)
          have HSEC := hid hsecs
          have HG3 := hid hg3
          have HV3 := hid hv3
          have HN3 := hid hn3
          have hz3 := HB3.out.size
          clear hHeld hu3 hle ho3 hg3 hv3 hn3 hsecs
          have hHeld : W3.cell? ⟨g, 2, none⟩ = some (.slice lA L lc) := cell_of_row _ _ 2 _ _ _ HG3.out
          refine hK.out _ _ (fun _ => hHeld) ?_
          clear hK K
          (try simp only [Act.put, List.setIfInBounds_toArray, List.set_cons_zero, List.set_cons_succ])
          refine' wpAnyT_one (i := 10) (o := ?oi982) (by kernel_rfl) ?hi982 (fun K hK => ?st982)
          case hi982 => (simp only [List.getElem?_toArray, List.getElem?_cons_zero, List.getElem?_cons_succ]; rfl)
          refine step_append_secs rfl (.tmp 40) (.tmp 45) rfl base (.slice lA L lc) L _ (by simp [Act.eval]) HO3.out ⟨b3, 0, none⟩ (chk q t) q c3 (chk_len _ _) HSEC.out (by simp [Act.eval]) HSRC.out (by omega) (by omega) ?_
          intro v7 W7 ho7 hg7 _
          have HG7 := hid (keep_grown HO3.out (T := 94) (by decide) hg7 _ _ HG3.out)
          have HB7 := hid (show Below base w W7 from HB3.out.grown hg7 (by omega) (fun k e => (HO3.out.lt k e).1))
          obtain ⟨lA7, lc7, rfl⟩ := own_form41 ho7
          have HO7 := hid ho7
          have hz7 := hg7.size
          clear hg7 ho7 hHeld
          have hHeld : W7.cell? ⟨g, 2, none⟩ = some (.slice lA L lc) := cell_of_row _ _ 2 _ _ _ HG7.out
          have f7 := box_fr HG7.out 2
          refine hK.out _ _ (fun _ => hHeld) ?_
          clear hK K
          (try simp only [Act.put, List.setIfInBounds_toArray, List.set_cons_zero, List.set_cons_succ])
          refine' wpAnyT_take (i := 11) (oi := ?oi10) (v := ?v10) ?hi10 (by kernel_rfl) (by kernel_rfl) ?hq10 ?hy10 hHeld ?rest10
          case hi10 => (simp only [List.getElem?_toArray, List.getElem?_cons_zero, List.getElem?_cons_succ]; rfl)
          case hq10 => exact fun _ _ _ h => h
          case hy10 => (refine Or.inl ⟨by rfl, ?_⟩; intro w' hSw; (try dsimp only at hSw); go_simp; try with_reducible rfl)
          (try simp only [Act.put, List.setIfInBounds_toArray, List.set_cons_zero, List.set_cons_succ])
          refine' wpAnyT_take (i := 12) (oi := ?oi11) (v := ?v11) ?hi11 (by kernel_rfl) (by kernel_rfl) ?hq11 ?hy11 hHeld ?rest11
          case hi11 => (simp only [List.getElem?_toArray, List.getElem?_cons_zero, List.getElem?_cons_succ]; rfl)
          case hq11 => exact fun _ _ _ h => h
          case hy11 => (refine Or.inl ⟨by rfl, ?_⟩; intro w' hSw; (try dsimp only at hSw); go_simp; try with_reducible rfl)
          (try simp only [Act.put, List.setIfInBounds_toArray, List.set_cons_zero, List.set_cons_succ])
          refine' wpAnyT_one (i := 13) (o := ?oi12) (by kernel_rfl) ?hi12 (fun K hK => ?st12)
          case hi12 => (simp only [List.getElem?_toArray, List.getElem?_cons_zero, List.getElem?_cons_succ]; rfl)
          go_simp
          refine hK.out _ _ (fun h => absurd h (by decide)) ?_
          clear hK K
          (try simp only [Act.put, List.setIfInBounds_toArray, List.set_cons_zero, List.set_cons_succ])
          refine wpAnyT_done (by kernel_rfl) ?_ _
          have hlen : (l ++ chk q t).length = L + q := by rw [List.length_append, HL.out, chk_len]
          have hfl : ((l ++ chk q t).map cSec).flatten = (l.map cSec).flatten ++ ((chk q t).map cSec).flatten := by rw [List.map_append, List.flatten_append]
          have HFIN := hid (show GrpQ w0 w g base most s l (.returned (.tuple #[])) (W7.setCell ⟨g, 2, none⟩ (.slice lA7 (L + q) lc7)) from
            ⟨HB7.out.setCell (p := ⟨g, 2, none⟩) hbg _, .inl ⟨chk q t, t.drop (8 * q), HE.out, ⟨_, rfl⟩, HSEC.out, _, ⟨_, box3_s2 HG7.out _, HV3.out, HN3.out⟩, by rw [hlen, hfl]; exact own_keep HO7.out (keep_setc HG7.out (by decide))⟩⟩)
          clear hlen hfl
          go_wp2
          go_end0
          exact HFIN.out
        · go_wp2_with fail
          go_quiet (fail)
          obtain ⟨w2, hw2⟩ : ∃ w2, w1.drewN nq = w2 := ⟨_, rfl⟩
          have HG2 := hid (show w2.heap[g]? = some (.cells #[v1, .int .i64 (most : Int), .slice lA L lc] 94) from hw2 ▸ HG1.out)
          have HO2 := hid (show w2.ownsRow base 44 8 (.slice lA L lc) L (l.map cSec).flatten from hw2 ▸ HO1.out)
          have HB2 := hid (show Below base w w2 from hw2 ▸ below_both_drewN HB1.out nq)
          have hz2 := HB2.out.size
          have HR2 := hid (show Rdr w0 w2 g t (.int .i64 (most : Int)) (.slice lA L lc) from ⟨v1, HG2.out, HV1.out, HN1.out⟩)
          have HB02 := hid (show Below w0.heap.size w0 w2 from HB0.out.trans (HB2.out.mono h0b))
          have hq4 : q ≤ 4096 := by omega
          have ht8 := hid HV1.out.1
          rw [hw2]
          clear hw2 g1 g2 HG1 HO1 HB1
          have HSC := hid (fun (X : World) (hr : Rdr w0 X g t (.int .i64 (most : Int)) (.slice lA L lc)) (hb : Below w0.heap.size w0 X) => sectors_any t g 1 _ _ w0 X hb hr (by omega) (by omega))
          have HRP := hid (fun (s' : List Nat) (x : Sect) (X : World) (hb : Below w0.heap.size w0 X) (hr : Rdl w0 X g base s' (.int .i64 (most : Int)) l) (h1 : x.length = 8) (h2 : B8 x) => repeat_any s' x q g base (.int .i64 (most : Int)) l w0 X hb hr h1 h2 hq4 (by have := HL.out; omega) hbg)
          go_wp2_with fail
          refine (HSC.out w2 HR2.out HB02.out).mono ?_
          rintro e W3 ⟨hu3, ⟨hle, v3, rfl, ho3, hr3⟩ | ⟨hlt, hp⟩⟩
          · have HE : Hid (dGrp (most - l.length) s = .ok (List.replicate q (t.take 8), t.drop 8)) := hid (by unfold dGrp; rw [HD.out]; simp only; rw [HQ.out, HRR.out, if_neg HBAD.out, HL.out, if_neg HLG.out, if_neg (by omega), if_pos rfl, if_neg (by omega)])
            have HB3 := hid (show Below base w W3 from HB2.out.trans (hu3.below hbg (by have := HB2.out.size; omega)))
            have HO3 := hid (own_keep HO2.out (keep_updc hu3 HG2.out (by decide)))
            have HR3 := hid hr3
            have h8l : (t.take 8).length = 8 := by rw [List.length_take]; omega
            have hB8 : B8 (t.take 8) := fun y hy => ht8.out y (List.mem_of_mem_take hy)
            obtain ⟨a3, c3, rfl⟩ := own_form41 ho3
            obtain ⟨b3, rfl⟩ := own_some ho3 (by omega)
            have hsc : Sc W3 b3 0 (t.take 8) := fun j u hj => by
              have h := own_cells ho3 (j := j) (u := u) (by rw [show chk 1 t = [t.take 8] from rfl]; simpa using hj)
              rw [add_at'] at h
              rw [Nat.zero_add]
              exact h
            obtain ⟨x8, hx8⟩ : ∃ x8, t.take 8 = x8 := ⟨_, rfl⟩
            rw [hx8] at h8l hB8 hsc HE
            have HB83 := hid (show Below w0.heap.size w0 W3 from HB02.out.trans (hu3.below (by omega) HB02.out.size))
            clear hx8 hu3 ho3 hr3 hle
            obtain ⟨y0, y1, y2, y3, y4, y5, y6, y7, rfl⟩ := list8 h8l
            obtain ⟨p0, p1, p2, p3, p4, p5, p6, p7⟩ := hsc.facts
            rw [Nat.zero_add] at p1 p2 p3 p4 p5 p6 p7
            have HRPc := hid (HRP.out (t.drop 8) _ W3 HB83.out ⟨_, (show Rdr w0 W3 g (t.drop 8) (.int .i64 (most : Int)) (.slice lA L lc) from HR3.out), by rw [HL.out]; exact HO3.out⟩ rfl hB8)
            clear hsc h8l
            go_wp2_with fail
            refine HRPc.out.mono ?_
            rintro e W5 ⟨⟨v5, rfl⟩, hb5, hr5⟩
            have HFIN := hid (show GrpQ w0 w g base most s l (.returned (.tuple #[])) W5 from ⟨HB3.out.trans hb5, .inl ⟨_, _, HE.out, ⟨_, rfl⟩, (fun z hz => by have := List.eq_of_mem_replicate hz; subst this; exact ⟨rfl, hB8⟩), hr5⟩⟩)
            clear hb5 hr5
            go_wp2
            go_end0
            exact HFIN.out
          · have HE : Hid (dGrp (most - l.length) s = .error 10) := hid (by unfold dGrp; rw [HD.out]; simp only; rw [HQ.out, HRR.out, if_neg HBAD.out, HL.out, if_neg HLG.out, if_neg (by omega), if_pos rfl, if_pos (by omega)])
            have hb3 : Below base w W3 := HB2.out.trans (hu3.below hbg (by have := HB2.out.size; omega))
            subst hp
            exact ⟨rfl, hb3, .inr ⟨10, HE.out, rfl⟩⟩
        · go_wp2_with fail
          go_quiet (fail)
          obtain ⟨w2, hw2⟩ : ∃ w2, w1.drewN nq = w2 := ⟨_, rfl⟩
          have HG2 := hid (show w2.heap[g]? = some (.cells #[v1, .int .i64 (most : Int), .slice lA L lc] 94) from hw2 ▸ HG1.out)
          have HO2 := hid (show w2.ownsRow base 44 8 (.slice lA L lc) L (l.map cSec).flatten from hw2 ▸ HO1.out)
          have HB2 := hid (show Below base w w2 from hw2 ▸ below_both_drewN HB1.out nq)
          have hz2 := HB2.out.size
          have HR2 := hid (show Rdr w0 w2 g t (.int .i64 (most : Int)) (.slice lA L lc) from ⟨v1, HG2.out, HV1.out, HN1.out⟩)
          have HB02 := hid (show Below w0.heap.size w0 w2 from HB0.out.trans (HB2.out.mono h0b))
          have hq4 : q ≤ 4096 := by omega
          have ht8 := hid HV1.out.1
          rw [hw2]
          clear hw2 g1 g2 HG1 HO1 HB1
          have HE : Hid (dGrp (most - l.length) s = .ok (List.replicate q zs, t)) := hid (by unfold dGrp; rw [HD.out]; simp only; rw [HQ.out, HRR.out, if_neg HBAD.out, HL.out, if_neg HLG.out, if_pos rfl])
          have HRPc := hid (repeat_any t zs q g base (.int .i64 (most : Int)) l w0 w2 HB02.out ⟨_, HR2.out, by rw [HL.out]; exact HO2.out⟩ zs8.1 zs8.2 hq4 (by have := HL.out; omega) hbg)
          go_wp2_with fail
          refine HRPc.out.mono ?_
          rintro e W5 ⟨⟨v5, rfl⟩, hb5, hr5⟩
          have HFIN := hid (show GrpQ w0 w g base most s l (.returned (.tuple #[])) W5 from ⟨HB2.out.trans hb5, .inl ⟨_, _, HE.out, ⟨_, rfl⟩, (fun z hz => by have := List.eq_of_mem_replicate hz; subst this; exact zs8), hr5⟩⟩)
          clear hb5 hr5
          go_wp2
          go_end0
          exact HFIN.out
        · omega
  · have HE : Hid (dGrp (most - l.length) s = .error er) := hid (by unfold dGrp; rw [hd])
    have hb1 : Below base w w1 := hu1.below hbg (by omega)
    subst hp
    exact ⟨rfl, hb1, .inr ⟨er, HE.out, rfl⟩⟩
end Go.Proofs.Ytldlddoealpomaa.Rl

namespace Go.Proofs.Ytldlddoealpomaa.Rl
open Go.RowKit Go.Lib

set_option maxRecDepth 100000 in
theorem catch_idle (p q : Addr) (w : World) :
    CallsD Try.prog 56 #[.pointer (some p), .pointer (some q)] .returning w fun e u' w' => e = .returned (.tuple #[]) ∧ u' = .returning ∧ w' = w := by
  refine callsD_of_wpS Try.func56 rfl fun c₀ cs hu => ?_
  apply wpS_seq
  apply wpS_region
  simp [wpOpsS, go_sem, recoverD, hu, Try.ntmps56, Exit.thenS]
  apply wpS_seq
  apply wpS_region
  simp [wpOpsS, go_sem, Act.eval, Array.replicate, Exit.thenS]
  refine wpS_cond (t := false) (by simp [Act.eval]) ?_
  simp only [Bool.false_eq_true, if_false]
  refine wpS_of_wp (wp_skip ?_)
  cases c₀
  simp_all [bodyPostS, results, Try.results56]
/-- The world behind a panic that was recovered. -/
def Caught (w w' : World) (a b : Nat) (er : Int) : Prop := ∃ n, w' = ((w.setCell ⟨a, 0, none⟩ (.slice none 0 0)).setCell ⟨b, 0, none⟩ (.int .i64 er)).drewN n
theorem und29 : Try.prog.underlying 27 = some (.int .i64) := by kernel_rfl
set_option maxRecDepth 100000 in
theorem run_assert (er : Int) (W : World) : (Instr.typeAssert (.iface 27 (.int .i64 er)) 20 27 false).run Try.prog W = .ok (.int .i64 er) W := by
  simp [Instr.typeAssert, run_underlying und29, Sem.run_bind]
set_option maxRecDepth 100000 in
theorem catch_pan (a b : Nat) (er : Int) (x y : Value) (older : List PanicEntry) (w : World) (h1 : Boxed w a 33 x) (h2 : Boxed w b 27 y) (hab : a ≠ b) :
    CallsD Try.prog 56 #[.pointer (some ⟨a, 0, none⟩), .pointer (some ⟨b, 0, none⟩)] (.panicking ({ v := .iface 27 (.int .i64 er), recovered := false } :: older)) w fun e u' w' =>
      e = .returned (.tuple #[]) ∧ u' = .panicking ({ v := .iface 27 (.int .i64 er), recovered := true } :: older) ∧ Caught w w' a b er := by
  refine callsD_of_wpS Try.func56 rfl fun c₀ cs hu => ?_
  apply wpS_seq
  apply wpS_region
  simp [wpOpsS, go_sem, recoverD, hu, Try.ntmps56, Exit.thenS]
  apply wpS_seq
  apply wpS_region
  simp [wpOpsS, go_sem, Act.eval, Array.replicate, Exit.thenS]
  refine wpS_cond (t := true) (by simp [Act.eval]) ?_
  simp only [if_true]
  refine wpS_of_wp ?_
  have c1 := h1.cell
  have c2 := h2.cell
  have f1 := h1.frozen
  have f2 := h2.frozen

  have hra := run_assert er
  have hba : ¬ b = a := fun e => hab e.symm
  have c3 := (World.cell?_setCell_other w ⟨a, 0, none⟩ ⟨b, 0, none⟩ (.slice none 0 0) (by intro e; injection e with e _; exact hab e)).trans c2
  go_region
  have hfin : Caught w ((w.setCell ⟨a, 0, none⟩ (.slice none 0 0)).setCell ⟨b, 0, none⟩ (.int .i64 er)).drew a b er := ⟨1, rfl⟩
  simp [bodyPostS, results, Try.results56]
  exact hfin
end Go.Proofs.Ytldlddoealpomaa.Rl

namespace Go.Proofs.Ytldlddoealpomaa.Rl
open Go.RowKit Go.Lib

/-- The bound that Decode takes. -/
def capm (most : Int) : Nat := (min (max most 0) 4096).toNat
/-- What Decode answers. -/
def DecQ (w : World) (b : List Nat) (most : Nat) (e : Ending) (w' : World) : Prop :=
  Below w.heap.size w w' ∧ ((∃ l lv, dec most b = .ok l ∧ e = .returned (.tuple #[lv, .int .i64 0]) ∧ Secs l ∧ w'.ownsRow w.heap.size 44 8 lv l.length (l.map cSec).flatten) ∨ ∃ er, dec most b = .error er ∧ e = .returned (.tuple #[.slice none 0 0, .int .i64 er]))

def lenAt (g : Nat) (w : World) : Nat := match w.cell? ⟨g, 0, none⟩ with
  | some (.slice _ n _) => n
  | _ => 0
theorem own_base {w : World} {base base' E st n : Nat} {v : Value} {xs : List Value} (h : w.ownsRow base E st v n xs) (hb : base' ≤ base) : w.ownsRow base' E st v n xs :=
  ⟨h.1, h.2.imp id fun ⟨g, cap, cur, e, hg, r⟩ => ⟨g, cap, cur, e, by omega, r⟩⟩
theorem sec_of_own {w : World} {base : Nat} {v : Value} {l : List Sect} (h : w.ownsRow base 44 8 v l.length (l.map cSec).flatten) (hl : Secs l) : Sec w v l := by
  refine ⟨hl, ?_⟩
  have h' : w.ownsRow base 44 8 v (l.map cSec).length (l.map cSec).flatten := by rw [List.length_map]; exact h
  exact arr_of_own h' rfl (fun r hr => by
    obtain ⟨s, hs, rfl⟩ := List.mem_map.1 hr
    unfold cSec
    rw [List.length_map]
    exact (hl s hs).1)
theorem boxed_set1 {w : World} {g i : Nat} {T : TypeId} {v u : Value} (h : Boxed w (g + 1) T v) : Boxed (w.setCell ⟨g, i, none⟩ u) (g + 1) T v := (Below.heap_setCell _ _ _ _ (by simp)).trans h
theorem b8_flat {g : List Sect} (h : Secs g) : B8 g.flatten := fun x hx => by
  obtain ⟨s, hs, hx⟩ := List.mem_flatten.1 hx
  exact (h s hs).2 x hx
theorem b8_encG {l : List Sect} (h : Secs l) : B8 (encG l) := by
  have ht : Secs (l.take (cnt l)) := fun s hs => h s (List.mem_of_mem_take hs)
  refine (enc_b8 _).append ?_
  unfold body
  split
  · exact b8_flat ht
  split
  · exact b8_flat (fun s hs => ht s (List.mem_of_mem_take hs))
  · intro x hx; cases hx
theorem b8_rl (n : Nat) : ∀ l : List Sect, l.length ≤ n → Secs l → B8 (rl l) := by
  induction n with
  | zero => intro l hl _; rw [List.eq_nil_of_length_eq_zero (Nat.le_zero.1 hl), rl_nil]; intro x hx; cases hx
  | succ n ih =>
    intro l hl h
    by_cases h0 : l = []
    · subst h0; rw [rl_nil]; intro x hx; cases hx
    · have hc := cnt_pos h0
      rw [rl_cons h0]
      exact (b8_encG h).append (ih _ (by rw [List.length_drop]; have := List.length_pos_iff.2 h0; omega) fun s hs => h s (List.mem_of_mem_drop hs))
theorem boxed_below {w w' : World} {B g : Nat} {T : TypeId} {v : Value} (h : Boxed w g T v) (hb : Below B w w') (hg : g < B) : Boxed w' g T v := (hb.block g hg).trans h

set_option maxHeartbeats 4000000 in
set_option maxRecDepth 100000 in
theorem decode_any (b : List Nat) (v : Value) (most : Int) (w : World) (hv : Byt w v b) (hn : NilOk v) (hl : b.length ≤ 90000) :
    Calls Try.prog 38 #[v, .int .i64 most] w (DecQ w b (capm most)) := by
  have hmf : ∀ (fn : Fn) (first cap : Array Value) (w : World), (Instr.makeFunc fn first cap).run Try.prog w = .ok (.func fn first cap) w := fun _ _ _ _ => rfl
  obtain ⟨A, c, rfl⟩ := byt_form hv
  have HV := hid hv
  have HN := hid hn
  clear hv hn
  have hcap : min (max most 0) 4096 = ((capm most : Nat) : Int) := by unfold capm; omega
  have hM4 : capm most ≤ 4096 := by unfold capm; omega
  obtain ⟨W3, hW3⟩ : ∃ W3, ((w.alloc (.cells #[.slice none 0 0] 33)).alloc (.cells #[.int .i64 0] 27)).alloc (.cells #[.slice A b.length c, .int .i64 (capm most : Nat), .slice none 0 0] 94) = W3 := ⟨_, rfl⟩
  have hz3 : W3.heap.size = w.heap.size + 3 := by rw [← hW3]; simp
  have hB3 : Below w.heap.size w W3 := by rw [← hW3]; exact (((Below.refl _ w).alloc (Nat.le_refl _) _).alloc (by simp) _).alloc (by simp; omega) _
  have hx0 : Boxed W3 w.heap.size 33 (.slice none 0 0) := by rw [← hW3]; exact (Below.heap_alloc _ _ _ (by simp; omega)).trans ((Below.heap_alloc _ _ _ (by simp)).trans (heap_alloc_new w _))
  have hx1 : Boxed W3 (w.heap.size + 1) 27 (.int .i64 0) := by
    rw [← hW3]
    refine (Below.heap_alloc _ _ _ (by simp)).trans ?_
    have h := heap_alloc_new (w.alloc (.cells #[.slice none 0 0] 33)) (.cells #[.int .i64 0] 27)
    rw [show (w.alloc (.cells #[.slice none 0 0] 33)).heap.size = w.heap.size + 1 by simp] at h
    exact h
  have hx2 : W3.heap[w.heap.size + 2]? = some (.cells #[.slice A b.length c, .int .i64 (capm most : Nat), .slice none 0 0] 94) := by
    rw [← hW3]
    have h := heap_alloc_new ((w.alloc (.cells #[.slice none 0 0] 33)).alloc (.cells #[.int .i64 0] 27)) (.cells #[.slice A b.length c, .int .i64 (capm most : Nat), .slice none 0 0] 94)
    rw [show ((w.alloc (.cells #[.slice none 0 0] 33)).alloc (.cells #[.int .i64 0] 27)).heap.size = w.heap.size + 2 by simp] at h
    exact h
  obtain ⟨M, hM⟩ : ∃ M, capm most = M := ⟨_, rfl⟩
  rw [hM] at hcap hM4 hW3 hx2 ⊢
  have HR0 : Hid (Rdl w W3 (w.heap.size + 2) (w.heap.size + 2) b (.int .i64 (M : Int)) []) := hid ⟨.slice none 0 0, ⟨_, hx2, HV.out, HN.out⟩, World.ownsRow_nil _ _ _ _⟩
  have HX0 := hid hx0
  have HX1 := hid hx1
  have HB3 := hid hB3
  clear hM hx0 hx1 hx2 hB3
  have HW3 := hid hW3
  have HCAP := hid hcap
  clear hW3 hcap
  go_enter_defers Try.func38, Try.ntmps38
  go_wp2_with fail
  rw [HCAP.out]
  have hW3' : ((w.alloc (.cells #[.slice none 0 0] 33)).alloc (.cells #[.int .i64 0] 27)).alloc (.cells #[.slice A b.length c, .int .i64 (M : Int), .slice none 0 0] 94) = W3 := HW3.out
  rw [hW3']
  clear HW3 hW3' HCAP
  go_loopw [] (fun wr => ∃ (l : List Sect) (t : List Nat), t.length ≤ 90000 ∧ l.length ≤ M ∧ Hid (Rdl w wr (w.heap.size + 2) (w.heap.size + 2) t (.int .i64 (M : Int)) l) ∧ Hid (Secs l) ∧ Hid (dA M [] b = dA M l t) ∧ Hid (Below w.heap.size w wr) ∧ Hid (Boxed wr w.heap.size 33 (.slice none 0 0)) ∧ Hid (Boxed wr (w.heap.size + 1) 27 (.int .i64 0)) ∧ w.heap.size + 3 ≤ wr.heap.size) (fun wr => lenAt (w.heap.size + 2) wr)
  case atStart => exact ⟨[], b, hl, Nat.zero_le _, HR0, hid (fun s h => by cases h), hid rfl, HB3, HX0, HX1, by omega⟩
  case round =>
    clear HR0 HX0 HX1 HB3 hz3
    obtain ⟨l, t, htl, hlm, HR, HS, HD, HB, HX0, HX1, hz⟩ := hrel
    obtain ⟨lv, ⟨v, hg, hvv, hnv⟩, hown⟩ := HR.out
    obtain ⟨A1, c1, rfl⟩ := byt_form hvv
    have c0 : wr.cell? ⟨w.heap.size + 2, 0, none⟩ = some (.slice A1 t.length c1) := cell_of_row _ _ 0 _ _ _ hg
    have HG := hid hg
    have HOW := hid hown
    have HVV := hid hvv
    clear hg hvv hnv hown
    by_cases h0 : t = []
    · subst h0
      obtain ⟨lA, lc, rfl⟩ := own_form41 HOW.out
      have g2 : wr.cell? ⟨w.heap.size + 2, 2, none⟩ = some (.slice lA l.length lc) := cell_of_row _ _ 2 _ _ _ HG.out
      have HE := hid (encode_any l _ wr (sec_of_own HOW.out HS.out) (by omega))
      have H8 := hid (b8_rl _ l (Nat.le_refl _) HS.out)
      have HDC : Hid (dA M [] b = .ok l) := hid (by rw [HD.out]; exact dA_nil _ _)
      go_wp2_with fail
      refine HE.out.mono ?_
      rintro e w4 ⟨v4, rfl, ho4, hb4⟩
      have HB4 := hid (HB.out.trans (hb4.mono (show w.heap.size ≤ wr.heap.size by omega)))
      have HQ := hid (equal_any (rl l) b v4 (.slice A b.length c) w4 (byt_of_own ho4 H8.out) (HV.out.below HB4.out))
      have HX4 := hid (boxed_below HX0.out hb4 (by omega))
      have HY4 := hid (boxed_below HX1.out hb4 (by omega))
      have g24 : w4.cell? ⟨w.heap.size + 2, 2, none⟩ = some (.slice lA l.length lc) := (hb4.cell (p := ⟨w.heap.size + 2, 2, none⟩) (show w.heap.size + 2 < wr.heap.size by omega)).trans g2
      have HO4 := hid (own_keep HOW.out (keep_below hb4))
      have hz4 : w.heap.size + 3 ≤ w4.heap.size := by have := hb4.size; omega
      clear ho4 hb4 HX0 HX1 HOW c0 g2 hz
      go_wp2_with fail
      refine HQ.out.mono ?_
      rintro e w5 ⟨rfl, rfl⟩
      by_cases heq : rl l = b
      · rw [decide_eq_true heq]
        clear HQ
        have f0 := HX4.out.frozen
        have f1 := HY4.out.frozen
        have x0 := HX4.out.cell
        have x1 := HY4.out.cell
        have x2 := (World.cell?_setCell_other w4 ⟨w.heap.size, 0, none⟩ ⟨w.heap.size + 1, 0, none⟩ (.slice lA l.length lc) (by intro e; injection e with e _; omega)).trans x1
        go_wp2_with fail
        have y0 := World.cell?_setCell_same w4 ⟨w.heap.size, 0, none⟩ (.slice lA l.length lc) x0
        have hne : ((⟨w.heap.size + 1, 0, none⟩ : Addr)) ≠ ⟨w.heap.size, 0, none⟩ := by intro e; injection e with e _; omega
        have y1 := (World.cell?_setCell_other (w4.setCell ⟨w.heap.size, 0, none⟩ (.slice lA l.length lc)) ⟨w.heap.size + 1, 0, none⟩ ⟨w.heap.size, 0, none⟩ (.int .i64 0) hne).trans y0
        have y2 := World.cell?_setCell_same (w4.setCell ⟨w.heap.size, 0, none⟩ (.slice lA l.length lc)) ⟨w.heap.size + 1, 0, none⟩ (.int .i64 0) x2
        refine leaves_cons (f := 56) (args := #[.pointer (some ⟨w.heap.size, 0, none⟩), .pointer (some ⟨w.heap.size + 1, 0, none⟩)]) (by simp) (by simp [go_sem]) ?_
        refine (catch_idle _ _ _).mono ?_
        rintro e u' w' ⟨rfl, rfl, rfl⟩
        simp [Leaves, settle, results, Try.results38, go_sem, y0, y2]
        refine ⟨(HB4.out.setCell (Nat.le_refl _) _).setCell (Nat.le_succ _) _, .inl ⟨l, _, ?_, rfl, HS.out, own_base (own_keep (own_keep HO4.out (keep_setc (i := 0) HX4.out (by decide))) (keep_setc (i := 0) (boxed_set1 HY4.out) (by decide))) (by omega)⟩⟩
        unfold dec
        rw [HDC.out]
        exact if_pos heq
      · rw [decide_eq_false heq]
        clear HQ
        have f0 := HX4.out.frozen
        have f1 := HY4.out.frozen
        have x0 := HX4.out.cell
        have x1 := HY4.out.cell
        have x2 := (World.cell?_setCell_other w4 ⟨w.heap.size, 0, none⟩ ⟨w.heap.size + 1, 0, none⟩ (.slice none 0 0) (by intro e; injection e with e _; omega)).trans x1
        go_wp2_with fail
        have y0 := World.cell?_setCell_same w4 ⟨w.heap.size, 0, none⟩ (.slice none 0 0) x0
        have y2 := World.cell?_setCell_same (w4.setCell ⟨w.heap.size, 0, none⟩ (.slice none 0 0)) ⟨w.heap.size + 1, 0, none⟩ (.int .i64 3) x2
        refine leaves_cons (f := 56) (args := #[.pointer (some ⟨w.heap.size, 0, none⟩), .pointer (some ⟨w.heap.size + 1, 0, none⟩)]) (by simp) (by simp [go_sem]) ?_
        refine (catch_idle _ _ _).mono ?_
        rintro e u' w' ⟨rfl, rfl, rfl⟩
        simp [Leaves, settle, results, Try.results38, go_sem, y0, y2]
        refine ⟨(HB4.out.setCell (Nat.le_refl _) _).setCell (Nat.le_succ _) _, .inr ⟨3, ?_, rfl⟩⟩
        unfold dec
        rw [HDC.out]
        exact if_neg heq
    · have htp : (0 : Int) < (t.length : Int) := by have := List.length_pos_iff.2 h0; omega
      have HC := hid (group_any t (w.heap.size + 2) (w.heap.size + 2) M l w wr HB.out HR.out htl hM4 hlm (Nat.le_refl _) (by omega))
      have H0 := hid h0
      clear h0
      go_wp2_with fail
      refine HC.out.mono ?_
      rintro e w4 ⟨hb4, ⟨gl, t4, hd4, ⟨v4, rfl⟩, hsg, hr4⟩ | ⟨er, hd4, hp⟩⟩
      · have HG4 := hid (dGrp_inv hd4)
        have HS4 : Hid (Secs (l ++ gl)) := hid (fun s hs => (List.mem_append.1 hs).elim (HS.out s) (hsg s))
        have HD4 : Hid (dA M [] b = dA M (l ++ gl) t4) := hid (HD.out.trans (dA_ok H0.out hd4))
        have HB4 := hid (HB.out.trans (hb4.mono (show w.heap.size ≤ w.heap.size + 2 by omega)))
        have HX4 := hid (boxed_below HX0.out hb4 (by omega))
        have HY4 := hid (boxed_below HX1.out hb4 (by omega))
        have HR4 := hid hr4
        have hz4 : w.heap.size + 3 ≤ w4.heap.size := by have := hb4.size; omega
        clear hd4 hsg hr4 hb4
        go_wp2_with fail
        obtain ⟨hg1, hg2, hg3⟩ := HG4.out
        refine ⟨⟨l ++ gl, t4, by omega, by rw [List.length_append]; omega, HR4, HS4, HD4, HB4, HX4, HY4, hz4⟩, ?_⟩
        obtain ⟨lv4, ⟨v5, hg5, hv5, _⟩, _⟩ := HR4.out
        obtain ⟨A5, c5, rfl⟩ := byt_form hv5
        have c4 : w4.cell? ⟨w.heap.size + 2, 0, none⟩ = some (.slice A5 t4.length c5) := cell_of_row _ _ 0 _ _ _ hg5
        unfold lenAt
        rw [c4, c0]
        exact hg1
      · subst hp
        go_wp2_with fail
        have HB4 := hid (HB.out.trans (hb4.mono (show w.heap.size ≤ w.heap.size + 2 by omega)))
        have hx4 := boxed_below HX0.out hb4 (by omega)
        have hy4 := boxed_below HX1.out hb4 (by omega)
        have HE4 : Hid (dA M [] b = .error er) := hid (HD.out.trans (dA_err H0.out hd4))
        have x2 := (World.cell?_setCell_other w4 ⟨w.heap.size, 0, none⟩ ⟨w.heap.size + 1, 0, none⟩ (.slice none 0 0) (by intro e; injection e with e _; omega)).trans hy4.cell
        have y0 := World.cell?_setCell_same w4 ⟨w.heap.size, 0, none⟩ (.slice none 0 0) hx4.cell
        have y2 := World.cell?_setCell_same (w4.setCell ⟨w.heap.size, 0, none⟩ (.slice none 0 0)) ⟨w.heap.size + 1, 0, none⟩ (.int .i64 er) x2
        refine leaves_cons (f := 56) (args := #[.pointer (some ⟨w.heap.size, 0, none⟩), .pointer (some ⟨w.heap.size + 1, 0, none⟩)]) (by simp) (by simp [go_sem]) ?_
        refine (catch_pan w.heap.size (w.heap.size + 1) er _ _ [] w4 hx4 hy4 (by omega)).mono ?_
        rintro e u' w' ⟨rfl, rfl, n, rfl⟩
        simp [Leaves, settle, results, Try.results38, go_sem, y0, y2]
        refine ⟨below_drewN ((HB4.out.setCell (Nat.le_refl _) _).setCell (Nat.le_succ _) _) n, .inr ⟨er, ?_, rfl⟩⟩
        unfold dec
        rw [HE4.out]
end Go.Proofs.Ytldlddoealpomaa.Rl

/- The law BitmapReturns is walked. -/
import Derived.Test.YtbifhcjkdfocaaaDoorQc
namespace Go.Proofs.YtbifhcjkdfocaaaDoor
open Go.RowKit

theorem made_good2 {w w' : World} {s : Int} {p : Nat → Bool} {e : Ending} (h : MadeB w 0 s p e w') : ∃ ws A c, e = .returned (.tuple #[.agg #[.int .i64 s, .slice A ws.length c], .int .i64 0]) ∧ Bm w' (.agg #[.int .i64 s, .slice A ws.length c]) s ws ∧ (Good s ws ∧ ∀ i : Nat, (i : Int) < s → bit ws i = p i) ∧ Below w.heap.size w w' := by
  obtain ⟨v, ws, rfl, hbm, hif, hb⟩ := h
  rw [if_pos rfl] at hbm hif
  obtain ⟨A, c, rfl⟩ := hbm.form
  exact ⟨ws, A, c, rfl, hbm, hif, hb⟩
theorem good_length' {s : Int} {ws : List Nat} (h : Good s ws) : ws.length ≤ 10000 := by
  have := h.len
  have := h.high
  omega
theorem runs_fit {p : Nat → Bool} {f : Nat} {l : List (Int × Int)} (h : Runs p f l) : fitAll (f : Int) l = true := by
  unfold fitAll
  rw [List.all_eq_true]
  intro e he
  have := h.each e he
  simp [fitsB]
  omega
/-- Where the extent before ends. -/
def prevEnd (l : List (Int × Int)) (k : Nat) (p : Int) : Prop := k = 0 ∧ p = -1 ∨ 0 < k ∧ ∃ e : Int × Int, l[k - 1]? = some e ∧ p = e.1 + e.2
theorem prev_lt {b : Nat → Bool} {f k : Nat} {l : List (Int × Int)} {p : Int} {e : Int × Int} (h : Runs b f l) (hp : prevEnd l k p) (he : l[k]? = some e) : p < e.1 := by
  rcases hp with ⟨rfl, rfl⟩ | ⟨hk, e0, h0, rfl⟩
  · have := (h.each e (List.mem_of_getElem? he)).1; omega
  · exact h.apart (k - 1) e0 e h0 (by rw [show k - 1 + 1 = k by omega]; exact he)

set_option maxHeartbeats 4000000 in
set_option maxRecDepth 100000 in
theorem returns_walk (s : Int) (ws : List Nat) (v : Value) (w : World) (hv : Bm w v s ws) (hT : Tab w) :
    Calls Tryd.prog 7 #[v] w fun e w' => e = .returned (.bool true) ∧ Below w.heap.size w w' := by
  have hln := bm_len hv
  have HV := hid hv
  have HT := hid hT
  obtain ⟨A, ca, rfl⟩ := hv.form
  clear hv hT
  obtain ⟨w1, h1⟩ : ∃ w1, w.alloc (.cells #[.int .i64 s, .slice A ws.length ca] 24) = w1 := ⟨_, rfl⟩
  have z1 : w1.heap.size = w.heap.size + 1 := by rw [← h1]; simp
  obtain ⟨w3, h3⟩ : ∃ w3, w1.alloc (.cells #[.int .i64 s, .slice A ws.length ca] 24) = w3 := ⟨_, rfl⟩
  have BX : Hid (Box w1 w.heap.size s A ws.length ca) := hid (by rw [← h1]; exact box_new _ _ _ _ _)
  have hb13 : Below w1.heap.size w1 w3 := by rw [← h3]; exact al1 _ _
  have HB : Hid (Below w.heap.size w w3) := hid (below_both (by rw [← h1]; exact al1 _ _) hb13)
  have HG : Hid (w3.heap[w.heap.size + 1]? = some (.cells #[.int .i64 s, .slice A ws.length ca] 24 (0, 0))) := hid (by rw [← h3, ← z1]; exact heap_alloc_new w1 _)
  obtain ⟨BXc0, BXc1, BXc2⟩ := BX.out.facts
  have BX3 := hid (BX.out.below hb13)
  clear hb13
  have HF := hid (few_1 (w.heap.size + 1) ws.length ca s A w3 HG.out hln)
  have HAW := hid (fun W (h : Below w.heap.size w W) => awake_any W (HT.out.below h))
  have HK := hid (fun W (h : Below w.heap.size w W) => refCheck_any s ws _ W (HV.out.below h))
  by_cases hfew : ws.length ≤ 20
  · rw [decide_eq_true hfew] at HF
    clear hfew
    by_cases ga : chk s ws = 0
    · have good := chk_zero ga
      have hlo := good.low
      have hhi := good.high
      obtain ⟨f, rfl⟩ := Int.eq_ofNat_of_zero_le hlo
      have hxr := exts_runs ga
      have hxl := exts_len f ws
      have HE := hid (fun W (h : Below w.heap.size w W) => extents_any f ws _ W (HV.out.below h) (HT.out.below h))
      obtain ⟨xl, hxx⟩ : ∃ xl, exts f ws = xl := ⟨_, rfl⟩
      rw [hxx] at hxr hxl HE
      rw [ga] at HK
      have HR := hid hxr
      have GA := hid good
      clear ga good hxx hxr
      go_enter Tryd.func7, Tryd.ntmps7
      go_wp2_with fail
      refine HF.out.mono ?_
      rintro e w4 ⟨rfl, rfl⟩
      clear BX BXc0 BXc1 BXc2 HF HG z1
      have BX := BX3
      clear BX3
      obtain ⟨BXc0, BXc1, BXc2⟩ := BX.out.facts
      go_wp2_with fail
      refine (HK.out _ HB.out).mono ?_
      rintro e w4 ⟨rfl, hb⟩
      replace BX := hid (BX.out.below hb)
      replace HB := hid (below_both HB.out hb)
      clear BXc0 BXc1 BXc2 hb
      obtain ⟨BXc0, BXc1, BXc2⟩ := BX.out.facts
      go_wp2_with fail
      refine (HE.out _ HB.out).mono ?_
      rintro e w5 ⟨va, rfl, hva, hb⟩
      have HX := hid hva
      obtain ⟨Av, cv, rfl⟩ := ext_form hva
      replace BX := hid (BX.out.below hb)
      replace HB := hid (below_both HB.out hb)
      clear BXc0 BXc1 BXc2 hb hva
      obtain ⟨_, A5, cp, hve, hcp, hcm, b, off, hA, hc⟩ := HX.out
      injection hve with e1 e2 e3
      subst e1
      subst e3
      have HC := hid hc
      clear hc
      go_wp2
      go_loopw [4, 5] (fun at' i wr => ∃ (k : Nat) (p : Int), k ≤ xl.length ∧ i = .int .i64 k ∧ at' = .int .i64 p ∧ Hid (prevEnd xl k p) ∧ ∃ q, wr = w5.drewN q) (fun _ i _ => xl.length - (intOf i).toNat)
      case atStart => exact ⟨0, -1, Nat.zero_le _, rfl, rfl, hid (.inl ⟨rfl, rfl⟩), 0, rfl⟩
      case round =>
        obtain ⟨k, p, hk, rfl, rfl, HP, q, rfl⟩ := hrel
        by_cases hlt : k < xl.length
        · obtain ⟨hA1, hbl⟩ := hA (by omega)
          subst hA1
          obtain ⟨⟨a, c⟩, he⟩ : ∃ e, xl[k]? = some e := ⟨xl[k], List.getElem?_eq_getElem hlt⟩
          have hc1 := (HC.out k _ he).1
          have hc2 := (HC.out k _ he).2
          have hpl := prev_lt HR.out HP.out he
          have hea := HR.out.each (a, c) (List.mem_of_getElem? he)
          dsimp only at hc1 hc2 hpl hea
          obtain ⟨ha0, hc0, hac⟩ := hea
          have HNX := hid (show prevEnd xl (k + 1) (a + c) from .inr ⟨by omega, (a, c), by rw [Nat.add_sub_cancel]; exact he, rfl⟩)
          have n1 : ¬ a ≤ p := by omega
          have n2 : ¬ c < 1 := by omega
          clear he
          go_wp2
          go_quiet (fail)
          go_wp2
          go_roundw
          case rel => exact ⟨k + 1, a + c, by omega, by go_num, rfl, HNX, _, rfl⟩
          case measure => simp [intOf]; omega
        · obtain rfl : k = xl.length := by omega
          obtain ⟨w6, h6⟩ : ∃ w6, w5.drewN q = w6 := ⟨_, rfl⟩
          have BX6 : Hid (Box w6 w.heap.size f A ws.length ca) := hid (by rw [← h6]; exact BX.out)
          have HB6 : Hid (Below w.heap.size w w6) := hid (by rw [← h6]; exact below_drewN HB.out q)
          have HX6 : Hid (Ext w6 (.slice Av xl.length cv) xl) := hid (by rw [← h6]; exact HX.out)
          rw [h6]
          clear h6 BX HB HX HC hA
          obtain ⟨BXc0, BXc1, BXc2⟩ := BX6.out.facts
          have HFE := hid (fromExtents_any f xl _ w6 HX6.out)
          rw [feErr_ok hlo hhi (runs_fit HR.out)] at HFE
          have hwl := good_length' GA.out
          go_wp2_with fail
          refine HFE.out.mono ?_
          intro e w7 hm
          obtain ⟨us, A7, c7, rfl, hbm, hg, hb⟩ := made_good2 hm
          have hus : us = ws := good_ext hg.1 GA.out hbm.2.1 HV.out.2.1 (fun i hi => by rw [hg.2 i hi, HR.out.mem i, decide_eq_true (by omega), Bool.true_and])
          subst hus
          have M := hid hbm
          have BX7 := hid (BX6.out.below hb)
          have HB7 := hid (below_both HB6.out hb)
          clear BXc0 BXc1 BXc2 hb hm hbm hg BX6 HB6 HX6 HFE
          obtain ⟨BXc0, BXc1, BXc2⟩ := BX7.out.facts
          go_wp2_with fail
          obtain ⟨w8, heq⟩ : ∃ X, w7.alloc (.cells #[.int .i64 (f : Int), .slice A7 us.length c7] 24) = X := ⟨_, rfl⟩
          have hb : Below w7.heap.size w7 w8 := by rw [← heq]; exact al1 _ _
          have BX8 := hid (BX7.out.below hb)
          have HB8 := hid (below_both HB7.out hb)
          have M8 := hid (M.out.below hb)
          have B8 : Hid (Box w8 w7.heap.size (f : Int) A7 us.length c7) := hid (by rw [← heq]; exact box_new _ _ _ _ _)
          rw [heq]
          clear hb heq BXc0 BXc1 BXc2 BX7 HB7 M
          refine (HAW.out _ HB8.out).mono ?_
          rintro e w9 ⟨rfl, hb⟩
          have BX9 := hid (BX8.out.below hb)
          have B9 := hid (B8.out.below hb)
          have HB9 := hid (below_both HB8.out hb)
          have M9 := hid (M8.out.below hb)
          clear hb BX8 B8 HB8 M8
          obtain ⟨BXc0, BXc1, BXc2⟩ := BX9.out.facts
          obtain ⟨B9c0, B9c1, B9c2⟩ := B9.out.facts
          go_wp2_with fail
          refine (same_true f us _ _ _ M9.out (HV.out.below HB9.out) hwl).mono ?_
          rintro e w10 ⟨rfl, hb⟩
          have HB10 := hid (below_both HB9.out hb)
          clear hb
          go_wp2
          go_ret
          exact ⟨rfl, HB10.out⟩
    · have e3 : chk s ws = 3 := by rcases chk_cases s ws with h | h <;> omega
      rw [e3] at HK
      clear ga e3
      go_enter Tryd.func7, Tryd.ntmps7
      go_wp2_with fail
      refine HF.out.mono ?_
      rintro e w4 ⟨rfl, rfl⟩
      clear BX BXc0 BXc1 BXc2 HF HG z1
      have BX := BX3
      clear BX3
      obtain ⟨BXc0, BXc1, BXc2⟩ := BX.out.facts
      go_wp2_with fail
      refine (HK.out _ HB.out).mono ?_
      rintro e w4 ⟨rfl, hb⟩
      replace HB := hid (below_both HB.out hb)
      clear BXc0 BXc1 BXc2 hb
      go_wp2_with fail
      refine (HAW.out _ HB.out).mono ?_
      rintro e w5 ⟨rfl, hb⟩
      replace HB := hid (below_both HB.out hb)
      clear hb
      go_wp2
      go_ret
      exact ⟨rfl, HB.out⟩
  · rw [not_few hfew] at HF
    clear hfew
    go_enter Tryd.func7, Tryd.ntmps7
    go_wp2_with fail
    refine HF.out.mono ?_
    rintro e w4 ⟨rfl, rfl⟩
    go_wp2_with fail
    refine (HAW.out _ HB.out).mono ?_
    rintro e w5 ⟨rfl, hb⟩
    replace HB := hid (below_both HB.out hb)
    clear hb
    go_wp2
    go_ret
    exact ⟨rfl, HB.out⟩
end Go.Proofs.YtbifhcjkdfocaaaDoor

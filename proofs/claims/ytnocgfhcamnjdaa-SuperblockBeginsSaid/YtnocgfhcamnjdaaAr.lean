/- Superblock: Format 11. -/
import Derived.Test.YtnocgfhcamnjdaaAq
import Derived.Test.YtnocgfhcamnjdaaAk
namespace Go.Proofs.Ytnocgfhcamnjdaa
open Go.RowKit Go.Lib

theorem sec_made (w : World) (n : Nat) (hn : n ≤ maxLen) : Sec (w.alloc (.cells (laid [] n).toArray 57)) (.slice (some ⟨w.heap.size, 0, none⟩) n n) (List.replicate n zs) := by
  refine ⟨rep_secs n, arr_new w 57 8 n _ _ (fun r hr => ?_) (by rw [List.length_map, List.length_replicate]) hn (by rw [laid_rep])⟩
  obtain ⟨s, hs, rfl⟩ := List.mem_map.1 hr
  rw [List.eq_of_mem_replicate hs]
  rfl
theorem sec_of_own24 {w : World} {base n : Nat} {v : Value} {l : List Sect} (h : w.ownsRow base 57 8 v n (l.map cSec).flatten) (hl : Secs l ∧ l.length = n) : Sec w v l := by
  obtain ⟨hl, rfl⟩ := hl
  exact sec_of_own h hl
theorem repO_ok {w : World} {a : Int} {v : Value} {l : List Sect} (h : Sec w v l) (hn : NilOk v) (hr : R64 a) : ∀ x ∈ repO a v l, Sec w x.d x.l ∧ NilOk x.d ∧ R64 x.k ∧ R64 x.a := fun x hx => by
  unfold repO at hx
  simp only [List.mem_cons, List.not_mem_nil, or_false] at hx
  rcases hx with rfl | rfl
  · exact ⟨h, hn, (show R64 0 from ⟨by decide, by decide⟩), hr⟩
  · exact ⟨⟨(fun s (hs : s ∈ []) => by cases hs), arr_nil _ _⟩, nilOk_nil, (show R64 1 from ⟨by decide, by decide⟩), (show R64 0 from ⟨by decide, by decide⟩)⟩
/-- Operations and an error. -/
def MadeOps (w : World) (er : Int) (C : List (Int × Int × List Sect)) (e : Ending) (w' : World) : Prop := ∃ u l, e = .returned (.tuple #[u, .int .i64 er]) ∧ OpsA w' u l ∧ NilOk u ∧ l.map opC = C ∧ Below w.heap.size w w'
theorem ops_nil' (w : World) : OpsA w (.slice none 0 0) [] := ⟨(fun x (hx : x ∈ []) => by cases hx), arr_nil w 3⟩
theorem madeOps_er {w w' : World} {er : Int} (hb : Below w.heap.size w w') : MadeOps w er [] (.returned (.tuple #[.slice none 0 0, .int .i64 er])) w' := ⟨_, [], rfl, ops_nil' w', nilOk_nil, rfl, hb⟩
def fmtE (a : Int) (p : List Nat) : Int := if a < 0 ∨ 4080 < a then 2 else if 31 < p.length then 5 else 0
def repC (a : Int) (l : List Sect) : List (Int × Int × List Sect) := [(0, a, l), (1, 0, [])]
def fmtC (a : Int) (p : List Nat) : List (Int × Int × List Sect) := if fmtE a p = 0 then repC a (List.replicate 16 zs) ++ repC a (secsN 1 8 (conL p)) else []
set_option maxHeartbeats 4000000 in
set_option maxRecDepth 100000 in
theorem format_any (a : Int) (p : List Nat) (v : Value) (w : World) (hv : Byt w v p) (hr : R64 a) :
    Calls Try.prog 11 #[.int .i64 a, v] w (MadeOps w (fmtE a p) (fmtC a p)) := by
  obtain ⟨A, c, rfl⟩ := byt_form hv
  by_cases h1 : a < 0
  · have e1 : fmtE a p = 2 := by unfold fmtE; rw [if_pos (Or.inl h1)]
    have e2 : fmtC a p = [] := by unfold fmtC; rw [e1]; rfl
    rw [e1, e2]
    have d1 : decide (a < 0) = true := decide_eq_true h1
    go_enter Try.func11, Try.ntmps11
    go_wp2_with fail
    go_ret2
    exact madeOps_er (Below.refl _ _)
  have d1 : decide (a < 0) = false := decide_eq_false h1
  by_cases h2 : 4080 < a
  · have e1 : fmtE a p = 2 := by unfold fmtE; rw [if_pos (Or.inr h2)]
    have e2 : fmtC a p = [] := by unfold fmtC; rw [e1]; rfl
    rw [e1, e2]
    have d2 : decide (4080 < a) = true := decide_eq_true h2
    go_enter Try.func11, Try.ntmps11
    go_wp2_with fail
    go_ret2
    exact madeOps_er (Below.refl _ _)
  have d2 : decide (4080 < a) = false := decide_eq_false h2
  obtain ⟨m, hm⟩ : ∃ m, p.length = m := ⟨_, rfl⟩
  by_cases h3 : 31 < m
  · have e1 : fmtE a p = 5 := by unfold fmtE; rw [if_neg (by omega), if_pos (by omega)]
    have e2 : fmtC a p = [] := by unfold fmtC; rw [e1]; rfl
    rw [e1, e2, hm]
    have d3 : decide (31 < (m : Int)) = true := decide_eq_true (by omega)
    have d3' : decide (31 < m) = true := decide_eq_true (by omega)
    go_enter Try.func11, Try.ntmps11
    go_wp2_with fail
    go_ret2
    exact madeOps_er (Below.refl _ _)
  have e1 : fmtE a p = 0 := by unfold fmtE; rw [if_neg (by omega), if_neg (by omega)]
  have e2 : fmtC a p = repC a (List.replicate 16 zs) ++ repC a (secsN 1 8 (conL p)) := by unfold fmtC; rw [if_pos e1]
  rw [e1, e2, hm]
  have d3 : decide (31 < (m : Int)) = false := decide_eq_false (by omega)
  have d3' : decide (31 < m) = false := decide_eq_false (by omega)
  have hcl : (conL p).length = 32 := conL_len (by omega)
  have hc8 : B8 (conL p) := conL_b8 (by omega) hv.1
  obtain ⟨CB, hCB⟩ : ∃ X, (conL p).map byteV = X := ⟨_, rfl⟩
  obtain ⟨BB, hBB⟩ : ∃ X, cBlk (conL p) 1 = X := ⟨_, rfl⟩
  obtain ⟨SN, hSN⟩ : ∃ X, secsN 1 8 (conL p) = X := ⟨_, rfl⟩
  have HSN : Hid (Secs SN ∧ SN.length = 8) := hid (hSN ▸ ⟨secsN_secs 1 8 _ hc8 (by omega), secsN_len 1 8 _⟩)
  have HBL : Hid (BB.length = 33) := hid (by rw [← hBB]; exact cBlk_len hcl)
  have HB1c : Hid (∀ v ∈ BB, v.oneCell' = true) := hid (by rw [← hBB]; exact cBlk_one _ _)
  have HBD : Hid (∀ W, (Instr.build 71 #[(0, .agg CB.toArray), (1, .int .u32 1)]).run Try.prog W = .ok (.agg BB.toArray) W) := hid (fun W => by
    rw [← hBB, ← hCB]
    exact run_build71 W _ (by rw [List.length_map]; exact hcl) _ ⟨_, rfl⟩)
  have HC27 : Hid (Calls Try.prog 27 #[.slice A m c] w fun e w' => e = .returned (.agg CB.toArray) ∧ Below w.heap.size w w') := hid (by
    have h := contentOf_any p _ w hv (by omega)
    rw [hm, hCB] at h
    exact h)
  have HC29 : Hid (∀ X, Calls Try.prog 29 #[.agg BB.toArray] X fun e w' => ∃ u, e = .returned u ∧ w'.ownsRow X.heap.size 57 8 u 8 (SN.map cSec).flatten ∧ Below X.heap.size X w') := hid (fun X => by
    have h := sectors_any (conL p) 1 X hcl hc8 (by decide)
    unfold MadeS at h
    rw [hBB, hSN, HSN.out.2] at h
    exact h)
  have hmk : ∀ W, (Instr.makeSlice 32 (.int .i64 16) (.int .i64 16)).run Try.prog W = .ok (.slice (some ⟨W.heap.size, 0, none⟩) 16 16) (W.alloc (.cells (laid [] 16).toArray 57)) := fun W => make22 W 16 (by omega)
  have HR := hid hr
  rw [hSN]
  clear hcl hc8 hCB hBB hSN hv e1 e2 hm hr
  go_enter Try.func11, Try.ntmps11
  go_upto_region 6 with (first
    | (go_at_call 27; refine HC27.out.mono ?_; rintro e X1 ⟨rfl, hb1⟩; obtain ⟨p6, hp6⟩ : ∃ g, X1.heap.size = g := ⟨_, rfl⟩; obtain ⟨W2, hW2⟩ : ∃ X, X1.alloc (.cells z33.toArray 71) = X := ⟨_, rfl⟩; have hy2 : W2.heap[p6]? = some (.cells z33.toArray 71) := (by rw [← hW2, ← hp6]; exact heap_alloc_new _ _); have hg6 : w.heap.size ≤ p6 := (by rw [← hp6]; exact hb1.size); obtain ⟨W3, hr3, hy3, _, hbw3⟩ := set_row71 (cs := BB) hy2 HBL.out z33_len HB1c.out; have HB3 : Hid (Below w.heap.size w W3) := hid (hbw3 _ _ (hb1.trans (Below.mono (by rw [← hW2]; exact al1 _ _) hb1.size)) hg6); have HY3 := hid hy3; have HR3 := hid hr3; have HA2 := hid (show (Instr.alloc 71 true (.tuple #[])).run Try.prog X1 = .ok (.pointer (some ⟨p6, 0, none⟩)) W2 from (by rw [← hW2, ← hp6]; exact run_alloc71 X1)); clear hb1 hp6 hW2 hy2 hg6 hr3 hy3 hbw3)
    | (refine wpl_alloc rfl 71 rfl _ HA2.out ?_)
    | (refine wpl_build2 (by rfl) 71 (.tmp 17) (.const (.int .u32 1)) (by rfl) _ _ _ (by rfl) (by rfl) (HBD.out _) ?_)
    | (refine wpl_store rfl 71 (.tmp 6) (.tmp 18) rfl _ _ rfl rfl HR3.out ?_)
    | fail)
  refine region_tail 6 (fun X => X.heap[p6]? = some (.cells BB.toArray 71)) (by kernel_rfl) ?_
  obtain ⟨X0, hX0⟩ : ∃ X, W3.drew = X := ⟨_, rfl⟩
  have hB0 : Below W3.heap.size W3 X0 := by rw [← hX0]; exact (Below.refl W3.heap.size W3).drew
  have hHeld : X0.heap[p6]? = some (.cells BB.toArray 71) := (hB0.block _ (box_lt HY3.out)).trans HY3.out
  rw [hX0]
  clear hX0
  refine' wpAnyT_take (i := 0) (oi := ?oix0) (v := ?vx0) ?hix0 (by kernel_rfl) (by kernel_rfl) ?hqx0 ?hyx0 hHeld ?restx0
  case hix0 => (simp only [List.getElem?_toArray, List.getElem?_cons_zero]; rfl)
  case hqx0 => exact fun _ _ _ h => h
  case hyx0 => (refine Or.inl ⟨by rfl, ?_⟩; intro w' hSw; (try dsimp only at hSw); go_simp; try with_reducible rfl)
  (try simp only [Act.put, List.setIfInBounds_toArray, List.set_cons_zero, List.set_cons_succ])
  refine' wpAnyT_take (i := 3) (oi := ?oix3) (v := ?vx3) ?hix3 (by kernel_rfl) (by kernel_rfl) ?hqx3 ?hyx3 hHeld ?restx3
  case hix3 => (simp only [List.getElem?_toArray, List.getElem?_cons_zero, List.getElem?_cons_succ]; rfl)
  case hqx3 => exact fun _ _ _ h => h
  case hyx3 => (refine Or.inl ⟨by rfl, ?_⟩; intro w' hSw; (try dsimp only at hSw); go_simp; try with_reducible rfl)
  (try simp only [Act.put, List.setIfInBounds_toArray, List.set_cons_zero, List.set_cons_succ])
  refine' wpAnyT_take (i := 4) (oi := ?oix4) (v := ?vx4) ?hix4 (by kernel_rfl) (by kernel_rfl) ?hqx4 ?hyx4 hHeld ?restx4
  case hix4 => (simp only [List.getElem?_toArray, List.getElem?_cons_zero, List.getElem?_cons_succ]; rfl)
  case hqx4 => exact fun _ _ _ h => h
  case hyx4 => (refine Or.inl ⟨by rfl, ?_⟩; intro w' hSw; refine exec_load 71 (.tmp 6) ?_ (.pointer (some ⟨p6, 0, none⟩)) (.agg BB.toArray) ?_ (run_loadAt71 w' p6 BB HBL.out hSw) <;> rfl)
  (try simp only [Act.put, List.setIfInBounds_toArray, List.set_cons_zero, List.set_cons_succ])
  refine' wpAnyT_one (i := 1) (o := ?oix1) (by kernel_rfl) ?hix1 (fun K hK => ?stx1)
  case hix1 => (simp only [List.getElem?_toArray, List.getElem?_cons_zero, List.getElem?_cons_succ]; rfl)
  go_simp
  obtain ⟨X1, hX1⟩ : ∃ X, X0.alloc (.cells (laid [] 16).toArray 57) = X := ⟨_, rfl⟩
  obtain ⟨g16, hg16⟩ : ∃ g, X0.heap.size = g := ⟨_, rfl⟩
  have hb01 : Below X0.heap.size X0 X1 := by rw [← hX1]; exact al1 _ _
  have HS16 : Hid (Sec X1 (.slice (some ⟨g16, 0, none⟩) 16 16) (List.replicate 16 zs)) := hid (by rw [← hX1, ← hg16]; exact sec_made X0 16 (by unfold maxLen; omega))
  rw [hX1, hg16]
  have hB1 : Below W3.heap.size W3 X1 := hB0.trans (hb01.mono hB0.size)
  have hHeld : X1.heap[p6]? = some (.cells BB.toArray 71) := (hb01.block _ (box_lt hHeld)).trans hHeld
  clear hX1 hg16 hb01
  refine hK.out _ _ (fun _ => hHeld) ?_
  clear hK K
  (try simp only [Act.put, List.setIfInBounds_toArray, List.set_cons_zero, List.set_cons_succ])
  refine' wpAnyT_one (i := 2) (o := ?oix2) (by kernel_rfl) ?hix2 (fun K hK => ?stx2)
  case hix2 => (simp only [List.getElem?_toArray, List.getElem?_cons_zero, List.getElem?_cons_succ]; rfl)
  go_simp
  go_at_call 28
  refine (replace_any a (.slice (some ⟨g16, 0, none⟩) 16 16) (List.replicate 16 zs) X1 HS16.out).mono ?_
  rintro e X2 ⟨u21, rfl, ho21, hb12⟩
  have HO21 := hid ho21
  have hHeld : X2.heap[p6]? = some (.cells BB.toArray 71) := (hb12.block _ (box_lt hHeld)).trans hHeld
  have HB12 := hid hb12
  clear ho21 hb12
  refine hK.out _ _ (fun _ => hHeld) ?_
  clear hK K
  (try simp only [Act.put, List.setIfInBounds_toArray, List.set_cons_zero, List.set_cons_succ])
  refine' wpAnyT_one (i := 5) (o := ?oix5) (by kernel_rfl) ?hix5 (fun K hK => ?stx5)
  case hix5 => (simp only [List.getElem?_toArray, List.getElem?_cons_zero, List.getElem?_cons_succ]; rfl)
  go_simp
  go_at_call 29
  refine (HC29.out X2).mono ?_
  rintro e X3 ⟨v24, rfl, ho24, hb23⟩
  have HS24 := hid (sec_of_own24 ho24 HSN.out)
  have HO24 := hid ho24
  have hHeld : X3.heap[p6]? = some (.cells BB.toArray 71) := (hb23.block _ (box_lt hHeld)).trans hHeld
  have HB13 := hid (below_both HB12.out hb23)
  have HO21b := hid (own_keep HO21.out (keep_below hb23))
  clear ho24 hb23
  refine hK.out _ _ (fun _ => hHeld) ?_
  clear hK K
  (try simp only [Act.put, List.setIfInBounds_toArray, List.set_cons_zero, List.set_cons_succ])
  refine' wpAnyT_one (i := 6) (o := ?oix6) (by kernel_rfl) ?hix6 (fun K hK => ?stx6)
  case hix6 => (simp only [List.getElem?_toArray, List.getElem?_cons_zero, List.getElem?_cons_succ]; rfl)
  go_simp
  go_at_call 28
  refine (replace_any a v24 SN X3 HS24.out).mono ?_
  rintro e X4 ⟨u25, rfl, ho25, hb34⟩
  have HOP25 := hid (ops_of_own ho25 rfl (repO_ok (HS24.out.below hb34) (own_nilOkE HO24.out) HR.out))
  have HN25 := hid (own_nilOkE ho25)
  have HB14 := hid (below_both HB13.out hb34)
  have HO21c := hid (own_keep HO21b.out (keep_below hb34))
  have HO24c := hid (own_keep HO24.out (keep_below hb34))
  clear ho25 hb34
  refine hK.out _ _ (fun h => absurd h (by decide)) ?_
  clear hK K
  (try simp only [Act.put, List.setIfInBounds_toArray, List.set_cons_zero, List.set_cons_succ])
  refine' wpAnyT_one (i := 7) (o := ?oix7) (by kernel_rfl) ?hix7 (fun K hK => ?stx7)
  case hix7 => (simp only [List.getElem?_toArray, List.getElem?_cons_zero, List.getElem?_cons_succ]; rfl)
  refine step_append_ops rfl (.tmp 21) (.tmp 25) rfl X1.heap.size u21 2 _ rfl HO21c.out (repO a v24 SN) u25 rfl HOP25.out HN25.out (show 2 + 2 ≤ 1000000 by decide) HB14.out.size ?_
  intro v26 X5 ho26 hg26
  have HB15 := hid (below_ownE HB14.out HO21c.out hg26 HB14.out.size (Nat.le_refl _))
  have HO24d := hid (own_keep HO24c.out (keep_grown HO21c.out (by decide) hg26))
  have HO26 := hid ho26
  clear ho26 hg26
  refine hK.out _ _ (fun h => absurd h (by decide)) ?_
  clear hK K
  (try simp only [Act.put, List.setIfInBounds_toArray, List.set_cons_zero, List.set_cons_succ])
  refine' wpAnyT_one (i := 8) (o := ?oix8) (by kernel_rfl) ?hix8 (fun K hK => ?stx8)
  case hix8 => (simp only [List.getElem?_toArray, List.getElem?_cons_zero, List.getElem?_cons_succ]; rfl)
  go_simp
  refine hK.out _ _ (fun h => absurd h (by decide)) ?_
  clear hK K
  (try simp only [Act.put, List.setIfInBounds_toArray, List.set_cons_zero, List.set_cons_succ])
  refine' wpAnyT_one (i := 9) (o := ?oix9) (by kernel_rfl) ?hix9 (fun K hK => ?stx9)
  case hix9 => (simp only [List.getElem?_toArray, List.getElem?_cons_zero, List.getElem?_cons_succ]; rfl)
  go_simp
  refine hK.out _ _ (fun h => absurd h (by decide)) ?_
  clear hK K
  (try simp only [Act.put, List.setIfInBounds_toArray, List.set_cons_zero, List.set_cons_succ])
  refine wpAnyT_done (by kernel_rfl) ?_ _
  go_wp2_with fail
  go_ret2
  refine ⟨v26, repO a (.slice (some ⟨g16, 0, none⟩) 16 16) (List.replicate 16 zs) ++ repO a v24 SN, rfl, ?_, own_nilOkE HO26.out, rfl, HB3.out.trans ((hB1.trans (HB15.out.mono hB1.size)).mono HB3.out.size)⟩
  refine ops_of_own (B := X1.heap.size) ?_ (by rfl) (fun x hx => ?_)
  · rw [List.map_append, List.flatten_append]; exact HO26.out
  · rcases List.mem_append.1 hx with hx | hx
    · exact repO_ok (HS16.out.below HB15.out) (nilOk_some _ _ _) HR.out x hx
    · exact repO_ok (sec_of_own24 HO24d.out HSN.out) (own_nilOkE HO24d.out) HR.out x hx
end Go.Proofs.Ytnocgfhcamnjdaa

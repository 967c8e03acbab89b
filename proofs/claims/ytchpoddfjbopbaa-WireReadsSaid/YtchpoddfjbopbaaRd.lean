/- The reader's write; decodeList of writes. -/
import Derived.Test.YtchpoddfjbopbaaRc
namespace Go.Proofs.Ytchpoddfjbopbaa
open Go.RowKit Go.Lib

theorem info79 : (Try.prog.info? 79).map (fun i => (i.zero, i.size, i.bytes)) = some (some (.agg #[.int .i64 0, .int .i64 0, .slice none 0 0]), 3, 40) := by kernel_rfl
theorem und79 : Try.prog.underlying 79 = some (.struct (Try.prog.fieldsOf 79)) := by kernel_rfl
theorem size79 : (Try.prog.info? 79).map (·.size) = some 3 := by kernel_rfl
def VWri (w : World) (v : Value) (x : (Nat × Nat) × List (List Nat)) : Prop := ∃ dv, v = .agg #[.int .i64 (x.1.1 : Int), .int .i64 (x.1.2 : Int), dv] ∧ LV 59 8 crSec w dv x.2
def ShWri (v : Value) : Prop := ∃ (a b : Nat) (A : Option Addr) (n c : Nat), v = .agg #[.int .i64 (a : Int), .int .i64 (b : Int), .slice A n c]
def crWri (w : World) (r : List Value) (x : (Nat × Nat) × List (List Nat)) : Prop := ∃ dv, r = [.int .i64 (x.1.1 : Int), .int .i64 (x.1.2 : Int), dv] ∧ LV 59 8 crSec w dv x.2
theorem keep_alloc2 (T : TypeId) (w : World) (o p : Obj) : Keep T w ((w.alloc o).alloc p) := fun i _ hi => (Below.heap_alloc _ _ _ (by have := box_lt hi; simp; omega)).trans ((Below.heap_alloc _ _ _ (box_lt hi)).trans hi)
theorem lv_keep {w w' : World} {v : Value} {xs : List (List Nat)} (hk : Keep 59 w w') (h : LV 59 8 crSec w v xs) : LV 59 8 crSec w' v xs := by
  obtain ⟨base, rows, ho, hr⟩ := h
  exact ⟨base, rows, own_keep ho hk, hr⟩
theorem crwri_keep {w w' : World} {r : List Value} {x : (Nat × Nat) × List (List Nat)} (hk : Keep 59 w w') (h : crWri w r x) : crWri w' r x := by
  obtain ⟨dv, h1, h2⟩ := h
  exact ⟨dv, h1, lv_keep hk h2⟩
theorem crwri_of {w : World} {a b : Nat} {u : Value} {x : (Nat × Nat) × List (List Nat)} (h : VWri w (.agg #[.int .i64 (a : Int), .int .i64 (b : Int), u]) x) : crWri w [.int .i64 (a : Int), .int .i64 (b : Int), u] x := by
  obtain ⟨dv, h1, h2⟩ := h
  injection h1 with h1
  have h1 := congrArg Array.toList h1
  exact ⟨dv, by simpa using h1, h2⟩

theorem keep_set {T E : TypeId} {w : World} {c : Nat} {x : Array Value} (h : w.heap[c]? = some (.cells x E)) (hT : T ≠ E) (i : Nat) (v : Value) : Keep T w (w.setCell ⟨c, i, none⟩ v) := fun k cs hk => by
  refine (Below.heap_setCell _ _ _ _ ?_).trans hk
  rintro rfl
  have := hk.symm.trans h
  simp at this
  exact hT this.2
theorem after_pair {α β : Type} {D : Reads α} {D' : Reads β} {V : World → Value → α → Prop} {V' : World → Value → β → Prop} {w1 w2 : World} {v v' : Value} {s s1 s2 : List Nat} {er er1 er2 : Int} (h : After D V w1 v s er s1 er1) (h' : After D' V' w2 v' s1 er1 s2 er2) :
    After (dPair D D') (fun _ _ x => V w1 v x.1 ∧ V' w2 v' x.2) w2 v' s er s2 er2 := by
  rcases h with ⟨he, he1, x, hx, hd⟩ | ⟨hne, ha, hb⟩
  · rcases h' with ⟨_, he2, y, hy, hd'⟩ | ⟨hne, ha', _⟩
    · exact .inl ⟨he, he2, (x, y), ⟨hx, hy⟩, dPair_ok hd hd'⟩
    · exact .inr ⟨hne, fun _ => dPair_err' hd (ha' he1), fun h => absurd he h⟩
  · rcases h' with ⟨he1, _⟩ | ⟨hne', _, hb'⟩
    · exact absurd he1 hne
    · exact .inr ⟨hne', fun h0 => by rw [hb' hne]; exact dPair_err (ha h0), fun h0 => (hb' hne).trans (hb h0)⟩
theorem after_mono {α : Type} {D : Reads α} {V V' : World → Value → α → Prop} {w w' : World} {v v' : Value} {s s1 : List Nat} {er er1 : Int} (h : After D V w v s er s1 er1) (hV : ∀ x, V w v x → V' w' v' x) : After D V' w' v' s er s1 er1 := by
  rcases h with ⟨he, he1, x, hx, hd⟩ | h
  · exact .inl ⟨he, he1, x, hV x hx, hd⟩
  · exact .inr h
theorem got_of {α : Type} {D : Reads α} {V : World → Value → α → Prop} {w0 w1 : World} {v : Value} {g : Nat} {s s1 : List Nat} {er er1 : Int} (h : After D V w1 v s er s1 er1) (hr : Rd w0 w1 g s1 er1) (hs : er1 ≠ 0 → s1 = []) :
    (∃ x t, er = 0 ∧ D s = .ok (x, t) ∧ V w1 v x ∧ Rd w0 w1 g t 0) ∨ ∃ er', er' ≠ 0 ∧ (er = 0 → D s = .error er') ∧ (er ≠ 0 → er' = er) ∧ Rd w0 w1 g [] er' := by
  rcases h with ⟨he, he1, x, hx, hd⟩ | ⟨hne, ha, hb⟩
  · exact .inl ⟨x, s1, he, hd, hx, by rw [← he1]; exact hr⟩
  · exact .inr ⟨er1, hne, ha, hb, by rw [← hs hne]; exact hr⟩

set_option maxHeartbeats 2000000 in
set_option maxRecDepth 100000 in
theorem rwri_any (s : List Nat) (er : Int) (g : Nat) (w0 w : World) (hb0 : Below w0.heap.size w0 w) (hbg : w0.heap.size ≤ g) (hr : Rd w0 w g s er) (he : er ≠ 0 → s = []) (hl : s.length ≤ 90000) :
    Calls Try.prog 76 #[.pointer (some ⟨g, 0, none⟩)] w (Got dWr VWri ShWri w0 w g s er) := by
  have hb0s := hb0.size
  have hgl := hr.lt
  obtain ⟨o, ho⟩ : ∃ o, o = Obj.cells #[.int .i64 0, .int .i64 0, .slice none 0 0] 79 := ⟨_, rfl⟩
  have hP := rnum_any s er g w0 (w.alloc o) (hb0.alloc hb0s _) (hr.alloc _) he hl
  have hU0 := (Upd.refl g w).alloc o
  have hx := heap_alloc_new w o
  have HN := hid (fun (s' : List Nat) (er' : Int) (W : World) (hu : Upd g w W) (hr : Rd w0 W g s' er') (he : er' ≠ 0 → s' = []) (hl : s'.length ≤ 90000) => rnum_any s' er' g w0 W (below_upd hb0 hu hbg hb0s) hr he hl)
  have HD := hid (fun (s' : List Nat) (er' : Int) (W : World) (hu : Upd g w W) (hr : Rd w0 W g s' er') (he : er' ≠ 0 → s' = []) (hl : s'.length ≤ 90000) => decSec_any s' er' g w0 W (below_upd hb0 hu hbg hb0s) hbg hr he hl)
  have hWs : (w.alloc o).heap.size = w.heap.size + 1 := by simp
  subst ho
  obtain ⟨W, hW⟩ : ∃ W, w.alloc (.cells #[.int .i64 0, .int .i64 0, .slice none 0 0] 79) = W := ⟨_, rfl⟩
  rw [hW] at hP hU0 hx hWs
  have HP := hid hP
  have HU0 := hid hU0
  have HX := hid hx
  have hWl : w.heap.size < W.heap.size := by omega
  clear hr he hb0 hx hWs hP hU0
  go_enter Try.func76, Try.ntmps76
  go_wp2_with fail
  refine HP.out.mono ?_
  rintro e w1 ⟨v1, rfl, ⟨n, hn, rfl⟩, hu1, h1⟩
  have HU1 := hid (HU0.out.trans hu1)
  have HX1 := hid ((hu1.block _ hWl (by omega)).trans HX.out)
  have hz1 := hu1.low.size
  obtain ⟨s1, er1, hr1, hs1, hl1, h1⟩ := got_after shr_num h1
  have HC1 := hid (HN.out s1 er1 w1 HU1.out hr1 hs1 (by omega))
  have H1 := hid h1
  clear hr1 hs1 h1 hu1
  go_wp2_with fail
  refine HC1.out.mono ?_
  rintro e w2 ⟨v2, rfl, ⟨m, hm, rfl⟩, hu2, h2⟩
  have HU2 := hid (HU1.out.trans hu2)
  have HX2 := hid ((hu2.block _ (by omega) (by omega)).trans HX1.out)
  have hz2 := hu2.low.size
  obtain ⟨s2, er2, hr2, hs2, hl2, h2⟩ := got_after shr_num h2
  have HC2 := hid (HD.out s2 er2 w2 HU2.out hr2 hs2 (by omega))
  have H2 := hid h2
  clear hr2 hs2 h2 hu2
  go_wp2_with fail
  refine HC2.out.mono ?_
  rintro e w3 ⟨v3, rfl, hno3, hu3, h3⟩
  obtain ⟨A3, n3, c3, rfl⟩ := hno3.2
  have HU3 := hid (HU2.out.trans hu3)
  have hx3 := (hu3.block _ (by omega) (by omega)).trans HX2.out
  have hz3 := hu3.low.size
  obtain ⟨s3, er3, hr3, hs3, hl3, h3⟩ := got_after (shr_len (shr_many (shr_take 8))) h3
  have cz0 : w3.cell? ⟨w.heap.size, 0, none⟩ = some (.int .i64 0) := cell_of_row _ _ 0 _ _ _ hx3
  have cz1 : w3.cell? ⟨w.heap.size, 1, none⟩ = some (.int .i64 0) := cell_of_row _ _ 1 _ _ _ hx3
  have cz2 : w3.cell? ⟨w.heap.size, 2, none⟩ = some (.slice none 0 0) := cell_of_row _ _ 2 _ _ _ hx3
  have fz0 := box_fr hx3 0
  have fz1 := box_fr hx3 1
  have fz2 := box_fr hx3 2
  have HX3 := hid hx3
  have HR3 := hid hr3
  have HS3 := hid hs3
  have H3 := hid h3
  clear hu3 h3 hx3 hr3 hs3 hno3
  go_wp2
  refine bodyPost_ret (results_cell_row rfl _ _ w.heap.size 79 #[.int .i64 (n : Int), .int .i64 (m : Int), .slice A3 n3 c3] (0, 0) _ rfl (box_set (box_set (box_set HX3.out 0 _) 1 _) 2 _) und79 rfl size79) rfl ?_
  have hA := after_pair (after_pair H1.out H2.out) H3.out
  refine ⟨_, rfl, ⟨n, m, A3, n3, c3, rfl⟩, ((HU3.out.new (Nat.le_refl _) _).new (Nat.le_refl _) _).new (Nat.le_refl _) _, ?_⟩
  have hr4 := ((HR3.out.set (i := 0) (show g ≠ w.heap.size by omega) (.int .i64 (n : Int))).set (i := 1) (show g ≠ w.heap.size by omega) (.int .i64 (m : Int))).set (i := 2) (show g ≠ w.heap.size by omega) (.slice A3 n3 c3)
  refine got_of (after_mono hA ?_) hr4 HS3.out
  rintro ⟨⟨a, b⟩, ll⟩ ⟨⟨ha, hb⟩, hll⟩
  obtain rfl := vnat ha
  obtain rfl := vnat hb
  refine ⟨.slice A3 n3 c3, rfl, lv_keep ?_ hll⟩
  exact ((keep_set HX3.out (by decide) 0 _).trans (keep_set (box_set HX3.out 0 _) (by decide) 1 _)).trans (keep_set (box_set (box_set HX3.out 0 _) 1 _) (by decide) 2 _)

/- WRI -/
set_option maxHeartbeats 2000000 in
set_option maxRecDepth 100000 in
theorem decWri_any (s : List Nat) (er : Int) (g : Nat) (w0 w : World) (hb0 : Below w0.heap.size w0 w) (hbg : w0.heap.size ≤ g) (hr : Rd w0 w g s er) (he : er ≠ 0 → s = []) (hl : s.length ≤ 90000) :
    Calls Try.prog 107 #[.pointer (some ⟨g, 0, none⟩), .func (.func 76) #[] #[]] w (Got (dList dWr) (LV 79 3 crWri) ShSl w0 w g s er) := by
  obtain ⟨i0, hi, hz0, hz1, hz2⟩ := info_parts info79
  have hb0s := hb0.size
  have hgl := hr.lt
  have HP := hid (rlen_any s er g w0 w hb0 hr he hl)
  have HEL := hid (fun (s' : List Nat) (er' : Int) (W : World) (hu : Upd g w W) (hr : Rd w0 W g s' er') (he : er' ≠ 0 → s' = []) (hl : s'.length ≤ 90000) => rwri_any s' er' g w0 W (below_upd hb0 hu hbg hb0s) hbg hr he hl)
  clear hr he hb0
  go_enter Try.func107, Try.ntmps107
  go_wp2_with fail
  refine HP.out.mono ?_
  rintro e w1 ⟨v1, rfl, ⟨n, hn, rfl⟩, hu1, h1⟩
  have HU1 := hid hu1
  obtain ⟨s1, er1, hr1, hs1, hl1, h1⟩ := got_after shr_length h1
  have H1 := hid h1
  have HR1 := hid hr1
  have HS1 := hid hs1
  clear h1 hr1 hs1 hu1
  go_wp2
  go_loopw [5, 9] (fun v i wr => ∃ (k : Nat) (sk : List Nat) (xs : List ((Nat × Nat) × List (List Nat))) (rows : List (List Value)), k ≤ n ∧ Hid (xs.length = k) ∧ sk.length ≤ 90000 ∧ i = .int .i64 (k : Int) ∧ Hid (Rd w0 wr g sk er1) ∧ Hid (er1 ≠ 0 → sk = []) ∧ Hid (er1 ≠ 0 → k = 0) ∧ Hid (Upd g w wr) ∧ Hid (wr.ownsRow w.heap.size 79 3 v k rows.flatten) ∧ Hid (RowsOf crWri wr rows xs) ∧ Hid (er1 = 0 → dMany dWr n s1 = app xs (dMany dWr (n - k) sk))) (fun _ i _ => n - (intOf i).toNat)
  case atStart => exact ⟨0, s1, [], [], by omega, hid rfl, by omega, rfl, HR1, HS1, hid (fun _ => rfl), HU1, hid (World.ownsRow_nil _ _ _ _), hid (rowsOf_nil _ _), hid (fun _ => (app_nil _).symm)⟩
  case round =>
    clear HR1 HS1 HU1 HP
    obtain ⟨k, sk, xs, rows, hk, HX, hskl, rfl, HR, HS, HK, HU, HO, HW, HM⟩ := hrel
    obtain ⟨av, cv, rfl⟩ := ownAny_form HO.out
    have hws := HU.out.low.size
    by_cases hkn : k < n
    · have HC := hid (HEL.out sk er1 wr HU.out HR.out HS.out hskl)
      go_wp2_with fail
      refine HC.out.mono ?_
      rintro e w2 ⟨v2, rfl, hsh, hu2, h2⟩
      obtain ⟨x0, x1, A3, n3, c3, rfl⟩ := hsh
      obtain ⟨x143, hx143⟩ := HR.out.at
      have HO2 := hid (own_upd HO.out hu2 hx143 (by decide))
      have HW2 := hid (rowsOf_keep (fun r x h => crwri_keep (keep_upd hu2 hx143 (by decide)) h) HW.out)
      have HU2 := hid (HU.out.trans hu2)
      have hw2 := HU2.out.low.size
      have H2 := hid h2
      clear hu2 h2 hx143
      rcases H2.out with ⟨x, t, he, hd, hv, hr⟩ | ⟨er', he', ha, hb, hr⟩
      · have hgl2 := hr.lt
        have ce := rd_err hr
        have hkeep := HM.out he
        have HM2 : Hid (dMany dWr n s1 = app (xs ++ [x]) (dMany dWr (n - (k + 1)) t)) := hid (hkeep.trans (by have e := many_next (n := n - (k + 1)) hd xs; rwa [show n - (k + 1) + 1 = n - k by omega] at e))
        have htl : t.length ≤ 90000 := Nat.le_trans (shr_pair (shr_pair shr_num shr_num) (shr_len (shr_many (shr_take 8))) _ _ _ hd) hskl
        have HE := hid he
        have HR2 : Hid (Rd w0 w2 g t er1) := hid (by rw [he]; exact hr)
        have hcw := crwri_of hv
        have HO3 := hid ((HO2.out.alloc (.cells #[.int .i64 (x0 : Int), .int .i64 (x1 : Int), .slice A3 n3 c3] 79)).alloc (.cells #[.int .i64 (x0 : Int), .int .i64 (x1 : Int), .slice A3 n3 c3] 79))
        have HR3 := hid ((HR2.out.alloc (.cells #[.int .i64 (x0 : Int), .int .i64 (x1 : Int), .slice A3 n3 c3] 79)).alloc (.cells #[.int .i64 (x0 : Int), .int .i64 (x1 : Int), .slice A3 n3 c3] 79))
        have HU3 := hid ((HU2.out.alloc (.cells #[.int .i64 (x0 : Int), .int .i64 (x1 : Int), .slice A3 n3 c3] 79)).alloc (.cells #[.int .i64 (x0 : Int), .int .i64 (x1 : Int), .slice A3 n3 c3] 79))
        have HW3 := hid (rowsOf_keep (fun r x h => crwri_keep (keep_alloc2 _ _ (.cells #[.int .i64 (x0 : Int), .int .i64 (x1 : Int), .slice A3 n3 c3] 79) (.cells #[.int .i64 (x0 : Int), .int .i64 (x1 : Int), .slice A3 n3 c3] 79)) h) HW2.out)
        have hblk := heap_alloc_new (w2.alloc (.cells #[.int .i64 (x0 : Int), .int .i64 (x1 : Int), .slice A3 n3 c3] 79)) (.cells #[.int .i64 (x0 : Int), .int .i64 (x1 : Int), .slice A3 n3 c3] 79)
        rw [show (w2.alloc (.cells #[.int .i64 (x0 : Int), .int .i64 (x1 : Int), .slice A3 n3 c3] 79)).heap.size = w2.heap.size + 1 by simp] at hblk
        have HBK := hid (CRz (cs := [.int .i64 (x0 : Int), .int .i64 (x1 : Int), .slice A3 n3 c3]) hblk)
        have HCRx : Hid (crWri ((w2.alloc (.cells #[.int .i64 (x0 : Int), .int .i64 (x1 : Int), .slice A3 n3 c3] 79)).alloc (.cells #[.int .i64 (x0 : Int), .int .i64 (x1 : Int), .slice A3 n3 c3] 79)) [.int .i64 (x0 : Int), .int .i64 (x1 : Int), .slice A3 n3 c3] x) := hid (crwri_keep (keep_alloc2 _ _ _ _) hcw)
        clear hblk
        clear he hd hv hr hkeep H2
        go_wp2_with (at_builtin; refine wpList_append_own _ rfl (.tmp 19) (.tmp 21) 32 rfl w.heap.size 79 i0 (.agg #[.int .i64 0, .int .i64 0, .slice none 0 0]) 3 40 Try.underlying32 hi hz0 hz1 hz2 rfl (by decide) (.slice av k cv) k rows.flatten rfl HO3.out ⟨w2.heap.size + 1, 0, none⟩ 1 1 [.int .i64 (x0 : Int), .int .i64 (x1 : Int), .slice A3 n3 c3] rfl rfl HBK.out (by intro u hu; simp at hu; rcases hu with hu | hu | hu <;> subst hu <;> rfl) (by unfold maxLen; omega) (by omega) (by simp; omega) ?_; intro v4 w4 hown4 hg4 _; obtain ⟨av4, cv4, rfl⟩ := ownAny_form hown4; have HR4 := hid (rd_grown HR3.out HO3.out (by decide) hg4); have HU4 := hid (HU3.out.grown hg4 (fun k' e => (HO3.out.lt k' e).1)); have HW4 := hid (rowsOf_keep (fun r x h => crwri_keep (keep_grown HO3.out (by decide) hg4) h) HW3.out); have HO4 := hid hown4; have HCR4 := hid (crwri_keep (keep_grown HO3.out (by decide) hg4) HCRx.out); clear hown4 hg4)
        go_roundw
        case rel => exact ⟨k + 1, t, xs ++ [x], rows ++ [[.int .i64 (x0 : Int), .int .i64 (x1 : Int), .slice A3 n3 c3]], by omega, hid (by rw [List.length_append, HX.out]; rfl), htl, by go_num, HR4, hid (fun h => absurd HE.out h), hid (fun h => absurd HE.out h), HU4, hid (by have h := HO4.out; rw [List.flatten_append, List.flatten_singleton]; exact h), hid (rowsOf_snoc HW4.out HCR4.out), hid (fun _ => HM2.out)⟩
        case measure => simp [intOf]; omega
      · have hgl2 := hr.lt
        have ce := rd_err hr
        have d1 : (er' == 0) = false := by simpa using he'
        have d2 : (er' != 0) = true := by simpa using he'
        have HHe := hid he'
        have HHa := hid ha
        have HHb := hid hb
        have HHr := hid hr
        clear he' ha hb hr H2
        go_wp2
        go_ret
        refine ⟨_, rfl, shsl_nil, HU2.out.alloc _, .inr ⟨er', HHe.out, fun h0 => ?_, fun h0 => ?_, HHr.out.alloc _⟩⟩
        · rcases H1.out with ⟨_, he1, y, hy, hd1⟩ | ⟨hne, h2, _⟩
          · obtain rfl := vnat hy
            rw [dList_len hd1, HM.out he1, show y - k = (y - k - 1) + 1 by omega, many_fail (HHa.out he1)]
          · rw [HHb.out hne]; exact dList_err (h2 h0)
        · rcases H1.out with ⟨h1, _⟩ | ⟨hne, _, h3⟩
          · exact absurd h1 h0
          · rw [HHb.out hne, h3 h0]
    · obtain rfl : k = n := by omega
      go_wp2
      go_ret
      refine ⟨_, rfl, shsl_own HO.out, HU.out, ?_⟩
      rcases H1.out with ⟨h0, he1, y, hy, hd1⟩ | ⟨hne, h2, h3⟩
      · obtain rfl := vnat hy
        have h := HM.out he1
        rw [Nat.sub_self, many_end] at h
        exact .inl ⟨xs, sk, h0, by rw [dList_len hd1, h], ⟨_, rows, by rw [HX.out]; exact HO.out, HW.out⟩, by have h := HR.out; rw [he1] at h; exact h⟩
      · exact .inr ⟨er1, hne, fun h0 => dList_err (h2 h0), h3, by have h := HR.out; rw [HS.out hne] at h; exact h⟩

end Go.Proofs.Ytchpoddfjbopbaa

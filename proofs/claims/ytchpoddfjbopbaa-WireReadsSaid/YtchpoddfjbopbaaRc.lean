/- Lists that reading makes; the reader's bytes; decodeList of numbers, sectors, extents. -/
import Derived.Test.YtchpoddfjbopbaaRb
namespace Go.Proofs.Ytchpoddfjbopbaa
open Go.RowKit Go.Lib

/-- Blocks with cells of type T are as they were. -/
def Keep (T : TypeId) (w w' : World) : Prop := ∀ (k : Nat) (cs : Array Value), w.heap[k]? = some (.cells cs T) → w'.heap[k]? = some (.cells cs T)
theorem Keep.trans {T : TypeId} {a b c : World} (h : Keep T a b) (k : Keep T b c) : Keep T a c := fun i cs hi => k i cs (h i cs hi)
theorem keep_upd {T : TypeId} {g : Nat} {a b : World} {x : Array Value} (h : Upd g a b) (hg : a.heap[g]? = some (.cells x 143)) (hT : T ≠ 143) : Keep T a b := fun i cs hi => by
  refine (h.block i (box_lt hi) ?_).trans hi
  rintro rfl
  have := hi.symm.trans hg
  simp at this
  exact hT this.2
theorem keep_below {T : TypeId} {a b : World} (h : Below a.heap.size a b) : Keep T a b := fun i _ hi => (h.block i (box_lt hi)).trans hi
theorem keep_grown {T E : TypeId} {st base n : Nat} {a b : World} {v : Value} {xs : List Value} (ho : a.ownsRow base E st v n xs) (hT : T ≠ E) (hg : a.grownBy b v.ownBlock) : Keep T a b := fun i cs hi => by
  refine (hg.block i (box_lt hi) ?_).trans hi
  rcases ho.2 with ⟨rfl, _⟩ | ⟨k, cap, cur, rfl, _, hgb, _⟩
  · simp [Value.ownBlock]
  · intro e
    obtain rfl : i = k := by simpa [Value.ownBlock] using e
    have := hi.symm.trans hgb
    simp at this
    exact hT this.2
theorem own_keep {T : TypeId} {st base n : Nat} {a b : World} {v : Value} {xs : List Value} (ho : a.ownsRow base T st v n xs) (h : Keep T a b) : b.ownsRow base T st v n xs := by
  refine ⟨ho.1, ?_⟩
  rcases ho.2 with h0 | ⟨k, cap, cur, e, hb, hgb, h2⟩
  · exact .inl h0
  · exact .inr ⟨k, cap, cur, e, hb, h _ _ hgb, h2⟩
theorem own_upd {T : TypeId} {st base n g : Nat} {a b : World} {v : Value} {xs : List Value} {x : Array Value} (ho : a.ownsRow base T st v n xs) (h : Upd g a b) (hg : a.heap[g]? = some (.cells x 143)) (hT : T ≠ 143) : b.ownsRow base T st v n xs := own_keep ho (keep_upd h hg hT)
theorem Rd.at {w0 w : World} {g : Nat} {s : List Nat} {er : Int} (h : Rd w0 w g s er) : ∃ x, w.heap[g]? = some (.cells x 143) := by
  obtain ⟨v, hb, _⟩ := h
  exact ⟨_, hb⟩
theorem rd_err {w0 w : World} {g : Nat} {s : List Nat} {er : Int} (h : Rd w0 w g s er) : w.cell? ⟨g, 1, none⟩ = some (.int .i64 er) := by
  obtain ⟨v, hb, _⟩ := h
  exact cell_of_row _ _ 1 _ _ _ hb
theorem rd_grown {w0 w w2 : World} {g base n st : Nat} {E : TypeId} {s : List Nat} {er : Int} {v : Value} {xs : List Value} (h : Rd w0 w g s er) (ho : w.ownsRow base E st v n xs) (hE : (143 : TypeId) ≠ E) (hg : w.grownBy w2 v.ownBlock) : Rd w0 w2 g s er := by
  obtain ⟨u, hb, h2⟩ := h
  exact ⟨u, keep_grown ho hE hg g _ hb, h2⟩

/-- Rows of cells, each as CR says of its element. -/
def RowsOf {α : Type} (CR : World → List Value → α → Prop) (w : World) (rows : List (List Value)) (xs : List α) : Prop := rows.length = xs.length ∧ ∀ (i : Nat) (r : List Value) (x : α), rows[i]? = some r → xs[i]? = some x → CR w r x
theorem rowsOf_nil {α : Type} (CR : World → List Value → α → Prop) (w : World) : RowsOf CR w [] [] := ⟨rfl, fun i r x h => by simp at h⟩
theorem rowsOf_snoc {α : Type} {CR : World → List Value → α → Prop} {w : World} {rows : List (List Value)} {xs : List α} {r : List Value} {x : α} (h : RowsOf CR w rows xs) (hx : CR w r x) : RowsOf CR w (rows ++ [r]) (xs ++ [x]) := by
  refine ⟨by simp [h.1], fun i r' x' hr hx' => ?_⟩
  rcases Nat.lt_or_ge i rows.length with hi | hi
  · rw [List.getElem?_append_left hi] at hr
    rw [List.getElem?_append_left (by rw [← h.1]; exact hi)] at hx'
    exact h.2 i r' x' hr hx'
  · rw [List.getElem?_append_right hi] at hr
    rw [List.getElem?_append_right (by rw [← h.1]; exact hi)] at hx'
    rw [← h.1] at hx'
    have hi0 : i - rows.length = 0 := by
      have := (List.getElem?_eq_some_iff.1 hr).1
      simp at this
      omega
    rw [hi0] at hr hx'
    simp at hr hx'
    subst hr hx'
    exact hx
theorem rowsOf_keep {α : Type} {CR : World → List Value → α → Prop} {w w' : World} {rows : List (List Value)} {xs : List α} (hst : ∀ r x, CR w r x → CR w' r x) (h : RowsOf CR w rows xs) : RowsOf CR w' rows xs := ⟨h.1, fun i r x hr hx => hst r x (h.2 i r x hr hx)⟩
/-- What a list is that a call has made. -/
def LV {α : Type} (E : TypeId) (st : Nat) (CR : World → List Value → α → Prop) (w : World) (v : Value) (xs : List α) : Prop := ∃ base rows, w.ownsRow base E st v xs.length rows.flatten ∧ RowsOf CR w rows xs
theorem ownAny_nilOk {E : TypeId} {st base n : Nat} {w : World} {v : Value} {xs : List Value} (h : w.ownsRow base E st v n xs) : NilOk v := by
  rcases h.2 with ⟨rfl, _⟩ | ⟨g, cap, cur, rfl, _⟩
  · exact nilOk_nil
  · exact nilOk_some _ _ _
theorem ownAny_form {E : TypeId} {st base n : Nat} {w : World} {v : Value} {xs : List Value} (h : w.ownsRow base E st v n xs) : ∃ A cap, v = .slice A n cap := by
  rcases h.2 with ⟨rfl, rfl⟩ | ⟨g, cap, cur, rfl, _⟩
  · exact ⟨none, 0, rfl⟩
  · exact ⟨_, _, rfl⟩
/-- The value of a list: a slice. -/
def ShSl (v : Value) : Prop := NilOk v ∧ ∃ A n c, v = .slice A n c
theorem shsl_nil : ShSl (.slice none 0 0) := ⟨nilOk_nil, _, _, _, rfl⟩
theorem shsl_own {E : TypeId} {st base n : Nat} {w : World} {v : Value} {xs : List Value} (h : w.ownsRow base E st v n xs) : ShSl v := by
  obtain ⟨A, c, e⟩ := ownAny_form h
  exact ⟨ownAny_nilOk h, A, n, c, e⟩
/-- Elements that were read, put before what is read of the rest. -/
def app {α : Type} (xs : List α) : Except Int (List α × List Nat) → Except Int (List α × List Nat)
  | .error e => .error e
  | .ok (l, r) => .ok (xs ++ l, r)
theorem app_nil {α : Type} (x : Except Int (List α × List Nat)) : app [] x = x := by
  rcases x with e | ⟨l, r⟩ <;> rfl
theorem many_next {α : Type} {D : Reads α} {n : Nat} {s t : List Nat} {x : α} (h : D s = .ok (x, t)) (xs : List α) : app xs (dMany D (n + 1) s) = app (xs ++ [x]) (dMany D n t) := by
  rw [dMany]
  simp only [h]
  rcases dMany D n t with e | ⟨l, r⟩
  · rfl
  · simp [app]
theorem many_fail {α : Type} {D : Reads α} {n : Nat} {s : List Nat} {e : Int} (h : D s = .error e) (xs : List α) : app xs (dMany D (n + 1) s) = .error e := by
  rw [dMany]
  simp only [h]
  rfl
theorem many_end {α : Type} {D : Reads α} (s : List Nat) (xs : List α) : app xs (dMany D 0 s) = .ok (xs, s) := by
  simp [dMany, app]
theorem dList_len {α : Type} {D : Reads α} {s t : List Nat} {n : Nat} (h : dLength s = .ok (n, t)) : dList D s = dMany D n t := by
  unfold dLength dLen at h
  rcases h1 : dNum s with e | ⟨m, u⟩
  · rw [h1] at h; cases h
  · rw [h1] at h
    simp only at h
    split at h
    · cases h
    · rename_i hn
      cases h
      exact dLen_ok h1 hn
theorem dList_err {α : Type} {D : Reads α} {s : List Nat} {e : Int} (h : dLength s = .error e) : dList D s = .error e := by
  unfold dLength dLen at h
  unfold dList dLen
  rcases h1 : dNum s with e | ⟨m, u⟩
  · rw [h1] at h; cases h; rfl
  · rw [h1] at h
    simp only at h
    split at h
    · rename_i hn
      cases h
      simp only [if_pos hn]
    · cases h
theorem shr_length : Shrinks dLength := shr_len (fun n s x t h => by cases h; omega)
theorem byt_lt {w : World} {v : Value} {l : List Nat} (h : Byt w v l) : B8 l := h.1
theorem CRz {T : TypeId} {w : World} {b : Nat} {cs : List Value} (h : w.heap[b]? = some (.cells cs.toArray T)) : ∀ (j : Nat) (u : Value), cs[j]? = some u → w.cell? ((⟨b, 0, none⟩ : Addr).add j) = some u := fun j u hu => by
  have e : (⟨b, 0, none⟩ : Addr).add j = ⟨b, j, none⟩ := by unfold Addr.add; split <;> simp_all
  rw [e, cell_of_row _ _ _ _ _ _ h]
  simpa using hu

def crNum (_ : World) (r : List Value) (x : Nat) : Prop := r = [.int .i64 (x : Int)]
def crSec (_ : World) (r : List Value) (x : List Nat) : Prop := r = cSec x ∧ x.length = 8 ∧ B8 x
def crExt (_ : World) (r : List Value) (x : Nat × Nat) : Prop := r = [.int .i64 (x.1 : Int), .int .i64 (x.2 : Int)]
theorem info3 : (Try.prog.info? 3).map (fun i => (i.zero, i.size, i.bytes)) = some (some (.int .i64 0), 1, 8) := by kernel_rfl
theorem info59 : (Try.prog.info? 59).map (fun i => (i.zero, i.size, i.bytes)) = some (some (.agg #[.int .u8 0, .int .u8 0, .int .u8 0, .int .u8 0, .int .u8 0, .int .u8 0, .int .u8 0, .int .u8 0]), 8, 8) := by kernel_rfl
theorem info66 : (Try.prog.info? 66).map (fun i => (i.zero, i.size, i.bytes)) = some (some (.agg #[.int .i64 0, .int .i64 0]), 2, 16) := by kernel_rfl
theorem bytes_inj : ∀ {p x : List Nat}, p.map byteV = x.map byteV → p = x
  | [], [], _ => rfl
  | [], _ :: _, h => by simp at h
  | _ :: _, [], h => by simp at h
  | a :: p, b :: x, h => by
    rw [List.map_cons, List.map_cons] at h
    injection h with h1 h2
    unfold byteV at h1
    injection h1 with _ h1
    rw [show a = b by omega, bytes_inj h2]
theorem vsec {w : World} {p x : List Nat} (h : VSec w (.agg (cSec p).toArray) x) : x = p := by
  have h1 := h.1
  injection h1 with h1
  have h2 := congrArg Array.toList h1
  exact (bytes_inj (by simpa [cSec] using h2)).symm
theorem vext {w : World} {a b : Nat} {x : Nat × Nat} (h : VExt w (.agg #[.int .i64 (a : Int), .int .i64 (b : Int)]) x) : x = (a, b) := by
  unfold VExt at h
  obtain ⟨c, d⟩ := x
  simp at h
  exact Prod.ext (by show c = a; omega) (by show d = b; omega)

/- NUM -/
set_option maxHeartbeats 2000000 in
set_option maxRecDepth 100000 in
theorem decNum_any (s : List Nat) (er : Int) (g : Nat) (w0 w : World) (hb0 : Below w0.heap.size w0 w) (hbg : w0.heap.size ≤ g) (hr : Rd w0 w g s er) (he : er ≠ 0 → s = []) (hl : s.length ≤ 90000) :
    Calls Try.prog 98 #[.pointer (some ⟨g, 0, none⟩), .func (.func 64) #[] #[]] w (Got (dList dNum) (LV 3 1 crNum) ShSl w0 w g s er) := by
  obtain ⟨i0, hi, hz0, hz1, hz2⟩ := info_parts info3
  have hb0s := hb0.size
  have hgl := hr.lt
  have HP := hid (rlen_any s er g w0 w hb0 hr he hl)
  have HEL := hid (fun (s' : List Nat) (er' : Int) (W : World) (hu : Upd g w W) (hr : Rd w0 W g s' er') (he : er' ≠ 0 → s' = []) (hl : s'.length ≤ 90000) => (fun (s' : List Nat) (er' : Int) (g : Nat) (w0 W : World) (hb : Below w0.heap.size w0 W) (_ : w0.heap.size ≤ g) (hr : Rd w0 W g s' er') (he : er' ≠ 0 → s' = []) (hl : s'.length ≤ 90000) => rnum_any s' er' g w0 W hb hr he hl) s' er' g w0 W (below_upd hb0 hu hbg hb0s) hbg hr he hl)
  clear hr he hb0
  go_enter Try.func98, Try.ntmps98
  go_wp2_with fail
  refine HP.out.mono ?_
  rintro e w1 ⟨v1, rfl, ⟨n, hn, rfl⟩, hu1, h1⟩
  have HU1 := hid hu1
  obtain ⟨s1, er1, hr1, hs1, hl1, h1⟩ := got_after shr_length h1
  have H1 := hid h1
  have HR1 := hid hr1
  have HS1 := hid hs1
  clear h1 hr1 hs1 hu1
  go_wp2
  go_loopw [5, 9] (fun v i wr => ∃ (k : Nat) (sk : List Nat) (xs : List Nat) (rows : List (List Value)), k ≤ n ∧ Hid (xs.length = k) ∧ sk.length ≤ 90000 ∧ i = .int .i64 (k : Int) ∧ Hid (Rd w0 wr g sk er1) ∧ Hid (er1 ≠ 0 → sk = []) ∧ Hid (er1 ≠ 0 → k = 0) ∧ Hid (Upd g w wr) ∧ Hid (wr.ownsRow w.heap.size 3 1 v k rows.flatten) ∧ Hid (RowsOf crNum wr rows xs) ∧ Hid (er1 = 0 → dMany dNum n s1 = app xs (dMany dNum (n - k) sk))) (fun _ i _ => n - (intOf i).toNat)
  case atStart => exact ⟨0, s1, [], [], by omega, hid rfl, by omega, rfl, HR1, HS1, hid (fun _ => rfl), HU1, hid (World.ownsRow_nil _ _ _ _), hid (rowsOf_nil _ _), hid (fun _ => (app_nil _).symm)⟩
  case round =>
    clear HR1 HS1 HU1 HP
    obtain ⟨k, sk, xs, rows, hk, HX, hskl, rfl, HR, HS, HK, HU, HO, HW, HM⟩ := hrel
    obtain ⟨av, cv, rfl⟩ := ownAny_form HO.out
    have hws := HU.out.low.size
    by_cases hkn : k < n
    · have HC := hid (HEL.out sk er1 wr HU.out HR.out HS.out hskl)
      go_wp2_with fail
      refine HC.out.mono ?_
      rintro e w2 ⟨v2, rfl, hsh, hu2, h2⟩
      obtain ⟨m, hm, rfl⟩ := hsh
      obtain ⟨x143, hx143⟩ := HR.out.at
      have HO2 := hid (own_upd HO.out hu2 hx143 (by decide))
      have HW2 := hid (rowsOf_keep (fun r x h => h) HW.out)
      have HU2 := hid (HU.out.trans hu2)
      have hw2 := HU2.out.low.size
      have H2 := hid h2
      clear hu2 h2 hx143
      rcases H2.out with ⟨x, t, he, hd, hv, hr⟩ | ⟨er', he', ha, hb, hr⟩
      · have hgl2 := hr.lt
        have ce := rd_err hr
        have hkeep := HM.out he
        have HM2 : Hid (dMany dNum n s1 = app (xs ++ [x]) (dMany dNum (n - (k + 1)) t)) := hid (hkeep.trans (by have e := many_next (n := n - (k + 1)) hd xs; rwa [show n - (k + 1) + 1 = n - k by omega] at e))
        have htl : t.length ≤ 90000 := Nat.le_trans (shr_num _ _ _ hd) hskl
        have HE := hid he
        have HR2 : Hid (Rd w0 w2 g t er1) := hid (by rw [he]; exact hr)
        obtain rfl := vnat hv
        have HO3 := hid (HO2.out.alloc (.cells #[.int .i64 (x : Int)] 3))
        have HR3 := hid (HR2.out.alloc (.cells #[.int .i64 (x : Int)] 3))
        have HU3 := hid (HU2.out.alloc (.cells #[.int .i64 (x : Int)] 3))
        have HW3 := HW2
        have HBK := hid (CRz (cs := [.int .i64 (x : Int)]) (heap_alloc_new w2 (.cells #[.int .i64 (x : Int)] 3)))
        have HCRx : Hid (∀ W : World, crNum W [.int .i64 (x : Int)] x) := hid (fun _ => rfl)
        clear he hd hv hr hkeep H2
        go_wp2_with (at_builtin; refine wpList_append_own _ rfl (.tmp 19) (.tmp 21) 23 rfl w.heap.size 3 i0 (.int .i64 0) 1 8 Try.underlying23 hi hz0 hz1 hz2 rfl (by decide) (.slice av k cv) k rows.flatten rfl HO3.out ⟨w2.heap.size, 0, none⟩ 1 1 [.int .i64 (x : Int)] rfl rfl HBK.out (by intro u hu; simp at hu; subst hu; rfl) (by unfold maxLen; omega) (by omega) (by simp; omega) ?_; intro v4 w4 hown4 hg4 _; obtain ⟨av4, cv4, rfl⟩ := ownAny_form hown4; have HR4 := hid (rd_grown HR3.out HO3.out (by decide) hg4); have HU4 := hid (HU3.out.grown hg4 (fun k' e => (HO3.out.lt k' e).1)); have HW4 := hid (rowsOf_keep (fun r x h => h) HW3.out); have HO4 := hid hown4; have HCR4 := hid (HCRx.out w4); clear hown4 hg4)
        go_roundw
        case rel => exact ⟨k + 1, t, xs ++ [x], rows ++ [[.int .i64 (x : Int)]], by omega, hid (by rw [List.length_append, HX.out]; rfl), htl, by go_num, HR4, hid (fun h => absurd HE.out h), hid (fun h => absurd HE.out h), HU4, hid (by have h := HO4.out; rw [List.flatten_append, List.flatten_singleton]; exact h), hid (rowsOf_snoc HW4.out HCR4.out), hid (fun _ => HM2.out)⟩
        case measure => simp [intOf]; omega
      · have hgl2 := hr.lt
        have ce := rd_err hr
        have d1 : (er' == 0) = false := by simpa using he'
        have d2 : (er' != 0) = true := by simpa using he'
        have HHe := hid he'
        have HHa := hid ha
        have HHb := hid hb
        have HHr := hid hr
        clear he' ha hb hr H2
        go_wp2
        go_ret
        refine ⟨_, rfl, shsl_nil, HU2.out, .inr ⟨er', HHe.out, fun h0 => ?_, fun h0 => ?_, HHr.out⟩⟩
        · rcases H1.out with ⟨_, he1, y, hy, hd1⟩ | ⟨hne, h2, _⟩
          · obtain rfl := vnat hy
            rw [dList_len hd1, HM.out he1, show y - k = (y - k - 1) + 1 by omega, many_fail (HHa.out he1)]
          · rw [HHb.out hne]; exact dList_err (h2 h0)
        · rcases H1.out with ⟨h1, _⟩ | ⟨hne, _, h3⟩
          · exact absurd h1 h0
          · rw [HHb.out hne, h3 h0]
    · obtain rfl : k = n := by omega
      go_wp2
      go_ret
      refine ⟨_, rfl, shsl_own HO.out, HU.out, ?_⟩
      rcases H1.out with ⟨h0, he1, y, hy, hd1⟩ | ⟨hne, h2, h3⟩
      · obtain rfl := vnat hy
        have h := HM.out he1
        rw [Nat.sub_self, many_end] at h
        exact .inl ⟨xs, sk, h0, by rw [dList_len hd1, h], ⟨_, rows, by rw [HX.out]; exact HO.out, HW.out⟩, by have h := HR.out; rw [he1] at h; exact h⟩
      · exact .inr ⟨er1, hne, fun h0 => dList_err (h2 h0), h3, by have h := HR.out; rw [HS.out hne] at h; exact h⟩

/- SEC -/
set_option maxHeartbeats 2000000 in
set_option maxRecDepth 100000 in
theorem decSec_any (s : List Nat) (er : Int) (g : Nat) (w0 w : World) (hb0 : Below w0.heap.size w0 w) (hbg : w0.heap.size ≤ g) (hr : Rd w0 w g s er) (he : er ≠ 0 → s = []) (hl : s.length ≤ 90000) :
    Calls Try.prog 101 #[.pointer (some ⟨g, 0, none⟩), .func (.func 72) #[] #[]] w (Got (dList dSec) (LV 59 8 crSec) ShSl w0 w g s er) := by
  obtain ⟨i0, hi, hz0, hz1, hz2⟩ := info_parts info59
  have hb0s := hb0.size
  have hgl := hr.lt
  have HP := hid (rlen_any s er g w0 w hb0 hr he hl)
  have HEL := hid (fun (s' : List Nat) (er' : Int) (W : World) (hu : Upd g w W) (hr : Rd w0 W g s' er') (he : er' ≠ 0 → s' = []) (hl : s'.length ≤ 90000) => rsec_any s' er' g w0 W (below_upd hb0 hu hbg hb0s) hbg hr he hl)
  clear hr he hb0
  go_enter Try.func101, Try.ntmps101
  go_wp2_with fail
  refine HP.out.mono ?_
  rintro e w1 ⟨v1, rfl, ⟨n, hn, rfl⟩, hu1, h1⟩
  have HU1 := hid hu1
  obtain ⟨s1, er1, hr1, hs1, hl1, h1⟩ := got_after shr_length h1
  have H1 := hid h1
  have HR1 := hid hr1
  have HS1 := hid hs1
  clear h1 hr1 hs1 hu1
  go_wp2
  go_loopw [5, 9] (fun v i wr => ∃ (k : Nat) (sk : List Nat) (xs : List (List Nat)) (rows : List (List Value)), k ≤ n ∧ Hid (xs.length = k) ∧ sk.length ≤ 90000 ∧ i = .int .i64 (k : Int) ∧ Hid (Rd w0 wr g sk er1) ∧ Hid (er1 ≠ 0 → sk = []) ∧ Hid (er1 ≠ 0 → k = 0) ∧ Hid (Upd g w wr) ∧ Hid (wr.ownsRow w.heap.size 59 8 v k rows.flatten) ∧ Hid (RowsOf crSec wr rows xs) ∧ Hid (er1 = 0 → dMany dSec n s1 = app xs (dMany dSec (n - k) sk))) (fun _ i _ => n - (intOf i).toNat)
  case atStart => exact ⟨0, s1, [], [], by omega, hid rfl, by omega, rfl, HR1, HS1, hid (fun _ => rfl), HU1, hid (World.ownsRow_nil _ _ _ _), hid (rowsOf_nil _ _), hid (fun _ => (app_nil _).symm)⟩
  case round =>
    clear HR1 HS1 HU1 HP
    obtain ⟨k, sk, xs, rows, hk, HX, hskl, rfl, HR, HS, HK, HU, HO, HW, HM⟩ := hrel
    obtain ⟨av, cv, rfl⟩ := ownAny_form HO.out
    have hws := HU.out.low.size
    by_cases hkn : k < n
    · have HC := hid (HEL.out sk er1 wr HU.out HR.out HS.out hskl)
      go_wp2_with fail
      refine HC.out.mono ?_
      rintro e w2 ⟨v2, rfl, hsh, hu2, h2⟩
      obtain ⟨p, hp, hv2⟩ := hsh
      obtain ⟨x0, x1, x2, x3, x4, x5, x6, x7, rfl⟩ := list8 hp
      have hv2 : v2 = .agg #[.int .u8 (x0 : Int), .int .u8 (x1 : Int), .int .u8 (x2 : Int), .int .u8 (x3 : Int), .int .u8 (x4 : Int), .int .u8 (x5 : Int), .int .u8 (x6 : Int), .int .u8 (x7 : Int)] := hv2
      subst hv2
      obtain ⟨x143, hx143⟩ := HR.out.at
      have HO2 := hid (own_upd HO.out hu2 hx143 (by decide))
      have HW2 := hid (rowsOf_keep (fun r x h => h) HW.out)
      have HU2 := hid (HU.out.trans hu2)
      have hw2 := HU2.out.low.size
      have H2 := hid h2
      clear hu2 h2 hx143
      rcases H2.out with ⟨x, t, he, hd, hv, hr⟩ | ⟨er', he', ha, hb, hr⟩
      · have hgl2 := hr.lt
        have ce := rd_err hr
        have hkeep := HM.out he
        have HM2 : Hid (dMany dSec n s1 = app (xs ++ [x]) (dMany dSec (n - (k + 1)) t)) := hid (hkeep.trans (by have e := many_next (n := n - (k + 1)) hd xs; rwa [show n - (k + 1) + 1 = n - k by omega] at e))
        have htl : t.length ≤ 90000 := Nat.le_trans (shr_take 8 _ _ _ hd) hskl
        have HE := hid he
        have HR2 : Hid (Rd w0 w2 g t er1) := hid (by rw [he]; exact hr)
        have hxp : x = [x0, x1, x2, x3, x4, x5, x6, x7] := vsec (p := [x0, x1, x2, x3, x4, x5, x6, x7]) hv
        subst hxp
        have HO3 := hid ((HO2.out.alloc (.cells #[.int .u8 (x0 : Int), .int .u8 (x1 : Int), .int .u8 (x2 : Int), .int .u8 (x3 : Int), .int .u8 (x4 : Int), .int .u8 (x5 : Int), .int .u8 (x6 : Int), .int .u8 (x7 : Int)] 59)).alloc (.cells #[.int .u8 (x0 : Int), .int .u8 (x1 : Int), .int .u8 (x2 : Int), .int .u8 (x3 : Int), .int .u8 (x4 : Int), .int .u8 (x5 : Int), .int .u8 (x6 : Int), .int .u8 (x7 : Int)] 59))
        have HR3 := hid ((HR2.out.alloc (.cells #[.int .u8 (x0 : Int), .int .u8 (x1 : Int), .int .u8 (x2 : Int), .int .u8 (x3 : Int), .int .u8 (x4 : Int), .int .u8 (x5 : Int), .int .u8 (x6 : Int), .int .u8 (x7 : Int)] 59)).alloc (.cells #[.int .u8 (x0 : Int), .int .u8 (x1 : Int), .int .u8 (x2 : Int), .int .u8 (x3 : Int), .int .u8 (x4 : Int), .int .u8 (x5 : Int), .int .u8 (x6 : Int), .int .u8 (x7 : Int)] 59))
        have HU3 := hid ((HU2.out.alloc (.cells #[.int .u8 (x0 : Int), .int .u8 (x1 : Int), .int .u8 (x2 : Int), .int .u8 (x3 : Int), .int .u8 (x4 : Int), .int .u8 (x5 : Int), .int .u8 (x6 : Int), .int .u8 (x7 : Int)] 59)).alloc (.cells #[.int .u8 (x0 : Int), .int .u8 (x1 : Int), .int .u8 (x2 : Int), .int .u8 (x3 : Int), .int .u8 (x4 : Int), .int .u8 (x5 : Int), .int .u8 (x6 : Int), .int .u8 (x7 : Int)] 59))
        have HW3 := HW2
        have hblk := heap_alloc_new (w2.alloc (.cells #[.int .u8 (x0 : Int), .int .u8 (x1 : Int), .int .u8 (x2 : Int), .int .u8 (x3 : Int), .int .u8 (x4 : Int), .int .u8 (x5 : Int), .int .u8 (x6 : Int), .int .u8 (x7 : Int)] 59)) (.cells #[.int .u8 (x0 : Int), .int .u8 (x1 : Int), .int .u8 (x2 : Int), .int .u8 (x3 : Int), .int .u8 (x4 : Int), .int .u8 (x5 : Int), .int .u8 (x6 : Int), .int .u8 (x7 : Int)] 59)
        rw [show (w2.alloc (.cells #[.int .u8 (x0 : Int), .int .u8 (x1 : Int), .int .u8 (x2 : Int), .int .u8 (x3 : Int), .int .u8 (x4 : Int), .int .u8 (x5 : Int), .int .u8 (x6 : Int), .int .u8 (x7 : Int)] 59)).heap.size = w2.heap.size + 1 by simp] at hblk
        have HBK := hid (CRz (cs := (cSec [x0, x1, x2, x3, x4, x5, x6, x7])) hblk)
        have HCRx : Hid (∀ W : World, crSec W (cSec [x0, x1, x2, x3, x4, x5, x6, x7]) [x0, x1, x2, x3, x4, x5, x6, x7]) := hid (fun _ => ⟨rfl, hv.2⟩)
        clear hblk
        clear he hd hv hr hkeep H2
        go_wp2_with (at_builtin; refine wpList_append_own _ rfl (.tmp 19) (.tmp 21) 30 rfl w.heap.size 59 i0 (.agg #[.int .u8 0, .int .u8 0, .int .u8 0, .int .u8 0, .int .u8 0, .int .u8 0, .int .u8 0, .int .u8 0]) 8 8 Try.underlying30 hi hz0 hz1 hz2 rfl (by decide) (.slice av k cv) k rows.flatten rfl HO3.out ⟨w2.heap.size + 1, 0, none⟩ 1 1 (cSec [x0, x1, x2, x3, x4, x5, x6, x7]) rfl rfl HBK.out (byteV_one _) (by unfold maxLen; omega) (by omega) (by simp; omega) ?_; intro v4 w4 hown4 hg4 _; obtain ⟨av4, cv4, rfl⟩ := ownAny_form hown4; have HR4 := hid (rd_grown HR3.out HO3.out (by decide) hg4); have HU4 := hid (HU3.out.grown hg4 (fun k' e => (HO3.out.lt k' e).1)); have HW4 := hid (rowsOf_keep (fun r x h => h) HW3.out); have HO4 := hid hown4; have HCR4 := hid (HCRx.out w4); clear hown4 hg4)
        go_roundw
        case rel => exact ⟨k + 1, t, xs ++ [[x0, x1, x2, x3, x4, x5, x6, x7]], rows ++ [(cSec [x0, x1, x2, x3, x4, x5, x6, x7])], by omega, hid (by rw [List.length_append, HX.out]; rfl), htl, by go_num, HR4, hid (fun h => absurd HE.out h), hid (fun h => absurd HE.out h), HU4, hid (by have h := HO4.out; rw [List.flatten_append, List.flatten_singleton]; exact h), hid (rowsOf_snoc HW4.out HCR4.out), hid (fun _ => HM2.out)⟩
        case measure => simp [intOf]; omega
      · have hgl2 := hr.lt
        have ce := rd_err hr
        have d1 : (er' == 0) = false := by simpa using he'
        have d2 : (er' != 0) = true := by simpa using he'
        have HHe := hid he'
        have HHa := hid ha
        have HHb := hid hb
        have HHr := hid hr
        clear he' ha hb hr H2
        go_wp2
        go_ret
        refine ⟨_, rfl, shsl_nil, HU2.out.alloc _, .inr ⟨er', HHe.out, fun h0 => ?_, fun h0 => ?_, HHr.out.alloc _⟩⟩
        · rcases H1.out with ⟨_, he1, y, hy, hd1⟩ | ⟨hne, h2, _⟩
          · obtain rfl := vnat hy
            rw [dList_len hd1, HM.out he1, show y - k = (y - k - 1) + 1 by omega, many_fail (HHa.out he1)]
          · rw [HHb.out hne]; exact dList_err (h2 h0)
        · rcases H1.out with ⟨h1, _⟩ | ⟨hne, _, h3⟩
          · exact absurd h1 h0
          · rw [HHb.out hne, h3 h0]
    · obtain rfl : k = n := by omega
      go_wp2
      go_ret
      refine ⟨_, rfl, shsl_own HO.out, HU.out, ?_⟩
      rcases H1.out with ⟨h0, he1, y, hy, hd1⟩ | ⟨hne, h2, h3⟩
      · obtain rfl := vnat hy
        have h := HM.out he1
        rw [Nat.sub_self, many_end] at h
        exact .inl ⟨xs, sk, h0, by rw [dList_len hd1, h], ⟨_, rows, by rw [HX.out]; exact HO.out, HW.out⟩, by have h := HR.out; rw [he1] at h; exact h⟩
      · exact .inr ⟨er1, hne, fun h0 => dList_err (h2 h0), h3, by have h := HR.out; rw [HS.out hne] at h; exact h⟩

/- EXT -/
set_option maxHeartbeats 2000000 in
set_option maxRecDepth 100000 in
theorem decExt_any (s : List Nat) (er : Int) (g : Nat) (w0 w : World) (hb0 : Below w0.heap.size w0 w) (hbg : w0.heap.size ≤ g) (hr : Rd w0 w g s er) (he : er ≠ 0 → s = []) (hl : s.length ≤ 90000) :
    Calls Try.prog 104 #[.pointer (some ⟨g, 0, none⟩), .func (.func 74) #[] #[]] w (Got (dList dExt) (LV 66 2 crExt) ShSl w0 w g s er) := by
  obtain ⟨i0, hi, hz0, hz1, hz2⟩ := info_parts info66
  have hb0s := hb0.size
  have hgl := hr.lt
  have HP := hid (rlen_any s er g w0 w hb0 hr he hl)
  have HEL := hid (fun (s' : List Nat) (er' : Int) (W : World) (hu : Upd g w W) (hr : Rd w0 W g s' er') (he : er' ≠ 0 → s' = []) (hl : s'.length ≤ 90000) => rext_any s' er' g w0 W (below_upd hb0 hu hbg hb0s) hbg hr he hl)
  clear hr he hb0
  go_enter Try.func104, Try.ntmps104
  go_wp2_with fail
  refine HP.out.mono ?_
  rintro e w1 ⟨v1, rfl, ⟨n, hn, rfl⟩, hu1, h1⟩
  have HU1 := hid hu1
  obtain ⟨s1, er1, hr1, hs1, hl1, h1⟩ := got_after shr_length h1
  have H1 := hid h1
  have HR1 := hid hr1
  have HS1 := hid hs1
  clear h1 hr1 hs1 hu1
  go_wp2
  go_loopw [5, 9] (fun v i wr => ∃ (k : Nat) (sk : List Nat) (xs : List (Nat × Nat)) (rows : List (List Value)), k ≤ n ∧ Hid (xs.length = k) ∧ sk.length ≤ 90000 ∧ i = .int .i64 (k : Int) ∧ Hid (Rd w0 wr g sk er1) ∧ Hid (er1 ≠ 0 → sk = []) ∧ Hid (er1 ≠ 0 → k = 0) ∧ Hid (Upd g w wr) ∧ Hid (wr.ownsRow w.heap.size 66 2 v k rows.flatten) ∧ Hid (RowsOf crExt wr rows xs) ∧ Hid (er1 = 0 → dMany dExt n s1 = app xs (dMany dExt (n - k) sk))) (fun _ i _ => n - (intOf i).toNat)
  case atStart => exact ⟨0, s1, [], [], by omega, hid rfl, by omega, rfl, HR1, HS1, hid (fun _ => rfl), HU1, hid (World.ownsRow_nil _ _ _ _), hid (rowsOf_nil _ _), hid (fun _ => (app_nil _).symm)⟩
  case round =>
    clear HR1 HS1 HU1 HP
    obtain ⟨k, sk, xs, rows, hk, HX, hskl, rfl, HR, HS, HK, HU, HO, HW, HM⟩ := hrel
    obtain ⟨av, cv, rfl⟩ := ownAny_form HO.out
    have hws := HU.out.low.size
    by_cases hkn : k < n
    · have HC := hid (HEL.out sk er1 wr HU.out HR.out HS.out hskl)
      go_wp2_with fail
      refine HC.out.mono ?_
      rintro e w2 ⟨v2, rfl, hsh, hu2, h2⟩
      obtain ⟨x0, x1, hm0, hm1, rfl⟩ := hsh
      obtain ⟨x143, hx143⟩ := HR.out.at
      have HO2 := hid (own_upd HO.out hu2 hx143 (by decide))
      have HW2 := hid (rowsOf_keep (fun r x h => h) HW.out)
      have HU2 := hid (HU.out.trans hu2)
      have hw2 := HU2.out.low.size
      have H2 := hid h2
      clear hu2 h2 hx143
      rcases H2.out with ⟨x, t, he, hd, hv, hr⟩ | ⟨er', he', ha, hb, hr⟩
      · have hgl2 := hr.lt
        have ce := rd_err hr
        have hkeep := HM.out he
        have HM2 : Hid (dMany dExt n s1 = app (xs ++ [x]) (dMany dExt (n - (k + 1)) t)) := hid (hkeep.trans (by have e := many_next (n := n - (k + 1)) hd xs; rwa [show n - (k + 1) + 1 = n - k by omega] at e))
        have htl : t.length ≤ 90000 := Nat.le_trans (shr_pair shr_num shr_num _ _ _ hd) hskl
        have HE := hid he
        have HR2 : Hid (Rd w0 w2 g t er1) := hid (by rw [he]; exact hr)
        obtain rfl := vext hv
        have HO3 := hid ((HO2.out.alloc (.cells #[.int .i64 (x0 : Int), .int .i64 (x1 : Int)] 66)).alloc (.cells #[.int .i64 (x0 : Int), .int .i64 (x1 : Int)] 66))
        have HR3 := hid ((HR2.out.alloc (.cells #[.int .i64 (x0 : Int), .int .i64 (x1 : Int)] 66)).alloc (.cells #[.int .i64 (x0 : Int), .int .i64 (x1 : Int)] 66))
        have HU3 := hid ((HU2.out.alloc (.cells #[.int .i64 (x0 : Int), .int .i64 (x1 : Int)] 66)).alloc (.cells #[.int .i64 (x0 : Int), .int .i64 (x1 : Int)] 66))
        have HW3 := HW2
        have hblk := heap_alloc_new (w2.alloc (.cells #[.int .i64 (x0 : Int), .int .i64 (x1 : Int)] 66)) (.cells #[.int .i64 (x0 : Int), .int .i64 (x1 : Int)] 66)
        rw [show (w2.alloc (.cells #[.int .i64 (x0 : Int), .int .i64 (x1 : Int)] 66)).heap.size = w2.heap.size + 1 by simp] at hblk
        have HBK := hid (CRz (cs := [.int .i64 (x0 : Int), .int .i64 (x1 : Int)]) hblk)
        have HCRx : Hid (∀ W : World, crExt W [.int .i64 (x0 : Int), .int .i64 (x1 : Int)] (x0, x1)) := hid (fun _ => rfl)
        clear hblk
        clear he hd hv hr hkeep H2
        go_wp2_with (at_builtin; refine wpList_append_own _ rfl (.tmp 19) (.tmp 21) 31 rfl w.heap.size 66 i0 (.agg #[.int .i64 0, .int .i64 0]) 2 16 Try.underlying31 hi hz0 hz1 hz2 rfl (by decide) (.slice av k cv) k rows.flatten rfl HO3.out ⟨w2.heap.size + 1, 0, none⟩ 1 1 [.int .i64 (x0 : Int), .int .i64 (x1 : Int)] rfl rfl HBK.out (by intro u hu; simp at hu; rcases hu with hu | hu <;> subst hu <;> rfl) (by unfold maxLen; omega) (by omega) (by simp; omega) ?_; intro v4 w4 hown4 hg4 _; obtain ⟨av4, cv4, rfl⟩ := ownAny_form hown4; have HR4 := hid (rd_grown HR3.out HO3.out (by decide) hg4); have HU4 := hid (HU3.out.grown hg4 (fun k' e => (HO3.out.lt k' e).1)); have HW4 := hid (rowsOf_keep (fun r x h => h) HW3.out); have HO4 := hid hown4; have HCR4 := hid (HCRx.out w4); clear hown4 hg4)
        go_roundw
        case rel => exact ⟨k + 1, t, xs ++ [(x0, x1)], rows ++ [[.int .i64 (x0 : Int), .int .i64 (x1 : Int)]], by omega, hid (by rw [List.length_append, HX.out]; rfl), htl, by go_num, HR4, hid (fun h => absurd HE.out h), hid (fun h => absurd HE.out h), HU4, hid (by have h := HO4.out; rw [List.flatten_append, List.flatten_singleton]; exact h), hid (rowsOf_snoc HW4.out HCR4.out), hid (fun _ => HM2.out)⟩
        case measure => simp [intOf]; omega
      · have hgl2 := hr.lt
        have ce := rd_err hr
        have d1 : (er' == 0) = false := by simpa using he'
        have d2 : (er' != 0) = true := by simpa using he'
        have HHe := hid he'
        have HHa := hid ha
        have HHb := hid hb
        have HHr := hid hr
        clear he' ha hb hr H2
        go_wp2
        go_ret
        refine ⟨_, rfl, shsl_nil, HU2.out.alloc _, .inr ⟨er', HHe.out, fun h0 => ?_, fun h0 => ?_, HHr.out.alloc _⟩⟩
        · rcases H1.out with ⟨_, he1, y, hy, hd1⟩ | ⟨hne, h2, _⟩
          · obtain rfl := vnat hy
            rw [dList_len hd1, HM.out he1, show y - k = (y - k - 1) + 1 by omega, many_fail (HHa.out he1)]
          · rw [HHb.out hne]; exact dList_err (h2 h0)
        · rcases H1.out with ⟨h1, _⟩ | ⟨hne, _, h3⟩
          · exact absurd h1 h0
          · rw [HHb.out hne, h3 h0]
    · obtain rfl : k = n := by omega
      go_wp2
      go_ret
      refine ⟨_, rfl, shsl_own HO.out, HU.out, ?_⟩
      rcases H1.out with ⟨h0, he1, y, hy, hd1⟩ | ⟨hne, h2, h3⟩
      · obtain rfl := vnat hy
        have h := HM.out he1
        rw [Nat.sub_self, many_end] at h
        exact .inl ⟨xs, sk, h0, by rw [dList_len hd1, h], ⟨_, rows, by rw [HX.out]; exact HO.out, HW.out⟩, by have h := HR.out; rw [he1] at h; exact h⟩
      · exact .inr ⟨er1, hne, fun h0 => dList_err (h2 h0), h3, by have h := HR.out; rw [HS.out hne] at h; exact h⟩

end Go.Proofs.Ytchpoddfjbopbaa

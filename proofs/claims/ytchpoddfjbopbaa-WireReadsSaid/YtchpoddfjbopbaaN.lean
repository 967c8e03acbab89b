/- The writer's write; encodeList of writes. -/
import Derived.Test.YtchpoddfjbopbaaM
namespace Go.Proofs.Ytchpoddfjbopbaa
open Go.RowKit Go.Lib

/-- A write: its volume, its start, the slice value of its sectors, these. -/
structure Wri where
  v : Int
  s : Int
  d : Value
  l : List (List Nat)
def cWri (x : Wri) : List Value := [.int .i64 x.v, .int .i64 x.s, x.d]
def eWri (x : Wri) : List Nat := (eNum x.v ++ eNum x.s) ++ eList eSec x.l
/-- Sectors of eight bytes. -/
def Secs (ll : List (List Nat)) : Prop := ∀ s ∈ ll, s.length = 8 ∧ B8 s
/-- The value v reads as the sectors ll; as the extents; as the writes. -/
def Sec (w : World) (v : Value) (ll : List (List Nat)) : Prop := Secs ll ∧ Arr w v 8 (ll.map cSec)
def Ext (w : World) (v : Value) (l : List (Int × Int)) : Prop := Arr w v 2 (l.map cExt)
def Wrs (w : World) (v : Value) (l : List Wri) : Prop := (∀ x ∈ l, Sec w x.d x.l ∧ x.l.length ≤ 60000) ∧ Arr w v 3 (l.map cWri)
theorem Sec.below {w w' : World} {v : Value} {ll : List (List Nat)} (h : Sec w v ll) (hb : Below w.heap.size w w') : Sec w' v ll := ⟨h.1, h.2.below hb⟩
theorem Wrs.below {w w' : World} {v : Value} {l : List Wri} (h : Wrs w v l) (hb : Below w.heap.size w w') : Wrs w' v l := ⟨fun x hx => ⟨(h.1 x hx).1.below hb, (h.1 x hx).2⟩, h.2.below hb⟩
theorem sec_form {w : World} {v : Value} {ll : List (List Nat)} (h : Sec w v ll) : ∃ A c, v = .slice A ll.length c := by
  obtain ⟨A, c, e⟩ := arr_form h.2
  rw [List.length_map] at e
  exact ⟨A, c, e⟩

theorem encSecs (ll : List (List Nat)) (pr : List Nat) (u : Value) (g : Nat) (w0 w : World) (hu : Sec w0 u ll) (hb0 : Below w0.heap.size w0 w) (hw : Wr w g w0.heap.size pr) (hbg : w0.heap.size ≤ g) (hx : ll.length ≤ 60000) (hl : pr.length + (eList eSec ll).length ≤ 60000) :
    Calls Try.prog 86 #[.pointer (some ⟨g, 0, none⟩), u, .func (.func 58) #[] #[]] w (Wrote w g w0.heap.size (pr ++ eList eSec ll)) :=
  encSec_any ll pr u g w0 w hu.2 hb0 hw hbg hx hl (fun _ x hk p W hW _ hl => wsec_any x p g w0.heap.size W (hu.1 x (List.mem_of_getElem? hk)).2 (hu.1 x (List.mem_of_getElem? hk)).1 hW hbg (by omega)) (fun s hs => (hu.1 s hs).1)

set_option maxHeartbeats 2000000 in
set_option maxRecDepth 100000 in
theorem wwri_any (x : Wri) (pr : List Nat) (g : Nat) (w0 w : World) (hu : Sec w0 x.d x.l) (hb0 : Below w0.heap.size w0 w) (hw : Wr w g w0.heap.size pr) (hbg : w0.heap.size ≤ g) (hx : x.l.length ≤ 60000) (hl : pr.length + (eWri x).length ≤ 60000) :
    Calls Try.prog 62 #[.pointer (some ⟨g, 0, none⟩), .agg (cWri x).toArray] w (Wrote w g w0.heap.size (pr ++ eWri x)) := by
  obtain ⟨a, b, dv, ll⟩ := x
  show Calls Try.prog 62 #[.pointer (some ⟨g, 0, none⟩), .agg #[.int .i64 a, .int .i64 b, dv]] w _
  unfold eWri at hl ⊢
  dsimp only at hu hx hl ⊢
  rw [List.length_append, List.length_append] at hl
  have HU := hid hu
  have HB0 := hid hb0
  obtain ⟨A3, cc3, rfl⟩ := sec_form hu
  have hgl := hw.lt
  have hb0s := hb0.size
  obtain ⟨o, ho⟩ : ∃ o, o = Obj.cells #[.int .i64 a, .int .i64 b, .slice A3 ll.length cc3] 79 := ⟨_, rfl⟩
  have HB : Hid (Below w0.heap.size w (w.alloc o)) := hid ((Below.refl _ w).alloc (by omega) _)
  have HW : Hid (Wr (w.alloc o) g w0.heap.size pr) := hid (hw.alloc _)
  have hP : Pro (w.alloc o) w.heap.size g #[.int .i64 a, .int .i64 b, .slice A3 ll.length cc3] 79 := ⟨by rw [ho]; exact heap_alloc_new w _, by omega, by decide⟩
  subst ho
  obtain ⟨W, hW⟩ : ∃ W, w.alloc (.cells #[.int .i64 a, .int .i64 b, .slice A3 ll.length cc3] 79) = W := ⟨_, rfl⟩
  rw [hW] at HB HW hP
  have hWs : w.heap.size < W.heap.size := hP.lt
  have HA := hid (wnum_pro a pr g w0.heap.size _ _ _ W HW.out hP hbg (by omega))
  have HG := hid (fun (W' : World) (h : Wr W' g w0.heap.size (pr ++ eNum a)) (hp : Pro W' w.heap.size g #[.int .i64 a, .int .i64 b, .slice A3 ll.length cc3] 79) => wnum_pro b (pr ++ eNum a) g w0.heap.size _ _ _ W' h hp hbg (by rw [List.length_append]; omega))
  have HH := hid (fun (W' : World) (h : Wr W' g w0.heap.size ((pr ++ eNum a) ++ eNum b)) (hb : Below w0.heap.size w0 W') => encSecs ll ((pr ++ eNum a) ++ eNum b) _ g w0 W' HU.out hb h hbg hx (by rw [List.length_append, List.length_append]; omega))
  have h0 := cell_of_row _ _ 0 _ _ _ hP.1
  have h0' : W.cell? ⟨w.heap.size, 0, none⟩ = some (.int .i64 a) := h0
  clear h0 hP hw hu hb0 hl hb0s
  go_enter Try.func62, Try.ntmps62
  go_wp2_with fail
  refine HA.out.mono ?_
  rintro e w1 ⟨⟨v1, rfl⟩, hw1, hb1, hp1⟩
  have h1 := cell_of_row _ _ 1 _ _ _ hp1.1
  have h1' : w1.cell? ⟨w.heap.size, 1, none⟩ = some (.int .i64 b) := h1
  have HB1 := hid (HB.out.trans hb1)
  have HC1 := hid (HG.out w1 hw1 hp1)
  clear hw1 hb1 hp1 h1
  go_wp2_with fail
  refine HC1.out.mono ?_
  rintro e w2 ⟨⟨v2, rfl⟩, hw2, hb2, hp2⟩
  have h2 := cell_of_row _ _ 2 _ _ _ hp2.1
  have h2' : w2.cell? ⟨w.heap.size, 2, none⟩ = some (.slice A3 ll.length cc3) := h2
  have HB2 := hid (HB1.out.trans hb2)
  have HC2 := hid (HH.out w2 hw2 (HB0.out.trans (HB1.out.trans hb2)))
  clear hw2 hb2 hp2 h2
  go_wp2_with fail
  refine HC2.out.mono ?_
  rintro e w3 ⟨⟨v3, rfl⟩, hw3, hb3⟩
  have HB3 := hid (HB2.out.trans hb3)
  have HW3 := hid hw3
  clear hw3 hb3
  go_wp2
  go_end0
  exact ⟨⟨_, rfl⟩, by have h := HW3.out; rwa [List.append_assoc, List.append_assoc, ← List.append_assoc (eNum a)] at h, HB3.out⟩

set_option maxHeartbeats 2000000 in
set_option maxRecDepth 100000 in
theorem encWri_any (xs : List Wri) (pr : List Nat) (u : Value) (g : Nat) (w0 w : World) (hu : Arr w0 u 3 (xs.map cWri)) (hb0 : Below w0.heap.size w0 w) (hw : Wr w g w0.heap.size pr) (hbg : w0.heap.size ≤ g) (hx : xs.length ≤ 60000) (hl : pr.length + (eList eWri xs).length ≤ 60000)
    (hel : ∀ (k : Nat) (x : Wri), xs[k]? = some x → ∀ (p : List Nat) (W : World), Wr W g w0.heap.size p → Below w0.heap.size w0 W → p.length + (eWri x).length ≤ 60000 → Calls Try.prog 62 #[.pointer (some ⟨g, 0, none⟩), .agg (cWri x).toArray] W (Wrote W g w0.heap.size (p ++ eWri x))) (hok : ∀ x ∈ xs, ∃ A c, x.d = .slice A x.l.length c) :
    Calls Try.prog 92 #[.pointer (some ⟨g, 0, none⟩), u, .func (.func 62) #[] #[]] w (Wrote w g w0.heap.size (pr ++ eList eWri xs)) := by
  have hp := wnum_any (xs.length : Int) pr g w0.heap.size w hw hbg (by omega)
  rw [cl_nat (by omega), ← eSome_zero eWri xs] at hp
  have HP := hid hp
  have HL := hid (fun (k : Nat) => eSome_le eWri xs k)
  have HS := hid (fun (k : Nat) (x : Wri) (h : xs[k]? = some x) => eSome_succ (E := eWri) h)
  have HEL := hid hel
  rw [← eSome_all eWri xs] at hl ⊢
  obtain ⟨F, hF⟩ : ∃ F, eSome eWri xs = F := ⟨_, rfl⟩
  rw [← eSome_all eWri xs] at HL
  rw [hF] at HP HL HS hl ⊢
  obtain ⟨C, cc, rfl, hcap, hcm, b, off, hA, hc⟩ := hu
  unfold maxLen at hcm
  rw [List.length_map] at hcap hA ⊢
  have HC := hid hc
  have HB0 := hid hb0
  have HLL := hid hl
  have HOK := hid hok
  clear hok
  clear hw hc hF hp hel hb0 hl
  go_enter Try.func92, Try.ntmps92
  go_wp2_with fail
  refine HP.out.mono ?_
  rintro e w1 ⟨⟨v1, rfl⟩, hw1, hb1⟩
  have HW1 := hid hw1
  have HB1 := hid hb1
  clear hw1 hb1 HP
  go_wp2
  go_loopw [14] (fun i wr => ∃ k : Nat, k ≤ xs.length ∧ i = .int .i64 (k : Int) ∧ Hid (Wr wr g w0.heap.size (pr ++ F k)) ∧ Hid (Below w0.heap.size w wr)) (fun i _ => xs.length - (intOf i).toNat)
  case atStart => exact ⟨0, by omega, rfl, HW1, HB1⟩
  case round =>
    clear HW1 HB1
    obtain ⟨k, hk, rfl, HW, HB⟩ := hrel
    by_cases hkl : k < xs.length
    · obtain ⟨hA1, hb⟩ := hA (by omega)
      subst hA1
      obtain ⟨x, hxk⟩ : ∃ x, xs[k]? = some x := ⟨xs[k], List.getElem?_eq_getElem hkl⟩
      have hrow : ∀ (j : Nat) (v : Value), (cWri x)[j]? = some v → wr.cell? ⟨b, off + k * 3 + j, none⟩ = some v := fun j v hv =>
        (HB.out.cell (p := ⟨b, _, none⟩) hb).trans ((HB0.out.cell (p := ⟨b, _, none⟩) hb).trans (HC.out k _ (by rw [List.getElem?_map, hxk]; rfl) j v hv))
      have hlen := HL.out (k + 1)
      have HS1 := hid (HS.out k x hxk)
      have HE1 := hid (HEL.out k x hxk (pr ++ F k))
      have HE : Hid (pr ++ F (k + 1) = (pr ++ F k) ++ eWri x) := hid (by rw [HS1.out, List.append_assoc])
      have HLk : Hid ((pr ++ F k).length + (eWri x).length ≤ 60000) := hid (by rw [HS1.out, List.length_append] at hlen; rw [List.length_append]; have := HLL.out; omega)
      obtain ⟨m, hm⟩ : ∃ m, pr ++ F k = m := ⟨_, rfl⟩
      rw [hm] at HW HE HE1 HLk
      clear hm HS1 hlen
      obtain ⟨y0, y1, y2, y3⟩ := x
      have c0 : wr.cell? ⟨b, off + k * 3, none⟩ = some (.int .i64 y0) := hrow 0 _ rfl
      have c1 : wr.cell? ⟨b, off + k * 3 + 1, none⟩ = some (.int .i64 y1) := hrow 1 _ rfl
      have c2 : wr.cell? ⟨b, off + k * 3 + 2, none⟩ = some y2 := hrow 2 _ rfl
      obtain ⟨A3, cc3, hy2⟩ := HOK.out _ (List.mem_of_getElem? hxk)
      dsimp only at hy2
      subst hy2

      have hBs := HB.out.size
      have hB0s := HB0.out.size
      have HC1 : Hid (Calls Try.prog 62 #[.pointer (some ⟨g, 0, none⟩), .agg #[.int .i64 y0, .int .i64 y1, .slice A3 y3.length cc3]] (wr.alloc (.cells #[.int .i64 y0, .int .i64 y1, .slice A3 y3.length cc3] 79)) _) := hid (HE1.out _ (HW.out.alloc _) ((HB0.out.trans HB.out).alloc (by omega) _) HLk.out)
      have HBA := hid (HB.out.alloc (by omega) (.cells #[.int .i64 y0, .int .i64 y1, .slice A3 y3.length cc3] 79))
      clear HE1 hxk
      go_wp2_with fail
      refine HC1.out.mono ?_
      rintro e w2 ⟨⟨v2, rfl⟩, hw2, hb2⟩
      rw [← HE.out] at hw2
      have HW2 := hid hw2
      have HB2 := hid (HBA.out.trans hb2)
      clear hw2 hb2 HW HB HBA HC1 HE HLk hrow
      go_wp2_with fail
      go_roundw
      case rel => exact ⟨k + 1, by omega, by go_num, HW2, HB2⟩
      case measure => simp [intOf]; omega
    · obtain rfl : k = xs.length := by omega
      go_wp2
      go_end0
      exact ⟨⟨_, rfl⟩, HW.out, HB.out⟩

theorem encWris (xs : List Wri) (pr : List Nat) (u : Value) (g : Nat) (w0 w : World) (hu : Wrs w0 u xs) (hb0 : Below w0.heap.size w0 w) (hw : Wr w g w0.heap.size pr) (hbg : w0.heap.size ≤ g) (hx : xs.length ≤ 60000) (hl : pr.length + (eList eWri xs).length ≤ 60000) :
    Calls Try.prog 92 #[.pointer (some ⟨g, 0, none⟩), u, .func (.func 62) #[] #[]] w (Wrote w g w0.heap.size (pr ++ eList eWri xs)) :=
  encWri_any xs pr u g w0 w hu.2 hb0 hw hbg hx hl (fun _ x hk p W hW hB hl => wwri_any x p g w0 W (hu.1 x (List.mem_of_getElem? hk)).1 hB hW hbg (hu.1 x (List.mem_of_getElem? hk)).2 hl) (fun x hx => sec_form (hu.1 x hx).1)
theorem encInts (xs : List Int) (pr : List Nat) (u : Value) (g : Nat) (w0 w : World) (hu : Arr w0 u 1 (xs.map cInt)) (hb0 : Below w0.heap.size w0 w) (hw : Wr w g w0.heap.size pr) (hbg : w0.heap.size ≤ g) (hx : xs.length ≤ 60000) (hl : pr.length + (eList eNum xs).length ≤ 60000) :
    Calls Try.prog 83 #[.pointer (some ⟨g, 0, none⟩), u, .func (.func 52) #[] #[]] w (Wrote w g w0.heap.size (pr ++ eList eNum xs)) :=
  encInt_any xs pr u g w0 w hu hb0 hw hbg hx hl (fun _ x _ p W hW _ hl => wnum_any x p g w0.heap.size W hW hbg (by omega))
theorem encExts (xs : List (Int × Int)) (pr : List Nat) (u : Value) (g : Nat) (w0 w : World) (hu : Ext w0 u xs) (hb0 : Below w0.heap.size w0 w) (hw : Wr w g w0.heap.size pr) (hbg : w0.heap.size ≤ g) (hx : xs.length ≤ 60000) (hl : pr.length + (eList eExtI xs).length ≤ 60000) :
    Calls Try.prog 89 #[.pointer (some ⟨g, 0, none⟩), u, .func (.func 60) #[] #[]] w (Wrote w g w0.heap.size (pr ++ eList eExtI xs)) :=
  encExt_any xs pr u g w0 w hu hb0 hw hbg hx hl (fun _ x _ p W hW _ hl => wext_any x p g w0.heap.size W hW hbg (by omega))

end Go.Proofs.Ytchpoddfjbopbaa

/- index: Pages, walked. -/
import Derived.Test.YthjcohaldjfniaaG2
namespace Go.Proofs.Ythjcohaldjfniaa.Ix
open Go Go.RowKit
open Pq (Pg pv fq)
open It (fl)
theorem range_none {w : World} {B p : Nat} {F : Nat → Prop} {v : Value} (h : IdxAt w B F p v []) (a b : Int) : Calls Try.prog 21 #[.pointer (some ⟨p, 0, none⟩), .int .u64 a, .int .u64 b] w (RangeE w []) := by
  have HL := Lib.hid (len_any h)
  clear h
  go_enter Try.func21, Try.ntmps21
  go_wp2_with (go_at_call 18; refine HL.out.mono ?_; rintro e _ ⟨rfl, rfl⟩; simp only [cont, List.flatMap_nil, List.length_nil])
  go_ret
  exact ⟨_, rfl, World.ownsRow_nil _ _ _ _, Below.refl _ _⟩
theorem range_all {w : World} {B p : Nat} {F : Nat → Prop} {v : Value} {X : List Pg} (h : IdxAt w B F p v X) (a b : Int) (hn : (cont X).length ≤ 4096) : Calls Try.prog 21 #[.pointer (some ⟨p, 0, none⟩), .int .u64 a, .int .u64 b] w (RangeE w (rangeL (cont X) a b)) := by
  cases X with
  | nil => exact range_none h a b
  | cons t X => exact range_any h a b hn (by simp)
def PgsI (w : World) (Z : List Pg) (v : Value) (wr : World) : Prop :=
  ∃ Y : List Pg, wr.ownsRow w.heap.size 52 1 v Y.length (fq Y) ∧ Y.map Pg.P = Z.map Pg.P ∧ (∀ t ∈ Y, PgAt wr t ∧ w.heap.size ≤ t.g) ∧ Below w.heap.size w wr
def PagesE (w : World) (X : List Pg) (e : Ending) (w' : World) : Prop := ∃ v', e = .returned v' ∧ PgsI w X v' w'
theorem pages_nil (w : World) : Calls Try.prog 20 #[.pointer none] w (PagesE w []) := by
  go_enter Try.func20, Try.ntmps20
  go_wp2
  go_ret
  exact ⟨_, rfl, [], World.ownsRow_nil _ _ _ _, rfl, by simp, Below.refl _ _⟩
theorem src_page {w : World} {t : Pg} (h : PgAt w t) : ∀ j u, (fl t.P)[j]? = some u → w.cell? ((⟨t.g, 0, none⟩ : Addr).add j) = some u := fun j u hu => by
  have := h.part 0 t.P.length j u (by rw [List.drop_zero, List.take_length]; exact hu)
  rwa [Nat.zero_mul] at this
set_option maxRecDepth 100000 in
set_option maxHeartbeats 1000000 in
theorem pages_any {w : World} {B p : Nat} {F : Nat → Prop} {v : Value} {X : List Pg} (h : IdxAt w B F p v X) (hn : (cont X).length ≤ 4096) :
    Calls Try.prog 20 #[.pointer (some ⟨p, 0, none⟩)] w (PagesE w X) := by
  obtain ⟨i0, hi0, hz0, hz1, hz2⟩ := info_parts Pq.info52
  have hXl := cont_len h.fit
  have H := Lib.hid h
  have c0 := h.cells.1
  obtain ⟨ao, cap, ev, hxc, hcell⟩ := h.slice
  have HCELL := Lib.hid hcell
  subst ev
  clear h hcell
  go_enter Try.func20, Try.ntmps20
  go_wp2_with fail
  go_loopw [3, 13] (fun u3 u13 wr => ∃ k : Nat, k ≤ X.length ∧ u13 = .int .i64 k ∧ Hid (PgsI w (X.take k) u3 wr)) (fun _ u13 _ => X.length - (intOf u13).toNat)
  case atStart => exact ⟨0, Nat.zero_le _, rfl, Lib.hid ⟨[], World.ownsRow_nil _ _ _ _, rfl, by simp, Below.refl _ _⟩⟩
  case round =>
    obtain ⟨k, hk, rfl, I⟩ := hrel
    by_cases hlt : k < X.length
    · obtain ⟨g, eg, hc⟩ := HCELL.out (by omega)
      subst eg
      have hs := getD_at X k default hlt
      obtain ⟨s, es⟩ : ∃ s, s = X.getD k default := ⟨_, rfl⟩
      rw [← es] at hs
      obtain ⟨Y, y1, y2, y3, y4⟩ := I.out
      have c1w := hc k s hs
      have c1 : wr.cell? ⟨g, k, none⟩ = some (pv s) := (y4.cell (p := ⟨g, k, none⟩) (World.block_lt_of_cell? w _ c1w)).trans c1w
      have hsw := (H.out.pgs s (List.mem_of_getElem? hs)).1
      have hsP : PgAt wr s := hsw.on (y4.block _ hsw.lt)
      have hs8 := H.out.fit.one s (List.mem_of_getElem? hs)
      have HC := Lib.hid (clone_any s.P s.g 0 s.cap wr (by omega) (by omega) hsP.lt (src_page hsP))
      have HS := Lib.hid hs
      have ik : (k : Int) < (X.length : Int) := by omega
      have hYl : Y.length = k := by
        have := congrArg List.length y2
        simp at this
        omega
      have HY := Lib.hid (And.intro y1 (And.intro y2 (And.intro y3 (And.intro y4 hYl))))
      unfold pv at c1
      clear es hs c1w hsw hsP hs8 y1 y2 y3 y4 hYl hc
      go_wp2_with fail
      refine HC.out.mono ?_
      rintro e w1 ⟨t, rfl, p1, p2, p3, p4⟩
      obtain ⟨y1, y2, y3, y4, hYl⟩ := HY.out
      have hb1 : Below w.heap.size w w1 := y4.trans (p4.mono y4.size)
      have ho : (w1.alloc (.cells #[pv t] 52)).ownsRow w.heap.size 52 1 u3 Y.length (fq Y) := World.ownsRow.alloc (own_on y1 (fun g e => p4.block g (World.ownsRow.lt y1 g e).2)) _
      have HO := Lib.hid ho
      have HBx := Lib.hid (hb1.alloc hb1.size (.cells #[pv t] 52))
      have HNx := Lib.hid (show ∀ j u, ([pv t])[j]? = some u → (w1.alloc (.cells #[pv t] 52)).cell? ((⟨w1.heap.size, 0, none⟩ : Addr).add j) = some u from fun j u hu => by
        rw [Go.WideShapes.add_plain, Nat.zero_add, World.cell?_alloc_new]
        simpa using hu)
      have HT := Lib.hid (And.intro p1 (And.intro p2 (And.intro p3 p4)))
      have ys := y4.size
      clear y1 y2 y3 y4 hb1 ho p1 p2 p3 p4
      unfold pv at HO HBx HNx
      unfold pv
      go_wp2_with (at_builtin; refine wpList_append_own_at _ rfl (.tmp 17) (.tmp 20) 50 rfl w.heap.size 52 i0 _ 1 24 Try.underlying50 hi0 hz0 hz1 hz2 rfl (by decide) _ _ _ rfl HO.out ⟨w1.heap.size, 0, none⟩ 1 1 _ rfl rfl HNx.out (by simp [Value.oneCell']) (by unfold maxLen; omega) (by omega) HBx.out.size ?_; intro v' w3 hown3 hgrow3 _ _; have H3 := Lib.hid (And.intro hown3 hgrow3); clear hown3 hgrow3)
      go_roundw
      case rel =>
        refine ⟨k + 1, by omega, by go_num, Lib.hid ?_⟩
        obtain ⟨y1, y2, y3, y4, hYl⟩ := HY.out
        obtain ⟨p1, p2, p3, p4⟩ := HT.out
        obtain ⟨hown3, hgrow3⟩ := H3.out
        have keep : ∀ s : Pg, PgAt w1 s → PgAt w3 s := fun s hs => by
          refine (hs.on (heap_alloc_old w1 _ hs.lt)).on (hgrow3.block _ (by simp; have := hs.lt; omega) (fun e => ?_))
          exact row_ne (hs.on (heap_alloc_old w1 _ hs.lt)) HO.out e.symm
        refine ⟨Y ++ [t], ?_, ?_, ?_, grown_below HBx.out hgrow3 (fun k e => (World.ownsRow.lt HO.out k e).1)⟩
        · rw [Pq.fq_app, List.length_append]; exact hown3
        · rw [List.map_append, y2]
          have hs := HS.out
          obtain ⟨h6, e6⟩ := List.getElem?_eq_some_iff.1 hs
          rw [List.take_succ_eq_append_getElem h6, e6, List.map_append]
          simp [p1]
        · intro r hr
          rcases List.mem_append.1 hr with hr | hr
          · exact ⟨keep r ((y3 r hr).1.on (p4.block _ (y3 r hr).1.lt)), (y3 r hr).2⟩
          · simp at hr
            subst hr
            exact ⟨keep r p2, by omega⟩
      case measure => simp [intOf]; omega
    · obtain rfl : k = X.length := by omega
      go_wp2_with fail
      go_ret
      have := I.out
      rw [List.take_length] at this
      exact ⟨u3, rfl, this⟩
end Go.Proofs.Ythjcohaldjfniaa.Ix

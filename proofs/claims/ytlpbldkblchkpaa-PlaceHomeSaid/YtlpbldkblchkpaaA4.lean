/- place: List, walked. -/
import Derived.Test.YtlpbldkblchkpaaA3
import Derived.Deep.MidRow
namespace Go.Proofs.Ytlpbldkblchkpaa.Pl
open Go Go.RowKit
/-- What has moved. -/
def mv (L : List Ent) : List Ent := L.filter fun t => !(t.2.2 == 0)
theorem mv_len (L : List Ent) : (mv L).length ≤ L.length := List.length_filter_le _ _
theorem take_next {α : Type} {L : List α} {j : Nat} {t : α} (h : L[j]? = some t) : L.take (j + 1) = L.take j ++ [t] := by
  obtain ⟨hj, e⟩ := List.getElem?_eq_some_iff.1 h
  rw [List.take_succ_eq_append_getElem hj, e]
theorem mv_no {L : List Ent} {j : Nat} {t : Ent} (h : L[j]? = some t) (h0 : (t.2.2 == 0) = true) : mv (L.take (j + 1)) = mv (L.take j) := by
  rw [take_next h]; simp [mv, h0]
theorem mv_yes {L : List Ent} {j : Nat} {t : Ent} (h : L[j]? = some t) (h0 : (t.2.2 == 0) = false) : mv (L.take (j + 1)) = mv (L.take j) ++ [t] := by
  rw [take_next h]; simp [mv, h0]
theorem DirAt.range {w : World} {b : Nat} {n : Int} {G : Nat → Ent} (h : DirAt w b n G) : w.rangeAt b 1 (fl (rows G)) := fun j v hv => by
  unfold DirAt at h
  rw [show 1 + j = j + 1 by omega]
  simp [World.cell?, h, dirL, hv]
theorem three (G : Nat → Ent) {k : Nat} (h : k < 40) : (fl (rows G)).toArray.extract (k * 3) (k * 3 + 3) = #[.int .u32 (G k).1, .int .u8 (G k).2.1, .int .u32 (G k).2.2] := by
  have hf := fl_at (rows_at G h)
  have hl : (fl (rows G)).length = 120 := by rw [fl_len, rows_len]
  apply Array.ext
  · simp [hl]; omega
  · intro i hi hj
    simp at hj
    have hi3 : i < 3 := hj
    have hg := hf i hi3
    rw [Array.getElem_extract]
    have hx : ∀ (v : Value), (fl (rows G))[k * 3 + i]? = some v → ∀ hh : k * 3 + i < (fl (rows G)).toArray.size, (fl (rows G)).toArray[k * 3 + i] = v := fun v hv hh => by
      rw [List.getElem_toArray]
      exact (List.getElem?_eq_some_iff.1 hv).2
    obtain rfl | rfl | rfl : i = 0 ∨ i = 1 ∨ i = 2 := by omega
    · exact hx _ hg _
    · exact hx _ hg _
    · exact hx _ hg _
theorem size43' : (Try.prog.info? 43).map (·.size) = some 120 := by kernel_rfl
theorem size43 (G : Nat → Ent) : (Try.prog.info? 43).map (·.size) = some (fl (rows G)).length := by rw [fl_len, rows_len]; exact size43'
theorem idx43 (c : Array Value) (w : World) (k : Nat) (hk : k < 40) (x y z : Value) (h : c.extract (k * 3) (k * 3 + 3) = #[x, y, z]) : (Instr.index 43 (.agg c) (.int .i64 k)).run Try.prog w = .ok (.agg #[x, y, z]) w := by
  have hi : (0 : Int) ≤ k ∧ (k : Int) < 40 := by omega
  simp [Instr.index, run_underlying Try.underlying43, asIntOf, hi, go_sem, Try.isAgg37, Try.sizeOf37, h]
  exact fun e => absurd e (by omega)
theorem info37 : (Try.prog.info? 37).map (fun i => (i.zero, i.size, i.bytes)) = some (some (.agg #[.int .u32 0, .int .u8 0, .int .u32 0]), 3, 12) := by kernel_rfl
theorem news37 (w : World) (t : Ent) : ∀ j u, (fl [t])[j]? = some u → (w.alloc (.cells #[.int .u32 t.1, .int .u8 t.2.1, .int .u32 t.2.2] 37)).cell? ((⟨w.heap.size, 0, none⟩ : Addr).add j) = some u :=
  World.news_of_block (heap_alloc_new w (.cells #[.int .u32 t.1, .int .u8 t.2.1, .int .u32 t.2.2] 37))
theorem one37 (t : Ent) : ∀ u ∈ fl [t], u.oneCell' = true := by
  intro u hu
  simp [fl, en] at hu
  rcases hu with rfl | rfl | rfl <;> rfl
theorem done37 {w W w3 : World} {lv : Value} {n : Nat} {xs : List Value} (h : W.ownsRow w.heap.size 37 3 lv n xs) (hg : W.grownBy w3 lv.ownBlock) (hb : Below w.heap.size w W) : Below w.heap.size w w3 :=
  ⟨hg.os.trans hb.os, hg.tape.trans hb.tape, hg.output.trans hb.output, Nat.le_trans hb.size hg.size, fun j hj => (hg.block j (by have := hb.size; omega) (fun e => by have := (World.ownsRow.lt h j e.symm).1; omega)).trans (hb.block j hj)⟩
def OutR (w : World) (L : List Ent) (e : Ending) (w' : World) : Prop := ∃ v', e = .returned v' ∧ w'.ownsRow w.heap.size 37 3 v' L.length (fl L) ∧ Below w.heap.size w w'
set_option maxRecDepth 100000 in
set_option maxHeartbeats 8000000 in
theorem list_any {w : World} {b : Nat} {n : Int} {G : Nat → Ent} (h : DirAt w b n G) :
    Calls Try.prog 10 #[.pointer (some ⟨b, 0, none⟩)] w (OutR w (mv (rows G))) := by
  obtain ⟨i0, hi0, hz0, hz1, hz2⟩ := info_parts info37
  have HZ := Lib.hid (And.intro hi0 (And.intro hz0 (And.intro hz1 hz2)))
  have H := Lib.hid h
  clear hi0 hz0 hz1 hz2 h
  go_enter Try.func10, Try.ntmps10
  go_wp2_with (refine wpList_load_mid rfl 43 (.tmp 10) rfl b 1 rfl (fl (rows G)) _ H.out.range Try.underlying43 rfl (size43 _) ?_)
  obtain ⟨ga, hga⟩ : ∃ ga, (fl (rows G)).toArray = ga := ⟨_, rfl⟩
  have HGA := Lib.hid hga
  rw [hga]
  clear hga
  go_loopw [12, 3] (fun u lv wr => ∃ j : Nat, j ≤ 40 ∧ u = .int .i64 j ∧ Hid (wr.ownsRow w.heap.size 37 3 lv (mv ((rows G).take j)).length (fl (mv ((rows G).take j))) ∧ Below w.heap.size w wr)) (fun u _ _ => 40 - (intOf u).toNat)
  case atStart => exact ⟨0, by omega, rfl, Lib.hid ⟨World.ownsRow_nil _ _ _ _, Below.refl _ _⟩⟩
  case round =>
    obtain ⟨j, hj, rfl, HA⟩ := hrel
    by_cases hlt : j < 40
    · have hi : (j : Int) < 40 := by omega
      have hg2 := three G hlt
      rw [HGA.out] at hg2
      have hx := fun w => idx43 ga w j hlt _ _ _ hg2
      have HS := Lib.hid (rows_at G hlt)
      obtain ⟨t, ht⟩ : ∃ t, G j = t := ⟨_, rfl⟩
      rw [ht] at HS hx hg2
      clear ht hg2
      have hb1 := Lib.hid (HA.out.2.alloc HA.out.2.size (.cells #[.int .u32 t.1, .int .u8 t.2.1, .int .u32 t.2.2] 37))
      have hb2 := Lib.hid (hb1.out.alloc hb1.out.size (.cells #[.int .u32 t.1, .int .u8 t.2.1, .int .u32 t.2.2] 37))
      have HO1 := Lib.hid (World.ownsRow.alloc HA.out.1 (.cells #[.int .u32 t.1, .int .u8 t.2.1, .int .u32 t.2.2] 37))
      have HO := Lib.hid (World.ownsRow.alloc HO1.out (.cells #[.int .u32 t.1, .int .u8 t.2.1, .int .u32 t.2.2] 37))
      have HW := Lib.hid (show ∀ j u, (fl [t])[j]? = some u → ((wr.alloc (.cells #[.int .u32 t.1, .int .u8 t.2.1, .int .u32 t.2.2] 37)).alloc (.cells #[.int .u32 t.1, .int .u8 t.2.1, .int .u32 t.2.2] 37)).cell? ((⟨wr.heap.size + 1, 0, none⟩ : Addr).add j) = some u from fun j u hu => by
        have := news37 (wr.alloc (.cells #[.int .u32 t.1, .int .u8 t.2.1, .int .u32 t.2.2] 37)) t j u hu
        rwa [World.size_alloc] at this)
      have HL := Lib.hid (show (mv ((rows G).take j)).length ≤ 40 from Nat.le_trans (mv_len _) (by rw [List.length_take]; omega))
      by_cases h0 : t.2.2 = 0
      · have hb0 : (t.2.2 == 0) = true := by simpa using h0
        have HB := Lib.hid (mv_no HS.out hb0)
        clear h0
        go_wp2_with fail
        refine ⟨⟨j + 1, by omega, rfl, Lib.hid ⟨?_, hb1.out⟩⟩, by simp [intOf]; omega⟩
        rw [HB.out]
        exact HO1.out
      · have hb0 : (t.2.2 == 0) = false := by simpa using h0
        have HB := Lib.hid (mv_yes HS.out hb0)
        clear h0
        go_wp2_with (at_builtin; refine wpList_append_lies _ rfl (.tmp 18) (.tmp 20) 33 rfl w.heap.size 37 i0 _ 3 12 Try.underlying33 HZ.out.1 HZ.out.2.1 HZ.out.2.2.1 HZ.out.2.2.2 rfl (by decide) _ (mv ((rows G).take j)).length (fl (mv ((rows G).take j))) rfl HO.out ⟨wr.heap.size + 1, 0, none⟩ 1 1 (fl [t]) rfl (by rw [fl_len]; rfl) HW.out (one37 t) (by decide) (by unfold maxLen; have := HL.out; omega) (by have := HL.out; omega) hb2.out.size _ rfl ?_; intro g3 c3 w3 hown3 hgrow3 _ _; have H3 := Lib.hid (And.intro hown3 (done37 HO.out hgrow3 hb2.out)); clear hown3 hgrow3)
        refine ⟨⟨j + 1, by omega, rfl, Lib.hid ⟨?_, H3.out.2⟩⟩, by simp [intOf]; omega⟩
        rw [HB.out, fl_app, List.length_append]
        exact H3.out.1
    · obtain rfl : j = 40 := by omega
      go_wp2_with fail
      go_ret
      refine ⟨_, rfl, ?_, HA.out.2⟩
      have := HA.out.1
      rwa [List.take_of_length_le (by rw [rows_len]; exact Nat.le_refl _)] at this
end Go.Proofs.Ytlpbldkblchkpaa.Pl

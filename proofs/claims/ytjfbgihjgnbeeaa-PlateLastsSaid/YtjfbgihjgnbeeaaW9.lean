/- plate: the document's example, walked. -/
import Derived.Test.YtjfbgihjgnbeeaaW8
import Derived.Test.YtjfbgihjgnbeeaaW7
import Derived.Test.YtjfbgihjgnbeeaaW4
import Derived.Outline
namespace Go.Proofs.Ytjfbgihjgnbeeaa.Pl
open Go Go.RowKit
theorem PlateAt.alloc {w : World} {B b n bm : Nat} {F : Nat → Prop} {v : Value} {s : PSt} (h : PlateAt w B F b n bm v s) (o : Obj) : PlateAt (w.alloc o) B F b n bm v s := h.on (turned_alloc o) (fun _ _ h => h)
theorem PlateAt.below {w w' : World} {B b n bm : Nat} {F : Nat → Prop} {v : Value} {s : PSt} (h : PlateAt w B F b n bm v s) (hb : Below w.heap.size w w') : PlateAt w' B F b n bm v s := h.on (below_turned0 hb) (fun _ _ h => h)
theorem Did.at {w w' : World} {B b n bm : Nat} {F : Nat → Prop} {s : PSt} (h : Did w B F b n bm s w') (hlow : ∀ k, F k → B ≤ k) (hB : B ≤ w.heap.size) : ∃ v F', PlateAt w' B F' b n bm v s ∧ Below B w w' ∧ w.heap.size ≤ w'.heap.size := by
  obtain ⟨v, F', h1, h2, h3⟩ := h
  exact ⟨v, F', h1, h3.below hB hlow, h3.size⟩
theorem one_src (w : World) (x : Int) (h0 : 0 ≤ x) (h1 : x ≤ 255) : Src (w.alloc (.cells #[.int .u8 x] 5)) (some ⟨w.heap.size, 0, none⟩) [.int .u8 x] :=
  own_src (base := w.heap.size) (lit_own w w.heap.size [.int .u8 x] (Nat.le_refl _) (by show (1 : Nat) ≤ maxLen; unfold maxLen; omega)) (fun y hy => by rw [List.mem_singleton.1 hy]; exact ⟨x, rfl, h0, h1⟩)
theorem example_page (c2 : Array Value) (pg : Int → Array Value) (a : Array Value) (rest : List Value) (L : List Ent) (h2 : c2.toList = .int .u8 2 :: rest) (hL : L.map Subtype.val = [(0, a, c2)]) : (rep [.int .u8 2] L (unl (bk L) pg) L.length 0)[0]? = some (.int .u8 2) := by
  obtain ⟨t, rfl⟩ : ∃ t, L = [t] := by
    have := congrArg List.length hL
    rw [List.length_map] at this
    exact List.length_eq_one_iff.1 this
  have ht : t.1 = (0, a, c2) := by simpa using hL
  have h0 : t.1.1 = 0 := by rw [ht]
  have h22 : t.1.2.2 = c2 := by rw [ht]
  have hw : wy [.int .u8 2] 0 = 2 := rfl
  show (rep [.int .u8 2] [t] (unl (bk [t]) pg) 1 0)[0]? = _
  rw [rep_succ (k := 0) (t := t) rfl, h0, h22, hw]
  simp only [upd, if_true]
  have : Ov (rep [.int .u8 2] [t] (unl (bk [t]) pg) 0 0) c2 2 = (splice (rep [.int .u8 2] [t] (unl (bk [t]) pg) 0 0).toList 0 (c2.toList.take 32)).toArray := by simp [Ov]
  rw [this, h2]
  simp [splice]
set_option maxRecDepth 100000 in
set_option maxHeartbeats 2000000 in
theorem awake_any (w : World) : Calls Try.prog 8 #[] w fun e w' => e = .returned (.bool true) ∧ Below w.heap.size w w' := by
  go_enter Try.func8, Try.ntmps8
  go_wp2_with fail
  refine (new_ok 4 w (by decide) (by decide)).mono ?_
  rintro e w1 ⟨rfl, hP1, hB1⟩
  have HP1 := Lib.hid hP1
  have HB1 := Lib.hid hB1
  clear hP1 hB1
  have hlow0 : ∀ k, (k = w.heap.size ∨ k = w.heap.size + 1) → w.heap.size ≤ k := fun k hk => by omega
  go_wp2_with fail
  refine (write_ok (w.heap.size + 1) 0 w.heap.size w.heap.size _ _ (st0 4) 0 (some ⟨w1.heap.size, 0, none⟩) 1 1 [.int .u8 1] _ (HP1.out.alloc _) rfl (by decide) (by decide) rfl (by decide) (one_src w1 1 (by decide) (by decide)) (by unfold maxLen; omega) (by decide) (by decide)).mono ?_
  rintro e w2 ⟨rfl, hD2⟩
  obtain ⟨v2, F2, hP2, hB2, hs2⟩ := hD2.at (HP1.out.alloc (.cells #[.int .u8 1] 5)).low (HP1.out.alloc (.cells #[.int .u8 1] 5)).base
  have HP2 := Lib.hid hP2
  have HB2 := Lib.hid ((HB1.out.alloc (by have := HB1.out.size; omega) _).trans hB2)
  clear hD2 hP2 hB2 hs2 hlow0
  rw [show An (st0 4).left = 0 from rfl]
  go_wp2_with fail
  refine (flush_any _ _ _ _ _ _ _ w2 HP2.out rfl (by decide)).mono ?_
  rintro e w3 ⟨rfl, hD3⟩
  obtain ⟨v3, F3, hP3, hB3, hs3⟩ := hD3.at HP2.out.low HP2.out.base
  have HP3 := Lib.hid hP3
  have HB3 := Lib.hid (HB2.out.trans hB3)
  clear hD3 hP3 hB3 hs3
  rw [show An (wrote (st0 4) 0 (pageOf [.int .u8 1])).left = 0 from rfl]
  have hw3 := HB3.out.size
  go_wp2_with (refine wpList_append_made (by kernel_rfl) (.tmp 28) (.const (.int .i64 40)) rfl w.heap.size w3.heap.size 1 1 40 [.int .u8 2] rfl rfl (lit_own w3 w.heap.size [.int .u8 2] hw3 (by show (1 : Nat) ≤ maxLen; unfold maxLen; omega)) (by simp; omega) (by decide) (by decide) ?_; intro g4 c4 w4 hown4 hg4 hat4; have HO4 := Lib.hid hown4; have HG4 := Lib.hid (And.intro hg4 hat4); clear hown4 hg4 hat4)
  have t4 : Turned (fun k => k = w3.heap.size) (w3.alloc (.cells #[.int .u8 2] 5)) w4 := .of_grown HG4.out.1 (fun k e => by injection e with e; exact e.symm)
  have hP4 := (HP3.out.alloc (.cells #[.int .u8 2] 5)).on t4 (fun k hk e => by have := HP3.out.hi k hk; omega)
  have hB4 := (HB3.out.alloc hw3 (.cells #[.int .u8 2] 5)).trans (t4.below (by simp; omega) (fun k e => by subst e; exact hw3))
  have HP4 := Lib.hid hP4
  have HB4 := Lib.hid hB4
  have hsrc4 := own_src HO4.out (fun x hx => by
    rcases List.mem_append.1 hx with hx | hx
    · rw [List.mem_singleton.1 hx]; exact ⟨2, rfl, by decide, by decide⟩
    · exact zs_byte x hx)
  have HS4 := Lib.hid hsrc4
  clear t4 hP4 hB4 hsrc4 hw3 HO4 HG4
  refine (write_ok _ _ _ _ _ _ _ 0 (some ⟨g4, 0, none⟩) (1 + 40) c4 ([.int .u8 2] ++ zs 40) w4 HP4.out rfl (by decide) (by decide) (by rw [List.length_append, zs_len]; rfl) (by decide) HS4.out (by unfold maxLen; omega) (by decide) (by decide)).mono ?_
  rintro e w5 ⟨rfl, hD5⟩
  obtain ⟨v5, F5, hP5, hB5, _⟩ := hD5.at HP4.out.low HP4.out.base
  have HP5 := Lib.hid hP5
  have HB5 := Lib.hid (HB4.out.trans hB5)
  clear hD5 hP5 hB5
  rw [show An (flushed (wrote (st0 4) 0 (pageOf [.int .u8 1]))).left = 0 from rfl]
  go_wp2_with fail
  refine (arm_ok _ _ _ _ _ _ _ 1 w5 HP5.out rfl (by decide) (by decide)).mono ?_
  rintro e w6 ⟨rfl, hD6⟩
  obtain ⟨v6, F6, hP6, hB6, _⟩ := hD6.at HP5.out.low HP5.out.base
  have HP6 := Lib.hid hP6
  have HB6 := Lib.hid (HB5.out.trans hB6)
  clear hD6 hP6 hB6
  go_wp2_with fail
  refine (flush_any _ _ _ _ _ _ _ w6 HP6.out rfl (by decide)).mono ?_
  rintro e w7 ⟨rfl, hD7⟩
  obtain ⟨v7, F7, hP7, hB7, _⟩ := hD7.at HP6.out.low HP6.out.base
  have HP7 := Lib.hid hP7
  have HB7 := Lib.hid (HB6.out.trans hB7)
  clear hD7 hP7 hB7
  rw [show An 1 = 11 from rfl]
  go_wp2_with fail
  refine (fate_any (some ⟨w7.heap.size, 0, none⟩) 1 1 [.int .u8 2] _ rfl (by decide) (one_src w7 2 (by decide) (by decide)) (fun h => by cases h)).mono ?_
  rintro e w8 ⟨g8, c8, rfl, hO8, hB8⟩
  have hP8 := (HP7.out.alloc (.cells #[.int .u8 2] 5)).below hB8
  have HP8 := Lib.hid hP8
  have HB8 := Lib.hid ((HB7.out.alloc (by have := HB7.out.size; omega) (.cells #[.int .u8 2] 5)).trans (hB8.mono (by have := HB7.out.size; simp; omega)))
  have hg8 : w7.heap.size < g8 := by
    have := (World.ownsRow.lt hO8 g8 rfl).1
    simp at this; omega
  have HS8 := Lib.hid (own_src hO8 (fun x hx => by rw [List.mem_singleton.1 hx]; exact ⟨2, rfl, by decide, by decide⟩))
  have HNF := Lib.hid (show ∀ ad, (some ⟨g8, 0, none⟩ : Option Addr) = some ad → ¬ F7 ad.block from fun ad e hf => by
    cases e
    have := HP7.out.hi _ hf
    simp only at this; omega)
  clear hP8 hO8 hB8 hg8
  go_wp2_with fail
  refine (restart_ok _ _ _ _ _ _ _ (some ⟨g8, 0, none⟩) 1 c8 [.int .u8 2] w8 HP8.out rfl rfl (by decide) HS8.out HNF.out (by unfold maxLen; decide) (by decide)).mono ?_
  rintro e w9 ⟨rfl, L, hL, hD9⟩
  obtain ⟨v9, F9, hP9, hB9, _⟩ := hD9.at HP8.out.low HP8.out.base
  have HP9 := Lib.hid hP9
  have HB9 := Lib.hid (HB8.out.trans hB9)
  have HLL := Lib.hid hL
  clear hD9 hP9 hB9 hL
  go_wp2_with fail
  refine (read_ok _ _ _ _ _ _ _ 0 w9 HP9.out rfl (by decide) (by show (0 : Int) < 4; decide)).mono ?_
  rintro e w10 ⟨rfl, rfl⟩
  have hq : (rep [.int .u8 2] L (unl (bk L) (flushed { wrote (flushed (wrote (st0 4) 0 (pageOf [.int .u8 1]))) 0 (pageOf ([.int .u8 2] ++ zs 40)) with left := 1 }).pg) L.length 0)[0]? = some (.int .u8 2) :=
    example_page (pageOf ([.int .u8 2] ++ zs 40)) _ ((wrote (st0 4) 0 (pageOf [.int .u8 1])).pg 0) _ L rfl (HLL.out.trans rfl)
  have hc : ∀ (q : Array Value), q[0]? = some (.int .u8 2) → (w9.alloc (.cells q 82)).cell? ⟨w9.heap.size, 0, none⟩ = some (.int .u8 2) := fun q hq => by
    rw [cell_of_row _ _ 0 q 82 (0, 0) (heap_alloc_new w9 _)]; exact hq
  have hc' := hc _ hq
  have hb10 := HB9.out.alloc (by have := HB9.out.size; omega) (.cells (rep [.int .u8 2] L (unl (bk L) (flushed { wrote (flushed (wrote (st0 4) 0 (pageOf [.int .u8 1]))) 0 (pageOf ([.int .u8 2] ++ zs 40)) with left := 1 }).pg) L.length 0) 82)
  have HB10 := Lib.hid hb10
  clear hq hc hb10
  generalize (w9.alloc (.cells (rep [.int .u8 2] L (unl (bk L) (flushed { wrote (flushed (wrote (st0 4) 0 (pageOf [.int .u8 1]))) 0 (pageOf ([.int .u8 2] ++ zs 40)) with left := 1 }).pg) L.length 0) 82)) = w10 at *
  go_wp2_with fail
  go_ret
  exact ⟨rfl, HB10.out⟩
end Go.Proofs.Ytjfbgihjgnbeeaa.Pl

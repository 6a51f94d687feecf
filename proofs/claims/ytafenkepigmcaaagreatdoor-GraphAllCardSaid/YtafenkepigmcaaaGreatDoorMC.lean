/- graph: hold of a vertex with nothing that is there, walked. -/
import Derived.Test.YtafenkepigmcaaaGreatDoorMB
import Derived.WalkKit
import Derived.OwnWalkIn
import Derived.TacticsInMore
import Derived.LoopNIn
import Derived.LoopIn
namespace Go.Proofs.YtafenkepigmcaaaGreatDoor.Gr
open Go Go.RowKit YtafenkepigmcaaaGreatDoor.So
theorem mp_made (w : World) : MP (w.alloc (.map #[] 0)) w.heap.size 0 [] := ⟨MapE.made _ _ _ _, fun e he => by cases he⟩
theorem me_made (w : World) : ME (w.alloc (.map #[] 0)) w.heap.size 0 [] := ⟨MapE.made _ _ _ _, fun e he => by cases he⟩
set_option maxRecDepth 100000 in
set_option maxHeartbeats 2000000 in
theorem hold_in (g n : Nat) (F : Nat → Prop) (G : GV) (v : Int) (w : World) (h : Gp w n F g G) (hn : n < maxLen) (hv : In32 v) :
    Calls Tryz.prog 70 #[.pointer (some ⟨g, 0, none⟩), bareV v true] w fun e w' => e = .returned (.tuple #[]) ∧ Done w F (n + 1) g (putE (delE G v) v ([], [])) w' := by
  obtain ⟨mp, me, bp, be, h⟩ := h
  unfold bareV
  obtain ⟨z, hz⟩ : ∃ z, w.heap.size = z := ⟨_, rfl⟩
  obtain ⟨W, hW⟩ : ∃ W, w.alloc (.cells #[.int .u32 v, .bool true, .slice none 0 0, .slice none 0 0] 51) = W := ⟨_, rfl⟩
  have b0 := (Below.refl w.heap.size w).alloc (Nat.le_refl _) (.cells #[.int .u32 v, .bool true, .slice none 0 0, .slice none 0 0] 51)
  have hzb := heap_alloc_new w (.cells #[.int .u32 v, .bool true, .slice none 0 0, .slice none 0 0] 51)
  rw [hW, hz] at hzb
  rw [hW] at b0
  have hG := h.below b0
  obtain ⟨w1, w2, d1, d2, ⟨c1, z1⟩, hz2, hG2, ht⟩ := two_del hG hv hzb
  obtain ⟨c0, _⟩ := hG.cells
  obtain ⟨z0, _⟩ := bx hzb
  obtain ⟨_, y1, y2, _⟩ := bx hz2
  have HX := Lib.hid (And.intro hG2 (And.intro ((turned_low (K := F) b0).then ht) (And.intro hz2 (And.intro (fun k hk => Nat.lt_of_lt_of_le (h.hi k hk) (Nat.le_refl _)) hv))))
  have hmm := @run_makeMap Tryz.prog
  clear h hG hG2 ht b0 hzb
  go_enter Tryz.func70, Tryz.ntmps70
  go_upto_region 1 with fail
  go_region
  go_upto_region 2 with fail
  go_region
  have hz3 := (heap_alloc_old w2 (.map #[] 0) (Array.getElem?_eq_some_iff.1 HX.out.2.2.1).1).trans HX.out.2.2.1
  obtain ⟨_, _, y3, _⟩ := bx hz3
  have HP3 := Lib.hid (mp_made w2)
  have HB3 := Lib.hid ((Below.refl w2.heap.size w2).alloc (Nat.le_refl _) (.map #[] 0))
  clear hz2
  go_wp2_with fail
  clear y1 y2 y3
  obtain ⟨b, hb⟩ : ∃ b, w2.heap.size = b := ⟨_, rfl⟩
  obtain ⟨W3, hW3⟩ : ∃ W, w2.alloc (.map #[] 0) = W := ⟨_, rfl⟩
  have HbB := Lib.hid hb
  rw [hW3] at hz3 HP3 HB3 ⊢
  rw [hb] at HP3 HB3 ⊢
  clear hW3 hb
  go_loopw [29] (fun u wr => u = .int .i64 0 ∧ wr = W3) (fun _ _ => 0)
  case atStart => exact ⟨rfl, rfl⟩
  case round =>
    obtain ⟨rfl, hq⟩ := hrel
    have hq := hq.symm
    subst hq
    have hz4 := (heap_alloc_old W3 (.map #[] 0) (Array.getElem?_eq_some_iff.1 hz3).1).trans hz3
    obtain ⟨_, _, _, y4⟩ := bx hz4
    have HL4 := Lib.hid (me_made W3)
    have HB4 := Lib.hid ((Below.refl W3.heap.size W3).alloc (Nat.le_refl _) (.map #[] 0))
    go_wp2_with fail
    clear y4
    obtain ⟨c, hc⟩ : ∃ c, W3.heap.size = c := ⟨_, rfl⟩
    obtain ⟨W4, hW4⟩ : ∃ W, W3.alloc (.map #[] 0) = W := ⟨_, rfl⟩
    have HcB := Lib.hid hc
    rw [hW4] at hz4 HL4 HB4 ⊢
    rw [hc] at HL4 HB4 ⊢
    clear hW4 hc
    go_loopw [44] (fun u wr => u = .int .i64 0 ∧ wr = W4) (fun _ _ => 0)
    case atStart => exact ⟨rfl, rfl⟩
    case round =>
      obtain ⟨rfl, hq⟩ := hrel
      have hq := hq.symm
      subst hq
      obtain ⟨Gw, s1, s2, hG0, e1, f1, e2, f2, k0, k1, k2, HS⟩ : ∃ (Gw : Nat → Nat → World) (s1 s2 : Nat), W4.drew = Gw 0 0 ∧
          (∀ y, (Instr.mapEntry 106 (.map (some mp)) (.int .u32 v)).run Tryz.prog (Gw 0 y) = .ok (.tuple #[.map none, .int .i64 (s1 : Int)]) (Gw 1 y)) ∧
          (∀ y, (Instr.entryStore 106 (.map (some mp)) (.int .i64 (s1 : Int)) (.map (some b))).run Tryz.prog (Gw 1 y) = .ok () (Gw 2 y)) ∧
          (∀ x, (Instr.mapEntry 107 (.map (some me)) (.int .u32 v)).run Tryz.prog (Gw x 0) = .ok (.tuple #[.map none, .int .i64 (s2 : Int)]) (Gw x 1)) ∧
          (∀ x, (Instr.entryStore 107 (.map (some me)) (.int .i64 (s2 : Int)) (.map (some c))).run Tryz.prog (Gw x 1) = .ok () (Gw x 2)) ∧
          (∀ x y, (Gw x y).cell? ⟨g, 0, none⟩ = some (.map (some mp))) ∧ (∀ x y, (Gw x y).cell? ⟨g, 1, none⟩ = some (.map (some me))) ∧ (∀ x y, (Gw x y).cell? ⟨z, 0, none⟩ = some (.int .u32 v)) ∧
          Done w F (n + 1) g (putE (delE G v) v ([], [])) (Gw 2 2) := by
        obtain ⟨hG2, ht2, hzz, hhi, _⟩ := HX.out
        have hb := HbB.out
        have hc := HcB.out
        have sz2 : w2.heap.size ≤ W3.heap.size := by have := HB3.out.size; omega
        have sz3 : W3.heap.size ≤ W4.heap.size := by have := HB4.out.size; omega
        have B3 : Below w2.heap.size w2 W3 := HB3.out.mono (by omega)
        have B4 : Below W3.heap.size W3 W4 := HB4.out.mono (by omega)
        have BD : Below W4.heap.size W4 W4.drew := (Below.refl _ W4).drew
        have h5 := ((hG2.below B3).below B4).below BD
        have hzn : z ≠ mp ∧ z ≠ me := by
          obtain ⟨_, _, q1⟩ := hG2.props.block
          obtain ⟨_, _, q2⟩ := hG2.edges.block
          refine ⟨fun e => ?_, fun e => ?_⟩
          · rw [e, q1] at hzz; cases hzz
          · rw [e, q2] at hzz; cases hzz
        have pb : MP W4.drew b (n + 1) [] := ⟨((HP3.out.1.on (G := fun _ => False) (below_any B4) (fun h => h)).on (G := fun _ => False) (below_any BD) (fun h => h)).mono (by omega), fun e he => by cases he⟩
        have pc : ME W4.drew c (n + 1) [] := ⟨(HL4.out.1.on (G := fun _ => False) (below_any BD) (fun h => h)).mono (by omega), fun e he => by cases he⟩
        have nb : ¬ F b := fun hf => by have := hG2.hi b hf; omega
        have nc : ¬ F c := fun hf => by have := hG2.hi c hf; omega
        have hblt : b < W3.heap.size := HP3.out.1.lt
        obtain ⟨s1, s2, Gw, h0, p1, p2, q1, q2, r0, r1, r2, hfin, htn⟩ := put_two (z := z) h5 hn hv (del_get G v) nb nc (by omega) pb pc ((bx hz4).1) hzn
        refine ⟨Gw, s1, s2, h0, p1, p2, q1, q2, r0, r1, r2, _, ⟨mp, me, _, _, hfin⟩, fun k hk => ?_, ?_⟩
        · rcases hk with hk | rfl | rfl
          · exact .inl hk
          · have := ht2.size
            exact .inr (by omega)
          · have := ht2.size
            exact .inr (by omega)
        · exact (((ht2.then (turned_low B3)).then (turned_low B4)).then (turned_low BD)).then htn
      have HL := Lib.hid HS
      clear HS HX HP3 HB3 HL4 HB4 HbB HcB hz3 hz4
      go_wp2_with fail
      clear hmm
      go_region
      go_end0
      exact ⟨rfl, HL.out⟩
end Go.Proofs.YtafenkepigmcaaaGreatDoor.Gr
/- graph: change, walked: add, del, set. -/
namespace Go.Proofs.YtafenkepigmcaaaGreatDoor.Gr
open Go Go.RowKit YtafenkepigmcaaaGreatDoor.So
theorem Done.below {w W w' : World} {F : Nat → Prop} {n g : Nat} {G : GV} (h : Done W F n g G w') (hb : Below w.heap.size w W) : Done w F n g G w' := by
  obtain ⟨F', h1, h2, h3⟩ := h
  refine ⟨F', h1, fun k hk => ?_, (turned_low hb).then h3⟩
  rcases h2 k hk with h | h
  · exact .inl h
  · exact .inr (Nat.le_trans hb.size h)
theorem Done.mono {w w' : World} {F : Nat → Prop} {n m g : Nat} {G : GV} (h : Done w F n g G w') (hn : n ≤ m) : Done w F m g G w' := by
  obtain ⟨F', ⟨mp, me, bp, be, h1⟩, h2, h3⟩ := h
  exact ⟨F', ⟨mp, me, bp, be, h1.mono hn⟩, h2, h3⟩
/-- An operation, as it comes. -/
def opV (kd A B key : Int) (a : Av) : Value := .agg #[.int .u8 kd, .int .u32 A, .int .u32 B, .int .u8 key, .int .u8 a.k, .int .i64 a.n, .string a.s]
theorem op_box (w : World) (kd A B key k n : Int) (s : ByteArray) : Below w.heap.size w (w.alloc (.cells #[.int .u8 kd, .int .u32 A, .int .u32 B, .int .u8 key, .int .u8 k, .int .i64 n, .string s] 75)) := (Below.refl w.heap.size w).alloc (Nat.le_refl _) _
set_option maxRecDepth 100000 in
set_option maxHeartbeats 1000000 in
theorem change_add (g n : Nat) (F : Nat → Prop) (G : GV) (A B key : Int) (a : Av) (w : World) (h : Gp w n F g G) (hn : n < maxLen) (hA : In32 A) :
    Calls Tryz.prog 113 #[.pointer (some ⟨g, 0, none⟩), opV 1 A B key a] w fun e w' => e = .returned (.tuple #[]) ∧ Done w F (n + 1) g (putE (delE G A) A ([], [])) w' := by
  obtain ⟨k, m, s⟩ := a
  have hb := op_box w 1 A B key k m s
  have HC := Lib.hid (hold_in g n F G A _ (h.below hb) hn hA)
  unfold bareV at HC
  have HB := Lib.hid hb
  unfold opV
  simp only
  clear h hb
  go_enter Tryz.func113, Tryz.ntmps113
  go_wp2_with (go_at_call 70; refine HC.out.mono ?_; rintro e w1 ⟨rfl, hd⟩; have HD := Lib.hid (hd.below HB.out); clear hd)
  go_end0
  exact ⟨rfl, HD.out⟩
set_option maxRecDepth 100000 in
set_option maxHeartbeats 1000000 in
theorem change_del (g n : Nat) (F : Nat → Prop) (G : GV) (A B key : Int) (a : Av) (w : World) (h : Gp w n F g G) (hA : In32 A) :
    Calls Tryz.prog 113 #[.pointer (some ⟨g, 0, none⟩), opV 2 A B key a] w fun e w' => e = .returned (.tuple #[]) ∧ Done w F n g (delE G A) w' := by
  obtain ⟨k, m, s⟩ := a
  have hb := op_box w 2 A B key k m s
  have HC := Lib.hid (hold_out g n F G A _ (h.below hb) hA)
  unfold bareV at HC
  have HB := Lib.hid hb
  unfold opV
  simp only
  clear h hb
  go_enter Tryz.func113, Tryz.ntmps113
  go_wp2_with (go_at_call 70; refine HC.out.mono ?_; rintro e w1 ⟨rfl, hd⟩; have HD := Lib.hid (hd.below HB.out); clear hd)
  go_end0
  exact ⟨rfl, HD.out⟩
set_option maxRecDepth 100000 in
set_option maxHeartbeats 1000000 in
theorem change_set (g n : Nat) (F : Nat → Prop) (G : GV) (A B key : Int) (a : Av) (x : EL Av × EL Av) (w : World) (h : Gp w n F g G) (hn : n < maxLen) (hx : getE G A = some x) (hA : In32 A) (hk : In8 key) (ha : a.ok) :
    Calls Tryz.prog 113 #[.pointer (some ⟨g, 0, none⟩), opV 3 A B key a] w fun e w' => e = .returned (.tuple #[]) ∧ Done w F (n + 1) g (putE G A (setP x.1 key a, x.2)) w' := by
  obtain ⟨k, m, s⟩ := a
  have hb := op_box w 3 A B key k m s
  have HC := Lib.hid (set_any g n F G A key ⟨k, m, s⟩ x _ (h.below hb) hn hx hA hk ha)
  unfold Av.val at HC
  simp only at HC
  have HB := Lib.hid hb
  unfold opV
  simp only
  clear h hb ha
  go_enter Tryz.func113, Tryz.ntmps113
  go_wp2_with (go_at_call 146; refine HC.out.mono ?_; rintro e w1 ⟨rfl, hd⟩; have HD := Lib.hid (hd.below HB.out); clear hd)
  go_end0
  exact ⟨rfl, HD.out⟩
end Go.Proofs.YtafenkepigmcaaaGreatDoor.Gr
/- graph: change, walked: cut, and what changes nothing. -/
namespace Go.Proofs.YtafenkepigmcaaaGreatDoor.Gr
open Go Go.RowKit YtafenkepigmcaaaGreatDoor.So
set_option maxRecDepth 100000 in
set_option maxHeartbeats 1000000 in
theorem change_still (g : Nat) (kd A B key : Int) (a : Av) (w : World) (h1 : ¬ kd = 1) (h2 : ¬ kd = 2) (h3 : ¬ kd = 3) (h5 : ¬ kd = 5) (h6 : ¬ kd = 6) :
    Calls Tryz.prog 113 #[.pointer (some ⟨g, 0, none⟩), opV kd A B key a] w fun e w' => e = .returned (.tuple #[]) ∧ Below w.heap.size w w' := by
  obtain ⟨k, m, s⟩ := a
  have HB := Lib.hid (op_box w kd A B key k m s)
  unfold opV
  simp only
  go_enter Tryz.func113, Tryz.ntmps113
  go_wp2
  go_end0
  exact ⟨rfl, HB.out⟩
theorem cut_one {W : World} {n : Nat} {F : Nat → Prop} {g mp me z : Nat} {bp be : Int → Nat} {G : GV} {v o : Int} {x : EL Av × EL Av} {cs : Array Value} (h : GrAt W n F g mp me bp be G) (hx : getE G v = some x) (hv : In32 v) (ho : In32 o) (hz : W.heap[z]? = some (.cells cs 75 (0, 0))) :
    ∃ w1, (Instr.lookup 107 (.map (some me)) (.int .u32 v) false).run Tryz.prog W.drew = .ok (.map (some (be v))) W.drew ∧ (Builtin.delete_ #[131, 23] 0 #[.map (some (be v)), .int .u32 o]).run Tryz.prog W.drew = .ok (.tuple #[]) w1 ∧
      GrAt w1 n F g mp me bp be (putE G v (x.1, delE x.2 o)) ∧ w1.heap[z]? = some (.cells cs 75 (0, 0)) ∧ Turned F W w1 := by
  have bd : Below W.heap.size W W.drew := (Below.refl _ W).drew
  have h0 := h.below bd
  have hm := (h0.mine _ (mem_of_get hx)).2
  obtain ⟨w1, d1, p1, g1⟩ := hm.del ho 0
  obtain ⟨_, _, q⟩ := me_block (h.mine _ (mem_of_get hx)).2
  have hzn : z ≠ be v := fun e => by rw [e, q] at hz; cases hz
  exact ⟨w1, h0.lookH hx hv, d1, h0.setH hx (Nat.le_refl n) g1 p1, (g1.block z (Array.getElem?_eq_some_iff.1 hz).1 (fun e => hzn (Option.some.inj e))).trans hz,
    (turned_low bd).then (Turned.of_grown g1 (fun k e => by injection e with e; rw [← e]; exact (h.fb _ (mem_of_get hx)).2))⟩
theorem bo {w : World} {z : Nat} {kd A B key k m : Int} {s : ByteArray} (h : w.heap[z]? = some (.cells #[.int .u8 kd, .int .u32 A, .int .u32 B, .int .u8 key, .int .u8 k, .int .i64 m, .string s] 75 (0, 0))) :
    w.cell? ⟨z, 0, none⟩ = some (.int .u8 kd) ∧ w.cell? ⟨z, 1, none⟩ = some (.int .u32 A) ∧ w.cell? ⟨z, 2, none⟩ = some (.int .u32 B) ∧ w.cell? ⟨z, 3, none⟩ = some (.int .u8 key) ∧ w.cell? ⟨z, 4, none⟩ = some (.int .u8 k) ∧ w.cell? ⟨z, 5, none⟩ = some (.int .i64 m) ∧ w.cell? ⟨z, 6, none⟩ = some (.string s) := by
  simp [World.cell?, h]
/-- One half less, where there is a vertex. -/
def halfOut (G : GV) (v o : Int) : GV := match getE G v with
  | some x => putE G v (x.1, delE x.2 o)
  | none => G
set_option maxRecDepth 100000 in
set_option maxHeartbeats 2000000 in
theorem change_cut (g n : Nat) (F : Nat → Prop) (G : GV) (A B key : Int) (a : Av) (x : EL Av × EL Av) (w : World) (h : Gp w n F g G) (hx : getE G A = some x) (hA : In32 A) (hB : In32 B) :
    Calls Tryz.prog 113 #[.pointer (some ⟨g, 0, none⟩), opV 6 A B key a] w fun e w' => e = .returned (.tuple #[]) ∧ Done w F n g (halfOut (halfOut G A B) B A) w' := by
  obtain ⟨k, m, s⟩ := a
  obtain ⟨mp, me, bp, be, h⟩ := h
  unfold opV
  simp only
  have e1 : halfOut G A B = putE G A (x.1, delE x.2 B) := by unfold halfOut; rw [hx]
  rw [e1]
  obtain ⟨z, hz⟩ : ∃ z, w.heap.size = z := ⟨_, rfl⟩
  obtain ⟨W, hW⟩ : ∃ W, w.alloc (.cells #[.int .u8 6, .int .u32 A, .int .u32 B, .int .u8 key, .int .u8 k, .int .i64 m, .string s] 75) = W := ⟨_, rfl⟩
  have b0 := op_box w 6 A B key k m s
  have hzb := heap_alloc_new w (.cells #[.int .u8 6, .int .u32 A, .int .u32 B, .int .u8 key, .int .u8 k, .int .i64 m, .string s] 75)
  rw [hW, hz] at hzb
  rw [hW] at b0
  have hG := h.below b0
  obtain ⟨w1, l1, d1, hG1, hz1, t1⟩ := cut_one hG hx hA hB hzb
  obtain ⟨_, c1⟩ := hG.cells
  obtain ⟨_, c2⟩ := hG1.cells
  obtain ⟨x0, x1, x2, _⟩ := bo hzb
  obtain ⟨y0, y1, y2, _⟩ := bo hz1
  cases hy : getE (putE G A (x.1, delE x.2 B)) B with
  | none =>
    have e2 : halfOut (putE G A (x.1, delE x.2 B)) B A = putE G A (x.1, delE x.2 B) := by unfold halfOut; rw [hy]
    rw [e2]
    have bd1 : Below w1.heap.size w1 w1.drew := (Below.refl _ w1).drew
    have hG2 := hG1.below bd1
    have l2 := hG2.edges.look Tryz.underlying23 Tryz.underlying107 (zero131 w1.drew) hB
    rw [getE_map (fun v (_ : EL Av × EL Av) => Value.map (some (be v))), hy] at l2
    simp only [Option.map_none, Option.getD_none] at l2
    have d2 := drop_none (w := w1.drew) Tryz.underlying23 Tryz.underlying131 hA 0
    have HD := Lib.hid (show Done w F n g (putE G A (x.1, delE x.2 B)) w1.drew from ⟨F, ⟨mp, me, bp, be, hG2⟩, fun k hk => .inl hk, ((turned_low b0).then t1).then (turned_low bd1)⟩)
    clear h hG hG1 hG2 b0 hzb hz1 t1 bd1 hx hy e1 e2
    go_enter Tryz.func113, Tryz.ntmps113
    go_upto_region 12 with fail
    go_region
    go_upto_region 13 with fail
    go_region
    go_wp2_with fail
    go_end0
    exact ⟨rfl, HD.out⟩
  | some y =>
    have e2 : halfOut (putE G A (x.1, delE x.2 B)) B A = putE (putE G A (x.1, delE x.2 B)) B (y.1, delE y.2 A) := by unfold halfOut; rw [hy]
    rw [e2]
    obtain ⟨w2, l2, d2, hG2, _, t2⟩ := cut_one hG1 hy hB hA hz1
    have HD := Lib.hid (show Done w F n g (putE (putE G A (x.1, delE x.2 B)) B (y.1, delE y.2 A)) w2 from ⟨F, ⟨mp, me, bp, be, hG2⟩, fun k hk => .inl hk, ((turned_low b0).then t1).then t2⟩)
    clear h hG hG1 hG2 b0 hzb hz1 t1 t2 hx hy e1 e2
    go_enter Tryz.func113, Tryz.ntmps113
    go_upto_region 12 with fail
    go_region
    go_upto_region 13 with fail
    go_region
    go_wp2_with fail
    go_end0
    exact ⟨rfl, HD.out⟩
end Go.Proofs.YtafenkepigmcaaaGreatDoor.Gr
/- graph: change, walked: join. -/
namespace Go.Proofs.YtafenkepigmcaaaGreatDoor.Gr
open Go Go.RowKit YtafenkepigmcaaaGreatDoor.So
/-- One half more, where there is a vertex. -/
def halfIn (G : GV) (v o : Int) (a : Av) : GV := match getE G v with
  | some x => putE G v (x.1, putE x.2 o a)
  | none => G
theorem join_at {w : World} {n : Nat} {F : Nat → Prop} {g mp me z : Nat} {bp be : Int → Nat} {G : GV} {v : Int} {x : EL Av × EL Av} {kd A B key k m : Int} {s : ByteArray} (h : GrAt w n F g mp me bp be G) (hx : getE G v = some x) (hv : In32 v) (hz : w.heap[z]? = some (.cells #[.int .u8 kd, .int .u32 A, .int .u32 B, .int .u8 key, .int .u8 k, .int .i64 m, .string s] 75 (0, 0))) :
    w.cell? ⟨g, 1, none⟩ = some (.map (some me)) ∧ (Instr.lookup 107 (.map (some me)) (.int .u32 v) false).run Tryz.prog w = .ok (.map (some (be v))) w ∧ w.cell? ⟨z, 1, none⟩ = some (.int .u32 A) ∧ w.cell? ⟨z, 2, none⟩ = some (.int .u32 B) ∧ w.cell? ⟨z, 4, none⟩ = some (.int .u8 k) ∧ w.cell? ⟨z, 5, none⟩ = some (.int .i64 m) ∧ w.cell? ⟨z, 6, none⟩ = some (.string s) := by
  obtain ⟨_, q1, q2, _, q4, q5, q6⟩ := bo hz
  exact ⟨h.cells.2, h.lookH hx hv, q1, q2, q4, q5, q6⟩
theorem join_one {W w1 : World} {n : Nat} {F : Nat → Prop} {g mp me z : Nat} {bp be : Int → Nat} {G : GV} {v o : Int} {x : EL Av × EL Av} {cs : Array Value} {k m : Int} {s : ByteArray} (h : GrAt W n F g mp me bp be G) (hb : Below W.heap.size W w1) (hn : n < maxLen) (hx : getE G v = some x) (ho : In32 o) (ha : Av.ok ⟨k, m, s⟩) (hz : W.heap[z]? = some (.cells cs 75 (0, 0))) :
    ∃ w2, (Instr.mapUpdate 131 (.map (some (be v))) (.int .u32 o) (.agg #[.int .u8 k, .int .i64 m, .string s])).run Tryz.prog w1 = .ok () w2 ∧
      GrAt w2 (n + 1) F g mp me bp be (putE G v (x.1, putE x.2 o ⟨k, m, s⟩)) ∧ w2.heap[z]? = some (.cells cs 75 (0, 0)) ∧ Turned F W w2 := by
  have h1 := h.below hb
  have hm := (h1.mine _ (mem_of_get hx)).2
  obtain ⟨w2, d1, p1, g1⟩ := hm.put hn ho ha
  obtain ⟨_, _, q⟩ := me_block (h.mine _ (mem_of_get hx)).2
  have hzn : z ≠ be v := fun e => by rw [e, q] at hz; cases hz
  have hz1 := (hb.block z (Array.getElem?_eq_some_iff.1 hz).1).trans hz
  exact ⟨w2, d1, h1.setH hx (Nat.le_succ n) g1 p1, (g1.block z (Array.getElem?_eq_some_iff.1 hz1).1 (fun e => hzn (Option.some.inj e))).trans hz1,
    (turned_low hb).then (Turned.of_grown g1 (fun k e => by injection e with e; rw [← e]; exact (h.fb _ (mem_of_get hx)).2))⟩
set_option maxRecDepth 100000 in
set_option maxHeartbeats 2000000 in
theorem change_join (g n : Nat) (F : Nat → Prop) (G : GV) (A B key : Int) (a : Av) (x y : EL Av × EL Av) (w : World) (h : Gp w n F g G) (hn : n + 1 < maxLen) (hx : getE G A = some x) (hA : In32 A) (hB : In32 B) (ha : a.ok) (hy : getE (putE G A (x.1, putE x.2 B a)) B = some y) :
    Calls Tryz.prog 113 #[.pointer (some ⟨g, 0, none⟩), opV 5 A B key a] w fun e w' => e = .returned (.tuple #[]) ∧ Done w F (n + 2) g (putE (putE G A (x.1, putE x.2 B a)) B (y.1, putE y.2 A a)) w' := by
  obtain ⟨k, m, s⟩ := a
  obtain ⟨mp, me, bp, be, h⟩ := h
  unfold opV
  simp only
  obtain ⟨z, hz⟩ : ∃ z, w.heap.size = z := ⟨_, rfl⟩
  obtain ⟨W, hW⟩ : ∃ W, w.alloc (.cells #[.int .u8 5, .int .u32 A, .int .u32 B, .int .u8 key, .int .u8 k, .int .i64 m, .string s] 75) = W := ⟨_, rfl⟩
  have b0 := op_box w 5 A B key k m s
  have hzb := heap_alloc_new w (.cells #[.int .u8 5, .int .u32 A, .int .u32 B, .int .u8 key, .int .u8 k, .int .i64 m, .string s] 75)
  rw [hW, hz] at hzb
  rw [hW] at b0
  have hG := h.below b0
  have hs : s.size ≤ 281474976710656 := Nat.le_trans ha.2.2 (by decide)
  have hN0 : n < maxLen := by omega
  have HX := Lib.hid (And.intro hG (And.intro hx (And.intro hA (And.intro hB (And.intro ha (And.intro hzb (And.intro hN0 (And.intro hn (And.intro hs (And.intro b0 hy))))))))))
  have U0 := join_at (hG.below ((Below.refl _ W).drew)) hx hA (z := z) hzb
  obtain ⟨x0, x1, x2, _⟩ := bo hzb
  clear h hG b0 hzb hx hy hA hB ha hs hn hN0
  go_enter Tryz.func113, Tryz.ntmps113
  go_upto_region 9 with fail
  go_region_held3 (fun w' => w'.cell? ⟨g, 1, none⟩ = some (.map (some me)) ∧ (Instr.lookup 107 (.map (some me)) (.int .u32 A) false).run Tryz.prog w' = .ok (.map (some (be A))) w' ∧ w'.cell? ⟨z, 1, none⟩ = some (.int .u32 A) ∧ w'.cell? ⟨z, 2, none⟩ = some (.int .u32 B) ∧ w'.cell? ⟨z, 4, none⟩ = some (.int .u8 k) ∧ w'.cell? ⟨z, 5, none⟩ = some (.int .i64 m) ∧ w'.cell? ⟨z, 6, none⟩ = some (.string s))
    (first | exact U0 | exact U1 | exact U2)
    (first | (go_at_call 65; refine (own_any k m s _ HX.out.2.2.2.2.2.2.2.2.1).mono ?_; rintro e' w1 ⟨rfl, hb1⟩; have hb1' : Below W.heap.size W w1 := (Below.refl _ W).drew.trans hb1; have U1 := join_at (HX.out.1.below hb1') HX.out.2.1 HX.out.2.2.1 ((hb1'.block z (Array.getElem?_eq_some_iff.1 HX.out.2.2.2.2.2.1).1).trans HX.out.2.2.2.2.2.1); obtain ⟨w2, hup, hG2, hz2, ht2⟩ := join_one HX.out.1 hb1' HX.out.2.2.2.2.2.2.1 HX.out.2.1 HX.out.2.2.2.1 HX.out.2.2.2.2.1 HX.out.2.2.2.2.2.1; have U2 := join_at hG2 ((getE_put G A _ HX.out.1.rise A).trans (if_pos rfl)) HX.out.2.2.1 hz2; have HS := Lib.hid (And.intro hG2 (And.intro hz2 ht2)); unfold val at ⊢; clear hb1 hb1' hG2 hz2 ht2))
  all_goals (
    have V0 := join_at (z := z) (HS.out.1.below ((Below.refl _ w2).drew)) HX.out.2.2.2.2.2.2.2.2.2.2 HX.out.2.2.2.1 HS.out.2.1
    clear U0 U1 U2 hup
    go_upto_region 10 with fail
    go_region_held3 (fun w' => w'.cell? ⟨g, 1, none⟩ = some (.map (some me)) ∧ (Instr.lookup 107 (.map (some me)) (.int .u32 B) false).run Tryz.prog w' = .ok (.map (some (be B))) w' ∧ w'.cell? ⟨z, 1, none⟩ = some (.int .u32 A) ∧ w'.cell? ⟨z, 2, none⟩ = some (.int .u32 B) ∧ w'.cell? ⟨z, 4, none⟩ = some (.int .u8 k) ∧ w'.cell? ⟨z, 5, none⟩ = some (.int .i64 m) ∧ w'.cell? ⟨z, 6, none⟩ = some (.string s))
      (first | exact V0 | exact V1 | exact V2)
      (first | (go_at_call 65; refine (own_any k m s _ HX.out.2.2.2.2.2.2.2.2.1).mono ?_; rintro e' w3 ⟨rfl, hb1⟩; have hb1' : Below w2.heap.size w2 w3 := (Below.refl _ w2).drew.trans hb1; have V1 := join_at (HS.out.1.below hb1') HX.out.2.2.2.2.2.2.2.2.2.2 HX.out.2.2.2.1 ((hb1'.block z (Array.getElem?_eq_some_iff.1 HS.out.2.1).1).trans HS.out.2.1); obtain ⟨w4, hup, hG2, hz2, ht2⟩ := join_one HS.out.1 hb1' HX.out.2.2.2.2.2.2.2.1 HX.out.2.2.2.2.2.2.2.2.2.2 HX.out.2.2.1 HX.out.2.2.2.2.1 HS.out.2.1; have V2 := join_at hG2 ((getE_put _ B _ HS.out.1.rise B).trans (if_pos rfl)) HX.out.2.2.2.1 hz2; have HT := Lib.hid (And.intro hG2 ht2); unfold val at ⊢; clear hb1 hb1' hG2 hz2 ht2))
    all_goals (
      go_wp2_with fail
      go_end0
      exact ⟨rfl, F, ⟨mp, me, bp, be, HT.out.1⟩, fun k hk => .inl hk, ((turned_low HX.out.2.2.2.2.2.2.2.2.2.1).then HS.out.2.2).then HT.out.2⟩))
end Go.Proofs.YtafenkepigmcaaaGreatDoor.Gr
/- graph: refusal, walked: all but need. -/
namespace Go.Proofs.YtafenkepigmcaaaGreatDoor.Gr
open Go Go.RowKit YtafenkepigmcaaaGreatDoor.So
set_option maxRecDepth 100000 in
set_option maxHeartbeats 1000000 in
theorem refuse_add (g n : Nat) (F : Nat → Prop) (G : GV) (A B key : Int) (a : Av) (w : World) (h : Gp w n F g G) (hA : In32 A) :
    Calls Tryz.prog 111 #[.pointer (some ⟨g, 0, none⟩), opV 1 A B key a] w fun e w' => e = .returned (.int .i64 (if (getE G A).isSome = true then 7 else 0)) ∧ Below w.heap.size w w' := by
  obtain ⟨k, m, s⟩ := a
  have hb := op_box w 1 A B key k m s
  have HT := Lib.hid (there_any g n F G A _ (h.below hb) hA)
  have HW := Lib.hid (fun c x w1 => when_any c x w1)
  have HB := Lib.hid hb
  unfold opV
  simp only
  clear h hb
  cases hj : (getE G A).isSome
  all_goals
    rw [hj] at HT
    clear hj
    go_enter Tryz.func111, Tryz.ntmps111
    go_wp2_with (first
      | (go_at_call 52; refine HT.out.mono ?_; rintro e w1 ⟨rfl, rfl⟩)
      | (go_at_call 143; refine (HW.out _ _ _).mono ?_; rintro e w3 ⟨rfl, rfl⟩))
    go_ret
    exact ⟨rfl, HB.out⟩
set_option maxRecDepth 100000 in
set_option maxHeartbeats 1000000 in
theorem refuse_edge (g n : Nat) (F : Nat → Prop) (G : GV) (kd A B key : Int) (a : Av) (w : World) (h : Gp w n F g G) (hA : In32 A) (hB : In32 B) (hk : kd = 6 ∨ kd = 7) :
    Calls Tryz.prog 111 #[.pointer (some ⟨g, 0, none⟩), opV kd A B key a] w fun e w' => e = .returned (.int .i64 (if joinedG G A B = true then 0 else 6)) ∧ Below w.heap.size w w' := by
  obtain ⟨k, m, s⟩ := a
  have hb := op_box w kd A B key k m s
  have HJ := Lib.hid (joined_any g n F G A B _ (h.below hb) hA hB)
  have HW := Lib.hid (fun c x w1 => when_any c x w1)
  have HB := Lib.hid hb
  unfold opV
  simp only
  clear h hb
  rcases hk with rfl | rfl <;> cases hj : joinedG G A B
  all_goals
    rw [hj] at HJ
    clear hj
    go_enter Tryz.func111, Tryz.ntmps111
    go_wp2_with (first
      | (go_at_call 144; refine HJ.out.mono ?_; rintro e w1 ⟨rfl, hb1⟩; have H1 := Lib.hid (HB.out.trans (hb1.mono HB.out.size)); clear hb1)
      | (go_at_call 143; refine (HW.out _ _ _).mono ?_; rintro e w3 ⟨rfl, rfl⟩))
    go_ret
    exact ⟨rfl, H1.out⟩
/-- A kind that asks for its first vertex. -/
def asks (kd : Int) : Prop := ¬ kd = 1 ∧ ¬ kd = 6 ∧ ¬ kd = 7
set_option maxRecDepth 100000 in
set_option maxHeartbeats 1000000 in
theorem refuse_none (g n : Nat) (F : Nat → Prop) (G : GV) (kd A B key : Int) (a : Av) (w : World) (h : Gp w n F g G) (hA : In32 A) (hk : asks kd) (hn : getE G A = none) :
    Calls Tryz.prog 111 #[.pointer (some ⟨g, 0, none⟩), opV kd A B key a] w fun e w' => e = .returned (.int .i64 6) ∧ Below w.heap.size w w' := by
  obtain ⟨k, m, s⟩ := a
  obtain ⟨k1, k6, k7⟩ := hk
  have hb := op_box w kd A B key k m s
  have HT := Lib.hid (there_any g n F G A _ (h.below hb) hA)
  rw [hn] at HT
  simp only [Option.isSome_none] at HT
  have HB := Lib.hid hb
  unfold opV
  simp only
  clear h hb
  go_enter Tryz.func111, Tryz.ntmps111
  go_wp2_with (go_at_call 52; refine HT.out.mono ?_; rintro e w1 ⟨rfl, rfl⟩)
  go_ret
  exact ⟨rfl, HB.out⟩
set_option maxRecDepth 100000 in
set_option maxHeartbeats 1000000 in
theorem refuse_join (g n : Nat) (F : Nat → Prop) (G : GV) (A B key : Int) (a : Av) (x : EL Av × EL Av) (w : World) (h : Gp w n F g G) (hA : In32 A) (hB : In32 B) (hx : getE G A = some x) :
    Calls Tryz.prog 111 #[.pointer (some ⟨g, 0, none⟩), opV 5 A B key a] w fun e w' => e = .returned (.int .i64 (joinR G A B)) ∧ Below w.heap.size w w' := by
  obtain ⟨k, m, s⟩ := a
  have hb := op_box w 5 A B key k m s
  have HT := Lib.hid (there_any g n F G A _ (h.below hb) hA)
  rw [hx] at HT
  simp only [Option.isSome_some] at HT
  have HJ := Lib.hid (refusalOfJoin_any g n F G A B _ (h.below hb) hA hB)
  have HB := Lib.hid hb
  unfold opV
  simp only
  clear h hb
  go_enter Tryz.func111, Tryz.ntmps111
  go_wp2_with (first
    | (go_at_call 52; refine HT.out.mono ?_; rintro e w1 ⟨rfl, rfl⟩)
    | (go_at_call 145; refine HJ.out.mono ?_; rintro e w1 ⟨rfl, hb1⟩; have H1 := Lib.hid (HB.out.trans (hb1.mono HB.out.size)); clear hb1))
  go_ret
  exact ⟨rfl, H1.out⟩
set_option maxRecDepth 100000 in
set_option maxHeartbeats 1000000 in
theorem refuse_ok (g n : Nat) (F : Nat → Prop) (G : GV) (kd A B key : Int) (a : Av) (x : EL Av × EL Av) (w : World) (h : Gp w n F g G) (hA : In32 A) (hx : getE G A = some x) (hk : asks kd) (k2 : ¬ kd = 2) (k9 : ¬ kd = 9) (k5 : ¬ kd = 5) :
    Calls Tryz.prog 111 #[.pointer (some ⟨g, 0, none⟩), opV kd A B key a] w fun e w' => e = .returned (.int .i64 0) ∧ Below w.heap.size w w' := by
  obtain ⟨k, m, s⟩ := a
  obtain ⟨k1, k6, k7⟩ := hk
  have hb := op_box w kd A B key k m s
  have HT := Lib.hid (there_any g n F G A _ (h.below hb) hA)
  rw [hx] at HT
  simp only [Option.isSome_some] at HT
  have HB := Lib.hid hb
  unfold opV
  simp only
  clear h hb
  go_enter Tryz.func111, Tryz.ntmps111
  go_wp2_with (go_at_call 52; refine HT.out.mono ?_; rintro e w1 ⟨rfl, rfl⟩)
  go_ret
  exact ⟨rfl, HB.out⟩
end Go.Proofs.YtafenkepigmcaaaGreatDoor.Gr
/- graph: refusal of del, walked. -/
namespace Go.Proofs.YtafenkepigmcaaaGreatDoor.Gr
open Go Go.RowKit YtafenkepigmcaaaGreatDoor.So
theorem ME.len {w : World} {b n : Nat} {E : EL Av} (h : ME w b n E) (ty : TypeId) : (Builtin.len_ #[131] ty #[.map (some b)]).run Tryz.prog w = .ok (.int .i64 (E.length : Int)) w := by
  have := h.1.len Tryz.underlying131 ty
  rw [vals_len] at this
  exact this
set_option maxRecDepth 100000 in
set_option maxHeartbeats 1000000 in
theorem refuse_del (g n : Nat) (F : Nat → Prop) (G : GV) (A B key : Int) (a : Av) (x : EL Av × EL Av) (w : World) (h : Gp w n F g G) (hA : In32 A) (hx : getE G A = some x) :
    Calls Tryz.prog 111 #[.pointer (some ⟨g, 0, none⟩), opV 2 A B key a] w fun e w' => e = .returned (.int .i64 (if x.2.length = 0 then 0 else 8)) ∧ Below w.heap.size w w' := by
  obtain ⟨k, m, s⟩ := a
  have HT := Lib.hid (there_any g n F G A _ (h.below (op_box w 2 A B key k m s)) hA)
  rw [hx] at HT
  simp only [Option.isSome_some] at HT
  obtain ⟨mp, me, bp, be, h⟩ := h
  have HW := Lib.hid (fun c x w1 => when_any c x w1)
  unfold opV
  simp only
  obtain ⟨z, hz⟩ : ∃ z, w.heap.size = z := ⟨_, rfl⟩
  obtain ⟨W, hW⟩ : ∃ W, w.alloc (.cells #[.int .u8 2, .int .u32 A, .int .u32 B, .int .u8 key, .int .u8 k, .int .i64 m, .string s] 75) = W := ⟨_, rfl⟩
  have b0 := op_box w 2 A B key k m s
  have hzb := heap_alloc_new w (.cells #[.int .u8 2, .int .u32 A, .int .u32 B, .int .u8 key, .int .u8 k, .int .i64 m, .string s] 75)
  rw [hW, hz] at hzb
  rw [hW] at b0 HT
  have hG := h.below b0
  have hD := hG.below ((Below.refl _ W).drew)
  have l0 := hD.lookH hx hA
  have n0 := (hD.mine _ (mem_of_get hx)).2.len
  obtain ⟨_, c0⟩ := hD.cells
  obtain ⟨x0, x1, _⟩ := bo hzb
  obtain ⟨_, y1, _⟩ := bo (w := W.drew) hzb
  have HB := Lib.hid (show Below w.heap.size w W.drew from b0.drew)
  obtain ⟨t, ht⟩ : ∃ t, x.2.length = t := ⟨_, rfl⟩
  rw [ht] at n0 ⊢
  clear h hG hD b0 hzb
  have U0 := And.intro c0 (And.intro l0 (And.intro n0 y1))
  clear c0 l0 n0 y1
  by_cases h0 : t = 0
  · subst h0
    go_enter Tryz.func111, Tryz.ntmps111
    go_upto_region 11 with (go_at_call 52; refine HT.out.mono ?_; rintro e w1 ⟨rfl, rfl⟩)
    go_region_held3 (fun w' => w'.cell? ⟨g, 1, none⟩ = some (.map (some me)) ∧ (Instr.lookup 107 (.map (some me)) (.int .u32 A) false).run Tryz.prog w' = .ok (.map (some (be A))) w' ∧ (∀ ty, (Builtin.len_ #[131] ty #[.map (some (be A))]).run Tryz.prog w' = .ok (.int .i64 ((0 : Nat) : Int)) w') ∧ w'.cell? ⟨z, 1, none⟩ = some (.int .u32 A))
      (first | exact U0)
      (first | (go_at_call 143; refine (HW.out _ _ _).mono ?_; rintro e w3 ⟨rfl, rfl⟩))
    all_goals (
      go_wp2_with fail
      go_ret
      exact ⟨rfl, by rw [← hz]; exact HB.out⟩)
  · have j1 : (0 : Int) < (t : Int) := by omega
    rw [if_neg h0]
    go_enter Tryz.func111, Tryz.ntmps111
    go_upto_region 11 with (go_at_call 52; refine HT.out.mono ?_; rintro e w1 ⟨rfl, rfl⟩)
    go_region_held3 (fun w' => w'.cell? ⟨g, 1, none⟩ = some (.map (some me)) ∧ (Instr.lookup 107 (.map (some me)) (.int .u32 A) false).run Tryz.prog w' = .ok (.map (some (be A))) w' ∧ (∀ ty, (Builtin.len_ #[131] ty #[.map (some (be A))]).run Tryz.prog w' = .ok (.int .i64 (t : Int)) w') ∧ w'.cell? ⟨z, 1, none⟩ = some (.int .u32 A))
      (first | exact U0)
      (first | (go_at_call 143; refine (HW.out _ _ _).mono ?_; rintro e w3 ⟨rfl, rfl⟩))
    all_goals (
      go_wp2_with fail
      go_ret
      exact ⟨by simp, by first | exact HB.out | (rw [← hz]; exact HB.out)⟩)
end Go.Proofs.YtafenkepigmcaaaGreatDoor.Gr

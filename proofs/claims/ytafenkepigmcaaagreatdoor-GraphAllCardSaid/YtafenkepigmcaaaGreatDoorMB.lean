/- graph: what a store into one of a graph's maps leaves; set, walked. -/
import Derived.Test.YtafenkepigmcaaaGreatDoorMA
import Derived.MapFrom
import Derived.BigRegion
import Derived.WideKeyEntry
namespace Go.Proofs.YtafenkepigmcaaaGreatDoor.Gr
open Go Go.RowKit YtafenkepigmcaaaGreatDoor.So
section
variable {α β : Type}
theorem putE_mem {E : EL α} {k : Int} {v : α} (h : RiseE E) {e : Int × α} (he : e ∈ putE E k v) : e = (k, v) ∨ (e ∈ E ∧ e.1 ≠ k) := by
  by_cases hk : e.1 = k
  · have := get_of_mem (putE_rise h k v) he
    rw [getE_put E k v h, if_pos hk] at this
    exact .inl (Prod.ext hk (Option.some.inj this).symm)
  · rcases putE_key he with rfl | h2
    · exact absurd rfl hk
    · exact .inr ⟨h2, hk⟩
theorem putE_same {E : EL α} {k : Int} {v : α} (h : RiseE E) (hg : getE E k = some v) : putE E k v = E :=
  rise_ext (putE_rise h k v) h (fun j => by
    rw [getE_put E k v h]
    by_cases e : j = k
    · rw [if_pos e, e, hg]
    · rw [if_neg e])
end
section
variable {w w' : World} {n m : Nat} {F : Nat → Prop} {g mp me : Nat} {bp be : Int → Nat} {G : GV}
theorem mp_block {b : Nat} {E : EL Av} (h : MP w b n E) : ∃ es clock, w.heap[b]? = some (.map es clock) := h.1.block
theorem me_block {b : Nat} {E : EL Av} (h : ME w b n E) : ∃ es clock, w.heap[b]? = some (.map es clock) := h.1.block
theorem map_put_same {f : Int → Nat} {v : Int} {x y : EL Av × EL Av} (hr : RiseE G) (hv : getE G v = some x) : mapE (fun v (_ : EL Av × EL Av) => Value.map (some (f v))) (putE G v y) = mapE (fun v _ => Value.map (some (f v))) G := by
  rw [mapE_put]
  exact putE_same (mapE_rise _ hr) (by rw [getE_map, hv]; rfl)
theorem mp_kept {b : Nat} {E : EL Av} {row : Option Nat} (h : MP w b n E) (hg : w.grownBy w' row) (hne : some b ≠ row) (hn : n ≤ m) : MP w' b m E := ⟨(h.1.kept hg hne).mono hn, h.2⟩
theorem me_kept {b : Nat} {E : EL Av} {row : Option Nat} (h : ME w b n E) (hg : w.grownBy w' row) (hne : some b ≠ row) (hn : n ≤ m) : ME w' b m E := ⟨(h.1.kept hg hne).mono hn, h.2⟩
/-- A vertex's properties are others. -/
theorem GrAt.setP (h : GrAt w n F g mp me bp be G) {v : Int} {x : EL Av × EL Av} (hv : getE G v = some x) (hn : n ≤ m) (hg : w.grownBy w' (some (bp v))) {P : EL Av} (hP : MP w' (bp v) m P) : GrAt w' m F g mp me bp be (putE G v (P, x.2)) := by
  have hm := mem_of_get hv
  have hl := h.lone _ hm
  obtain ⟨es, clock, hb⟩ := mp_block (h.mine _ hm).1
  have hgb : g ≠ bp v := fun e => by
    have := h.cell
    rw [e, hb] at this
    cases this
  have hmem : ∀ e ∈ putE G v (P, x.2), ∃ e' ∈ G, e'.1 = e.1 := fun e he => by
    rcases putE_mem h.rise he with rfl | ⟨h1, _⟩
    · exact ⟨_, hm, rfl⟩
    · exact ⟨e, h1, rfl⟩
  refine ⟨?_, ?_, ?_, fun e he => ?_, h.two, fun e he => ?_, fun e he e' he' => ?_, h.fg, h.fmp, h.fme, fun e he => ?_, fun k hk => Nat.lt_of_lt_of_le (h.hi k hk) hg.size⟩
  · rw [hg.block g (Array.getElem?_eq_some_iff.1 h.cell).1 (fun e => hgb (Option.some.inj e))]
    exact h.cell
  · unfold MO
    rw [map_put_same h.rise hv]
    exact (h.props.kept hg (fun e => hl.1 (Option.some.inj e).symm)).mono hn
  · unfold MO
    rw [map_put_same h.rise hv]
    exact (h.edges.kept hg (fun e => hl.2.1 (Option.some.inj e).symm)).mono hn
  · rcases putE_mem h.rise he with rfl | ⟨h1, h2⟩
    · exact ⟨hP, me_kept (h.mine _ hm).2 hg (fun e => (h.apart _ hm _ hm).1 (Option.some.inj e).symm) hn⟩
    · exact ⟨mp_kept (h.mine _ h1).1 hg (fun e => h2 ((h.apart _ h1 _ hm).2.1 (Option.some.inj e))) hn, me_kept (h.mine _ h1).2 hg (fun e => (h.apart _ hm _ h1).1 (Option.some.inj e).symm) hn⟩
  · obtain ⟨e', h1, h2⟩ := hmem e he
    rw [← h2]; exact h.lone e' h1
  · obtain ⟨a, h1, h2⟩ := hmem e he
    obtain ⟨b, h3, h4⟩ := hmem e' he'
    rw [← h2, ← h4]; exact h.apart a h1 b h3
  · obtain ⟨e', h1, h2⟩ := hmem e he
    rw [← h2]; exact h.fb e' h1
/-- A vertex's halves are others. -/
theorem GrAt.setH (h : GrAt w n F g mp me bp be G) {v : Int} {x : EL Av × EL Av} (hv : getE G v = some x) (hn : n ≤ m) (hg : w.grownBy w' (some (be v))) {L : EL Av} (hL : ME w' (be v) m L) : GrAt w' m F g mp me bp be (putE G v (x.1, L)) := by
  have hm := mem_of_get hv
  have hl := h.lone _ hm
  obtain ⟨es, clock, hb⟩ := me_block (h.mine _ hm).2
  have hgb : g ≠ be v := fun e => by
    have := h.cell
    rw [e, hb] at this
    cases this
  have hmem : ∀ e ∈ putE G v (x.1, L), ∃ e' ∈ G, e'.1 = e.1 := fun e he => by
    rcases putE_mem h.rise he with rfl | ⟨h1, _⟩
    · exact ⟨_, hm, rfl⟩
    · exact ⟨e, h1, rfl⟩
  refine ⟨?_, ?_, ?_, fun e he => ?_, h.two, fun e he => ?_, fun e he e' he' => ?_, h.fg, h.fmp, h.fme, fun e he => ?_, fun k hk => Nat.lt_of_lt_of_le (h.hi k hk) hg.size⟩
  · rw [hg.block g (Array.getElem?_eq_some_iff.1 h.cell).1 (fun e => hgb (Option.some.inj e))]
    exact h.cell
  · unfold MO
    rw [map_put_same h.rise hv]
    exact (h.props.kept hg (fun e => hl.2.2.1 (Option.some.inj e).symm)).mono hn
  · unfold MO
    rw [map_put_same h.rise hv]
    exact (h.edges.kept hg (fun e => hl.2.2.2 (Option.some.inj e).symm)).mono hn
  · rcases putE_mem h.rise he with rfl | ⟨h1, h2⟩
    · exact ⟨mp_kept (h.mine _ hm).1 hg (fun e => (h.apart _ hm _ hm).1 (Option.some.inj e)) hn, hL⟩
    · exact ⟨mp_kept (h.mine _ h1).1 hg (fun e => (h.apart _ h1 _ hm).1 (Option.some.inj e)) hn, me_kept (h.mine _ h1).2 hg (fun e => h2 ((h.apart _ h1 _ hm).2.2 (Option.some.inj e))) hn⟩
  · obtain ⟨e', h1, h2⟩ := hmem e he
    rw [← h2]; exact h.lone e' h1
  · obtain ⟨a, h1, h2⟩ := hmem e he
    obtain ⟨b, h3, h4⟩ := hmem e' he'
    rw [← h2, ← h4]; exact h.apart a h1 b h3
  · obtain ⟨e', h1, h2⟩ := hmem e he
    rw [← h2]; exact h.fb e' h1
end
section
variable {w w' : World} {n : Nat} {b : Nat} {E : EL Av}
theorem MP.put (h : MP w b n E) (hn : n < maxLen) {i : Int} (hi : In8 i) {a : Av} (ha : a.ok) : ∃ w', (Instr.mapUpdate 125 (.map (some b)) (.int .u8 i) a.val).run Tryz.prog w = .ok () w' ∧ MP w' b (n + 1) (putE E i a) ∧ w.grownBy w' (some b) := by
  obtain ⟨w', h1, h2, h3⟩ := h.1.put Tryz.underlying5 Tryz.underlying125 hn hi a.val
  refine ⟨w', h1, ⟨?_, fun e he => ?_⟩, h3⟩
  · unfold vals
    rw [mapE_put]
    exact h2
  · rcases putE_key he with rfl | he
    · exact ha
    · exact h.2 e he
theorem ME.put (h : ME w b n E) (hn : n < maxLen) {i : Int} (hi : In32 i) {a : Av} (ha : a.ok) : ∃ w', (Instr.mapUpdate 131 (.map (some b)) (.int .u32 i) a.val).run Tryz.prog w = .ok () w' ∧ ME w' b (n + 1) (putE E i a) ∧ w.grownBy w' (some b) := by
  obtain ⟨w', h1, h2, h3⟩ := h.1.put Tryz.underlying23 Tryz.underlying131 hn hi a.val
  refine ⟨w', h1, ⟨?_, fun e he => ?_⟩, h3⟩
  · unfold vals
    rw [mapE_put]
    exact h2
  · rcases putE_key he with rfl | he
    · exact ha
    · exact h.2 e he
theorem MP.del (h : MP w b n E) {i : Int} (hi : In8 i) (ty : TypeId) : ∃ w', (Builtin.delete_ #[125, 5] ty #[.map (some b), .int .u8 i]).run Tryz.prog w = .ok (.tuple #[]) w' ∧ MP w' b n (delE E i) ∧ w.grownBy w' (some b) := by
  obtain ⟨w', h1, h2, h3⟩ := h.1.del Tryz.underlying5 Tryz.underlying125 hi ty
  refine ⟨w', h1, ⟨?_, fun e he => h.2 e (delE_mem.1 he).1⟩, h3⟩
  unfold vals
  rw [mapE_del]
  exact h2
theorem ME.del (h : ME w b n E) {i : Int} (hi : In32 i) (ty : TypeId) : ∃ w', (Builtin.delete_ #[131, 23] ty #[.map (some b), .int .u32 i]).run Tryz.prog w = .ok (.tuple #[]) w' ∧ ME w' b n (delE E i) ∧ w.grownBy w' (some b) := by
  obtain ⟨w', h1, h2, h3⟩ := h.1.del Tryz.underlying23 Tryz.underlying131 hi ty
  refine ⟨w', h1, ⟨?_, fun e he => h.2 e (delE_mem.1 he).1⟩, h3⟩
  unfold vals
  rw [mapE_del]
  exact h2
end
section
variable {w w' : World} {n m : Nat} {F : Nat → Prop} {g mp me : Nat} {bp be : Int → Nat} {G : GV}
theorem GrAt.lookP (h : GrAt w n F g mp me bp be G) {v : Int} {x : EL Av × EL Av} (hx : getE G v = some x) (hv : In32 v) : (Instr.lookup 106 (.map (some mp)) (.int .u32 v) false).run Tryz.prog w = .ok (.map (some (bp v))) w := by
  have hl := h.props.look Tryz.underlying23 Tryz.underlying106 (zero125 w) hv
  have hg := getE_map (fun v (_ : EL Av × EL Av) => Value.map (some (bp v))) G v
  rw [hg, hx] at hl
  exact hl
theorem GrAt.lookH (h : GrAt w n F g mp me bp be G) {v : Int} {x : EL Av × EL Av} (hx : getE G v = some x) (hv : In32 v) : (Instr.lookup 107 (.map (some me)) (.int .u32 v) false).run Tryz.prog w = .ok (.map (some (be v))) w := by
  have hl := h.edges.look Tryz.underlying23 Tryz.underlying107 (zero131 w) hv
  have hg := getE_map (fun v (_ : EL Av × EL Av) => Value.map (some (be v))) G v
  rw [hg, hx] at hl
  exact hl
/-- What a call leaves of a graph. -/
def Done (w : World) (F : Nat → Prop) (n g : Nat) (G : GV) (w' : World) : Prop := ∃ F', Gp w' n F' g G ∧ (∀ k, F' k → F k ∨ w.heap.size ≤ k) ∧ Turned F w w'
theorem turned_low {K : Nat → Prop} (hb : Below w.heap.size w w') : Turned K w w' := ⟨hb.os, hb.tape, hb.output, hb.size, fun k hk _ => hb.block k hk⟩
theorem GrAt.donePut (h : GrAt w n F g mp me bp be G) {w1 : World} (hb : Below w.heap.size w w1) {v : Int} {x : EL Av × EL Av} (hx : getE G v = some x) (hn : n ≤ m) (hg : w1.grownBy w' (some (bp v))) {P : EL Av} (hP : MP w' (bp v) m P) : Done w F m g (putE G v (P, x.2)) w' :=
  ⟨F, ⟨mp, me, bp, be, (h.below hb).setP hx hn hg hP⟩, fun k hk => .inl hk, (turned_low hb).then (Turned.of_grown hg (fun k e => by injection e with e; rw [← e]; exact (h.fb _ (mem_of_get hx)).1))⟩
end
def SetI (g z mp b : Nat) (v k m : Int) (s : ByteArray) (w : World) : Prop := w.cell? ⟨g, 0, none⟩ = some (.map (some mp)) ∧ (Instr.lookup 106 (.map (some mp)) (.int .u32 v) false).run Tryz.prog w = .ok (.map (some b)) w ∧ w.cell? ⟨z, 0, none⟩ = some (.int .u8 k) ∧ w.cell? ⟨z, 1, none⟩ = some (.int .i64 m) ∧ w.cell? ⟨z, 2, none⟩ = some (.string s)
theorem set_at {w : World} {n : Nat} {F : Nat → Prop} {g mp me z : Nat} {bp be : Int → Nat} {G : GV} {v k m : Int} {s : ByteArray} {x : EL Av × EL Av} (h : GrAt w n F g mp me bp be G) (hx : getE G v = some x) (hv : In32 v) (hz : w.heap[z]? = some (.cells #[.int .u8 k, .int .i64 m, .string s] 47 (0, 0))) : SetI g z mp (bp v) v k m s w :=
  ⟨h.cells.1, h.lookP hx hv, by simp [World.cell?, hz], by simp [World.cell?, hz], by simp [World.cell?, hz]⟩
/-- A property given, or with none taken away. -/
def setP (P : EL Av) (k : Int) (a : Av) : EL Av := if a.k = 0 then delE P k else putE P k a
set_option maxRecDepth 100000 in
set_option maxHeartbeats 1000000 in
theorem set_any (g n : Nat) (F : Nat → Prop) (G : GV) (v key : Int) (a : Av) (x : EL Av × EL Av) (w : World) (h : Gp w n F g G) (hn : n < maxLen) (hx : getE G v = some x) (hv : In32 v) (hk : In8 key) (ha : a.ok) :
    Calls Tryz.prog 146 #[.pointer (some ⟨g, 0, none⟩), .int .u32 v, .int .u8 key, a.val] w fun e w' => e = .returned (.tuple #[]) ∧ Done w F (n + 1) g (putE G v (setP x.1 key a, x.2)) w' := by
  obtain ⟨mp, me, bp, be, h⟩ := h
  obtain ⟨k, m, s⟩ := a
  have b0 := (Below.refl w.heap.size w).alloc (Nat.le_refl _) (.cells #[.int .u8 k, .int .i64 m, .string s] 47)
  have hG := h.below b0
  obtain ⟨c0, _⟩ := hG.cells
  have hl := hG.lookP hx hv
  have hm := (hG.mine _ (mem_of_get hx)).1
  by_cases h0 : k = 0
  · subst h0
    obtain ⟨w', hd, hE, hg⟩ := hm.del hk 0
    have HD := Lib.hid (show Done w F (n + 1) g (putE G v (setP x.1 key ⟨0, m, s⟩, x.2)) w' from h.donePut b0 hx (Nat.le_succ n) hg (by
      have e : setP x.1 key ⟨0, m, s⟩ = delE x.1 key := rfl
      rw [e]
      exact ⟨hE.1.mono (Nat.le_succ n), hE.2⟩))
    unfold Av.val
    simp only
    clear h b0 hG hm hE hg ha
    go_enter Tryz.func146, Tryz.ntmps146
    go_wp2
    exact bodyPost_ret (v := .tuple #[]) (results_none rfl _ _ _) rfl ⟨rfl, HD.out⟩
  · have e : setP x.1 key ⟨k, m, s⟩ = putE x.1 key ⟨k, m, s⟩ := if_neg h0
    rw [e]
    unfold Av.val
    simp only
    obtain ⟨z, hz⟩ : ∃ z, w.heap.size = z := ⟨_, rfl⟩
    obtain ⟨W, hW⟩ : ∃ W, w.alloc (.cells #[.int .u8 k, .int .i64 m, .string s] 47) = W := ⟨_, rfl⟩
    have hzb := heap_alloc_new w (.cells #[.int .u8 k, .int .i64 m, .string s] 47)
    rw [hW, hz] at hzb
    rw [hW] at b0 hG c0 hl hm
    have HX := Lib.hid (And.intro h (And.intro b0 (And.intro hG (And.intro hx (And.intro hv (And.intro hk (And.intro ha (And.intro hzb (And.intro hn hz)))))))))
    obtain ⟨x0, x1, x2⟩ : W.cell? ⟨z, 0, none⟩ = some (.int .u8 k) ∧ W.cell? ⟨z, 1, none⟩ = some (.int .i64 m) ∧ W.cell? ⟨z, 2, none⟩ = some (.string s) := by simp [World.cell?, hzb]
    have U0 : SetI g z mp (bp v) v k m s W.drew := set_at (hG.below ((Below.refl _ W).drew)) hx hv hzb
    clear h b0 hG hx hv hk ha hm hzb hl c0
    go_enter Tryz.func146, Tryz.ntmps146
    go_upto_region 3 with fail
    go_region_held3 (fun w' => w'.cell? ⟨g, 0, none⟩ = some (.map (some mp)) ∧ (Instr.lookup 106 (.map (some mp)) (.int .u32 v) false).run Tryz.prog w' = .ok (.map (some (bp v))) w' ∧ w'.cell? ⟨z, 0, none⟩ = some (.int .u8 k) ∧ w'.cell? ⟨z, 1, none⟩ = some (.int .i64 m) ∧ w'.cell? ⟨z, 2, none⟩ = some (.string s))
      (first | exact U0 | exact U1 | exact U2)
      (first | (go_at_call 65; refine (own_any k m s _ (Nat.le_trans HX.out.2.2.2.2.2.2.1.2.2 (by decide))).mono ?_; rintro e' w1 ⟨rfl, hb1⟩; have hb1' : Below W.heap.size W w1 := (Below.refl _ W).drew.trans hb1; have hz1 := (hb1'.block z (Array.getElem?_eq_some_iff.1 HX.out.2.2.2.2.2.2.2.1).1).trans HX.out.2.2.2.2.2.2.2.1; have hG1 := HX.out.2.2.1.below hb1'; have hx1 := HX.out.2.2.2.1; have U1 := set_at hG1 hx1 HX.out.2.2.2.2.1 hz1; obtain ⟨w2, hup, hP, hg⟩ := (hG1.mine _ (mem_of_get hx1)).1.put HX.out.2.2.2.2.2.2.2.2.1 HX.out.2.2.2.2.2.1 HX.out.2.2.2.2.2.2.1; have hzn : z ≠ bp v := (fun e => by obtain ⟨es, clock, q⟩ := mp_block (hG1.mine _ (mem_of_get hx1)).1; rw [e, q] at hz1; cases hz1); have hG2 := hG1.setP hx1 (Nat.le_succ n) hg hP; have U2 := set_at hG2 ((getE_put G v _ hG1.rise v).trans (if_pos rfl)) HX.out.2.2.2.2.1 ((hg.block z (Array.getElem?_eq_some_iff.1 hz1).1 (fun e => hzn (Option.some.inj e))).trans hz1); have HS := Lib.hid (HX.out.1.donePut (HX.out.2.1.trans (hb1'.mono HX.out.2.1.size)) hx1 (Nat.le_succ n) hg hP); unfold Av.val at hup; unfold val at ⊢; simp only at hup; clear hb1 hb1' hz1 hG1 hx1 hP hzn hG2 hg))
    all_goals (
      go_wp2_with fail
      go_end0
      exact ⟨rfl, HS.out⟩)
end Go.Proofs.YtafenkepigmcaaaGreatDoor.Gr
/- graph: a map's entry made, and filled later. -/
namespace Go.Proofs.YtafenkepigmcaaaGreatDoor.Gr
open Go Go.RowKit YtafenkepigmcaaaGreatDoor.So
open Go.ChangeMaps (setBlock)
section
variable {kt T et : TypeId} {q : IntKind} {zd : Value} {w : World} {b n : Nat} {E : ES}
/-- A key that isn't there: its entry is made, at once or in any later world with the same block, and filled in any still later one; what is left is what a store leaves. -/
theorem MapE.entry (h : MapE kt q zd w b n E) (hu : Tryz.prog.underlying kt = some (.int q)) (hT : Tryz.prog.underlying T = some (.map kt et)) (hz : ∀ u : World, (zeroValue et).run Tryz.prog u = .ok zd u) {i : Int} (hi : InQ q i) (hno : getE E i = none) (val : Value) :
    ∃ (st : Nat) (o1 o2 : Obj), (∀ u : World, u.heap[b]? = w.heap[b]? → (Instr.mapEntry T (.map (some b)) (.int q i)).run Tryz.prog u = .ok (.tuple #[zd, goInt st]) (setBlock u b o1)) ∧
      (∀ u : World, u.heap[b]? = some o1 → (Instr.entryStore T (.map (some b)) (goInt st) val).run Tryz.prog u = .ok () (setBlock u b o2)) ∧
      (Instr.mapUpdate T (.map (some b)) (.int q i) val).run Tryz.prog w = .ok () (setBlock w b o2) := by
  have K := Maps.int_keyed (P := Tryz.prog) hu
  have hkey := keyQ hu hi
  have hl := h.look_ok hu hT (hz w) hi
  obtain ⟨D, ⟨es, clock, hb, F, _, _⟩, _⟩ := h.own
  obtain ⟨s1, s2, _⟩ := F.stamped
  have hks : ∀ e ∈ es.toList, ∃ l, keyOf Tryz.prog kt e.key = some l := fun e he => by
    obtain ⟨y, hy⟩ := F.reads e he
    exact ⟨_, Go.WideElems.rd_key hy⟩
  rcases K.find w hkey es.toList hks with ⟨h1, h2⟩ | ⟨j, e0, h1, h2, h3⟩
  · have h1' : ∀ u : World, (Instr.findKey kt (.int q i) es.toList).run Tryz.prog u = .ok none u := fun u => by
      rcases K.find u hkey es.toList hks with ⟨h1, _⟩ | ⟨j, e0, _, h2', h3⟩
      · exact h1
      · exact absurd h3 (h2 e0 (List.mem_of_getElem? h2'))
    refine ⟨clock, .map (es.push ⟨.int q i, zd, clock⟩) (clock + 1), .map (es.push ⟨.int q i, val, clock⟩) (clock + 1), fun u hu2 => ?_, fun u hu2 => ?_, ?_⟩
    · have hb2 := hu2.trans hb
      simp [Instr.mapEntry, run_underlying hT, MapKept.run_getObj_map hb2, K.check u false hkey, h1', hz, MapKept.run_setObj_map _ hb2, Result.andThen, setBlock]
    · have hlast : (es.push ⟨.int q i, zd, clock⟩).findIdx? (fun e => ((e.born : Nat) : Int) == ((clock : Nat) : Int)) = some es.size := by
        rw [Go.WideElems.findIdx_arr]
        refine Go.WideElems.findIdx_born (e0 := ⟨.int q i, zd, clock⟩) ?_ (by simp)
        rw [Array.toList_push, List.map_append, List.nodup_append]
        refine ⟨s2, by simp, fun a ha c hc e => ?_⟩
        obtain ⟨x, hx, rfl⟩ := List.mem_map.1 ha
        have := s1 x hx
        simp at hc
        omega
      have hfill : (es.push ⟨.int q i, zd, clock⟩).modify es.size (fun e => { e with val := val }) = es.push ⟨.int q i, val, clock⟩ := by
        apply Array.ext'
        rw [Array.toList_modify, Array.toList_push, Array.toList_push, ← Array.length_toList, Go.WideElems.modify_last]
      simp [Instr.entryStore, MapKept.run_getObj_map hu2, asInt, asIntOf, goInt, hlast, hfill, MapKept.run_setObj_map _ hu2, Result.andThen, setBlock]
    · simp [Instr.mapUpdate, run_underlying hT, MapKept.run_getObj_map hb, K.check w false hkey, h1, MapKept.run_setObj_map _ hb, Result.andThen, setBlock]
  · exfalso
    rw [hno] at hl
    simp [Instr.lookup, run_underlying hT, MapKept.run_getObj_map hb, K.check w _ hkey, h1, Result.andThen] at hl
end
theorem sb_at (w : World) (r : Nat) (o : Obj) : (setBlock w r o).heap[r]? = (w.heap[r]?).map (fun _ => o) := by
  show (w.heap.setIfInBounds r o)[r]? = _
  rw [Array.getElem?_setIfInBounds]
  by_cases h : r < w.heap.size
  · simp [h]
  · simp [h]
theorem sb_ne (w : World) {r k : Nat} (o : Obj) (h : k ≠ r) : (setBlock w r o).heap[k]? = w.heap[k]? := by
  show (w.heap.setIfInBounds r o)[k]? = _
  rw [Array.getElem?_setIfInBounds, if_neg (fun e => h e.symm)]
theorem sb_same {w : World} {r : Nat} {o : Obj} (h : w.heap[r]? = some o) : setBlock w r o = w := by
  have : w.heap.setIfInBounds r o = w.heap := by
    apply Array.ext_getElem?
    intro k
    rw [Array.getElem?_setIfInBounds]
    by_cases e : r = k
    · subst e
      rw [if_pos rfl, h]
      simp [(Array.getElem?_eq_some_iff.1 h).1]
    · rw [if_neg e]
  unfold setBlock
  rw [this]
theorem sb_over (w : World) {p e : Nat} (x y x' : Obj) (h : p ≠ e) : setBlock (setBlock (setBlock w p x) e y) p x' = setBlock (setBlock w p x') e y := by
  unfold setBlock
  congr 1
  apply Array.ext_getElem?
  intro k
  simp only [Array.getElem?_setIfInBounds, Array.size_setIfInBounds]
  by_cases h1 : p = k
  · subst h1
    simp [h.symm]
  · by_cases h2 : e = k
    · subst h2
      simp [h1]
    · simp [h1, h2]
theorem sb_two (w : World) {e : Nat} (y y' : Obj) : setBlock (setBlock w e y) e y' = setBlock w e y' := by
  unfold setBlock
  congr 1
  apply Array.ext_getElem?
  intro k
  simp only [Array.getElem?_setIfInBounds, Array.size_setIfInBounds]
  by_cases h1 : e = k
  · subst h1
    simp
  · simp [h1]
theorem MapE.same {kt : TypeId} {q : IntKind} {zd : Value} {w w' : World} {b n : Nat} {E : ES} (h : MapE kt q zd w b n E) (he : w'.heap[b]? = w.heap[b]?) : MapE kt q zd w' b n E := by
  obtain ⟨D, ⟨es, clock, h1, h2, h3, h4⟩, h5⟩ := h.own
  exact ⟨h.rise, h.wf, D, ⟨es, clock, he.trans h1, h2, h3, h4⟩, h5⟩
/-- Two blocks on their way. -/
def wE (W : World) (p e : Nat) (oP oE : Nat → Obj) (a b : Nat) : World := setBlock (setBlock W p (oP a)) e (oE b)
def o3 (x y z : Obj) : Nat → Obj
  | 0 => x
  | 1 => y
  | _ => z
/-- Two maps of vertices: an entry in each, made and filled in any order. -/
theorem ent_two {W : World} {p e n : Nat} {EP EE : ES} (hP : MapE 23 .u32 (.map none) W p n EP) (hE : MapE 23 .u32 (.map none) W e n EE) (hpe : p ≠ e) (hn : n < maxLen) {i : Int} (hi : In32 i) (nP : getE EP i = none) (nE : getE EE i = none) (x y : Nat) :
    ∃ (s1 s2 : Nat) (G : Nat → Nat → World), W = G 0 0 ∧
    (∀ b, (Instr.mapEntry 106 (.map (some p)) (.int .u32 i)).run Tryz.prog (G 0 b) = .ok (.tuple #[.map none, goInt s1]) (G 1 b)) ∧
    (∀ b, (Instr.entryStore 106 (.map (some p)) (goInt s1) (.map (some x))).run Tryz.prog (G 1 b) = .ok () (G 2 b)) ∧
    (∀ a, (Instr.mapEntry 107 (.map (some e)) (.int .u32 i)).run Tryz.prog (G a 0) = .ok (.tuple #[.map none, goInt s2]) (G a 1)) ∧
    (∀ a, (Instr.entryStore 107 (.map (some e)) (goInt s2) (.map (some y))).run Tryz.prog (G a 1) = .ok () (G a 2)) ∧
    (∀ a b k, k ≠ p → k ≠ e → (G a b).heap[k]? = W.heap[k]?) ∧
    (∀ a b, (G a b).os = W.os ∧ (G a b).tape = W.tape ∧ (G a b).output = W.output ∧ (G a b).heap.size = W.heap.size) ∧
    MapE 23 .u32 (.map none) (G 2 2) p (n + 1) (putE EP i (.map (some x))) ∧ MapE 23 .u32 (.map none) (G 2 2) e (n + 1) (putE EE i (.map (some y))) := by
  obtain ⟨s1, p1, p2, f1, f2, f3⟩ := hP.entry Tryz.underlying23 Tryz.underlying106 zero125 hi nP (.map (some x))
  obtain ⟨s2, e1, e2, g1, g2, g3⟩ := hE.entry Tryz.underlying23 Tryz.underlying107 zero131 hi nE (.map (some y))
  obtain ⟨ps, pc, bP⟩ := hP.block
  obtain ⟨es, ec, bE⟩ := hE.block
  have aP : ∀ o u, (setBlock (setBlock W p o) e u).heap[p]? = some o := fun o u => by rw [sb_ne _ _ hpe, sb_at, bP]; rfl
  have aE : ∀ o u, (setBlock (setBlock W p o) e u).heap[e]? = some u := fun o u => by rw [sb_at, sb_ne _ _ hpe.symm, bE]; rfl
  obtain ⟨u1, r1, m1, _⟩ := hP.put Tryz.underlying23 Tryz.underlying106 hn hi (.map (some x))
  obtain ⟨u2, r2, m2, _⟩ := hE.put Tryz.underlying23 Tryz.underlying107 hn hi (.map (some y))
  rw [f3] at r1
  rw [g3] at r2
  have v1 : setBlock W p p2 = u1 := by injection r1
  have v2 : setBlock W e e2 = u2 := by injection r2
  refine ⟨s1, s2, wE W p e (o3 (.map ps pc) p1 p2) (o3 (.map es ec) e1 e2), ?_, fun b => ?_, fun b => ?_, fun a => ?_, fun a => ?_, fun a b k h1 h2 => ?_, fun a b => ⟨rfl, rfl, rfl, by simp [wE, setBlock]⟩, ?_, ?_⟩
  · show W = setBlock (setBlock W p (.map ps pc)) e (.map es ec)
    rw [sb_same bP, sb_same bE]
  · exact (f1 (setBlock (setBlock W p (.map ps pc)) e _) (by rw [aP, bP])).trans (congrArg (Result.ok _) (sb_over W _ _ p1 hpe))
  · exact (f2 (setBlock (setBlock W p p1) e _) (aP p1 _)).trans (congrArg (Result.ok _) (sb_over W _ _ p2 hpe))
  · exact (g1 (setBlock (setBlock W p _) e (.map es ec)) (by rw [aE, bE])).trans (congrArg (Result.ok _) (sb_two _ _ e1))
  · exact (g2 (setBlock (setBlock W p _) e e1) (aE _ e1)).trans (congrArg (Result.ok _) (sb_two _ _ e2))
  · exact (sb_ne _ _ h2).trans (sb_ne _ _ h1)
  · refine m1.same ?_
    rw [← v1, sb_at, bP]
    exact aP p2 e2
  · refine m2.same ?_
    rw [← v2, sb_at, bE]
    exact aE p2 e2
end Go.Proofs.YtafenkepigmcaaaGreatDoor.Gr
/- graph: a vertex less, a vertex more. -/
namespace Go.Proofs.YtafenkepigmcaaaGreatDoor.Gr
open Go Go.RowKit YtafenkepigmcaaaGreatDoor.So
section
variable {w w' w1 : World} {n m : Nat} {F : Nat → Prop} {g mp me : Nat} {bp be : Int → Nat} {G : GV}
theorem MO.del {b : Nat} {f : Int → Nat} {T et : TypeId} (h : MO w b n f G) (hT : Tryz.prog.underlying T = some (.map 23 et)) {v : Int} (hv : In32 v) (ty : TypeId) :
    ∃ w', (Builtin.delete_ #[T, 23] ty #[.map (some b), .int .u32 v]).run Tryz.prog w = .ok (.tuple #[]) w' ∧ MO w' b n f (delE G v) ∧ w.grownBy w' (some b) := by
  obtain ⟨w', h1, h2, h3⟩ := MapE.del h Tryz.underlying23 hT hv ty
  refine ⟨w', h1, ?_, h3⟩
  unfold MO
  rw [mapE_del]
  exact h2
theorem GrAt.gne (h : GrAt w n F g mp me bp be G) : g ≠ mp ∧ g ≠ me := by
  obtain ⟨_, _, h1⟩ := h.props.block
  obtain ⟨_, _, h2⟩ := h.edges.block
  refine ⟨fun e => ?_, fun e => ?_⟩
  · have := h.cell; rw [e, h1] at this; cases this
  · have := h.cell; rw [e, h2] at this; cases this
/-- A vertex is taken out of both maps. -/
theorem GrAt.drop (h : GrAt w n F g mp me bp be G) {v : Int} (g1 : w.grownBy w1 (some mp)) (h1 : MO w1 mp n bp (delE G v)) (g2 : w1.grownBy w' (some me)) (h2 : MO w' me n be (delE G v)) : GrAt w' n F g mp me bp be (delE G v) := by
  have hk : ∀ k, k < w.heap.size → k ≠ mp → k ≠ me → w'.heap[k]? = w.heap[k]? := fun k hk n1 n2 =>
    (g2.block k (Nat.lt_of_lt_of_le hk g1.size) (fun e => n2 (Option.some.inj e))).trans (g1.block k hk (fun e => n1 (Option.some.inj e)))
  have hm : ∀ e ∈ delE G v, e ∈ G := fun e he => (delE_mem.1 he).1
  refine ⟨?_, ?_, h2, fun e he => ?_, h.two, fun e he => h.lone e (hm e he), fun e he e' he' => h.apart e (hm e he) e' (hm e' he'), h.fg, h.fmp, h.fme, fun e he => h.fb e (hm e he), fun k hF => Nat.lt_of_lt_of_le (h.hi k hF) (Nat.le_trans g1.size g2.size)⟩
  · rw [hk g (Array.getElem?_eq_some_iff.1 h.cell).1 h.gne.1 h.gne.2]
    exact h.cell
  · exact h1.kept g2 (fun e => h.two (Option.some.inj e))
  · have hl := h.lone e (hm e he)
    have hi := h.mine e (hm e he)
    exact ⟨⟨hi.1.1.same (hk _ hi.1.1.lt hl.1 hl.2.1), hi.1.2⟩, hi.2.1.same (hk _ hi.2.1.lt hl.2.2.1 hl.2.2.2), hi.2.2⟩
def upd (f : Int → Nat) (v : Int) (b : Nat) : Int → Nat := fun x => if x = v then b else f x
theorem map_put_upd {f : Int → Nat} {v : Int} {b : Nat} {y : EL Av × EL Av} (hr : RiseE G) (hv : getE G v = none) : mapE (fun x (_ : EL Av × EL Av) => Value.map (some (upd f v b x))) (putE G v y) = putE (mapE (fun x (_ : EL Av × EL Av) => Value.map (some (f x))) G) v (.map (some b)) := by
  have e : mapE (fun x (_ : EL Av × EL Av) => Value.map (some (upd f v b x))) G = mapE (fun x (_ : EL Av × EL Av) => Value.map (some (f x))) G := mapE_cong fun e he => by
    have hne : e.1 ≠ v := fun h => by
      have := get_of_mem hr he
      rw [h, hv] at this
      cases this
    simp [upd, hne]
  rw [mapE_put, e]
  simp [upd]
/-- A vertex that isn't there is put into both maps. -/
theorem GrAt.take (h : GrAt w n F g mp me bp be G) {v : Int} (hv : getE G v = none) (hn : n ≤ m) {b c : Nat} {P L : EL Av}
    (hb : ¬ F b) (hc : ¬ F c) (hbc : b ≠ c) (hP : MP w b m P) (hL : ME w c m L)
    (ho : ∀ k, k ≠ mp → k ≠ me → w'.heap[k]? = w.heap[k]?) (hs : w'.heap.size = w.heap.size)
    (h1 : MapE 23 .u32 (.map none) w' mp m (putE (mapE (fun x (_ : EL Av × EL Av) => Value.map (some (bp x))) G) v (.map (some b))))
    (h2 : MapE 23 .u32 (.map none) w' me m (putE (mapE (fun x (_ : EL Av × EL Av) => Value.map (some (be x))) G) v (.map (some c)))) :
    GrAt w' m (fun k => F k ∨ k = b ∨ k = c) g mp me (upd bp v b) (upd be v c) (putE G v (P, L)) := by
  have hr := h.rise
  have hbm : b ≠ mp ∧ b ≠ me := ⟨fun e => hb (e ▸ h.fmp), fun e => hb (e ▸ h.fme)⟩
  have hcm : c ≠ mp ∧ c ≠ me := ⟨fun e => hc (e ▸ h.fmp), fun e => hc (e ▸ h.fme)⟩
  have un : ∀ {f : Int → Nat} {x : Nat} {e : Int × (EL Av × EL Av)}, e.1 ≠ v → upd f v x e.1 = f e.1 := fun hne => by simp [upd, hne]
  have us : ∀ {f : Int → Nat} {x : Nat}, upd f v x v = x := by simp [upd]
  refine ⟨?_, ?_, ?_, fun e he => ?_, h.two, fun e he => ?_, fun e he e' he' => ?_, .inl h.fg, .inl h.fmp, .inl h.fme, fun e he => ?_, fun k hk => ?_⟩
  · rw [ho g h.gne.1 h.gne.2]
    exact h.cell
  · unfold MO
    rw [map_put_upd hr hv]
    exact h1
  · unfold MO
    rw [map_put_upd hr hv]
    exact h2
  · rcases putE_mem hr he with rfl | ⟨h3, h4⟩
    · simp only [us]
      exact ⟨⟨hP.1.same (ho _ hbm.1 hbm.2), hP.2⟩, hL.1.same (ho _ hcm.1 hcm.2), hL.2⟩
    · rw [un h4, un h4]
      have hl := h.lone e h3
      have hi := h.mine e h3
      exact ⟨⟨(hi.1.1.same (ho _ hl.1 hl.2.1)).mono hn, hi.1.2⟩, (hi.2.1.same (ho _ hl.2.2.1 hl.2.2.2)).mono hn, hi.2.2⟩
  · rcases putE_mem hr he with rfl | ⟨h3, h4⟩
    · simp only [us]
      exact ⟨hbm.1, hbm.2, hcm.1, hcm.2⟩
    · rw [un h4, un h4]
      exact h.lone e h3
  · rcases putE_mem hr he with rfl | ⟨h3, h4⟩ <;> rcases putE_mem hr he' with rfl | ⟨h5, h6⟩
    · simp only [us]
      exact ⟨hbc, fun _ => trivial, fun _ => trivial⟩
    · simp only [us]
      rw [un h6, un h6]
      exact ⟨fun e => hb (e ▸ (h.fb _ h5).2), fun e => absurd (e ▸ (h.fb _ h5).1) hb, fun e => absurd (e ▸ (h.fb _ h5).2) hc⟩
    · simp only [us]
      rw [un h4, un h4]
      exact ⟨fun e => hc (e ▸ (h.fb _ h3).1), fun e => absurd (e ▸ (h.fb _ h3).1) hb, fun e => absurd (e ▸ (h.fb _ h3).2) hc⟩
    · rw [un h4, un h4, un h6, un h6]
      exact h.apart e h3 e' h5
  · rcases putE_mem hr he with rfl | ⟨h3, h4⟩
    · simp only [us]
      constructor <;> simp
    · rw [un h4, un h4]
      exact ⟨.inl (h.fb e h3).1, .inl (h.fb e h3).2⟩
  · rw [hs]
    rcases hk with hk | rfl | rfl
    · exact h.hi k hk
    · exact hP.1.lt
    · exact hL.1.lt
end
end Go.Proofs.YtafenkepigmcaaaGreatDoor.Gr
/- graph: hold of a vertex with nothing, there or not, walked. -/
namespace Go.Proofs.YtafenkepigmcaaaGreatDoor.Gr
open Go Go.RowKit YtafenkepigmcaaaGreatDoor.So
/-- A vertex's box beside a graph. -/
theorem bx {w : World} {z : Nat} {v : Int} {th : Bool} {a b : Value} (h : w.heap[z]? = some (.cells #[.int .u32 v, .bool th, a, b] 51 (0, 0))) : w.cell? ⟨z, 0, none⟩ = some (.int .u32 v) ∧ w.cell? ⟨z, 1, none⟩ = some (.bool th) ∧ w.cell? ⟨z, 2, none⟩ = some a ∧ w.cell? ⟨z, 3, none⟩ = some b := by
  simp [World.cell?, h]
theorem del_get {α : Type} (E : EL α) (k : Int) : getE (delE E k) k = none := by rw [getE_del, if_pos rfl]
/-- What is left behind the two deletions, with the box. -/
theorem two_del {W : World} {n : Nat} {F : Nat → Prop} {g mp me z : Nat} {bp be : Int → Nat} {G : GV} {v : Int} {th : Bool} {a b : Value} (h : GrAt W n F g mp me bp be G) (hv : In32 v) (hz : W.heap[z]? = some (.cells #[.int .u32 v, .bool th, a, b] 51 (0, 0))) :
    ∃ w1 w2, (Builtin.delete_ #[106, 23] 0 #[.map (some mp), .int .u32 v]).run Tryz.prog W.drew = .ok (.tuple #[]) w1 ∧ (Builtin.delete_ #[107, 23] 0 #[.map (some me), .int .u32 v]).run Tryz.prog w1.drew = .ok (.tuple #[]) w2 ∧
      (w1.cell? ⟨g, 1, none⟩ = some (.map (some me)) ∧ w1.cell? ⟨z, 0, none⟩ = some (.int .u32 v)) ∧ w2.heap[z]? = some (.cells #[.int .u32 v, .bool th, a, b] 51 (0, 0)) ∧ GrAt w2 n F g mp me bp be (delE G v) ∧ Turned F W w2 := by
  have bd : Below W.heap.size W W.drew := (Below.refl _ W).drew
  have h0 := h.below bd
  obtain ⟨w1, d1, p1, g1⟩ := MO.del h0.props Tryz.underlying106 hv 0
  have bd1 : Below w1.heap.size w1 w1.drew := (Below.refl _ w1).drew
  have e1 : MO w1.drew me n be G := MapE.on (G := fun _ => False) (h0.edges.kept g1 (fun e => h.two (Option.some.inj e).symm)) (below_any bd1) (fun h => h)
  obtain ⟨w2, d2, p2, g2⟩ := MO.del e1 Tryz.underlying107 hv 0
  have hzn : z ≠ mp ∧ z ≠ me := by
    obtain ⟨_, _, q1⟩ := h.props.block
    obtain ⟨_, _, q2⟩ := h.edges.block
    refine ⟨fun e => ?_, fun e => ?_⟩
    · rw [e, q1] at hz; cases hz
    · rw [e, q2] at hz; cases hz
  have hk1 : ∀ k, k < W.heap.size → k ≠ mp → w1.heap[k]? = W.heap[k]? := fun k hk hne => (g1.block k hk (fun e => hne (Option.some.inj e))).trans rfl
  have t1 : Turned F W w1 := (turned_low bd).then (Turned.of_grown g1 (fun k e => by injection e with e; rw [← e]; exact h.fmp))
  have t2 : Turned F w1 w2 := (turned_low bd1).then (Turned.of_grown g2 (fun k e => by injection e with e; rw [← e]; exact h.fme))
  have g1' : w1.drew.grownBy w2 (some me) := g2
  have gb : w1.grownBy w2 (some me) := ⟨g2.os, g2.tape, g2.output, g2.size, fun k hk hne => g2.block k hk hne⟩
  have ga : W.grownBy w1 (some mp) := ⟨g1.os, g1.tape, g1.output, g1.size, fun k hk hne => g1.block k hk hne⟩
  refine ⟨w1, w2, d1, d2, ⟨?_, ?_⟩, ?_, h.drop ga p1 gb p2, t1.then t2⟩
  · have := (hk1 g (Array.getElem?_eq_some_iff.1 h.cell).1 h.gne.1).trans h.cell
    simp [World.cell?, this]
  · have := (hk1 z (Array.getElem?_eq_some_iff.1 hz).1 hzn.1).trans hz
    simp [World.cell?, this]
  · have hlt := (Array.getElem?_eq_some_iff.1 hz).1
    exact (gb.block z (Nat.lt_of_lt_of_le hlt ga.size) (fun e => hzn.2 (Option.some.inj e))).trans ((hk1 z hlt hzn.1).trans hz)
/-- A vertex with nothing. -/
def bareV (v : Int) (th : Bool) : Value := .agg #[.int .u32 v, .bool th, .slice none 0 0, .slice none 0 0]
set_option maxRecDepth 100000 in
set_option maxHeartbeats 1000000 in
theorem hold_out (g n : Nat) (F : Nat → Prop) (G : GV) (v : Int) (w : World) (h : Gp w n F g G) (hv : In32 v) :
    Calls Tryz.prog 70 #[.pointer (some ⟨g, 0, none⟩), bareV v false] w fun e w' => e = .returned (.tuple #[]) ∧ Done w F n g (delE G v) w' := by
  obtain ⟨mp, me, bp, be, h⟩ := h
  unfold bareV
  obtain ⟨z, hz⟩ : ∃ z, w.heap.size = z := ⟨_, rfl⟩
  obtain ⟨W, hW⟩ : ∃ W, w.alloc (.cells #[.int .u32 v, .bool false, .slice none 0 0, .slice none 0 0] 51) = W := ⟨_, rfl⟩
  have b0 := (Below.refl w.heap.size w).alloc (Nat.le_refl _) (.cells #[.int .u32 v, .bool false, .slice none 0 0, .slice none 0 0] 51)
  have hzb := heap_alloc_new w (.cells #[.int .u32 v, .bool false, .slice none 0 0, .slice none 0 0] 51)
  rw [hW, hz] at hzb
  rw [hW] at b0
  have hG := h.below b0
  obtain ⟨w1, w2, d1, d2, ⟨c1, z1⟩, hz2, hG2, ht⟩ := two_del hG hv hzb
  obtain ⟨c0, _⟩ := hG.cells
  obtain ⟨z0, _⟩ := bx hzb
  obtain ⟨_, y1, _⟩ := bx hz2
  have HD := Lib.hid (show Done w F n g (delE G v) w2 from ⟨F, ⟨mp, me, bp, be, hG2⟩, fun k hk => .inl hk, (turned_low b0).then ht⟩)
  clear h hG hG2 ht b0 hzb hz2
  go_enter Tryz.func70, Tryz.ntmps70
  go_upto_region 1 with fail
  go_region
  go_upto_region 2 with fail
  go_region
  go_wp2_with fail
  exact bodyPost_ret (v := .tuple #[]) (results_none rfl _ _ _) rfl ⟨rfl, HD.out⟩
/-- The two new maps go into the graph. -/
theorem put_two {W : World} {n : Nat} {F : Nat → Prop} {g mp me z b c : Nat} {bp be : Int → Nat} {G : GV} {v : Int} {P L : EL Av} (h : GrAt W n F g mp me bp be G) (hn : n < maxLen) (hv : In32 v) (hno : getE G v = none) (hb : ¬ F b) (hc : ¬ F c) (hbc : b ≠ c) (hP : MP W b (n + 1) P) (hL : ME W c (n + 1) L) (hz : W.cell? ⟨z, 0, none⟩ = some (.int .u32 v)) (hzn : z ≠ mp ∧ z ≠ me) :
    ∃ (s1 s2 : Nat) (Gw : Nat → Nat → World), W = Gw 0 0 ∧
    (∀ y, (Instr.mapEntry 106 (.map (some mp)) (.int .u32 v)).run Tryz.prog (Gw 0 y) = .ok (.tuple #[.map none, goInt s1]) (Gw 1 y)) ∧
    (∀ y, (Instr.entryStore 106 (.map (some mp)) (goInt s1) (.map (some b))).run Tryz.prog (Gw 1 y) = .ok () (Gw 2 y)) ∧
    (∀ x, (Instr.mapEntry 107 (.map (some me)) (.int .u32 v)).run Tryz.prog (Gw x 0) = .ok (.tuple #[.map none, goInt s2]) (Gw x 1)) ∧
    (∀ x, (Instr.entryStore 107 (.map (some me)) (goInt s2) (.map (some c))).run Tryz.prog (Gw x 1) = .ok () (Gw x 2)) ∧
    (∀ x y, (Gw x y).cell? ⟨g, 0, none⟩ = some (.map (some mp))) ∧ (∀ x y, (Gw x y).cell? ⟨g, 1, none⟩ = some (.map (some me))) ∧ (∀ x y, (Gw x y).cell? ⟨z, 0, none⟩ = some (.int .u32 v)) ∧
    GrAt (Gw 2 2) (n + 1) (fun k => F k ∨ k = b ∨ k = c) g mp me (upd bp v b) (upd be v c) (putE G v (P, L)) ∧ Turned F W (Gw 2 2) := by
  have nf : ∀ f : Int → Nat, getE (mapE (fun x (_ : EL Av × EL Av) => Value.map (some (f x))) G) v = none := fun f => by rw [getE_map, hno]; rfl
  obtain ⟨s1, s2, Gw, h0, p1, p2, q1, q2, ho, hs, m1, m2⟩ := ent_two h.props h.edges h.two hn hv (nf bp) (nf be) b c
  have cl : ∀ x y k i, k ≠ mp → k ≠ me → (Gw x y).cell? ⟨k, i, none⟩ = W.cell? ⟨k, i, none⟩ := fun x y k i n1 n2 => by
    unfold World.cell?
    simp only [ho x y k n1 n2]
  obtain ⟨c0, c1⟩ := h.cells
  exact ⟨s1, s2, Gw, h0, p1, p2, q1, q2, fun x y => (cl x y g 0 h.gne.1 h.gne.2).trans c0, fun x y => (cl x y g 1 h.gne.1 h.gne.2).trans c1, fun x y => (cl x y z 0 hzn.1 hzn.2).trans hz,
    h.take hno (Nat.le_succ n) hb hc hbc hP hL (fun k n1 n2 => ho 2 2 k n1 n2) (hs 2 2).2.2.2 m1 m2,
    ⟨(hs 2 2).1, (hs 2 2).2.1, (hs 2 2).2.2.1, Nat.le_of_eq (hs 2 2).2.2.2.symm, fun k _ hk => ho 2 2 k (fun e => hk (e ▸ h.fmp)) (fun e => hk (e ▸ h.fme))⟩⟩
end Go.Proofs.YtafenkepigmcaaaGreatDoor.Gr

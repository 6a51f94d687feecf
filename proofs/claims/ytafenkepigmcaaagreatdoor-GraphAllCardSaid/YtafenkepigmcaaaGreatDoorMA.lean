/- graph: maps of the call's own, keyed by numbers, as rising lists of what they hold. -/
import Derived.Test.YtafenkepigmcaaaGreatDoorSA
import Derived.StillTailTactics
import Derived.Laws.Rows
import Derived.Laws.StructEq
import Derived.ChangeKeysEq
import Derived.Maps.OwnSet
import Derived.Maps.AppendAt
import Derived.Maps.RangeWalk
import Derived.Lib.LazyBuf
import Derived.Test.YtafenkepigmcaaaGreatDoorShelf
namespace Go.Proofs.YtafenkepigmcaaaGreatDoor.Gr
open Go Go.RowKit YtafenkepigmcaaaGreatDoor.So
/-- How a map's element reads here: as itself. -/
def tok : Value → Option (DataW Value × List MemPlace) := fun v => some (.held v, [])
theorem tok_inv {v c : Value} {ps : List MemPlace} (h : tok v = some (.held c, ps)) : v = c := by
  simp [tok] at h; exact h.1
def InQ (q : IntKind) (i : Int) : Prop := (Lit.int q i).wf = true
/-- A list of keys and what they have, its keys rising. -/
abbrev EL (α : Type) := List (Int × α)
abbrev ES := EL Value
section
variable {α : Type}
def RiseE (E : EL α) : Prop := E.Pairwise fun a b => a.1 < b.1
def getE (E : EL α) (k : Int) : Option α := (E.find? fun e => e.1 = k).map Prod.snd
def putE : EL α → Int → α → EL α
  | [], k, v => [(k, v)]
  | e :: E, k, v => if k < e.1 then (k, v) :: e :: E else if e.1 = k then (k, v) :: E else e :: putE E k v
def delE (E : EL α) (k : Int) : EL α := E.filter fun e => !decide (e.1 = k)
theorem getE_cons (e : Int × α) (E : EL α) (k : Int) : getE (e :: E) k = if e.1 = k then some e.2 else getE E k := by
  unfold getE
  by_cases h : e.1 = k
  · simp [h]
  · simp [h]
theorem getE_none {E : EL α} {k : Int} (h : ∀ e ∈ E, e.1 ≠ k) : getE E k = none := by
  induction E with
  | nil => rfl
  | cons e E ih =>
    rw [getE_cons, if_neg (h e (by simp)), ih (fun x hx => h x (by simp [hx]))]
theorem getE_put (E : EL α) (k : Int) (v : α) (h : RiseE E) (j : Int) : getE (putE E k v) j = if j = k then some v else getE E j := by
  induction E with
  | nil =>
    simp only [putE, getE_cons]
    by_cases e : j = k
    · rw [if_pos e.symm, if_pos e]
    · rw [if_neg (fun h => e h.symm), if_neg e]
  | cons a E ih =>
    have hE : RiseE E := (List.pairwise_cons.1 h).2
    unfold putE
    by_cases h1 : k < a.1
    · rw [if_pos h1, getE_cons]
      by_cases e : j = k
      · rw [if_pos e.symm, if_pos e]
      · rw [if_neg (fun h => e h.symm), if_neg e]
    · rw [if_neg h1]
      by_cases h2 : a.1 = k
      · rw [if_pos h2, getE_cons, getE_cons]
        by_cases e : j = k
        · rw [if_pos e.symm, if_pos e]
        · rw [if_neg (fun h => e h.symm), if_neg e, if_neg (fun h => e (by rw [← h, h2]))]
      · rw [if_neg h2, getE_cons, getE_cons, ih hE]
        by_cases e : a.1 = j
        · rw [if_pos e, if_pos e, if_neg (fun h => h2 (e.trans h))]
        · rw [if_neg e, if_neg e]
theorem putE_key {E : EL α} {k : Int} {v : α} {e : Int × α} (h : e ∈ putE E k v) : e = (k, v) ∨ e ∈ E := by
  induction E with
  | nil => simp [putE] at h; exact .inl h
  | cons a E ih =>
    unfold putE at h
    split at h
    · rcases List.mem_cons.1 h with h | h
      · exact .inl h
      · exact .inr h
    · split at h
      · rcases List.mem_cons.1 h with h | h
        · exact .inl h
        · exact .inr (by simp [h])
      · rcases List.mem_cons.1 h with h | h
        · exact .inr (by simp [h])
        · rcases ih h with h | h
          · exact .inl h
          · exact .inr (by simp [h])
theorem putE_rise {E : EL α} (h : RiseE E) (k : Int) (v : α) : RiseE (putE E k v) := by
  induction E with
  | nil => simp [putE, RiseE]
  | cons a E ih =>
    obtain ⟨h1, h2⟩ := List.pairwise_cons.1 h
    unfold putE
    split
    · rename_i hk
      refine List.pairwise_cons.2 ⟨fun b hb => ?_, h⟩
      rcases List.mem_cons.1 hb with rfl | hb
      · exact hk
      · exact Int.lt_trans hk (h1 b hb)
    · split
      · rename_i hk
        exact List.pairwise_cons.2 ⟨fun b hb => by simp only; rw [← hk]; exact h1 b hb, h2⟩
      · rename_i hk1 hk2
        refine List.pairwise_cons.2 ⟨fun b hb => ?_, ih h2⟩
        rcases putE_key hb with rfl | hb
        · simp only; omega
        · exact h1 b hb
theorem putE_len (E : EL α) (k : Int) (v : α) (h : RiseE E) : (putE E k v).length = E.length + if (getE E k).isSome then 0 else 1 := by
  induction E with
  | nil => simp [putE, getE]
  | cons a E ih =>
    obtain ⟨h1, h2⟩ := List.pairwise_cons.1 h
    unfold putE
    rw [getE_cons]
    by_cases hk : k < a.1
    · rw [if_pos hk, if_neg (show ¬ a.1 = k by omega), getE_none (fun e he hh => by have := h1 e he; omega)]
      simp
    · rw [if_neg hk]
      by_cases hk2 : a.1 = k
      · rw [if_pos hk2, if_pos hk2]
        simp
      · rw [if_neg hk2, if_neg hk2, List.length_cons, List.length_cons, ih h2]
        omega
theorem delE_rise {E : EL α} (h : RiseE E) (k : Int) : RiseE (delE E k) := List.Pairwise.filter _ h
theorem getE_del (E : EL α) (k j : Int) : getE (delE E k) j = if j = k then none else getE E j := by
  induction E with
  | nil => simp [delE, getE]
  | cons a E ih =>
    unfold delE at ih ⊢
    rw [List.filter_cons]
    by_cases h : a.1 = k
    · simp only [h, decide_true, Bool.not_true, Bool.false_eq_true, if_false]
      rw [ih, getE_cons]
      by_cases e : j = k
      · rw [if_pos e, if_pos e]
      · rw [if_neg e, if_neg e, if_neg (fun h' => e (by rw [← h', h]))]
    · simp only [h, decide_false, Bool.not_false, if_true]
      rw [getE_cons, getE_cons, ih]
      by_cases e : a.1 = j
      · rw [if_pos e, if_pos e, if_neg (fun h' => h (e.trans h'))]
      · rw [if_neg e, if_neg e]
theorem delE_none {E : EL α} {k : Int} (h : getE E k = none) : delE E k = E := by
  unfold delE
  rw [List.filter_eq_self]
  intro e he
  simp only [Bool.not_eq_true', decide_eq_false_iff_not]
  intro hk
  induction E with
  | nil => cases he
  | cons a E ih =>
    rw [getE_cons] at h
    split at h
    · cases h
    · rename_i hn
      rcases List.mem_cons.1 he with rfl | he
      · exact hn hk
      · exact ih h he
theorem delE_len {E : EL α} (h : RiseE E) (k : Int) : (delE E k).length + (if (getE E k).isSome then 1 else 0) = E.length := by
  induction E with
  | nil => simp [delE, getE]
  | cons a E ih =>
    obtain ⟨h1, h2⟩ := List.pairwise_cons.1 h
    have ih := ih h2
    rw [getE_cons]
    by_cases hk : a.1 = k
    · have hn : getE E k = none := getE_none (fun e he hh => by have := h1 e he; omega)
      rw [if_pos hk]
      have e1 : delE (a :: E) k = delE E k := by simp [delE, hk]
      rw [e1, delE_none hn]
      simp
    · rw [if_neg hk]
      have e1 : delE (a :: E) k = a :: delE E k := by simp [delE, hk]
      rw [e1, List.length_cons, List.length_cons]
      omega
theorem mem_of_get {E : EL α} {k : Int} {v : α} (h : getE E k = some v) : (k, v) ∈ E := by
  induction E with
  | nil => cases h
  | cons a E ih =>
    rw [getE_cons] at h
    split at h
    · rename_i hk
      have := Option.some.inj h
      rw [← hk, ← this]
      exact List.mem_cons_self
    · exact List.mem_cons_of_mem _ (ih h)
theorem get_of_mem {E : EL α} (h : RiseE E) {e : Int × α} (he : e ∈ E) : getE E e.1 = some e.2 := by
  induction E with
  | nil => cases he
  | cons a E ih =>
    obtain ⟨h1, h2⟩ := List.pairwise_cons.1 h
    rw [getE_cons]
    rcases List.mem_cons.1 he with rfl | he
    · rw [if_pos rfl]
    · rw [if_neg (by have := h1 e he; omega)]
      exact ih h2 he
/-- Two of them alike at each key are one. -/
theorem rise_ext {E F : EL α} (hE : RiseE E) (hF : RiseE F) (h : ∀ k, getE E k = getE F k) : E = F := by
  induction E generalizing F with
  | nil =>
    cases F with
    | nil => rfl
    | cons b F =>
      have := h b.1
      rw [getE_cons, if_pos rfl] at this
      cases this
  | cons a E ih =>
    obtain ⟨a1, a2⟩ := List.pairwise_cons.1 hE
    cases F with
    | nil =>
      have := h a.1
      rw [getE_cons, if_pos rfl] at this
      cases this
    | cons b F =>
      obtain ⟨b1, b2⟩ := List.pairwise_cons.1 hF
      have hab : a.1 = b.1 := by
        rcases Int.lt_trichotomy a.1 b.1 with hl | he | hl
        · have := h a.1
          rw [getE_cons, if_pos rfl, getE_cons, if_neg (by omega), getE_none (fun e he hh => by have := b1 e he; omega)] at this
          cases this
        · exact he
        · have := h b.1
          rw [getE_cons, if_neg (by omega), getE_none (fun e he hh => by have := a1 e he; omega), getE_cons, if_pos rfl] at this
          cases this
      have hv : a.2 = b.2 := by
        have := h a.1
        rw [getE_cons, if_pos rfl, getE_cons, if_pos hab.symm] at this
        exact Option.some.inj this
      have e : a = b := Prod.ext hab hv
      subst e
      congr 1
      refine ih a2 b2 (fun k => ?_)
      have := h k
      rw [getE_cons, getE_cons] at this
      by_cases hk : a.1 = k
      · rw [getE_none (fun e he hh => by have := a1 e he; omega), getE_none (fun e he hh => by have := b1 e he; omega)]
      · rw [if_neg hk, if_neg hk] at this
        exact this
variable {β : Type}
/-- Each one's value turned, its key as it was. -/
def mapE (f : Int → α → β) (E : EL α) : EL β := E.map fun e => (e.1, f e.1 e.2)
theorem mapE_len (f : Int → α → β) (E : EL α) : (mapE f E).length = E.length := by simp [mapE]
theorem mapE_rise (f : Int → α → β) {E : EL α} (h : RiseE E) : RiseE (mapE f E) := List.Pairwise.map _ (fun _ _ h => h) h
theorem getE_map (f : Int → α → β) (E : EL α) (k : Int) : getE (mapE f E) k = (getE E k).map (f k) := by
  induction E with
  | nil => rfl
  | cons a E ih =>
    unfold mapE at ih ⊢
    rw [List.map_cons, getE_cons, getE_cons]
    by_cases h : a.1 = k
    · simp [h]
    · simp [h, ih]
theorem mapE_put (f : Int → α → β) (E : EL α) (k : Int) (v : α) : mapE f (putE E k v) = putE (mapE f E) k (f k v) := by
  induction E with
  | nil => rfl
  | cons a E ih =>
    unfold mapE at ih ⊢
    rw [List.map_cons]
    unfold putE
    split
    · rfl
    · split
      · rfl
      · rw [List.map_cons, ih]
theorem mapE_del (f : Int → α → β) (E : EL α) (k : Int) : mapE f (delE E k) = delE (mapE f E) k := by
  unfold mapE delE
  rw [List.filter_map]
  rfl
theorem mapE_cong {f g : Int → α → β} {E : EL α} (h : ∀ e ∈ E, f e.1 e.2 = g e.1 e.2) : mapE f E = mapE g E := List.map_congr_left fun e he => by rw [h e he]
theorem delE_mem {E : EL α} {k : Int} {e : Int × α} : e ∈ delE E k ↔ e ∈ E ∧ e.1 ≠ k := by simp [delE]
theorem some_of_mem {E : EL α} (h : RiseE E) {e : Int × α} (he : e ∈ E) : (getE E e.1).isSome = true := by rw [get_of_mem h he]; rfl
end
/-- A map in block b, keyed by numbers of type kt, of at most n entries ever: it holds E. -/
structure MapE (kt : TypeId) (q : IntKind) (zd : Value) (w : World) (b n : Nat) (E : ES) : Prop where
  rise : RiseE E
  wf : ∀ e ∈ E, InQ q e.1
  own : ∃ D, w.ownsMap Tryz.prog kt tok b n D ∧ (∀ k, InQ q k → D.atKey (.int q k) (.held zd) = .held ((getE E k).getD zd) ∧ Maps.has D (.int q k) = (getE E k).isSome) ∧ Maps.size D = E.length
section
variable {kt : TypeId} {q : IntKind} {zd : Value} {w w' : World} {b n : Nat} {E : ES}
theorem MapE.kept {row : Option Nat} (h : MapE kt q zd w b n E) (hg : w.grownBy w' row) (hne : some b ≠ row) : MapE kt q zd w' b n E := by
  obtain ⟨D, h1, h2⟩ := h.own
  exact ⟨h.rise, h.wf, D, h1.kept hg hne, h2⟩
theorem MapE.lt (h : MapE kt q zd w b n E) : b < w.heap.size := by
  obtain ⟨D, h1, _⟩ := h.own
  exact h1.lt
theorem MapE.mono {m : Nat} (h : MapE kt q zd w b n E) (hn : n ≤ m) : MapE kt q zd w b m E := by
  obtain ⟨D, h1, h2⟩ := h.own
  exact ⟨h.rise, h.wf, D, h1.mono hn, h2⟩
theorem MapE.on {G : Nat → Prop} (h : MapE kt q zd w b n E) (ht : Turned G w w') (hG : ¬ G b) : MapE kt q zd w' b n E := by
  obtain ⟨D, ⟨es, clock, h1, h2, h3, h4⟩, h5⟩ := h.own
  exact ⟨h.rise, h.wf, D, ⟨es, clock, (ht.block b (Array.getElem?_eq_some_iff.1 h1).1 hG).trans h1, h2, h3, h4⟩, h5⟩
theorem MapE.block (h : MapE kt q zd w b n E) : ∃ es clock, w.heap[b]? = some (.map es clock) := by
  obtain ⟨D, ⟨es, clock, h1, _⟩, _⟩ := h.own
  exact ⟨es, clock, h1⟩
theorem MapE.made (kt : TypeId) (q : IntKind) (zd : Value) (w : World) : MapE kt q zd (w.alloc (.map #[] 0)) w.heap.size 0 [] :=
  ⟨List.Pairwise.nil, (fun e he => by cases he), .map [], World.ownsMap_made _ _ _ _, fun _ _ => ⟨rfl, rfl⟩, rfl⟩
theorem keyQ (hu : Tryz.prog.underlying kt = some (.int q)) {i : Int} (h : InQ q i) : keyOf Tryz.prog kt (.int q i) = some (.int q i) := Maps.keyOf_int_mk hu h
theorem MapE.look {T e : TypeId} (h : MapE kt q zd w b n E) (hu : Tryz.prog.underlying kt = some (.int q)) (hT : Tryz.prog.underlying T = some (.map kt e)) (hz : (zeroValue e).run Tryz.prog w = .ok zd w) {i : Int} (hi : InQ q i) : (Instr.lookup T (.map (some b)) (.int q i) false).run Tryz.prog w = .ok ((getE E i).getD zd) w := by
  obtain ⟨D, h1, h2, _⟩ := h.own
  obtain ⟨v, ps, hrun, hv⟩ := h1.lookup (Maps.int_keyed hu) hT hz (zd := .held zd) (zp := []) rfl (keyQ hu hi)
  rw [(h2 i hi).1] at hv
  rw [hrun, tok_inv hv]
theorem MapE.look_ok {T e : TypeId} (h : MapE kt q zd w b n E) (hu : Tryz.prog.underlying kt = some (.int q)) (hT : Tryz.prog.underlying T = some (.map kt e)) (hz : (zeroValue e).run Tryz.prog w = .ok zd w) {i : Int} (hi : InQ q i) : (Instr.lookup T (.map (some b)) (.int q i) true).run Tryz.prog w = .ok (.tuple #[(getE E i).getD zd, .bool (getE E i).isSome]) w := by
  obtain ⟨D, h1, h2, _⟩ := h.own
  obtain ⟨v, ps, hrun, hv⟩ := h1.look_ok (Maps.int_keyed hu) hT hz (zd := .held zd) (zp := []) rfl (keyQ hu hi)
  rw [(h2 i hi).1] at hv
  rw [hrun, tok_inv hv, (h2 i hi).2]
theorem lit_ne {i j : Int} (h : j ≠ i) : (Lit.int q j) ≠ (Lit.int q i) := fun e => h (by injection e)
theorem own_isMap {D : DataW Value} (hD : w.ownsMap Tryz.prog kt tok b n D) : Maps.IsMap D := by
  obtain ⟨es, clock, _, _, _, rfl⟩ := hD; exact ⟨_, rfl⟩
/-- One more, or another one in its place. -/
theorem MapE.put {T e : TypeId} (h : MapE kt q zd w b n E) (hu : Tryz.prog.underlying kt = some (.int q)) (hT : Tryz.prog.underlying T = some (.map kt e)) (hn : n < maxLen) {i : Int} (hi : InQ q i) (v : Value) :
    ∃ w', (Instr.mapUpdate T (.map (some b)) (.int q i) v).run Tryz.prog w = .ok () w' ∧ MapE kt q zd w' b (n + 1) (putE E i v) ∧ w.grownBy w' (some b) := by
  obtain ⟨D, h1, h2, h3⟩ := h.own
  obtain ⟨w', hrun, hown, hg⟩ := h1.update (key := .int q i) (val := v) (Maps.int_keyed hu) hT hn (keyQ hu hi) (d := .held v) (ps := []) rfl
  have hm := own_isMap h1
  refine ⟨w', hrun, ⟨putE_rise h.rise i v, fun x hx => ?_, _, hown, fun j hj => ?_, ?_⟩, hg⟩
  · rcases putE_key hx with rfl | hx
    · exact hi
    · exact h.wf x hx
  · rw [getE_put E i v h.rise j]
    by_cases ej : j = i
    · subst ej
      rw [Maps.atKey_put_same hm (by trivial), Maps.has_put_same hm (by trivial)]
      simp
    · rw [Maps.atKey_put_other (lit_ne ej), Maps.has_put_other (lit_ne ej), if_neg ej]
      exact h2 j hj
  · rw [Maps.size_put (h1.tidy (Maps.int_keyed hu)), (h2 i hi).2, h3, putE_len E i v h.rise]
    cases (getE E i).isSome <;> simp
/-- One less, or none at all. -/
theorem MapE.del {T e : TypeId} (h : MapE kt q zd w b n E) (hu : Tryz.prog.underlying kt = some (.int q)) (hT : Tryz.prog.underlying T = some (.map kt e)) {i : Int} (hi : InQ q i) (ty : TypeId) :
    ∃ w', (Builtin.delete_ #[T, kt] ty #[.map (some b), .int q i]).run Tryz.prog w = .ok (.tuple #[]) w' ∧ MapE kt q zd w' b n (delE E i) ∧ w.grownBy w' (some b) := by
  obtain ⟨D, h1, h2, h3⟩ := h.own
  obtain ⟨w', hrun, hown, hg⟩ := h1.drop (key := .int q i) (Maps.int_keyed hu) hT (keyQ hu hi) ty
  refine ⟨w', hrun, ⟨delE_rise h.rise i, fun x hx => h.wf x (List.mem_filter.1 hx).1, _, hown, fun j hj => ?_, ?_⟩, hg.grown⟩
  · rw [getE_del E i j]
    by_cases ej : j = i
    · subst ej
      rw [Maps.atKey_del_same, Maps.has_del_same]
      simp
    · rw [Maps.atKey_del_other (lit_ne ej), Maps.has_del_other (lit_ne ej), if_neg ej]
      exact h2 j hj
  · have := Maps.size_del (k := Lit.int q i) (h1.tidy (Maps.int_keyed hu))
    have e2 := delE_len h.rise i
    rw [(h2 i hi).2, h3] at this
    cases hq : (getE E i).isSome <;> simp [hq] at this e2 <;> omega
theorem MapE.len {T e : TypeId} (h : MapE kt q zd w b n E) (hT : Tryz.prog.underlying T = some (.map kt e)) (ty : TypeId) : (Builtin.len_ #[T] ty #[.map (some b)]).run Tryz.prog w = .ok (.int .i64 (E.length : Int)) w := by
  obtain ⟨D, h1, _, h3⟩ := h.own
  rw [h1.len hT ty, h3]
theorem MapE.size (h : MapE kt q zd w b n E) : E.length ≤ n := by
  obtain ⟨D, h1, _, h3⟩ := h.own
  rw [← h3]; exact h1.size_le
theorem look_none {T e : TypeId} (hu : Tryz.prog.underlying kt = some (.int q)) (hT : Tryz.prog.underlying T = some (.map kt e)) (hz : (zeroValue e).run Tryz.prog w = .ok zd w) {i : Int} (hi : InQ q i) (c : Bool) : (Instr.lookup T (.map none) (.int q i) c).run Tryz.prog w = .ok (if c then .tuple #[zd, .bool false] else zd) w := Maps.look_nil c (Maps.int_keyed hu) hT hz (keyQ hu hi)
theorem drop_none {T e : TypeId} (hu : Tryz.prog.underlying kt = some (.int q)) (hT : Tryz.prog.underlying T = some (.map kt e)) {i : Int} (hi : InQ q i) (ty : TypeId) : (Builtin.delete_ #[T, kt] ty #[.map none, .int q i]).run Tryz.prog w = .ok (.tuple #[]) w := Maps.drop_nil (Maps.int_keyed hu) hT (keyQ hu hi) ty
end
end Go.Proofs.YtafenkepigmcaaaGreatDoor.Gr
/- graph: a graph by what it holds; New, there, when, joined, isFull, walked. -/
namespace Go.Proofs.YtafenkepigmcaaaGreatDoor.Gr
open Go Go.RowKit YtafenkepigmcaaaGreatDoor.So
/-- A value of the graph's. -/
structure Av where
  k : Int
  n : Int
  s : ByteArray
def Av.val (a : Av) : Value := .agg #[.int .u8 a.k, .int .i64 a.n, .string a.s]
def Av.ok (a : Av) : Prop := InQ .u8 a.k ∧ InQ .i64 a.n ∧ a.s.size ≤ 1048576
def zA : Av := ⟨0, 0, ⟨#[]⟩⟩
def zV : Value := .agg #[.int .u8 0, .int .i64 0, .string ⟨#[]⟩]
theorem zA_val : zA.val = zV := rfl
def vals (E : EL Av) : ES := mapE (fun _ a => a.val) E
theorem getE_vals (E : EL Av) (k : Int) : getE (vals E) k = (getE E k).map Av.val := getE_map _ _ _
theorem getD_vals (E : EL Av) (k : Int) : (getE (vals E) k).getD zV = ((getE E k).getD zA).val := by rw [getE_vals]; cases getE E k <;> rfl
theorem isSome_vals (E : EL Av) (k : Int) : (getE (vals E) k).isSome = (getE E k).isSome := by rw [getE_vals]; cases getE E k <;> rfl
/-- What is held: each vertex with its properties and its halves. -/
abbrev GV := EL (EL Av × EL Av)
abbrev In8 (i : Int) : Prop := InQ .u8 i
abbrev In32 (i : Int) : Prop := InQ .u32 i
theorem zero47 (w : World) : (zeroValue 47).run Tryz.prog w = .ok zV w := by kernel_rfl
theorem zero125 (w : World) : (zeroValue 125).run Tryz.prog w = .ok (.map none) w := by kernel_rfl
theorem zero131 (w : World) : (zeroValue 131).run Tryz.prog w = .ok (.map none) w := by kernel_rfl
def MP (w : World) (b n : Nat) (E : EL Av) : Prop := MapE 5 .u8 zV w b n (vals E) ∧ ∀ e ∈ E, e.2.ok
def ME (w : World) (b n : Nat) (E : EL Av) : Prop := MapE 23 .u32 zV w b n (vals E) ∧ ∀ e ∈ E, e.2.ok
/-- The outer map: at each vertex the block of its own map. -/
abbrev MO (w : World) (b n : Nat) (f : Int → Nat) (G : GV) : Prop := MapE 23 .u32 (.map none) w b n (mapE (fun v _ => .map (some (f v))) G)
structure GrAt (w : World) (n : Nat) (F : Nat → Prop) (g mp me : Nat) (bp be : Int → Nat) (G : GV) : Prop where
  cell : w.heap[g]? = some (.cells #[.map (some mp), .map (some me)] 109 (0, 0))
  props : MO w mp n bp G
  edges : MO w me n be G
  mine : ∀ e ∈ G, MP w (bp e.1) n e.2.1 ∧ ME w (be e.1) n e.2.2
  two : mp ≠ me
  lone : ∀ e ∈ G, bp e.1 ≠ mp ∧ bp e.1 ≠ me ∧ be e.1 ≠ mp ∧ be e.1 ≠ me
  apart : ∀ e ∈ G, ∀ e' ∈ G, bp e.1 ≠ be e'.1 ∧ (bp e.1 = bp e'.1 → e.1 = e'.1) ∧ (be e.1 = be e'.1 → e.1 = e'.1)
  fg : F g
  fmp : F mp
  fme : F me
  fb : ∀ e ∈ G, F (bp e.1) ∧ F (be e.1)
  hi : ∀ k, F k → k < w.heap.size
section
variable {w w' : World} {n : Nat} {F K : Nat → Prop} {g mp me : Nat} {bp be : Int → Nat} {G : GV}
theorem rise_of_map {α β : Type} {f : Int → α → β} {E : EL α} (h : RiseE (mapE f E)) : RiseE E := (List.pairwise_map.1 h).imp fun h => h
theorem mo_rise {b : Nat} {f : Int → Nat} (h : MO w b n f G) : RiseE G := rise_of_map h.rise
theorem GrAt.rise (h : GrAt w n F g mp me bp be G) : RiseE G := mo_rise h.props
theorem GrAt.on (h : GrAt w n F g mp me bp be G) (ht : Turned K w w') (hF : ∀ k, F k → ¬ K k) : GrAt w' n F g mp me bp be G :=
  ⟨(ht.block g (h.hi g h.fg) (hF g h.fg)).trans h.cell, h.props.on ht (hF _ h.fmp), h.edges.on ht (hF _ h.fme),
    fun e he => ⟨⟨(h.mine e he).1.1.on ht (hF _ (h.fb e he).1), (h.mine e he).1.2⟩, (h.mine e he).2.1.on ht (hF _ (h.fb e he).2), (h.mine e he).2.2⟩,
    h.two, h.lone, h.apart, h.fg, h.fmp, h.fme, h.fb, fun k hk => Nat.lt_of_lt_of_le (h.hi k hk) ht.size⟩
theorem GrAt.below (h : GrAt w n F g mp me bp be G) (hb : Below w.heap.size w w') : GrAt w' n F g mp me bp be G := h.on (K := fun _ => False) (below_any hb) (fun _ _ => id)
theorem GrAt.mono {m : Nat} (h : GrAt w n F g mp me bp be G) (hn : n ≤ m) : GrAt w m F g mp me bp be G :=
  ⟨h.cell, h.props.mono hn, h.edges.mono hn, fun e he => ⟨⟨(h.mine e he).1.1.mono hn, (h.mine e he).1.2⟩, (h.mine e he).2.1.mono hn, (h.mine e he).2.2⟩, h.two, h.lone, h.apart, h.fg, h.fmp, h.fme, h.fb, h.hi⟩
theorem GrAt.cells (h : GrAt w n F g mp me bp be G) : w.cell? ⟨g, 0, none⟩ = some (.map (some mp)) ∧ w.cell? ⟨g, 1, none⟩ = some (.map (some me)) := by
  have := h.cell
  simp [World.cell?, this]
end
/-- A graph, wherever its blocks lie. -/
def Gp (w : World) (n : Nat) (F : Nat → Prop) (g : Nat) (G : GV) : Prop := ∃ mp me bp be, GrAt w n F g mp me bp be G
theorem Gp.on {w w' : World} {n g : Nat} {F K : Nat → Prop} {G : GV} (h : Gp w n F g G) (ht : Turned K w w') (hF : ∀ k, F k → ¬ K k) : Gp w' n F g G := by
  obtain ⟨mp, me, bp, be, h⟩ := h
  exact ⟨mp, me, bp, be, h.on ht hF⟩
theorem Gp.below {w w' : World} {n g : Nat} {F : Nat → Prop} {G : GV} (h : Gp w n F g G) (hb : Below w.heap.size w w') : Gp w' n F g G := by
  obtain ⟨mp, me, bp, be, h⟩ := h
  exact ⟨mp, me, bp, be, h.below hb⟩
theorem Gp.rise {w : World} {n g : Nat} {F : Nat → Prop} {G : GV} (h : Gp w n F g G) : RiseE G := by
  obtain ⟨mp, me, bp, be, h⟩ := h
  exact h.rise
set_option maxRecDepth 100000 in
theorem new_any (w : World) : Calls Tryz.prog 16 #[] w fun e w' => e = .returned (.pointer (some ⟨w.heap.size + 2, 0, none⟩)) ∧ Gp w' 0 (fun k => w.heap.size ≤ k ∧ k < w.heap.size + 3) (w.heap.size + 2) [] ∧ Below w.heap.size w w' := by
  have hmm := @run_makeMap Tryz.prog
  have h1 := Lib.hid (MapE.made 23 .u32 (.map none) w)
  have h2 := Lib.hid (MapE.made 23 .u32 (.map none) (w.alloc (.map #[] 0)))
  go_enter Tryz.func16, Tryz.ntmps16
  go_wp2
  go_ret
  have b1 : Below w.heap.size w (w.alloc (.map #[] 0)) := (Below.refl _ w).alloc (Nat.le_refl _) _
  have b2 : Below w.heap.size w ((w.alloc (.map #[] 0)).alloc (.map #[] 0)) := b1.alloc (by simp) _
  have z1 : (w.alloc (.map #[] 0)).heap.size = w.heap.size + 1 := by simp
  have z2 : ((w.alloc (.map #[] 0)).alloc (.map #[] 0)).heap.size = w.heap.size + 2 := by simp
  refine ⟨by simp, ⟨w.heap.size, w.heap.size + 1, fun _ => 0, fun _ => 0, ?_⟩, b2.alloc b2.size _⟩
  have hn := heap_alloc_new ((w.alloc (.map #[] 0)).alloc (.map #[] 0)) (.cells #[.map (some w.heap.size), .map (some (w.heap.size + 1))] 109)
  rw [z2] at hn
  refine ⟨by simpa using hn, ?_, ?_, by simp, by omega, by simp, by simp, ⟨by omega, by omega⟩, ⟨by omega, by omega⟩, ⟨by omega, by omega⟩, by simp, fun k hk => by simp; omega⟩
  · exact (h1.out.kept (World.grownBy_alloc _ _ none) (by simp)).kept (World.grownBy_alloc _ _ none) (by simp)
  · have h3 := h2.out
    rw [z1] at h3
    exact h3.kept (World.grownBy_alloc _ _ none) (by simp)
theorem exec_look {T kt et : TypeId} {q : IntKind} {zd : Value} {a : Act} {o : Oper} {x y : Operand} (ho : o.op = .lookup T x y false) {b n : Nat} {E : ES} {i : Int} {w : World} (hx : a.eval x = .map (some b)) (hy : a.eval y = .int q i) (hm : MapE kt q zd w b n E) (hu : Tryz.prog.underlying kt = some (.int q)) (hT : Tryz.prog.underlying T = some (.map kt et)) (hz : (zeroValue et).run Tryz.prog w = .ok zd w) (hi : InQ q i) :
    (execOp a.eval o).run Tryz.prog w = .ok (.value ((getE E i).getD zd)) w := by
  simp [execOp, ho, hx, hy, hm.look hu hT hz hi, Result.andThen]
theorem exec_look_ok {T kt et : TypeId} {q : IntKind} {zd : Value} {a : Act} {o : Oper} {x y : Operand} (ho : o.op = .lookup T x y true) {b n : Nat} {E : ES} {i : Int} {w : World} (hx : a.eval x = .map (some b)) (hy : a.eval y = .int q i) (hm : MapE kt q zd w b n E) (hu : Tryz.prog.underlying kt = some (.int q)) (hT : Tryz.prog.underlying T = some (.map kt et)) (hz : (zeroValue et).run Tryz.prog w = .ok zd w) (hi : InQ q i) :
    (execOp a.eval o).run Tryz.prog w = .ok (.value (.tuple #[(getE E i).getD zd, .bool (getE E i).isSome])) w := by
  simp [execOp, ho, hx, hy, hm.look_ok hu hT hz hi, Result.andThen]
theorem exec_none {T kt et : TypeId} {q : IntKind} {zd : Value} {a : Act} {o : Oper} {x y : Operand} {c : Bool} (ho : o.op = .lookup T x y c) {i : Int} {w : World} (hx : a.eval x = .map none) (hy : a.eval y = .int q i) (hu : Tryz.prog.underlying kt = some (.int q)) (hT : Tryz.prog.underlying T = some (.map kt et)) (hz : (zeroValue et).run Tryz.prog w = .ok zd w) (hi : InQ q i) :
    (execOp a.eval o).run Tryz.prog w = .ok (.value (if c then .tuple #[zd, .bool false] else zd)) w := by
  simp [execOp, ho, hx, hy, look_none hu hT hz hi c, Result.andThen]
set_option maxRecDepth 100000 in
theorem there_any (g n : Nat) (F : Nat → Prop) (G : GV) (v : Int) (w : World) (h : Gp w n F g G) (hv : In32 v) : Calls Tryz.prog 52 #[.pointer (some ⟨g, 0, none⟩), .int .u32 v] w fun e w' => e = .returned (.bool (getE G v).isSome) ∧ w = w' := by
  obtain ⟨mp, me, bp, be, h⟩ := h
  have cp := h.cells
  obtain ⟨c0, c1⟩ := cp
  have hl := h.props.look_ok Tryz.underlying23 Tryz.underlying106 (zero125 w) hv
  have hg := getE_map (fun v (_ : EL Av × EL Av) => Value.map (some (bp v))) G v
  rw [hg] at hl
  clear h hg
  go_enter Tryz.func52, Tryz.ntmps52
  go_wp2
  go_ret
  simp
set_option maxRecDepth 100000 in
theorem there_nil (v : Int) (w : World) : Calls Tryz.prog 52 #[.pointer none, .int .u32 v] w fun e w' => e = .returned (.bool false) ∧ w = w' := by
  go_enter Tryz.func52, Tryz.ntmps52
  go_wp2
  go_ret
  exact ⟨rfl, rfl⟩
set_option maxRecDepth 100000 in
theorem when_any (c : Bool) (x : Int) (w : World) : Calls Tryz.prog 143 #[.bool c, .int .i64 x] w fun e w' => e = .returned (.int .i64 (if c then x else 0)) ∧ w = w' := by
  cases c
  all_goals
    go_enter Tryz.func143, Tryz.ntmps143
    go_wp2
    go_ret
    exact ⟨rfl, rfl⟩
/-- What v has. -/
def hG (G : GV) (v : Int) : EL Av := ((getE G v).map Prod.snd).getD []
def pG (G : GV) (v : Int) : EL Av := ((getE G v).map Prod.fst).getD []
def joinedG (G : GV) (a b : Int) : Bool := (getE (hG G a) b).isSome
theorem hG_none {G : GV} {v : Int} (h : getE G v = none) : hG G v = [] := by simp [hG, h]
theorem hG_some {G : GV} {v : Int} {x : EL Av × EL Av} (h : getE G v = some x) : hG G v = x.2 := by simp [hG, h]
theorem pG_none {G : GV} {v : Int} (h : getE G v = none) : pG G v = [] := by simp [pG, h]
theorem pG_some {G : GV} {v : Int} {x : EL Av × EL Av} (h : getE G v = some x) : pG G v = x.1 := by simp [pG, h]
set_option maxRecDepth 100000 in
theorem joined_any (g n : Nat) (F : Nat → Prop) (G : GV) (a b : Int) (w : World) (h : Gp w n F g G) (ha : In32 a) (hb : In32 b) : Calls Tryz.prog 144 #[.pointer (some ⟨g, 0, none⟩), .int .u32 a, .int .u32 b] w fun e w' => e = .returned (.bool (joinedG G a b)) ∧ Below w.heap.size w w' := by
  obtain ⟨mp, me, bp, be, h⟩ := h
  have cp := h.cells
  obtain ⟨c0, c1⟩ := cp
  have hl := h.edges.look Tryz.underlying23 Tryz.underlying107 (zero131 w) ha
  have hg := getE_map (fun v (_ : EL Av × EL Av) => Value.map (some (be v))) G a
  rw [hg] at hl
  cases hv : getE G a with
  | none =>
    rw [hv] at hl
    have hj : joinedG G a b = false := by simp [joinedG, hG_none hv, getE]
    have h2 := look_none Tryz.underlying23 Tryz.underlying131 (zero47 w) hb true
    simp only [Option.map_none, Option.getD_none, if_true, zV] at hl h2
    rw [hj]
    clear h hg hv hj
    go_enter Tryz.func144, Tryz.ntmps144
    go_wp2
    go_ret
    exact ⟨rfl, (Below.refl _ w).alloc (Nat.le_refl _) _⟩
  | some x =>
    rw [hv] at hl
    have hx := (h.mine _ (mem_of_get hv)).2.1
    have h2 := hx.look_ok Tryz.underlying23 Tryz.underlying131 (zero47 w) hb
    rw [getD_vals, isSome_vals] at h2
    simp only [Av.val] at h2
    have hj : joinedG G a b = (getE x.2 b).isSome := by simp [joinedG, hG_some hv]
    simp only [Option.map_some, Option.getD_some] at hl
    rw [hj]
    clear h hg hv hj hx
    go_enter Tryz.func144, Tryz.ntmps144
    go_wp2
    go_ret
    exact ⟨rfl, (Below.refl _ w).alloc (Nat.le_refl _) _⟩
end Go.Proofs.YtafenkepigmcaaaGreatDoor.Gr
/- graph: strings.Clone, own, isFull, refusalOfJoin, walked. -/
namespace Go.Proofs.YtafenkepigmcaaaGreatDoor.Gr
open Go Go.RowKit YtafenkepigmcaaaGreatDoor.So
abbrev val (k n : Int) (s : ByteArray) : Value := .agg #[.int .u8 k, .int .i64 n, .string s]
theorem set_block {w : World} {b i : Nat} {cs : Array Value} {t : TypeId} {v : Value} (h : w.heap[b]? = some (.cells cs t (0, 0))) : (w.setCell ⟨b, i, none⟩ v).heap[b]? = some (.cells (cs.setIfInBounds i v) t (0, 0)) := by
  rw [setCell_eq_setRow w b i cs t (0, 0) v h, setRow_heap w b cs _ t (0, 0) h]
theorem free4 {w : World} {b i : Nat} {cs : Array Value} {t : TypeId} (h : w.heap[b]? = some (.cells cs t (0, 0))) : w.frozen? ⟨b, i, none⟩ = false := by
  simp [World.frozen?, h]
theorem clone_any (s : ByteArray) (w : World) (h : s.size ≤ 281474976710656) : Calls Tryz.prog 99 #[.string s] w fun e w' => e = .returned (.string s) ∧ Below w.heap.size w w' := by
  have HC := Lib.hid (Tryz.stringslite_Clone s w h)
  clear h
  go_enter Tryz.func99, Tryz.ntmps99
  go_wp2_with (go_at_call 126; refine HC.out.mono ?_; rintro e w1 ⟨rfl, hb⟩; have H1 := Lib.hid hb; clear hb)
  go_ret
  exact ⟨rfl, H1.out⟩
theorem size47 : (Tryz.prog.info? 47).map (·.size) = some 3 := by kernel_rfl
theorem three {w : World} {b : Nat} {c0 c1 c2 : Value} {t : TypeId} (u0 u1 u2 : Value) (h : w.heap[b]? = some (.cells #[c0, c1, c2] t (0, 0))) :
    w.cell? ⟨b, 0, none⟩ = some c0 ∧ w.frozen? ⟨b, 0, none⟩ = false ∧
    (w.setCell ⟨b, 0, none⟩ u0).cell? ⟨b, 1, none⟩ = some c1 ∧ (w.setCell ⟨b, 0, none⟩ u0).frozen? ⟨b, 1, none⟩ = false ∧
    ((w.setCell ⟨b, 0, none⟩ u0).setCell ⟨b, 1, none⟩ u1).cell? ⟨b, 2, none⟩ = some c2 ∧ ((w.setCell ⟨b, 0, none⟩ u0).setCell ⟨b, 1, none⟩ u1).frozen? ⟨b, 2, none⟩ = false ∧
    (((w.setCell ⟨b, 0, none⟩ u0).setCell ⟨b, 1, none⟩ u1).setCell ⟨b, 2, none⟩ u2).heap[b]? = some (.cells #[u0, u1, u2] t (0, 0)) := by
  have h1 := set_block (i := 0) (v := u0) h
  have h2 := set_block (i := 1) (v := u1) h1
  have h3 := set_block (i := 2) (v := u2) h2
  exact ⟨by simp [World.cell?, h], free4 h, by simp [World.cell?, h1], free4 h1, by simp [World.cell?, h2], free4 h2, h3.trans rfl⟩
set_option maxHeartbeats 1000000 in
theorem own_any (k n : Int) (s : ByteArray) (w : World) (h : s.size ≤ 281474976710656) : Calls Tryz.prog 65 #[val k n s] w fun e w' => e = .returned (val k n s) ∧ Below w.heap.size w w' := by
  obtain ⟨A, hA⟩ : ∃ A, A = (w.alloc (.cells #[.int .u8 k, .int .i64 n, .string s] 47)).alloc (.cells #[.int .u8 0, .int .i64 0, .string ⟨#[]⟩] 47) := ⟨_, rfl⟩
  have kA : A.heap[w.heap.size]? = some (.cells #[.int .u8 k, .int .i64 n, .string s] 47 (0, 0)) := by rw [hA]; exact (heap_alloc_old _ _ (by simp)).trans (heap_alloc_new _ _)
  have kZ : A.heap[w.heap.size + 1]? = some (.cells #[.int .u8 0, .int .i64 0, .string ⟨#[]⟩] 47 (0, 0)) := by rw [hA]; exact heap_alloc2_new _ _ _
  have hb : Below w.heap.size w A := by rw [hA]; exact ((Below.refl _ w).alloc (Nat.le_refl _) _).alloc (by simp) _
  have HC := Lib.hid (clone_any s A h)
  have K := Lib.hid (And.intro kA (And.intro kZ hb))
  clear h kA kZ hb
  subst hA
  go_enter Tryz.func65, Tryz.ntmps65
  go_wp2_with (go_at_call 99; refine HC.out.mono ?_; rintro e w1 ⟨rfl, hb1⟩; have q0 := (hb1.block w.heap.size (by simp; omega)).trans K.out.1; have q1 := (hb1.block (w.heap.size + 1) (by simp)).trans K.out.2.1; have H1 := Lib.hid (And.intro q0 (And.intro q1 (K.out.2.2.trans (hb1.mono (by simp; omega))))); have c2 : w1.cell? ⟨w.heap.size, 2, none⟩ = some (.string s) := (by simp [World.cell?, q0]); have z2 := free4 (i := 2) q0; have p0 := (set_block (i := 2) (v := .string s) q0).trans rfl; have r1 := ((grown_set w1 w.heap.size 2 (.string s)).block (w.heap.size + 1) (Array.getElem?_eq_some_iff.1 q1).1 (by simp)).trans q1; have P0 := Lib.hid (show (w1.setCell ⟨w.heap.size, 2, none⟩ (.string s)).heap[w.heap.size]? = some (.cells #[.int .u8 k, .int .i64 n, .string s] 47 (0, 0)) from p0); have m0 : (w1.setCell ⟨w.heap.size, 2, none⟩ (.string s)).cell? ⟨w.heap.size, 0, none⟩ = some (.int .u8 k) := (by simp [World.cell?, P0.out]); have m1 : (w1.setCell ⟨w.heap.size, 2, none⟩ (.string s)).cell? ⟨w.heap.size, 1, none⟩ = some (.int .i64 n) := (by simp [World.cell?, P0.out]); have m2 : (w1.setCell ⟨w.heap.size, 2, none⟩ (.string s)).cell? ⟨w.heap.size, 2, none⟩ = some (.string s) := (by simp [World.cell?, P0.out]); obtain ⟨k0, f0, k1, f1, k2, f2, hend⟩ := three (.int .u8 k) (.int .i64 n) (.string s) r1; have HEnd := Lib.hid hend; clear hb1 q0 q1 p0 r1 hend)
  have hg : (w1.setCell ⟨w.heap.size, 2, none⟩ (.string s)).grownBy ((((w1.setCell ⟨w.heap.size, 2, none⟩ (.string s)).setCell ⟨w.heap.size + 1, 0, none⟩ (.int .u8 k)).setCell ⟨w.heap.size + 1, 1, none⟩ (.int .i64 n)).setCell ⟨w.heap.size + 1, 2, none⟩ (.string s)) (some (w.heap.size + 1)) := ((grown_set _ _ 0 _).trans (grown_set _ _ 1 _)).trans (grown_set _ _ 2 _)
  have hb4 := (H1.out.2.2.grown (grown_set w1 w.heap.size 2 (.string s)) H1.out.2.2.size (fun g e => by have := Option.some.inj e; omega))
  refine bodyPost_ret (v := val k n s) (results_cell_row rfl _ _ (w.heap.size + 1) 47 _ (0, 0) _ rfl HEnd.out Tryz.underlying47 rfl size47) rfl ?_
  exact ⟨rfl, hb4.grown hg hb4.size (fun g e => by have := Option.some.inj e; omega)⟩
theorem own_at (a : Av) (w : World) (h : a.ok) : Calls Tryz.prog 65 #[a.val] w fun e w' => e = .returned a.val ∧ Below w.heap.size w w' := own_any a.k a.n a.s w (Nat.le_trans h.2.2 (by decide))
/-- As many halves as there may be. -/
def fullG (G : GV) (v : Int) : Bool := decide (16 ≤ (hG G v).length)
theorem vals_len (E : EL Av) : (vals E).length = E.length := mapE_len _ _
theorem ge16 (m : Nat) : decide ((16 : Int) ≤ (m : Int)) = decide (16 ≤ m) := by
  by_cases h : 16 ≤ m
  · rw [decide_eq_true h, decide_eq_true (by omega)]
  · rw [decide_eq_false h, decide_eq_false (by omega)]
set_option maxRecDepth 100000 in
theorem full_any (g n : Nat) (F : Nat → Prop) (G : GV) (v : Int) (w : World) (h : Gp w n F g G) (hv : In32 v) : Calls Tryz.prog 167 #[.pointer (some ⟨g, 0, none⟩), .int .u32 v] w fun e w' => e = .returned (.bool (fullG G v)) ∧ w = w' := by
  obtain ⟨mp, me, bp, be, h⟩ := h
  have cp := h.cells
  obtain ⟨c0, c1⟩ := cp
  have hl := h.edges.look Tryz.underlying23 Tryz.underlying107 (zero131 w) hv
  have hg := getE_map (fun v (_ : EL Av × EL Av) => Value.map (some (be v))) G v
  rw [hg] at hl
  cases hq : getE G v with
  | none =>
    rw [hq] at hl
    have hj : fullG G v = false := by simp [fullG, hG_none hq]
    have h2 := fun ty => Maps.len_nil (w := w) Tryz.underlying131 ty
    simp only [Option.map_none, Option.getD_none] at hl
    rw [hj]
    clear h hg hq hj
    go_enter Tryz.func167, Tryz.ntmps167
    go_wp2
    go_ret
    exact ⟨rfl, rfl⟩
  | some x =>
    rw [hq] at hl
    have hx := (h.mine _ (mem_of_get hq)).2.1
    have h2 := fun ty => hx.len Tryz.underlying131 ty
    have hj : fullG G v = decide ((16 : Int) ≤ (x.2.length : Int)) := by rw [ge16]; simp [fullG, hG_some hq]
    rw [vals_len] at h2
    simp only [Option.map_some, Option.getD_some] at hl
    rw [hj]
    clear h hg hq hj hx
    go_enter Tryz.func167, Tryz.ntmps167
    go_wp2
    go_ret
    exact ⟨rfl, rfl⟩
/-- Why a vertex that is there can't be joined with another one. -/
def joinR (G : GV) (a b : Int) : Int := if (getE G b).isSome then (if joinedG G a b then 7 else if fullG G a || fullG G b then 10 else 0) else 6
set_option maxRecDepth 100000 in
set_option maxHeartbeats 1000000 in
theorem refusalOfJoin_any (g n : Nat) (F : Nat → Prop) (G : GV) (a b : Int) (w : World) (h : Gp w n F g G) (ha : In32 a) (hb : In32 b) : Calls Tryz.prog 145 #[.pointer (some ⟨g, 0, none⟩), .int .u32 a, .int .u32 b] w fun e w' => e = .returned (.int .i64 (joinR G a b)) ∧ Below w.heap.size w w' := by
  have HT := Lib.hid (there_any g n F G b w h hb)
  have HJ := Lib.hid (joined_any g n F G a b w h ha hb)
  have HF := Lib.hid (fun x w1 (hx : In32 x) (h1 : Below w.heap.size w w1) => full_any g n F G x w1 (h.below h1) hx)
  have HAB := Lib.hid (And.intro ha hb)
  have HW := Lib.hid (fun c x w1 => when_any c x w1)
  have hr : joinR G a b = joinR G a b := rfl
  unfold joinR at hr ⊢
  clear hr h
  cases h1 : (getE G b).isSome <;> cases h2 : joinedG G a b <;> cases h3 : fullG G a <;> cases h4 : fullG G b
  all_goals
    rw [h1] at HT
    rw [h2] at HJ
    have X3 := Lib.hid h3
    have X4 := Lib.hid h4
    clear h1 h2 h3 h4 ha hb
    go_enter Tryz.func145, Tryz.ntmps145
    go_wp2_with (first
      | (go_at_call 52; refine HT.out.mono ?_; rintro e w1 ⟨rfl, rfl⟩)
      | (go_at_call 144; refine HJ.out.mono ?_; rintro e w1 ⟨rfl, hb1⟩; have H1 := Lib.hid hb1; clear hb1)
      | (go_at_call 167; refine (HF.out _ _ (by first | exact HAB.out.1 | exact HAB.out.2) H1.out).mono ?_; rintro e w2 ⟨rfl, rfl⟩; (first | rw [X3.out] | rw [X4.out]))
      | (go_at_call 143; refine (HW.out _ _ _).mono ?_; rintro e w3 ⟨rfl, rfl⟩))
    go_ret
    first
      | exact ⟨rfl, Below.refl _ _⟩
      | exact ⟨rfl, H1.out⟩
end Go.Proofs.YtafenkepigmcaaaGreatDoor.Gr

/- ghost: the document's Twin, walked. -/
import Derived.Test.YtgjjfodogkcmmaaG5
import Derived.Laws.AppendOwnNone
namespace Go.Proofs.Ytgjjfodogkcmmaa.Gh
open Go Go.RowKit Ytgjjfodogkcmmaa.So Ytgjjfodogkcmmaa.Vl
def kc (k : IntKind) (t : Hf) : List Value := [.int k t.1, .int .u8 t.2.1, .int .i64 t.2.2.1, .string t.2.2.2]
def k4 (k : IntKind) (M : List Hf) : List Value := M.flatMap (kc k)
theorem k4_app (k : IntKind) (A B : List Hf) : k4 k (A ++ B) = k4 k A ++ k4 k B := by simp [k4]
theorem k4_len (k : IntKind) (M : List Hf) : (k4 k M).length = M.length * 4 := by
  induction M with
  | nil => rfl
  | cons t M ih => rw [show t :: M = [t] ++ M from rfl, k4_app, List.length_append, ih]; simp [k4, kc]; omega
theorem k4_at (k : IntKind) {M : List Hf} {i : Nat} {t : Hf} (h : M[i]? = some t) (j : Nat) (hj : j < 4) : (k4 k M)[i * 4 + j]? = (kc k t)[j]? := by
  induction M generalizing i with
  | nil => simp at h
  | cons a M ih =>
    rw [show a :: M = [a] ++ M from rfl, k4_app]
    have hl : (k4 k [a]).length = 4 := by simp [k4, kc]
    cases i with
    | zero =>
      simp at h; subst h
      rw [List.getElem?_append_left (by rw [hl]; omega)]
      simp [k4]
    | succ i =>
      have := ih (i := i) (by simpa using h)
      rw [List.getElem?_append_right (by rw [hl]; omega), hl, show (i + 1) * 4 + j - 4 = i * 4 + j by omega]
      exact this
theorem k4_one (k : IntKind) (M : List Hf) : ∀ u ∈ k4 k M, u.oneCell' = true := by
  intro u hu
  obtain ⟨t, _, hu⟩ := List.mem_flatMap.1 hu
  simp [kc] at hu
  rcases hu with rfl | rfl | rfl | rfl <;> rfl
def RdK (k : IntKind) (w : World) (ao : Option Addr) (L : List Hf) : Prop :=
  ∀ (i : Nat) (t : Hf), L[i]? = some t → ∃ b off, ao = some ⟨b, off, none⟩ ∧ b < w.heap.size ∧ w.cell? ⟨b, off + i * 4, none⟩ = some (.int k t.1) ∧ w.cell? ⟨b, off + i * 4 + 1, none⟩ = some (.int .u8 t.2.1) ∧ w.cell? ⟨b, off + i * 4 + 2, none⟩ = some (.int .i64 t.2.2.1) ∧ w.cell? ⟨b, off + i * 4 + 3, none⟩ = some (.string t.2.2.2)
theorem RdK.below {k : IntKind} {w w' : World} {ao : Option Addr} {L : List Hf} {B : Nat} (h : RdK k w ao L) (hb : Below B w w') (hB : w.heap.size ≤ B) : RdK k w' ao L := by
  intro i t hi
  obtain ⟨b, off, rfl, h0, h1, h2, h3, h4⟩ := h i t hi
  have hc : ∀ o, w'.cell? ⟨b, o, none⟩ = w.cell? ⟨b, o, none⟩ := fun o => hb.cell (p := ⟨b, o, none⟩) (Nat.lt_of_lt_of_le h0 hB)
  exact ⟨b, off, rfl, Nat.lt_of_lt_of_le h0 hb.size, (hc _).trans h1, (hc _).trans h2, (hc _).trans h3, (hc _).trans h4⟩
theorem RdK.flat {k : IntKind} {w : World} {ad : Addr} {L : List Hf} (h : RdK k w (some ad) L) : ∀ j u, (k4 k L)[j]? = some u → w.cell? (ad.add j) = some u := by
  intro j u hu
  have hj := (List.getElem?_eq_some_iff.1 hu).1
  rw [k4_len] at hj
  have hi : j / 4 < L.length := by omega
  obtain ⟨t, ht⟩ : ∃ t, L[j / 4]? = some t := ⟨_, List.getElem?_eq_getElem hi⟩
  obtain ⟨b, off, e, _, h1, h2, h3, h4⟩ := h _ t ht
  simp only [Option.some.injEq] at e
  subst e
  have hm : j % 4 < 4 := Nat.mod_lt _ (by omega)
  have hk := k4_at k ht (j % 4) hm
  rw [show j / 4 * 4 + j % 4 = j by omega, hu] at hk
  rw [Go.WideShapes.add_plain]
  have hj4 : off + j = off + j / 4 * 4 + j % 4 := by omega
  rw [hj4]
  generalize j % 4 = r at hm hk ⊢
  match r, hm, hk with
  | 0, _, hk => simp [kc] at hk; rw [hk]; exact h1
  | 1, _, hk => simp [kc] at hk; rw [hk]; exact h2
  | 2, _, hk => simp [kc] at hk; rw [hk]; exact h3
  | 3, _, hk => simp [kc] at hk; rw [hk]; exact h4
theorem rdk_own {k : IntKind} {w : World} {B : Nat} {T : TypeId} {ao : Option Addr} {cap n : Nat} {L : List Hf} (h : w.ownsRow B T 4 (.slice ao n cap) L.length (k4 k L)) : RdK k w ao L := by
  intro i t ht
  rcases h.2 with ⟨h0, h1⟩ | ⟨g, cap', cur, h0, h1, h2, h3, h4⟩
  · rw [List.eq_nil_of_length_eq_zero h1] at ht; simp at ht
  · simp only [Value.slice.injEq] at h0
    obtain ⟨rfl, _, _⟩ := h0
    have hcell : ∀ j x, j < 4 → (kc k t)[j]? = some x → w.cell? ⟨g, i * 4 + j, none⟩ = some x := fun j x hj hx => by
      have := h.cells (g := g) rfl (i * 4 + j) x (by rw [k4_at k ht j hj]; exact hx)
      rwa [Go.WideShapes.add_plain, Nat.zero_add] at this
    refine ⟨g, 0, rfl, (Array.getElem?_eq_some_iff.1 h2).1, ?_, ?_, ?_, ?_⟩
    · rw [Nat.zero_add]; exact hcell 0 _ (by omega) rfl
    · rw [Nat.zero_add]; exact hcell 1 _ (by omega) rfl
    · rw [Nat.zero_add]; exact hcell 2 _ (by omega) rfl
    · rw [Nat.zero_add]; exact hcell 3 _ (by omega) rfl
theorem grown_self (w : World) (b : Option Nat) : w.grownBy w b := by
  refine ⟨rfl, rfl, rfl, Nat.le_refl _, fun _ _ _ => rfl⟩
/-- A list laid anew: appended to an empty literal. -/
theorem wpList_twin {k : IntKind} {w : World} {ops : Array Oper} {rest : List Oper} {o : Oper} {a : Act} {Q : Exit → Act → World → Prop} (hgd : o.guard = none) (s x : Operand) (t : TypeId)
    (ho : o.op = .call { callee := .builtin .append, args := #[s, x], argTypes := #[t, t] })
    (base : Nat) (e : TypeId) (i : TypeInfo) (z : Value) (ht : Try.prog.underlying t = some (.slice e)) (hi : Try.prog.info? e = some i) (hz : i.zero = some z)
    (hsize : i.size = 4) (hby : i.bytes = 40) (hzs : z.cells.size = 4)
    (g : Nat) (hs : a.eval s = .slice (some ⟨g, 0, none⟩) 0 0) (hown : w.ownsRow base e 4 (.slice (some ⟨g, 0, none⟩) 0 0) 0 [])
    (ao : Option Addr) (c : Nat) (L : List Hf) (hx : a.eval x = .slice ao L.length c) (hno : ao = none → c = 0) (hr : RdK k w ao L)
    (hL : L.length * 40 ≤ 140737488355328) (hbase : base ≤ w.heap.size)
    (h : ∀ ao' c' w', w'.ownsRow base e 4 (.slice ao' L.length c') L.length (k4 k L) → w.grownBy w' (some g) → wpList Try.prog ops Q rest (a.put o.dst (.slice ao' L.length c')) w') : wpList Try.prog ops Q (o :: rest) a w := by
  cases ao with
  | none =>
    have h0 : L = [] := by
      cases L with
      | nil => rfl
      | cons t L => obtain ⟨b, off, e, _⟩ := hr 0 t rfl; cases e
    subst h0
    obtain rfl := hno rfl
    exact wpList_append_own_none hgd s x t ho base e i 4 ht hi _ 0 [] hs hown hx (h (some ⟨g, 0, none⟩) 0 w hown (grown_self w _))
  | some ad =>
    refine wpList_append_own w hgd s x t ho base e i z 4 40 ht hi hz hsize hby hzs (by decide) _ 0 [] hs hown ad L.length c (k4 k L) hx (k4_len k L) hr.flat (k4_one k L) (by unfold maxLen; omega) (by omega) hbase ?_
    intro v' w' h1 h2 h3
    rw [Nat.zero_add, List.nil_append] at h1
    obtain ⟨ao', c', rfl, _⟩ := own4_slice h1
    exact h ao' c' w' h1 h2
theorem info86 : (Try.prog.info? 86).map (fun i => (i.zero, i.size, i.bytes)) = some (some (.agg #[.int .u8 0, .int .u8 0, .int .i64 0, .string ⟨#[]⟩]), 4, 40) := by kernel_rfl
/-- A vertex and its twin: the same numbers, lists of the twin's own. -/
def TwinOf (v : Vv) (w : World) (e : Ending) (w' : World) : Prop :=
  ∃ po' pc' ho' hc', e = .returned (.agg #[.int .u32 v.id, .bool v.th, .slice po' v.P.length pc', .slice ho' v.L.length hc']) ∧
    w'.ownsRow (w.heap.size + 2) 86 4 (.slice po' v.P.length pc') v.P.length (k4 .u8 v.P) ∧ w'.ownsRow (w.heap.size + 2) 76 4 (.slice ho' v.L.length hc') v.L.length (k4 .u32 v.L) ∧ Below w.heap.size w w'
/-- What a twin is laid from. -/
structure Vv.short (v : Vv) : Prop where
  pn : v.P.length * 40 ≤ 140737488355328
  hn : v.L.length * 40 ≤ 140737488355328
  po : v.po = none → v.pc = 0
  ho : v.ho = none → v.hc = 0
theorem lit0 (w : World) (B : Nat) (T : TypeId) (hB : B ≤ w.heap.size) : (w.alloc (.cells #[] T)).ownsRow B T 4 (.slice (some ⟨w.heap.size, 0, none⟩) 0 0) 0 [] :=
  World.ownsRow_lit (base := B) (e := T) (size := 4) w #[] 0 hB (Nat.zero_le _) (by simp)
/-- The props laid anew, and stored. -/
structure TwA (w : World) (id : Int) (th : Bool) (po : Option Addr) (pl pc : Nat) (ho : Option Addr) (hl hc : Nat) (po' : Option Addr) (pc' : Nat) (xs : List Value) (w1 : World) : Prop where
  ka : w1.heap[w.heap.size]? = some (.cells #[.int .u32 id, .bool th, .slice po pl pc, .slice ho hl hc] 28 (0, 0))
  kz : w1.heap[w.heap.size + 1]? = some (.cells #[.int .u32 0, .bool false, .slice none 0 0, .slice none 0 0] 28 (0, 0))
  b : Below w.heap.size w w1
  own : w1.ownsRow (w.heap.size + 2) 86 4 (.slice po' pl pc') pl xs
theorem TwA.mk' {w W w1 : World} {id : Int} {th : Bool} {po : Option Addr} {pl pc : Nat} {ho : Option Addr} {hl hc : Nat} {po' : Option Addr} {pc' : Nat} {xs : List Value}
    (h1 : W.heap[w.heap.size]? = some (.cells #[.int .u32 id, .bool th, .slice po pl pc, .slice ho hl hc] 28 (0, 0))) (h2 : W.heap[w.heap.size + 1]? = some (.cells #[.int .u32 0, .bool false, .slice none 0 0, .slice none 0 0] 28 (0, 0)))
    (h3 : Below w.heap.size w W) (h4 : w1.ownsRow (w.heap.size + 2) 86 4 (.slice po' pl pc') pl xs) (hg : W.grownBy w1 (some (w.heap.size + 1 + 1))) : TwA w id th po pl pc ho hl hc po' pc' xs w1 :=
  ⟨(hg.block _ (Array.getElem?_eq_some_iff.1 h1).1 (by simp; omega)).trans h1, (hg.block _ (Array.getElem?_eq_some_iff.1 h2).1 (by simp)).trans h2, h3.grown hg h3.size (fun g e => by have := Option.some.inj e; omega), h4⟩
section
variable {w w1 : World} {id : Int} {th : Bool} {po : Option Addr} {pl pc : Nat} {ho : Option Addr} {hl hc : Nat} {po' : Option Addr} {pc' : Nat} {xs : List Value}
theorem TwA.c2 (h : TwA w id th po pl pc ho hl hc po' pc' xs w1) : w1.cell? ⟨w.heap.size, 2, none⟩ = some (.slice po pl pc) := by simp [World.cell?, h.ka]
theorem TwA.f2 (h : TwA w id th po pl pc ho hl hc po' pc' xs w1) : w1.frozen? ⟨w.heap.size, 2, none⟩ = false := free4 h.ka
theorem TwA.lt (h : TwA w id th po pl pc ho hl hc po' pc' xs w1) : w.heap.size + 1 < w1.heap.size := (Array.getElem?_eq_some_iff.1 h.kz).1
theorem TwA.ka2 (h : TwA w id th po pl pc ho hl hc po' pc' xs w1) : ((w1.setCell ⟨w.heap.size, 2, none⟩ (.slice po' pl pc')).alloc (.cells #[] 76)).heap[w.heap.size]? = some (.cells #[.int .u32 id, .bool th, .slice po' pl pc', .slice ho hl hc] 28 (0, 0)) :=
  (heap_alloc_old _ _ (by have := h.lt; simp; omega)).trans ((set_block h.ka).trans rfl)
theorem TwA.kz2 (h : TwA w id th po pl pc ho hl hc po' pc' xs w1) : ((w1.setCell ⟨w.heap.size, 2, none⟩ (.slice po' pl pc')).alloc (.cells #[] 76)).heap[w.heap.size + 1]? = some (.cells #[.int .u32 0, .bool false, .slice none 0 0, .slice none 0 0] 28 (0, 0)) :=
  (heap_alloc_old _ _ (by have := h.lt; simp; omega)).trans (((grown_set w1 w.heap.size 2 _).block _ h.lt (by simp)).trans h.kz)
theorem TwA.c3 (h : TwA w id th po pl pc ho hl hc po' pc' xs w1) : ((w1.setCell ⟨w.heap.size, 2, none⟩ (.slice po' pl pc')).alloc (.cells #[] 76)).cell? ⟨w.heap.size, 3, none⟩ = some (.slice ho hl hc) := by
  have := h.ka2
  simp [World.cell?, this]
theorem TwA.below (h : TwA w id th po pl pc ho hl hc po' pc' xs w1) : Below w.heap.size w ((w1.setCell ⟨w.heap.size, 2, none⟩ (.slice po' pl pc')).alloc (.cells #[] 76)) := by
  have := h.b.setCell (p := ⟨w.heap.size, 2, none⟩) (Nat.le_refl _) (.slice po' pl pc')
  exact this.alloc this.size _
theorem TwA.size (h : TwA w id th po pl pc ho hl hc po' pc' xs w1) : w.heap.size + 2 ≤ ((w1.setCell ⟨w.heap.size, 2, none⟩ (.slice po' pl pc')).alloc (.cells #[] 76)).heap.size := by have := h.lt; simp; omega
theorem TwA.lit (h : TwA w id th po pl pc ho hl hc po' pc' xs w1) : ((w1.setCell ⟨w.heap.size, 2, none⟩ (.slice po' pl pc')).alloc (.cells #[] 76)).ownsRow (w.heap.size + 2) 76 4 (.slice (some ⟨w1.heap.size, 0, none⟩) 0 0) 0 [] := by
  have := lit0 (w1.setCell ⟨w.heap.size, 2, none⟩ (.slice po' pl pc')) (w.heap.size + 2) 76 (by have := h.lt; simp; omega)
  simpa using this
theorem TwA.own2 (h : TwA w id th po pl pc ho hl hc po' pc' xs w1) : ((w1.setCell ⟨w.heap.size, 2, none⟩ (.slice po' pl pc')).alloc (.cells #[] 76)).ownsRow (w.heap.size + 2) 86 4 (.slice po' pl pc') pl xs := by
  have h1 : (w1.setCell ⟨w.heap.size, 2, none⟩ (.slice po' pl pc')).ownsRow (w.heap.size + 2) 86 4 (.slice po' pl pc') pl xs :=
    own_on h.own (fun g e => (grown_set w1 w.heap.size 2 _).block g (World.ownsRow.lt h.own g e).2 (fun e2 => by have := (World.ownsRow.lt h.own g e).1; have := Option.some.inj e2; omega))
  exact h1.alloc _
end
/-- Both lists laid anew. -/
structure TwB (w : World) (id : Int) (th : Bool) (pl : Nat) (ho : Option Addr) (hl hc : Nat) (po' : Option Addr) (pc' : Nat) (xs : List Value) (ho' : Option Addr) (hc' : Nat) (ys : List Value) (w3 : World) : Prop where
  ka : w3.heap[w.heap.size]? = some (.cells #[.int .u32 id, .bool th, .slice po' pl pc', .slice ho hl hc] 28 (0, 0))
  kz : w3.heap[w.heap.size + 1]? = some (.cells #[.int .u32 0, .bool false, .slice none 0 0, .slice none 0 0] 28 (0, 0))
  b : Below w.heap.size w w3
  own : w3.ownsRow (w.heap.size + 2) 86 4 (.slice po' pl pc') pl xs
  own2 : w3.ownsRow (w.heap.size + 2) 76 4 (.slice ho' hl hc') hl ys
theorem TwA.next {w w1 w3 : World} {id : Int} {th : Bool} {po : Option Addr} {pl pc : Nat} {ho : Option Addr} {hl hc : Nat} {po' : Option Addr} {pc' : Nat} {xs : List Value} {ho' : Option Addr} {hc' : Nat} {ys : List Value}
    (h : TwA w id th po pl pc ho hl hc po' pc' xs w1) (ho3 : w3.ownsRow (w.heap.size + 2) 76 4 (.slice ho' hl hc') hl ys) (hg : ((w1.setCell ⟨w.heap.size, 2, none⟩ (.slice po' pl pc')).alloc (.cells #[] 76)).grownBy w3 (some w1.heap.size)) : TwB w id th pl ho hl hc po' pc' xs ho' hc' ys w3 := by
  have hlt := h.lt
  refine ⟨(hg.block _ (by simp; omega) (by simp; omega)).trans h.ka2, (hg.block _ (by simp; omega) (by simp; omega)).trans h.kz2, h.below.grown hg h.below.size (fun g e => by have := Option.some.inj e; omega), ?_, ho3⟩
  have h2 := h.own2
  have h1 := h.own
  exact own_on h2 (fun g e => hg.block g (World.ownsRow.lt h2 g e).2 (fun e2 => by have := (World.ownsRow.lt h1 g e).2; have := Option.some.inj e2; omega))
section
variable {w w3 : World} {id : Int} {th : Bool} {pl : Nat} {ho : Option Addr} {hl hc : Nat} {po' : Option Addr} {pc' : Nat} {xs : List Value} {ho' : Option Addr} {hc' : Nat} {ys : List Value}
theorem TwB.d3 (h : TwB w id th pl ho hl hc po' pc' xs ho' hc' ys w3) : w3.cell? ⟨w.heap.size, 3, none⟩ = some (.slice ho hl hc) := by simp [World.cell?, h.ka]
theorem TwB.e3 (h : TwB w id th pl ho hl hc po' pc' xs ho' hc' ys w3) : w3.frozen? ⟨w.heap.size, 3, none⟩ = false := free4 h.ka
theorem TwB.ka4 (h : TwB w id th pl ho hl hc po' pc' xs ho' hc' ys w3) : (w3.setCell ⟨w.heap.size, 3, none⟩ (.slice ho' hl hc')).heap[w.heap.size]? = some (.cells #[.int .u32 id, .bool th, .slice po' pl pc', .slice ho' hl hc'] 28 (0, 0)) := (set_block h.ka).trans rfl
theorem TwB.kz4 (h : TwB w id th pl ho hl hc po' pc' xs ho' hc' ys w3) : (w3.setCell ⟨w.heap.size, 3, none⟩ (.slice ho' hl hc')).heap[w.heap.size + 1]? = some (.cells #[.int .u32 0, .bool false, .slice none 0 0, .slice none 0 0] 28 (0, 0)) :=
  ((grown_set w3 w.heap.size 3 _).block _ (Array.getElem?_eq_some_iff.1 h.kz).1 (by simp)).trans h.kz
theorem TwB.m (h : TwB w id th pl ho hl hc po' pc' xs ho' hc' ys w3) : (w3.setCell ⟨w.heap.size, 3, none⟩ (.slice ho' hl hc')).cell? ⟨w.heap.size, 0, none⟩ = some (.int .u32 id) ∧ (w3.setCell ⟨w.heap.size, 3, none⟩ (.slice ho' hl hc')).cell? ⟨w.heap.size, 1, none⟩ = some (.bool th) ∧ (w3.setCell ⟨w.heap.size, 3, none⟩ (.slice ho' hl hc')).cell? ⟨w.heap.size, 2, none⟩ = some (.slice po' pl pc') ∧ (w3.setCell ⟨w.heap.size, 3, none⟩ (.slice ho' hl hc')).cell? ⟨w.heap.size, 3, none⟩ = some (.slice ho' hl hc') := by
  have := h.ka4
  simp [World.cell?, this]
end
set_option maxRecDepth 100000 in
set_option maxHeartbeats 1000000 in
theorem twin_any (v : Vv) (w : World) (h : v.ok w) (hs : v.short) : Calls Try.prog 21 #[v.val] w fun e w' => TwinOf v w e w' := by
  obtain ⟨id, th, po, pc, P, ho, hc, L⟩ := v
  obtain ⟨i0, hi0, hz0, hz1, hz2⟩ := info_parts info86
  obtain ⟨i1, hi1, hy0, hy1, hy2⟩ := info_parts info76
  have HZ := Lib.hid (And.intro hi0 (And.intro hz0 (And.intro hz1 hz2)))
  have HY := Lib.hid (And.intro hi1 (And.intro hy0 (And.intro hy1 hy2)))
  have HS := Lib.hid hs
  have HP := Lib.hid (show RdK .u8 w po P from h.p)
  have HH := Lib.hid (show RdK .u32 w ho L from h.h)
  clear h hs hi0 hz0 hz1 hz2 hi1 hy0 hy1 hy2
  unfold Vv.val
  simp only
  have hb1 : Below w.heap.size w (((w.alloc (.cells #[.int .u32 id, .bool th, .slice po P.length pc, .slice ho L.length hc] 28)).alloc (.cells #[.int .u32 0, .bool false, .slice none 0 0, .slice none 0 0] 28)).alloc (.cells #[] 86)) := (((Below.refl _ w).alloc (Nat.le_refl _) _).alloc (by simp) _).alloc (by simp; omega) _
  have o1 : (((w.alloc (.cells #[.int .u32 id, .bool th, .slice po P.length pc, .slice ho L.length hc] 28)).alloc (.cells #[.int .u32 0, .bool false, .slice none 0 0, .slice none 0 0] 28)).alloc (.cells #[] 86)).ownsRow (w.heap.size + 2) 86 4 (.slice (some ⟨w.heap.size + 1 + 1, 0, none⟩) 0 0) 0 [] := by
    have := lit0 ((w.alloc (.cells #[.int .u32 id, .bool th, .slice po P.length pc, .slice ho L.length hc] 28)).alloc (.cells #[.int .u32 0, .bool false, .slice none 0 0, .slice none 0 0] 28)) (w.heap.size + 2) 86 (by simp)
    simpa using this
  have HB1 := Lib.hid hb1
  have O1 := Lib.hid o1
  have kA : (((w.alloc (.cells #[.int .u32 id, .bool th, .slice po P.length pc, .slice ho L.length hc] 28)).alloc (.cells #[.int .u32 0, .bool false, .slice none 0 0, .slice none 0 0] 28)).alloc (.cells #[] 86)).heap[w.heap.size]? = some (.cells #[.int .u32 id, .bool th, .slice po P.length pc, .slice ho L.length hc] 28 (0, 0)) :=
    (heap_alloc_old _ _ (by simp; omega)).trans ((heap_alloc_old _ _ (by simp)).trans (heap_alloc_new _ _))
  have kZ : (((w.alloc (.cells #[.int .u32 id, .bool th, .slice po P.length pc, .slice ho L.length hc] 28)).alloc (.cells #[.int .u32 0, .bool false, .slice none 0 0, .slice none 0 0] 28)).alloc (.cells #[] 86)).heap[w.heap.size + 1]? = some (.cells #[.int .u32 0, .bool false, .slice none 0 0, .slice none 0 0] 28 (0, 0)) :=
    (heap_alloc_old _ _ (by simp)).trans (heap_alloc2_new _ _ _)
  have KA := Lib.hid kA
  have KZ := Lib.hid kZ
  clear hb1 o1 kA kZ
  go_enter Try.func21, Try.ntmps21
  go_wp2_with (first
    | (at_builtin; (refine wpList_twin (k := .u8) rfl (.tmp 3) (.tmp 5) 25 rfl (w.heap.size + 2) 86 i0 _ Try.underlying25 HZ.out.1 HZ.out.2.1 HZ.out.2.2.1 HZ.out.2.2.2 rfl (w.heap.size + 1 + 1) rfl O1.out po pc P rfl HS.out.po (HP.out.below HB1.out (Nat.le_refl _)) HS.out.pn (by simp) ?_; intro po' pc' w1 hown hgrow; have H1 := Lib.hid (TwA.mk' KA.out KZ.out HB1.out hown hgrow); have c2 := H1.out.c2; have fz2 := H1.out.f2; have c3 := H1.out.c3; clear hown hgrow))
    | (at_builtin; (refine wpList_twin (k := .u32) rfl (.tmp 8) (.tmp 10) 26 rfl (w.heap.size + 2) 76 i1 _ Try.underlying26 HY.out.1 HY.out.2.1 HY.out.2.2.1 HY.out.2.2.2 rfl w1.heap.size rfl H1.out.lit ho hc L rfl HS.out.ho (HH.out.below H1.out.below (Nat.le_refl _)) HS.out.hn H1.out.size ?_; intro ho' hc' w3 hown hgrow; have H3 := Lib.hid (H1.out.next hown hgrow); have d3 := H3.out.d3; have e3 := H3.out.e3; obtain ⟨k0, f0, k1, f1, k2, f2, k3, f3, hend⟩ := four (.int .u32 id) (.bool th) (.slice po' P.length pc') (.slice ho' L.length hc') H3.out.kz4; obtain ⟨m0, m1, m2, m3⟩ := H3.out.m; have HEnd := Lib.hid hend; clear hown hgrow hend)))
  have g1 := grown_set w3 w.heap.size 3 (.slice ho' L.length hc')
  have g4 := grown4 (w3.setCell ⟨w.heap.size, 3, none⟩ (.slice ho' L.length hc')) (w.heap.size + 1) (.int .u32 id) (.bool th) (.slice po' P.length pc') (.slice ho' L.length hc')
  have keep : ∀ {T n v xs}, w3.ownsRow (w.heap.size + 2) T 4 v n xs → (((((w3.setCell ⟨w.heap.size, 3, none⟩ (.slice ho' L.length hc')).setCell ⟨w.heap.size + 1, 0, none⟩ (.int .u32 id)).setCell ⟨w.heap.size + 1, 1, none⟩ (.bool th)).setCell ⟨w.heap.size + 1, 2, none⟩ (.slice po' P.length pc')).setCell ⟨w.heap.size + 1, 3, none⟩ (.slice ho' L.length hc')).ownsRow (w.heap.size + 2) T 4 v n xs := by
    intro T n v xs h
    have h1 := own_on h (fun g e => g1.block g (World.ownsRow.lt h g e).2 (fun e2 => by have := (World.ownsRow.lt h g e).1; have := Option.some.inj e2; omega))
    exact own_on h1 (fun g e => g4.block g (World.ownsRow.lt h1 g e).2 (fun e2 => by have := (World.ownsRow.lt h1 g e).1; have := Option.some.inj e2; omega))
  have hb4 := (H3.out.b.grown g1 H3.out.b.size (fun g e => by have := Option.some.inj e; omega))
  refine bodyPost_ret (v := .agg #[.int .u32 id, .bool th, .slice po' P.length pc', .slice ho' L.length hc']) (results_cell_row rfl _ _ (w.heap.size + 1) 28 _ (0, 0) _ rfl HEnd.out Try.underlying28 rfl size28) rfl ?_
  exact ⟨po', pc', ho', hc', rfl, keep H3.out.own, keep H3.out.own2, hb4.grown g4 hb4.size (fun g e => by have := Option.some.inj e; omega)⟩
/-- The twin, as a vertex. -/
theorem TwinOf.vv {v : Vv} {w w' : World} {e : Ending} (h : TwinOf v w e w') (hv : v.ok w) : ∃ u : Vv, e = .returned u.val ∧ u.id = v.id ∧ u.th = v.th ∧ u.P = v.P ∧ u.L = v.L ∧ u.ok w' ∧ Below w.heap.size w w' := by
  obtain ⟨po', pc', ho', hc', he, h1, h2, hb⟩ := h
  exact ⟨⟨v.id, v.th, po', pc', v.P, ho', hc', v.L⟩, he, rfl, rfl, rfl, rfl, ⟨rdk_own h1, rdk_own h2, hv.pt, hv.ht, hv.pn, hv.hn⟩, hb⟩
end Go.Proofs.Ytgjjfodogkcmmaa.Gh

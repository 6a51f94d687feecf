/- commit: names in order; a map's names, each once. -/
import Derived.Test.YtklalpamcfkngaaR14
import Derived.Test.YtklalpamcfkngaaShelf
import Derived.Shelf.SlSortCmp.NoneTotal
import Derived.Sort.Statements
namespace Go.Proofs.Ytklalpamcfkngaa.Cm
open Go Go.RowKit Go.Sort Go.Shelf
theorem c3_three (x y : Int) : (x < y ∧ c3 x y = -1) ∨ (x = y ∧ c3 x y = 0) ∨ (y < x ∧ c3 x y = 1) := by
  unfold c3
  rcases Int.lt_trichotomy x y with h | h | h
  · exact .inl ⟨h, by simp [h]⟩
  · exact .inr (.inl ⟨h, by simp [h]⟩)
  · exact .inr (.inr ⟨h, by rw [if_neg (by omega), if_pos h]⟩)
theorem ordK_neg (x y : TK) : ordK x y < 0 ↔ ltP x y := by
  unfold ordK or3 ltP
  rcases c3_three x.1 y.1 with ⟨h, e⟩ | ⟨h, e⟩ | ⟨h, e⟩ <;> rcases c3_three x.2.1 y.2.1 with ⟨h2, e2⟩ | ⟨h2, e2⟩ | ⟨h2, e2⟩ <;> rcases c3_three x.2.2 y.2.2 with ⟨h3, e3⟩ | ⟨h3, e3⟩ | ⟨h3, e3⟩ <;> simp only [e, e2, e3] <;> simp <;> omega
theorem ltP_irrefl (x : TK) : ¬ ltP x x := by unfold ltP; omega
theorem ltP_trans {x y z : TK} (h : ltP x y) (k : ltP y z) : ltP x z := by unfold ltP at *; omega
theorem ltP_total (x y : TK) : ltP x y ∨ x = y ∨ ltP y x := by
  by_cases h : x = y
  · exact .inr (.inl h)
  · have : ¬ (x.1 = y.1 ∧ x.2.1 = y.2.1 ∧ x.2.2 = y.2.2) := fun ⟨h1, h2, h3⟩ => h (Prod.ext h1 (Prod.ext h2 h3))
    unfold ltP; omega
def ltQ (x y : TK) : Bool := decide (ordK x y < 0)
theorem ltQ_iff (x y : TK) : ltQ x y = true ↔ ltP x y := by unfold ltQ; rw [decide_eq_true_iff, ordK_neg]
theorem ltQ_false (x y : TK) : ltQ x y = false ↔ ¬ ltP x y := by rw [← ltQ_iff]; simp
theorem swoQ : SWO ltQ where
  irrefl x := (ltQ_false x x).2 (ltP_irrefl x)
  trans x y z h k := (ltQ_iff x z).2 (ltP_trans ((ltQ_iff x y).1 h) ((ltQ_iff y z).1 k))
  ntrans x y z h k := by
    rw [ltQ_false] at *
    intro e
    rcases ltP_total x y with h1 | h1 | h1
    · exact h h1
    · rw [h1] at e; exact k e
    · rcases ltP_total y z with k1 | k1 | k1
      · exact k k1
      · rw [← k1] at e; exact h e
      · exact ltP_irrefl x (ltP_trans e (ltP_trans k1 h1))
theorem antiQ (x y : TK) (h : ltQ x y = false) (k : ltQ y x = false) : x = y := by
  rw [ltQ_false] at h k
  rcases ltP_total x y with e | e | e
  · exact absurd e h
  · exact e
  · exact absurd e k
/-- A list in order. -/
def srt (l : List TK) : List TK := l.mergeSort fun x y => !ltQ y x
theorem srt_length (l : List TK) : (srt l).length = l.length := List.length_mergeSort l
theorem srt_pairwise (l : List TK) : (srt l).Pairwise fun x y => (!ltQ y x) = true := by
  refine List.pairwise_mergeSort (fun a b c h k => ?_) (fun a b => ?_) l
  · simp only [Bool.not_eq_true'] at *
    exact swoQ.ntrans c b a k h
  · cases h : ltQ a b
    · simp
    · have := (ltQ_false b a).2 (fun e => ltP_irrefl a (ltP_trans ((ltQ_iff a b).1 h) e))
      simp [this]
/-- What stands in order and holds just these is their list in order. -/
theorem srt_of {l d : List TK} (hl : l.Nodup) (hd : d.Pairwise ltP) (hm : ∀ x, x ∈ l ↔ x ∈ d) : srt l = d := by
  have hd2 : d.Nodup := hd.imp (fun h e => by subst e; exact ltP_irrefl _ h)
  have hp : (srt l).Perm d := (List.mergeSort_perm l _).trans ((List.perm_ext_iff_of_nodup hl hd2).2 hm)
  refine hp.eq_of_pairwise (le := fun x y => (!ltQ y x) = true) (fun a b _ _ h1 h2 => ?_) (srt_pairwise l) (hd.imp fun {a b} h => ?_)
  · simp only [Bool.not_eq_true'] at h1 h2
    exact antiQ a b h2 h1
  · simp only [Bool.not_eq_true']
    exact (ltQ_false b a).2 fun e => ltP_irrefl a (ltP_trans h e)
theorem lit_inv {D : Nat} {T : TypeId} {q : IntKind} (hT : Try.prog.underlying T = some (.int q)) {v : Value} {l : List Lit} (h : Try.prog.keyLits (D + 1) T [v] = some l) : ∃ n, v = .int q n ∧ q.min ≤ n ∧ n ≤ q.max := by
  unfold Program.keyLits at h
  rw [hT] at h
  cases v with
  | int q' n =>
    simp only at h
    split at h
    case isFalse => cases h
    rename_i hc
    obtain ⟨rfl, hw⟩ := hc
    simp [Lit.wf] at hw
    exact ⟨n, rfl, hw⟩
  | _ => simp at h
set_option maxRecDepth 100000 in
theorem key33_inv {key : Value} {kl : Lit} (h : keyOf Try.prog 33 key = some kl) : ∃ t, InK t ∧ key = kv t := by
  obtain ⟨f, g, k, hL, h1, h2, h3⟩ : ∃ f g k, (Try.prog.fieldsOf 33).toList = [f, g, k] ∧ (f.name == "_", f.type, f.offset) = (false, 5, 0) ∧ (g.name == "_", g.type, g.offset) = (false, 31, 1) ∧ (k.name == "_", k.type, k.offset) = (false, 31, 2) := by
    have h := fields33
    generalize (Try.prog.fieldsOf 33).toList = l at h
    have hl : l.length = 3 := by simpa using congrArg List.length h
    obtain ⟨f, l, rfl⟩ := List.exists_cons_of_length_pos (by omega : 0 < l.length)
    obtain ⟨g, l, rfl⟩ := List.exists_cons_of_length_pos (by simp at hl; omega : 0 < l.length)
    obtain ⟨k, l, rfl⟩ := List.exists_cons_of_length_pos (by simp at hl; omega : 0 < l.length)
    obtain rfl : l = [] := List.eq_nil_of_length_eq_zero (by simp at hl; exact List.length_eq_zero_iff.2 hl)
    simp only [List.map_cons, List.map_nil, List.cons.injEq, and_true] at h
    exact ⟨f, g, k, rfl, h.1, h.2.1, h.2.2⟩
  simp only [Prod.mk.injEq] at h1 h2 h3
  have hc : Try.prog.cellsOf 33 = 3 := by kernel_rfl
  have hc5 : Try.prog.cellsOf 5 = 1 := by kernel_rfl
  have hc31 : Try.prog.cellsOf 31 = 1 := by kernel_rfl
  have hall : (Try.prog.fieldsOf 33).all (fun f => f.name != "_") = true := by kernel_rfl
  unfold keyOf at h
  rw [und33] at h
  simp only at h
  split at h
  case isFalse => cases h
  rename_i hf
  rw [Bool.and_eq_true] at hf
  have hf := hf.2
  cases key with
  | agg cs =>
    simp only [Value.formed, und33, hc, beq_iff_eq] at hf
    obtain ⟨cl⟩ := cs
    obtain ⟨a, b, c, rfl⟩ : ∃ a b c, cl = [a, b, c] := by
      match cl, hf with
      | [a, b, c], _ => exact ⟨a, b, c, rfl⟩
    obtain ⟨ls, hls, _⟩ := Option.map_eq_some_iff.1 h
    obtain ⟨D, hD⟩ : ∃ D, Try.prog.types.size = D + 1 := ⟨Try.prog.types.size - 1, (Nat.sub_add_cancel (Nat.lt_of_le_of_lt (Nat.zero_le _) row33)).symm⟩
    rw [hD] at hls
    unfold Program.keyLits at hls
    rw [und33] at hls
    simp only [Value.cells, List.length_cons, List.length_nil, hc, hall, true_and, if_true, hL] at hls
    simp only [List.mapM_cons, List.mapM_nil, h1.2.1, h1.2.2, h2.2.1, h2.2.2, h3.2.1, h3.2.2, hc5, hc31, List.drop_zero, List.take_succ_cons, List.take_zero, List.drop_succ_cons] at hls
    cases e1 : Try.prog.keyLits (D + 1) 5 [a] with
    | none => simp [e1] at hls
    | some l1 =>
    cases e2 : Try.prog.keyLits (D + 1) 31 [b] with
    | none => simp [e1, e2] at hls
    | some l2 =>
    cases e3 : Try.prog.keyLits (D + 1) 31 [c] with
    | none => simp [e1, e2, e3] at hls
    | some l3 =>
    obtain ⟨x, rfl, hx⟩ := lit_inv Try.underlying5 e1
    obtain ⟨y, rfl, hy⟩ := lit_inv Try.underlying31 e2
    obtain ⟨z, rfl, hz⟩ := lit_inv Try.underlying31 e3
    exact ⟨(x, y, z), ⟨hx, hy, hz⟩, rfl⟩
  | _ => simp [Value.formed] at hf
set_option maxRecDepth 100000 in
/-- A name reads as itself. -/
theorem sameKL {x y : TK} (hx : InK x) (hy : InK y) : (KL x).sameKey (KL y) = decide (x = y) := by
  by_cases h : x = y
  · subst h
    rw [WideAt.sameKey_self (KL_key hx)]
    simp
  · rw [Maps.sameKey_ne (fun e => h (KL_inj hx hy e))]
    simp [h]
/-- What a walk over a map has told, each once. -/
def KeyIs (D0 : DataW Value) (left : Lit → Bool) (ss : List TK) : Prop := (ss.Nodup ∧ ∀ x ∈ ss, InK x) ∧ ∀ x, InK x → (x ∈ ss ↔ (Maps.has D0 (KL x) = true ∧ left (KL x) = false))
theorem KeyIs.start (D0 : DataW Value) : KeyIs D0 (Maps.has D0) [] := ⟨⟨List.nodup_nil, by simp⟩, fun x _ => by simp⟩
set_option maxRecDepth 100000 in
theorem KeyIs.step {D0 : DataW Value} {left : Lit → Bool} {ss : List TK} {x : TK} (h : KeyIs D0 left ss) (hw : InK x) (hl : left (KL x) = true) (hh : Maps.has D0 (KL x) = true) : KeyIs D0 (fun z => left z && !z.sameKey (KL x)) (ss ++ [x]) := by
  refine ⟨⟨?_, fun y hy => ?_⟩, fun y hy => ?_⟩
  · rw [List.nodup_append]
    refine ⟨h.1.1, by simp, fun z hz y hy => ?_⟩
    simp only [List.mem_singleton] at hy
    subst hy
    rintro rfl
    have := ((h.2 z hw).1 hz).2
    rw [hl] at this; cases this
  · rw [List.mem_append, List.mem_singleton] at hy
    rcases hy with hy | rfl
    · exact h.1.2 y hy
    · exact hw
  · rw [List.mem_append, List.mem_singleton, h.2 y hy]
    simp only [sameKL hy hw]
    by_cases e : y = x
    · subst e; simp [hh]
    · simp [e]
theorem not_has_at (D : DataW Value) {k : Lit} (h : Maps.has D k = false) (z : DataW Value) : D.atKey k z = z := by
  cases D <;> try rfl
  rename_i es
  simp only [Maps.has, List.any_eq_false] at h
  unfold DataW.atKey
  simp only
  rw [List.find?_eq_none.2 (fun p hp => by simpa using h p hp)]
theorem has_of_at (D : DataW Value) {k : Lit} {y : DataW Value} (h : ∀ zd, D.atKey k zd = y) : Maps.has D k = true := by
  cases hq : Maps.has D k with
  | true => rfl
  | false =>
    have h1 := h (.held undef)
    have h2 := h (.lit (.bool true))
    rw [not_has_at D hq] at h1 h2
    rw [← h1] at h2
    cases h2
/-- What the library says of slices.SortFunc here. -/
theorem sortsK (blk off cap : Nat) (d : Array TK) (w : World) (hH : HoldsK encK 3 w blk off d) (hb : blk < w.heap.size) (hs : d.size < 4611686018427387904) :
    Calls Try.prog 42 #[.slice (some ⟨blk, off, none⟩) d.size cap, .func (.func 43) #[] #[]] w fun e w' => e = .returned (.tuple #[]) ∧ ∃ n os, w' = sortWorldK encK 3 w blk off n (srt d.toList).toArray os := by
  have eg : ∀ args w, (callFunc 43 args).run Try.prog w = .ok (.enter 43 args) w := enters_of Try.func43 (by kernel_rfl) rfl
  have hcon := AnyQ.slices_SortFunc_total Try.sortQ 3 Try.isAgg33 Try.sizeOf33 encK (fun _ => rfl) oneK ordK swoQ 43 #[] blk off cap d w eg (fun _ _ _ _ x y => order_calls x y _) hH hb hs antiQ
  exact hcon
end Go.Proofs.Ytklalpamcfkngaa.Cm

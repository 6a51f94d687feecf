/- ghost: what a vertex' first halves are; a kept row beside a tally. -/
import Derived.Test.YtgjjfodogkcmmaaN8
import Derived.Test.YtgjjfodogkcmmaaN4
import Derived.Test.YtgjjfodogkcmmaaM1
import Derived.Test.YtgjjfodogkcmmaaV4
import Derived.Test.YtgjjfodogkcmmaaC6
namespace Go.Proofs.Ytgjjfodogkcmmaa.Gh
open Go Go.RowKit Ytgjjfodogkcmmaa.So Ytgjjfodogkcmmaa.Vl
/-- Its first halves alone. -/
def Vv.first (v : Vv) (k : Nat) : Vv := { v with L := v.L.take k }
theorem RdH.take {w : World} {ao : Option Addr} {L : List Hf} (h : RdH w ao L) (k : Nat) : RdH w ao (L.take k) := fun i t ht => h i t (by
  rw [List.getElem?_take] at ht
  split at ht
  · exact ht
  · cases ht)
theorem Vv.fit.first {w : World} {v : Vv} (h : v.fit w) (k : Nat) : (v.first k).fit w :=
  ⟨⟨h.ok.p, h.ok.h.take k, h.ok.pt, fun t ht => h.ok.ht t (List.mem_of_mem_take ht), h.ok.pn, Nat.le_trans (by show (v.L.take k).length ≤ v.L.length; rw [List.length_take]; omega) h.ok.hn⟩, h.kp, fun t ht => h.kl t (List.mem_of_mem_take ht)⟩
theorem Vv.short.first {v : Vv} (h : v.short) (k : Nat) : (v.first k).short :=
  ⟨h.pn, by have := h.hn; show (v.L.take k).length * 40 ≤ _; rw [List.length_take]; omega, h.po, h.ho⟩
theorem run_min40 {l m : Int} (w : World) (hm : min l 40 = m) : (Builtin.min_ #[3, 3] 3 #[.int .i64 l, .int .i64 40]).run Try.prog w = .ok (.int .i64 m) w := by
  simp [go_sem, hm]
theorem slice_first {ao : Option Addr} {n c k : Nat} (hk : k ≤ n) (hn : n ≤ c) : ∀ w, (Instr.slice 26 (.slice ao n c) none (some (.int .i64 k)) none).run Try.prog w = .ok (.slice ao k c) w := fun w => by
  have h1 : k ≤ c := by omega
  simp [Instr.slice, Instr.sliceBounds, Instr.sliceBound, asIntOf, go_sem, h1]
/-- A twin, and where its lists lie. -/
theorem TwinOf.vv2 {v : Vv} {w w' : World} {e : Ending} (h : TwinOf v w e w') (hv : v.fit w) : ∃ u : Vv, e = .returned u.val ∧ u.id = v.id ∧ u.th = v.th ∧ u.P = v.P ∧ u.L = v.L ∧ u.fit w' ∧ Below w.heap.size w w' ∧ ∀ ad, u.ho = some ad → u.L ≠ [] → w.heap.size ≤ ad.block := by
  obtain ⟨po', pc', ho', hc', he, h1, h2, hb⟩ := h
  refine ⟨⟨v.id, v.th, po', pc', v.P, ho', hc', v.L⟩, he, rfl, rfl, rfl, rfl, ⟨⟨rdk_own h1, rdk_own h2, hv.ok.pt, hv.ok.ht, hv.ok.pn, hv.ok.hn⟩, hv.kp, hv.kl⟩, hb, fun ad e _ => ?_⟩
  have e' : ho' = some ad := e
  rcases h2.2 with ⟨h0, _⟩ | ⟨g, cap', cur, h0, h1, _⟩
  · rw [e'] at h0; simp at h0
  · rw [e'] at h0
    simp only [Value.slice.injEq, Option.some.injEq] at h0
    rw [h0.1]
    show w.heap.size ≤ g
    omega
/-- A tally, whose blocks lie below N, and a row of vertices beside it. -/
structure TaM (w0 : World) (p m N : Nat) (S : GS) (K : List Vv) (v : Value) (w : World) : Prop where
  tl : ∃ F, Tl w w0.heap.size m F p S ∧ (∀ g, v.ownBlock = some g → ¬ F g) ∧ ∀ k, F k → k < N
  row : w.ownsRow w0.heap.size 28 4 v K.length (vrow (K.map Vv.vx))
  low : Below w0.heap.size w0 w
section
variable {w0 w w' : World} {p m N : Nat} {S : GS} {K K' : List Vv} {v v' : Value}
theorem TaM.below (h : TaM w0 p m N S K v w) (hb : Below w.heap.size w w') : TaM w0 p m N S K v w' := by
  obtain ⟨F, h1, h2, h3⟩ := h.tl
  exact ⟨⟨F, h1.below hb, h2, h3⟩, own_on h.row (fun g e => hb.block g (World.ownsRow.lt h.row g e).2), h.low.trans (hb.mono h.low.size)⟩
theorem TaM.here (h : TaM w0 p m N S K v w) : TaM w0 p m w.heap.size S K v w := by
  obtain ⟨F, h1, h2, h3⟩ := h.tl
  exact ⟨⟨F, h1, h2, by obtain ⟨_, _, _, hh, _⟩ := h1; exact hh.hi⟩, h.row, h.low⟩
/-- The row has turned, or another one is made. -/
theorem TaM.grow (h : TaM w0 p m N S K v w) (hg : w.grownBy w' v.ownBlock) (hown : w'.ownsRow w0.heap.size 28 4 v' K'.length (vrow (K'.map Vv.vx))) (hv : v.ownBlock = v'.ownBlock ∨ ∀ k, v'.ownBlock = some k → w.heap.size ≤ k) : TaM w0 p m N S K' v' w' := by
  obtain ⟨F, h1, h2, h3⟩ := h.tl
  have hlt : ∀ k, F k → k < w.heap.size := by obtain ⟨_, _, _, hh, _⟩ := h1; exact hh.hi
  refine ⟨⟨F, ?_, fun g e => ?_, h3⟩, hown, h.low.grown hg h.low.size (fun k e => (World.ownsRow.lt h.row k e).1)⟩
  · exact h1.on (G := fun k => v.ownBlock = some k) (.of_grown hg (fun k e => e)) (fun k hk e => h2 k e hk)
  · rcases hv with hv | hv
    · exact h2 g (by rw [hv]; exact e)
    · intro hf
      have := hv g e
      have := hlt g hf
      omega
/-- A vertex in form is put; what lies at N and above stays. -/
theorem TaM.put (h : TaM w0 p m N S K v w) {u : Vv} (hu : u.fit w) (hf : u.form = true) (hk : In32 u.id) (hho : ∀ ad, u.ho = some ad → u.L ≠ [] → N ≤ ad.block) (hr : (rowG S u.id).length ≤ 1000) (hm : m ≤ 1000000000) :
    Calls Try.prog 20 #[.pointer (some ⟨p, 0, none⟩), u.val] w fun e w' => e = .returned (.int .i64 0) ∧ TaM w0 p (m + (rowG S u.id).length + u.L.length + 1) w'.heap.size (holdG S u.id u.th (u.L.map Prod.fst)) K v w' ∧ Turned (fun k => k < N) w w' := by
  obtain ⟨F, h1, h2, h3⟩ := h.tl
  refine (put20_good w0.heap.size m p F S u w h1 hu hf hk (fun ad e hne hF => by have := hho ad e hne; have := h3 _ hF; omega) hr hm).mono ?_
  rintro e w' ⟨rfl, F', d1, d2, d3⟩
  have hlow : ∀ k, F k → w0.heap.size ≤ k := by obtain ⟨_, _, _, hh, _⟩ := h1; exact hh.low
  refine ⟨rfl, ⟨⟨F', d1, fun g e hf' => ?_, by obtain ⟨_, _, _, hh, _⟩ := d1; exact hh.hi⟩, own_on h.row (fun g e => d3.block g (World.ownsRow.lt h.row g e).2 (h2 g e)), h.low.trans (d3.below h.low.size hlow)⟩, ?_⟩
  · rcases d2 g hf' with h4 | h4
    · exact h2 g e h4
    · have := (World.ownsRow.lt h.row g e).2
      omega
  · exact ⟨d3.os, d3.tape, d3.output, d3.size, fun k hk hn => d3.block k hk (fun hF => hn (h3 k hF))⟩
theorem TaM.bad (h : TaM w0 p m N S K v w) {u : Vv} (hu : u.fit w) (hf : u.form = false) :
    Calls Try.prog 20 #[.pointer (some ⟨p, 0, none⟩), u.val] w fun e w' => e = .returned (.int .i64 3) ∧ TaM w0 p m N S K v w' ∧ Below w.heap.size w w' :=
  (put20_bad p u w hu hf).mono fun _ _ ⟨h1, h2⟩ => ⟨h1, h.below h2, h2⟩
theorem TaM.list (h : TaM w0 p m N S K v w) (hm : m ≤ 1000000000) : Calls Try.prog 23 #[.pointer (some ⟨p, 0, none⟩)] w fun e w' => ListOf S w e w' := by
  obtain ⟨F, h1, _⟩ := h.tl
  exact list_any _ m p F S w h1 hm
theorem TaM.of (h : TaM w0 p m N S K v w) {x : Int} (hx : In32 x) : Calls Try.prog 24 #[.pointer (some ⟨p, 0, none⟩), .int .u32 x] w fun e w' => e = .returned (.int .i64 (ofG S x)) ∧ w = w' := by
  obtain ⟨F, h1, _⟩ := h.tl
  exact of_any _ m p F S x w h1 hx
end
/-- How many of a number a list of ghosts tells: the last one's count. -/
def lastN (x : Int) (L : GL) : Int := L.foldl (fun n g => if g.1 = x then g.2 else n) 0
theorem lastN_snoc (x : Int) (L : GL) (g : Int × Int) : lastN x (L ++ [g]) = if g.1 = x then g.2 else lastN x L := by simp [lastN, List.foldl_append]
theorem lastN_all {x n : Int} : ∀ {L : GL}, (∀ g ∈ L, g.1 = x → g.2 = n) → ((∃ g ∈ L, g.1 = x) ∨ n = 0) → lastN x L = n := by
  intro L
  refine snoc_ind (P := fun L => (∀ g ∈ L, g.1 = x → g.2 = n) → ((∃ g ∈ L, g.1 = x) ∨ n = 0) → lastN x L = n) ?_ ?_ L
  · intro _ h
    rcases h with ⟨g, hg, _⟩ | h
    · cases hg
    · rw [h]; rfl
  · intro l a ih h1 h2
    rw [lastN_snoc]
    by_cases e : a.1 = x
    · rw [if_pos e]
      exact h1 a (by simp) e
    · rw [if_neg e]
      refine ih (fun g hg => h1 g (by simp [hg])) ?_
      rcases h2 with ⟨g, hg, e2⟩ | h2
      · rcases List.mem_append.1 hg with hg | hg
        · exact .inl ⟨g, hg, e2⟩
        · rw [List.mem_singleton.1 hg] at e2
          exact absurd e2 e
      · exact .inr h2
/-- The tally's count of a number is the list's. -/
theorem lastN_of {S : GS} {ss : List Int} (h : Named S ss) {x : Int} (hx : In32 x) : lastN x (glOf S ss) = (ofG S x : Int) := by
  refine lastN_all (fun g hg e => ?_) ?_
  · obtain ⟨y, _, rfl⟩ := List.mem_map.1 hg
    rw [← e]
  · by_cases h0 : ofG S x = 0
    · exact .inr (by rw [h0]; rfl)
    · left
      have hc : cnt S x ≠ 0 := by
        intro e
        unfold ofG at h0
        split at h0
        · exact h0 rfl
        · exact h0 e
      exact ⟨(x, (ofG S x : Int)), List.mem_map.2 ⟨x, List.mem_filter.2 ⟨(h.2.2 x hx).2 hc, by simp; omega⟩, rfl⟩, rfl⟩
end Go.Proofs.Ytgjjfodogkcmmaa.Gh

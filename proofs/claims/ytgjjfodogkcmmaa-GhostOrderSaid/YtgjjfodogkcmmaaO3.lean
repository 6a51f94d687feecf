/- ghost: the law on the order in which vertices come, walked. -/
import Derived.Test.YtgjjfodogkcmmaaQ2
namespace Go.Proofs.Ytgjjfodogkcmmaa.Gh
open Go Go.RowKit Ytgjjfodogkcmmaa.So Ytgjjfodogkcmmaa.Vl
theorem of_held (S : GS) (k : Int) (L : List Int) : ofG (holdG S k true L) k = 0 := by
  have h : ((holdG S k true L).any fun e => e.1 = k) = true := by
    rw [List.any_eq_true]
    exact ⟨(k, L), by simp [holdG], by simp⟩
  unfold ofG
  rw [if_pos h]
/-- Two tallies of vertices that came, whose blocks lie from B on and below N. -/
structure TwoM (wB : World) (p q N : Nat) (A1 A2 : List Vx) (w : World) : Prop where
  tl : ∃ F G m1 m2, Tl w wB.heap.size m1 F p (holdAll A1) ∧ Tl w wB.heap.size m2 G q (holdAll A2) ∧ m1 ≤ A1.length * 2001 ∧ m2 ≤ A2.length * 2001 ∧ (∀ k, F k → ¬ G k) ∧ (∀ k, F k → k < N) ∧ ∀ k, G k → k < N
  f1 : ∀ v ∈ A1, v.L.length ≤ 1000
  f2 : ∀ v ∈ A2, v.L.length ≤ 1000
  low : Below wB.heap.size wB w
section
variable {wB w w' : World} {p q N : Nat} {A1 A2 : List Vx}
theorem TwoM.swap (h : TwoM wB p q N A1 A2 w) : TwoM wB q p N A2 A1 w := by
  obtain ⟨F, G, m1, m2, h1, h2, h3, h4, h5, h6, h7⟩ := h.tl
  exact ⟨⟨G, F, m2, m1, h2, h1, h4, h3, fun k hk hf => h5 k hf hk, h7, h6⟩, h.f2, h.f1, h.low⟩
theorem TwoM.below (h : TwoM wB p q N A1 A2 w) (hb : Below w.heap.size w w') : TwoM wB p q N A1 A2 w' := by
  obtain ⟨F, G, m1, m2, h1, h2, h3⟩ := h.tl
  exact ⟨⟨F, G, m1, m2, h1.below hb, h2.below hb, h3⟩, h.f1, h.f2, h.low.trans (hb.mono h.low.size)⟩
theorem TwoM.here (h : TwoM wB p q N A1 A2 w) : TwoM wB p q w.heap.size A1 A2 w := by
  obtain ⟨F, G, m1, m2, h1, h2, h3, h4, h5, _⟩ := h.tl
  exact ⟨⟨F, G, m1, m2, h1, h2, h3, h4, h5, by obtain ⟨_, _, _, hh, _⟩ := h1; exact hh.hi, by obtain ⟨_, _, _, hh, _⟩ := h2; exact hh.hi⟩, h.f1, h.f2, h.low⟩
theorem few_snoc {A : List Vx} (h : ∀ v ∈ A, v.L.length ≤ 1000) {u : Vx} (hu : u.L.length ≤ 1000) : ∀ v ∈ A ++ [u], v.L.length ≤ 1000 := fun v hv => by
  rcases List.mem_append.1 hv with hv | hv
  · exact h v hv
  · rw [List.mem_singleton.1 hv]; exact hu
/-- A vertex in form is put into the first. -/
theorem TwoM.put (h : TwoM wB p q N A1 A2 w) {u : Vv} (hu : u.fit w) (hf : u.form = true) (hk : In32 u.id) (hho : ∀ ad, u.ho = some ad → u.L ≠ [] → N ≤ ad.block) (hA : A1.length ≤ 100) :
    Calls Try.prog 20 #[.pointer (some ⟨p, 0, none⟩), u.val] w fun e w' => e = .returned (.int .i64 0) ∧ TwoM wB p q w'.heap.size (A1 ++ [u.vx]) A2 w' ∧ Turned (fun k => wB.heap.size ≤ k ∧ k < N) w w' := by
  obtain ⟨F, G, m1, m2, h1, h2, h3, h4, h5, h6, h7⟩ := h.tl
  have hrow : (rowG (holdAll A1) u.id).length ≤ 1000 := row_short (rows_short h.f1) _
  have hsm := (form_small hf hu.kp).2.1
  refine (put20_good wB.heap.size m1 p F (holdAll A1) u w h1 hu hf hk (fun ad e hne hF => by have := hho ad e hne; have := h6 _ hF; omega) (by omega) (by omega)).mono ?_
  rintro e w' ⟨rfl, F', d1, d2, d3⟩
  have hlow : ∀ k, F k → wB.heap.size ≤ k := by obtain ⟨_, _, _, hh, _⟩ := h1; exact hh.low
  have hGlt : ∀ k, G k → k < w.heap.size := by obtain ⟨_, _, _, hh, _⟩ := h2; exact hh.hi
  have h2' := h2.on d3 (fun k hG hF => h5 k hF hG)
  have e1 : holdAll (A1 ++ [u.vx]) = holdG (holdAll A1) u.id u.th (u.L.map Prod.fst) := holdAll_snoc _ _
  refine ⟨rfl, ⟨⟨F', G, _, m2, by rw [e1]; exact d1, h2', ?_, h4, fun k hk hG => ?_, by obtain ⟨_, _, _, hh, _⟩ := d1; exact hh.hi, fun k hG => Nat.lt_of_lt_of_le (hGlt k hG) d3.size⟩, few_snoc h.f1 hsm, h.f2, h.low.trans (d3.below h.low.size hlow)⟩, ⟨d3.os, d3.tape, d3.output, d3.size, fun k hk hn => d3.block k hk (fun hF => hn ⟨hlow k hF, h6 k hF⟩)⟩⟩
  · rw [List.length_append, List.length_singleton]
    omega
  · rcases d2 k hk with h8 | h8
    · exact h5 k h8 hG
    · have := hGlt k hG
      omega
theorem TwoM.bad (h : TwoM wB p q N A1 A2 w) {u : Vv} (hu : u.fit w) (hf : u.form = false) :
    Calls Try.prog 20 #[.pointer (some ⟨p, 0, none⟩), u.val] w fun e w' => e = .returned (.int .i64 3) ∧ TwoM wB p q N A1 A2 w' ∧ Below w.heap.size w w' :=
  (put20_bad p u w hu hf).mono fun _ _ ⟨h1, h2⟩ => ⟨h1, h.below h2, h2⟩
theorem TwoM.of (h : TwoM wB p q N A1 A2 w) {x : Int} (hx : In32 x) : Calls Try.prog 24 #[.pointer (some ⟨p, 0, none⟩), .int .u32 x] w fun e w' => e = .returned (.int .i64 (ofG (holdAll A1) x)) ∧ w = w' := by
  obtain ⟨F, G, m1, m2, h1, _⟩ := h.tl
  exact of_any _ m1 p F _ x w h1 hx
theorem TwoM.list (h : TwoM wB p q N A1 A2 w) (hA : A1.length ≤ 1000) : Calls Try.prog 23 #[.pointer (some ⟨p, 0, none⟩)] w fun e w' => ListOf (holdAll A1) w e w' := by
  obtain ⟨F, G, m1, m2, h1, _, h3, _⟩ := h.tl
  exact list_any _ m1 p F _ w h1 (by omega)
end
/-- Two new ones. -/
theorem two_new {wB w1 w2 w3 : World} (hb : Below wB.heap.size wB w1) (h1 : Tl w2 wB.heap.size 0 (fun k => w1.heap.size ≤ k ∧ k < w1.heap.size + 3) (w1.heap.size + 2) []) (b1 : Below w1.heap.size w1 w2)
    (h2 : Tl w3 wB.heap.size 0 (fun k => w2.heap.size ≤ k ∧ k < w2.heap.size + 3) (w2.heap.size + 2) []) (b2 : Below w2.heap.size w2 w3) : TwoM wB (w1.heap.size + 2) (w2.heap.size + 2) w3.heap.size [] [] w3 := by
  have hi1 : ∀ k, (w1.heap.size ≤ k ∧ k < w1.heap.size + 3) → k < w2.heap.size := by obtain ⟨_, _, _, hh, _⟩ := h1; exact hh.hi
  have hi2 : ∀ k, (w2.heap.size ≤ k ∧ k < w2.heap.size + 3) → k < w3.heap.size := by obtain ⟨_, _, _, hh, _⟩ := h2; exact hh.hi
  exact ⟨⟨_, _, 0, 0, h1.below b2, h2, by simp, by simp, fun k hk hk2 => by have := hi1 k hk; omega, fun k hk => Nat.lt_of_lt_of_le (hi1 k hk) b2.size, hi2⟩, (fun v hv => by cases hv), (fun v hv => by cases hv), (hb.trans (b1.mono hb.size)).trans (b2.mono (Nat.le_trans hb.size b1.size))⟩
/-- A block below B stays. -/
theorem low_block {wB w : World} {k : Nat} (h : Below wB.heap.size wB w) (hk : k < wB.heap.size) : w.heap[k]? = wB.heap[k]? := h.block k hk
/-- The vertex that isn't there. -/
def goneV (id : Int) : Vv := ⟨id, false, none, 0, [], none, 0, []⟩
theorem gone_fit (id : Int) (w : World) : (goneV id).fit w :=
  ⟨⟨fun i t h => by simp [goneV] at h, fun i t h => by simp [goneV] at h, fun t h => by simp [goneV] at h, fun t h => by simp [goneV] at h, by simp [goneV], by simp [goneV]⟩, fun t h => by simp [goneV] at h, fun t h => by simp [goneV] at h⟩
theorem gone_form {v : Vv} (h : v.form = true) : (goneV v.id).form = true := by
  unfold Vv.form at h ⊢
  rw [Bool.and_eq_true] at h
  simp [goneV, h.1]
theorem hold_distinct (Vs : List Vx) : (Vs.map Vx.id).Nodup → holdAll Vs = (Vs.filter (·.th)).map fun v => (v.id, v.fars) := by
  refine snoc_ind (P := fun Vs => (Vs.map Vx.id).Nodup → holdAll Vs = (Vs.filter (·.th)).map fun v => (v.id, v.fars)) (fun _ => rfl) (fun l a ih h => ?_) Vs
  rw [List.map_append, List.nodup_append] at h
  obtain ⟨h1, _, h3⟩ := h
  rw [holdAll_snoc, ih h1]
  have hd : dropG ((l.filter (·.th)).map fun v => (v.id, v.fars)) a.id = (l.filter (·.th)).map fun v => (v.id, v.fars) := drop_none (fun hh => by
    obtain ⟨e, he, hk⟩ := hh
    obtain ⟨v, hv, rfl⟩ := List.mem_map.1 he
    exact h3 v.id (List.mem_map.2 ⟨v, (List.mem_filter.1 hv).1, rfl⟩) a.id (by simp) hk)
  unfold holdG
  rw [hd, List.filter_append, List.map_append]
  cases ha : a.th <;> simp [ha]
theorem perm_cnt {S T : GS} (h : S.Perm T) (x : Int) : cnt S x = cnt T x := by
  induction h with
  | nil => rfl
  | cons a _ ih => simp only [cnt, List.map_cons, List.sum_cons] at ih ⊢; omega
  | swap a b l => simp only [cnt, List.map_cons, List.sum_cons]; omega
  | trans _ _ ih1 ih2 => exact ih1.trans ih2
theorem perm_of {S T : GS} (h : S.Perm T) (x : Int) : ofG S x = ofG T x := by
  have h1 : (S.any fun e => e.1 = x) = (T.any fun e => e.1 = x) := by
    rw [Bool.eq_iff_iff, List.any_eq_true, List.any_eq_true]
    constructor
    · rintro ⟨e, he, hx⟩; exact ⟨e, h.mem_iff.1 he, hx⟩
    · rintro ⟨e, he, hx⟩; exact ⟨e, h.mem_iff.2 he, hx⟩
  unfold ofG
  rw [h1, perm_cnt h]
theorem perm_gl {S T : GS} (h : S.Perm T) {ss : List Int} (hn : Named S ss) : Named T ss ∧ glOf S ss = glOf T ss := by
  refine ⟨⟨hn.1, hn.2.1, fun x hx => by rw [← perm_cnt h]; exact hn.2.2 x hx⟩, ?_⟩
  unfold glOf
  simp only [perm_of h]
/-- The same vertices in another order: the same list. -/
theorem perm_hold {A B : List Vx} (hp : (A.map fun v => (v.id, v.th, v.fars)).Perm (B.map fun v => (v.id, v.th, v.fars))) (hB : (B.map Vx.id).Nodup) : (holdAll A).Perm (holdAll B) := by
  have e : ∀ L : List Vx, L.map Vx.id = (L.map fun v => (v.id, v.th, v.fars)).map Prod.fst := fun L => by rw [List.map_map]; rfl
  have hA : (A.map Vx.id).Nodup := by
    rw [e] at hB ⊢
    exact (hp.map _).nodup_iff.2 hB
  rw [hold_distinct A hA, hold_distinct B hB]
  have e2 : ∀ L : List Vx, ((L.filter (·.th)).map fun v => (v.id, v.fars)) = (((L.map fun v => (v.id, v.th, v.fars)).filter (·.2.1)).map fun k => (k.1, k.2.2)) := fun L => by
    rw [List.filter_map, List.map_map]
    rfl
  rw [e2 A, e2 B]
  exact (hp.filter _).map _
/-- Begun at the k-th. -/
def rot {α : Type} (L : List α) (k : Nat) : List α := L.drop k ++ L.take k
theorem rot_perm {α : Type} (L : List α) (k : Nat) : (rot L k).Perm L := by
  unfold rot
  exact (List.perm_append_comm).trans (by rw [List.take_append_drop])
theorem rot_len {α : Type} (L : List α) (k : Nat) : (rot L k).length = L.length := (rot_perm L k).length_eq
theorem rot_at {α : Type} {L : List α} {k i : Nat} (hi : i < L.length) : L[(k + i) % L.length]? = (rot L (k % L.length))[i]? := by
  have hl : 0 < L.length := by omega
  obtain ⟨q, hq⟩ : ∃ q, k % L.length = q := ⟨_, rfl⟩
  have hq2 : q < L.length := by rw [← hq]; exact Nat.mod_lt _ hl
  have e : (k + i) % L.length = (q + i) % L.length := by rw [← hq, Nat.mod_add_mod]
  rw [e, hq]
  unfold rot
  by_cases h : q + i < L.length
  · rw [Nat.mod_eq_of_lt h, List.getElem?_append_left (by rw [List.length_drop]; omega), List.getElem?_drop]
  · have e2 : (q + i) % L.length = q + i - L.length := by
      rw [Nat.mod_eq_sub_mod (by omega), Nat.mod_eq_of_lt (by omega)]
    rw [e2, List.getElem?_append_right (by rw [List.length_drop]; omega), List.length_drop, List.getElem?_take_of_lt (by omega)]
    congr 1
    omega
/-- A vertex in form that came in. -/
structure OrdK (w : World) (v : Vv) : Prop where
  fit : v.fit w
  short : v.short
  id : In32 v.id
  form : v.form = true
/-- The row of those that are taken. -/
def MRow (w0 : World) (K : List Vv) (v : Value) (w : World) : Prop := w.ownsRow w0.heap.size 28 4 v K.length (vrow (K.map Vv.vx)) ∧ Below w0.heap.size w0 w
theorem fit_ok {w : World} {v : Vv} (h : v.fit w) (hid : In32 v.id) : v.vx.ok w := by
  refine ⟨hid, h.kl, h.ok.h, fun ad e hne => ?_⟩
  have e' : v.ho = some ad := e
  have hne' : v.L ≠ [] := hne
  obtain ⟨t, ht⟩ : ∃ t, v.L[0]? = some t := ⟨_, List.getElem?_eq_getElem (by have := List.length_pos_iff.2 hne'; omega)⟩
  obtain ⟨b, off, e2, hb, _⟩ := h.ok.h 0 t ht
  rw [e'] at e2
  rw [Option.some.inj e2]
  exact hb
theorem MRow.below {w0 w w' : World} {K : List Vv} {v : Value} (h : MRow w0 K v w) (hb : Below w.heap.size w w') : MRow w0 K v w' :=
  ⟨own_on h.1 (fun g e => hb.block g (World.ownsRow.lt h.1 g e).2), h.2.trans (hb.mono h.2.size)⟩
theorem MRow.rdw {w0 w : World} {K : List Vv} {ao : Option Addr} {n cap : Nat} (h : MRow w0 K (.slice ao n cap) w) (hK : ∀ v ∈ K, OrdK w0 v) : RdW w ao K := by
  have hr := h.1
  rw [show K.length = (K.map Vv.vx).length by simp] at hr
  have h1 := own_rdv hr (fun v hv => by
    obtain ⟨u, hu, rfl⟩ := List.mem_map.1 hv
    exact vok_below (fit_ok (hK u hu).fit (hK u hu).id) h.2)
  intro i v hv
  obtain ⟨_, h2⟩ := h1 i v.vx (by rw [List.getElem?_map, hv]; rfl)
  have hk := hK v (List.mem_of_getElem? hv)
  exact ⟨(hk.fit.below h.2 (Nat.le_refl _)).ok, hk.short, h2⟩
def keyX (v : Vx) : Int × Bool × List Int := (v.id, v.th, v.fars)
def keyV (v : Vv) : Int × Bool × List Int := keyX v.vx
theorem hold_key' {A B : List Vx} (h : A.map keyX = B.map keyX) : holdAll A = holdAll B := by
  have e : ∀ V : List Vx, holdAll V = (V.map keyX).foldl (fun S k => holdG S k.1 k.2.1 k.2.2) [] := fun V => by rw [List.foldl_map]; rfl
  rw [e A, e B, h]
theorem key_twin {u v : Vv} (i1 : u.id = v.id) (i2 : u.th = v.th) (i4 : u.L = v.L) : keyX u.vx = keyV v := by
  unfold keyV keyX Vv.vx Vx.fars
  simp [i1, i2, i4]
theorem keys_next {A : List Vx} {K : List Vv} {i : Nat} {v : Vv} {u : Vx} (h : A.map keyX = (K.take i).map keyV) (hv : K[i]? = some v) (hu : keyX u = keyV v) : (A ++ [u]).map keyX = (K.take (i + 1)).map keyV := by
  rw [take_next hv, List.map_append, List.map_append, h]
  simp [hu]
/-- All but those of the number. -/
def allNe (K : List Vv) (x : Int) : Bool := K.all fun u => u.id != x
theorem allNe_snoc (K : List Vv) (u : Vv) (x : Int) : allNe (K ++ [u]) x = (allNe K x && (u.id != x)) := by simp [allNe]
theorem allNe_nodup {K : List Vv} {v : Vv} (h : (K.map Vv.id).Nodup) (ha : allNe K v.id = true) : ((K ++ [v]).map Vv.id).Nodup := by
  rw [List.map_append, List.nodup_append]
  refine ⟨h, by simp, fun a h1 b h2 e => ?_⟩
  obtain ⟨u, hu, rfl⟩ := List.mem_map.1 h1
  simp at h2
  unfold allNe at ha
  have := List.all_eq_true.1 ha u hu
  simp at this
  exact this (by rw [e, h2])
theorem form_few {v : Vv} (h : v.form = true) : v.L.length ≤ 16 := by
  obtain ⟨id, th, po, pc, P, ho, hc, L⟩ := v
  unfold Vv.form at h
  simp only at h ⊢
  cases th
  · simp at h
    obtain ⟨_, rfl, rfl⟩ := h
    simp
  · simp [hsB] at h
    exact h.2.2.1
theorem own_vxok {B : Nat} {w : World} {u : Vv} (h : OwnV B w u) (hid : In32 u.id) (hL : ∀ t ∈ u.L, In32 t.1) : u.vx.ok w := by
  refine ⟨hid, hL, h.ok.h, fun ad e _ => ?_⟩
  have e' : u.ho = some ad := e
  rcases h.h.2 with ⟨h0, h1⟩ | ⟨g, cap', cur, h0, h1, h2, h3, h4⟩
  · rw [e'] at h0; simp at h0
  · rw [e'] at h0
    simp only [Value.slice.injEq, Option.some.injEq] at h0
    rw [h0.1]
    exact (Array.getElem?_eq_some_iff.1 h2).1
structure OrdI (w0 : World) (K : List Vv) (v : Value) (w : World) : Prop where
  row : MRow w0 K v w
  ok : ∀ u ∈ K, OrdK w0 u
  nodup : (K.map Vv.id).Nodup
set_option maxRecDepth 100000 in
set_option maxHeartbeats 4000000 in
theorem order_law (ao : Option Addr) (ca : Nat) (Vs : List Vv) (tu : Int) (w : World) (hin : TaIn w ao Vs) (t0 : 0 ≤ tu) (t1 : tu ≤ 255) (hlm : Vs.length ≤ maxLen) :
    Calls Try.prog 8 #[.slice ao Vs.length ca, .int .u8 tu] w fun e w' => e = .returned (.bool true) ∧ Below w.heap.size w w' := by
  have HI1 := Lib.hid hin
  obtain ⟨n, hn⟩ : ∃ n, Vs.length = n := ⟨_, rfl⟩
  unfold maxLen at hlm
  rw [hn] at hlm ⊢
  have HN := Lib.hid hn
  have HTU := Lib.hid (And.intro t0 t1)
  clear hin hn t0 t1
  have HA := Lib.hid (awake_any w)
  go_enter Try.func8, Try.ntmps8
  go_wp2_with (go_at_call 9; refine HA.out.mono ?_; rintro e w1 ⟨rfl, hb⟩; have A1 := Lib.hid hb; clear hb)
  have HI : Hid (OrdI w [] (.slice none 0 0) w1) := Lib.hid ⟨⟨World.ownsRow_nil _ _ _ _, A1.out⟩, (fun u hu => by cases hu), by simp⟩
  clear HA A1
  go_loopw [5, 20] (fun v u wr => ∃ (i : Nat) (K : List Vv), i ≤ n ∧ K.length ≤ 40 ∧ u = .int .i64 i ∧ Hid (OrdI w K v wr)) (fun _ u _ => n - (intOf u).toNat)
  case atStart => exact ⟨0, [], by omega, by simp, rfl, HI⟩
  case round =>
    obtain ⟨i, K, hi, hK40, rfl, HE⟩ := hrel
    clear HI
    generalize wr = w3 at *
    obtain ⟨ao5, c5, rfl, hc5⟩ : ∃ ao5 c5, u5 = .slice ao5 K.length c5 ∧ K.length ≤ c5 := row_form HE.out.row.1
    by_cases hlt : i < n
    · obtain ⟨x, hx⟩ : ∃ x, Vs[i]? = some x := ⟨_, List.getElem?_eq_getElem (by have := HN.out; omega)⟩
      have hlow := HE.out.row.2
      obtain ⟨g, og, rfl, _, e0, e1, e2, e3⟩ := HI1.out.below hlow hx
      have j1 : (i : Int) < (n : Int) := by omega
      have HU := Lib.hid (HI1.out i x hx).1
      have hb4 : Below w3.heap.size w3 (w3.alloc (.cells #[.int .u32 x.id, .bool x.th, .slice x.po x.P.length x.pc, .slice x.ho x.L.length x.hc] 28)) := (Below.refl _ _).alloc (Nat.le_refl _) _
      have hbx := heap_alloc_new w3 (.cells #[.int .u32 x.id, .bool x.th, .slice x.po x.P.length x.pc, .slice x.ho x.L.length x.hc] 28)
      have hR4 := HE.out.row.below hb4
      have HR4 := Lib.hid hR4
      have HRT := Lib.hid (right_any x _ (HU.out.1.below hR4.2 (Nat.le_refl _)).ok (by have := HU.out.2.1.pn; omega) (by have := HU.out.2.1.hn; omega))
      have HOK := Lib.hid (And.intro HE.out.ok HE.out.nodup)
      have HBX := Lib.hid hbx
      obtain ⟨f0, f1, f2, f3, ff⟩ := box_cells hbx
      clear hlow hx hb4 hbx hR4 HE
      obtain ⟨kl, hkl⟩ : ∃ kl, K.length = kl := ⟨_, rfl⟩
      rw [hkl] at hc5 hK40 HR4 ⊢
      have HKL := Lib.hid hkl
      clear hkl
      by_cases hk : (kl : Int) < 40
      · cases hf : x.form
        · have HFO := Lib.hid hf
          clear hf
          go_wp2_with (go_at_call 22; refine HRT.out.mono ?_; unfold RRet; rw [HFO.out]; rintro e' w5 ⟨rfl, hb⟩; have HR5 := Lib.hid (HR4.out.below hb); have hbx5 := (hb.block w3.heap.size (by simp)).trans HBX.out; obtain ⟨h0, h1, h2, h3, hh⟩ := box_cells hbx5; have HBX5 := Lib.hid hbx5; clear hb hbx5)
          clear f0 f1 f2 f3 ff
          obtain ⟨z, hz⟩ : ∃ z, w3.heap.size = z := ⟨_, rfl⟩
          rw [hz] at HBX5 ⊢
          clear hz
          have HB0 := Lib.hid (Below.refl w5.heap.size w5)
          go_loopw [8, 33] (fun s8 u wx => ∃ j : Nat, j ≤ kl ∧ s8 = .bool false ∧ u = .int .i64 j ∧ Hid (Below w5.heap.size w5 wx)) (fun _ u _ => kl - (intOf u).toNat)
          case atStart => exact ⟨0, by omega, rfl, rfl, HB0⟩
          case round =>
            obtain ⟨j, hj, rfl, rfl, HJ⟩ := hrel
            generalize wr = w6 at *
            clear HB0
            have hvx := (HJ.out.block z (Array.getElem?_eq_some_iff.1 HBX5.out).1).trans HBX5.out
            obtain ⟨y0, y1, y2, y3, yf⟩ := box_cells hvx
            by_cases hjl : j < kl
            · have j2 : (j : Int) < (kl : Int) := by omega
              obtain ⟨t, ht⟩ : ∃ t, K[j]? = some t := ⟨_, List.getElem?_eq_getElem (by have := HKL.out; omega)⟩
              obtain ⟨_, _, bq, oq, rfl, _, q0, q1, q2, q3⟩ := (HR5.out.rdw HOK.out.1).below HJ.out (Nat.le_refl _) j t ht
              have hzw : z < w6.heap.size := (Array.getElem?_eq_some_iff.1 hvx).1
              have HB7 := Lib.hid (HJ.out.alloc HJ.out.size (.cells #[.int .u32 t.id, .bool t.th, .slice t.po t.P.length t.pc, .slice t.ho t.L.length t.hc] 28))
              clear hvx
              clear ht
              go_wp2_with fail
              exact ⟨⟨j + 1, by omega, rfl, by go_num, HB7⟩, by simp [intOf]; omega⟩
            · obtain rfl : j = kl := by omega
              have HR6 := Lib.hid (HR5.out.below HJ.out)
              clear hvx
              go_wp2_with fail
              exact ⟨⟨i + 1, K, by omega, (by rw [HKL.out]; exact hK40), by go_num, Lib.hid ⟨by have := HR6.out; rwa [← HKL.out] at this ⊢, HOK.out.1, HOK.out.2⟩⟩, by simp [intOf]; omega⟩
        · have HFO := Lib.hid hf
          clear hf
          go_wp2_with (go_at_call 22; refine HRT.out.mono ?_; unfold RRet; rw [HFO.out]; rintro e' w5 ⟨rfl, hb⟩; have HR5 := Lib.hid (HR4.out.below hb); have hbx5 := (hb.block w3.heap.size (by simp)).trans HBX.out; obtain ⟨h0, h1, h2, h3, hh⟩ := box_cells hbx5; have HBX5 := Lib.hid hbx5; clear hb hbx5)
          clear f0 f1 f2 f3 ff
          obtain ⟨z, hz⟩ : ∃ z, w3.heap.size = z := ⟨_, rfl⟩
          rw [hz] at HBX5 ⊢
          clear hz
          have HB0 := Lib.hid (Below.refl w5.heap.size w5)
          go_loopw [8, 33] (fun s8 u wx => ∃ j : Nat, j ≤ kl ∧ s8 = .bool (allNe (K.take j) x.id) ∧ u = .int .i64 j ∧ Hid (Below w5.heap.size w5 wx)) (fun _ u _ => kl - (intOf u).toNat)
          case atStart => exact ⟨0, by omega, rfl, rfl, HB0⟩
          case round =>
            obtain ⟨j, hj, rfl, rfl, HJ⟩ := hrel
            generalize wr = w6 at *
            clear HB0
            have hvx := (HJ.out.block z (Array.getElem?_eq_some_iff.1 HBX5.out).1).trans HBX5.out
            obtain ⟨y0, y1, y2, y3, yf⟩ := box_cells hvx
            by_cases hjl : j < kl
            · have j2 : (j : Int) < (kl : Int) := by omega
              obtain ⟨t, ht⟩ : ∃ t, K[j]? = some t := ⟨_, List.getElem?_eq_getElem (by have := HKL.out; omega)⟩
              obtain ⟨_, _, bq, oq, rfl, _, q0, q1, q2, q3⟩ := (HR5.out.rdw HOK.out.1).below HJ.out (Nat.le_refl _) j t ht
              have hzw : z < w6.heap.size := (Array.getElem?_eq_some_iff.1 hvx).1
              have HB7 := Lib.hid (HJ.out.alloc HJ.out.size (.cells #[.int .u32 t.id, .bool t.th, .slice t.po t.P.length t.pc, .slice t.ho t.L.length t.hc] 28))
              clear hvx
              have HNX := Lib.hid (show allNe (K.take (j + 1)) x.id = (allNe (K.take j) x.id && (t.id != x.id)) by rw [take_next ht, allNe_snoc])
              clear ht
              generalize allNe (K.take j) x.id = acc at *
              cases acc
              · go_wp2_with fail
                exact ⟨⟨j + 1, by omega, by rw [HNX.out]; rfl, by go_num, HB7⟩, by simp [intOf]; omega⟩
              · by_cases htx : t.id = x.id
                · have hb1 : (t.id == x.id) = true := by simpa using htx
                  have hb2 : (t.id != x.id) = false := by simpa using htx
                  rw [hb2] at HNX
                  clear htx
                  go_wp2_with fail
                  exact ⟨⟨j + 1, by omega, by rw [HNX.out]; rfl, by go_num, HB7⟩, by simp [intOf]; omega⟩
                · have hb1 : (t.id == x.id) = false := by simpa using htx
                  have hb2 : (t.id != x.id) = true := by simpa using htx
                  rw [hb2] at HNX
                  clear htx
                  go_wp2_with fail
                  exact ⟨⟨j + 1, by omega, by rw [HNX.out]; rfl, by go_num, HB7⟩, by simp [intOf]; omega⟩
            · obtain rfl : j = kl := by omega
              have HR6 := Lib.hid (HR5.out.below HJ.out)
              have htk : K.take j = K := List.take_of_length_le (by have := HKL.out; omega)
              rw [htk]
              clear htk
              cases ha : allNe K x.id
              · clear hvx
                go_wp2_with fail
                exact ⟨⟨i + 1, K, by omega, (by rw [HKL.out]; exact hK40), by go_num, Lib.hid ⟨by have := HR6.out; rwa [← HKL.out] at this ⊢, HOK.out.1, HOK.out.2⟩⟩, by simp [intOf]; omega⟩
              · have HAN := Lib.hid ha
                obtain ⟨i0, hi0, hz0, hz1, hz2⟩ := info_parts3 info28b
                have HI0 := Lib.hid (And.intro hi0 (And.intro hz0 (And.intro hz1 hz2)))
                have hb8 : Below w6.heap.size w6 (w6.alloc (.cells #[.int .u32 x.id, .bool x.th, .slice x.po x.P.length x.pc, .slice x.ho x.L.length x.hc] 28)) := (Below.refl _ _).alloc (Nat.le_refl _) _
                have HR8 := Lib.hid (HR6.out.below hb8)
                have HW8 := Lib.hid (show (w6.alloc (.cells #[.int .u32 x.id, .bool x.th, .slice x.po x.P.length x.pc, .slice x.ho x.L.length x.hc] 28)).heap[w6.heap.size]? = some (.cells #[.int .u32 x.id, .bool x.th, .slice x.po x.P.length x.pc, .slice x.ho x.L.length x.hc] 28 (0, 0)) from heap_alloc_new w6 _)
                clear hb8 hi0 hz0 hz1 hz2 ha hvx
                have hj40 : j < 40 := by omega
                go_wp2_with (at_builtin; refine wpList_append_own _ rfl (.tmp 47) (.tmp 49) 22 rfl w.heap.size 28 i0 _ 4 56 Try.underlying22 HI0.out.1 HI0.out.2.1 HI0.out.2.2.1 HI0.out.2.2.2 rfl (by decide) _ j (vrow (K.map Vv.vx)) rfl (by have := HR8.out.1; rwa [HKL.out] at this) ⟨w6.heap.size, 0, none⟩ 1 1 (vrow [x.vx]) rfl rfl (World.news_of_block HW8.out) (vc4_one _) (by unfold maxLen; omega) (by omega) HR8.out.2.size ?_; intro v9 w9 hown hgrow _; have HOWN := Lib.hid (And.intro hown hgrow); clear hown hgrow)
                refine ⟨⟨i + 1, K ++ [x], by omega, by rw [List.length_append, List.length_singleton, HKL.out]; omega, by go_num, Lib.hid ⟨⟨?_, HR8.out.2.grown HOWN.out.2 HR8.out.2.size (fun k e => (World.ownsRow.lt HR8.out.1 k e).1)⟩, fun u hu => ?_, allNe_nodup HOK.out.2 HAN.out⟩⟩, by simp [intOf]; omega⟩
                · rw [List.length_append, List.length_singleton, HKL.out, List.map_append, vrow_app]
                  exact HOWN.out.1
                · rcases List.mem_append.1 hu with hu | hu
                  · exact HOK.out.1 u hu
                  · rw [List.mem_singleton.1 hu]
                    exact ⟨HU.out.1, HU.out.2.1, HU.out.2.2.1, HFO.out⟩
      · go_upto_region 8 with fail
        have HR5 := HR4
        have HBX5 := HBX
        clear f0 f1 f2 f3 ff HR4 HBX HRT
        generalize (w3.alloc (.cells #[.int .u32 x.id, .bool x.th, .slice x.po x.P.length x.pc, .slice x.ho x.L.length x.hc] 28)) = w5 at *
        go_wp2_with fail
        obtain ⟨z, hz⟩ : ∃ z, w3.heap.size = z := ⟨_, rfl⟩
        rw [hz] at HBX5 ⊢
        clear hz
        have HB0 := Lib.hid (Below.refl w5.heap.size w5)
        go_loopw [8, 33] (fun s8 u wx => ∃ j : Nat, j ≤ kl ∧ s8 = .bool false ∧ u = .int .i64 j ∧ Hid (Below w5.heap.size w5 wx)) (fun _ u _ => kl - (intOf u).toNat)
        case atStart => exact ⟨0, by omega, rfl, rfl, HB0⟩
        case round =>
          obtain ⟨j, hj, rfl, rfl, HJ⟩ := hrel
          generalize wr = w6 at *
          clear HB0
          have hvx := (HJ.out.block z (Array.getElem?_eq_some_iff.1 HBX5.out).1).trans HBX5.out
          obtain ⟨y0, y1, y2, y3, yf⟩ := box_cells hvx
          by_cases hjl : j < kl
          · have j2 : (j : Int) < (kl : Int) := by omega
            obtain ⟨t, ht⟩ : ∃ t, K[j]? = some t := ⟨_, List.getElem?_eq_getElem (by have := HKL.out; omega)⟩
            obtain ⟨_, _, bq, oq, rfl, _, q0, q1, q2, q3⟩ := (HR5.out.rdw HOK.out.1).below HJ.out (Nat.le_refl _) j t ht
            have hzw : z < w6.heap.size := (Array.getElem?_eq_some_iff.1 hvx).1
            have HB7 := Lib.hid (HJ.out.alloc HJ.out.size (.cells #[.int .u32 t.id, .bool t.th, .slice t.po t.P.length t.pc, .slice t.ho t.L.length t.hc] 28))
            clear hvx
            clear ht
            go_wp2_with fail
            exact ⟨⟨j + 1, by omega, rfl, by go_num, HB7⟩, by simp [intOf]; omega⟩
          · obtain rfl : j = kl := by omega
            have HR6 := Lib.hid (HR5.out.below HJ.out)
            clear hvx
            go_wp2_with fail
            exact ⟨⟨i + 1, K, by omega, (by rw [HKL.out]; exact hK40), by go_num, Lib.hid ⟨by have := HR6.out; rwa [← HKL.out] at this ⊢, HOK.out.1, HOK.out.2⟩⟩, by simp [intOf]; omega⟩
    · obtain rfl : i = n := by omega
      have HOK := Lib.hid (And.intro HE.out.ok HE.out.nodup)
      have HR := Lib.hid HE.out.row
      obtain ⟨kl, hkl⟩ : ∃ kl, K.length = kl := ⟨_, rfl⟩
      rw [hkl] at hc5 hK40 HR ⊢
      have HKL := Lib.hid hkl
      clear hkl HE hlt hi hlm
      generalize w3 = wB at *
      go_wp2_with fail
      refine (new_any wB.heap.size wB (Nat.le_refl _)).mono ?_
      rintro e w4 ⟨rfl, ht1, hb3⟩
      go_wp2_with fail
      refine (new_any wB.heap.size w4 hb3.size).mono ?_
      rintro e w5 ⟨rfl, ht2, hb4⟩
      have HT := Lib.hid (two_new (Below.refl _ wB) ht1 hb3 ht2 hb4)
      clear ht1 ht2 hb3 hb4
      generalize wB.heap.size + 2 = p at *
      generalize w4.heap.size + 2 = q at *
      obtain ⟨k, hk, hkk⟩ : ∃ k : Nat, tu % ((kl : Int) + 1) = (k : Int) ∧ k ≤ kl := ⟨(tu % ((kl : Int) + 1)).toNat, by have := Int.emod_nonneg tu (show (kl : Int) + 1 ≠ 0 by omega); omega, by have := Int.emod_lt_of_pos tu (show 0 < (kl : Int) + 1 by omega); omega⟩
      have hk2 : tu.tmod ((kl : Int) + 1) = (k : Int) := by rw [Int.tmod_eq_emod_of_nonneg HTU.out.1, hk]
      have hz1 : ((kl : Int) + 1 == 0) = false := by simp; omega
      have hw1 : IntKind.i64.wrap ((kl : Int) + 1) = (kl : Int) + 1 := by simp [IntKind.wrap, IntKind.bits, IntKind.signed]; omega
      have HKB := Lib.hid hk
      obtain ⟨t0, t1⟩ := HTU.out
      go_wp2_with fail
      clear hk2 hz1 hw1 t0 t1
      go_loopw [62] (fun u wx => ∃ (j : Nat) (A1 A2 : List Vx), j ≤ kl ∧ u = .int .i64 j ∧ Hid (TwoM wB p q wx.heap.size A1 A2 wx ∧ A1.map keyX = (K.take j).map keyV ∧ A2.map keyX = ((rot K (k % kl)).take j).map keyV)) (fun u _ => kl - (intOf u).toNat)
      case atStart => exact ⟨0, [], [], by omega, rfl, Lib.hid ⟨HT.out, by simp, by simp⟩⟩
      case round =>
        obtain ⟨j, A1, A2, hj, rfl, HJ⟩ := hrel
        generalize wr = w6 at *
        clear HT
        by_cases hjl : j < kl
        · have j2 : (j : Int) < (kl : Int) := by omega
          obtain ⟨t, ht⟩ : ∃ t, K[j]? = some t := ⟨_, List.getElem?_eq_getElem (by have := HKL.out; omega)⟩
          have hls : (rot K (k % kl)).length = kl := by rw [rot_len]; exact HKL.out
          obtain ⟨s, hs⟩ : ∃ s, (rot K (k % kl))[j]? = some s := ⟨_, List.getElem?_eq_getElem (by omega)⟩
          have hat := rot_at (L := K) (k := k) (i := j) (by have := HKL.out; omega)
          rw [HKL.out, hs] at hat
          have HAT := Lib.hid hat
          have htok := HOK.out.1 t (List.mem_of_getElem? ht)
          have hsok := HOK.out.1 s (List.mem_of_getElem? hat)
          have hlw := HR.out.2.trans (HJ.out.1.low.mono HR.out.2.size)
          obtain ⟨_, _, bq, oq, rfl, _, q0, q1, q2, q3⟩ := (HR.out.rdw HOK.out.1).below HJ.out.1.low (Nat.le_refl _) j t ht
          have HTW := Lib.hid (twin_any t w6 (htok.fit.below hlw (Nat.le_refl _)).ok htok.short)
          have hA1 : A1.length ≤ 40 := by have := congrArg List.length HJ.out.2.1; rw [List.length_map, List.length_map, List.length_take] at this; omega
          have hA2 : A2.length ≤ 40 := by have := congrArg List.length HJ.out.2.2; rw [List.length_map, List.length_map, List.length_take] at this; omega
          have HTS := Lib.hid (And.intro htok (And.intro hsok (And.intro ht (And.intro hs (And.intro hlw (And.intro hA1 hA2))))))
          clear ht hs hat htok hsok hlw hA1 hA2 hls
          unfold Vv.val at HTW
          go_wp2_with fail
          refine HTW.out.mono ?_
          intro e' w7 ht
          obtain ⟨t', rfl, i1, i2, i3, i4, hu7, hb7, hge⟩ := ht.vv2 (HTS.out.1.fit.below HTS.out.2.2.2.2.1 (Nat.le_refl _))
          have hft : t'.form = true := by rw [← HTS.out.1.form]; unfold Vv.form; rw [i1, i2, i3, i4]
          have HP := Lib.hid ((HJ.out.1.below hb7).put hu7 hft (by rw [i1]; exact HTS.out.1.id) hge (by have := HTS.out.2.2.2.2.2.1; omega))
          have HK1 := Lib.hid (key_twin i1 i2 i4)
          clear ht i1 i2 i3 i4 hu7 hb7 hge hft HTW
          unfold Vv.val at HP ⊢
          go_wp2_with fail
          refine HP.out.mono ?_
          rintro e' w8 ⟨rfl, h8, _⟩
          have H8 := Lib.hid h8
          obtain ⟨m, hm, hmk⟩ : ∃ m : Nat, ((k : Int) + (j : Int)) % (kl : Int) = (m : Int) ∧ m = (k + j) % kl := ⟨(k + j) % kl, by rw [← Int.natCast_add, ← Int.natCast_emod], rfl⟩
          have hm2 : ((k : Int) + (j : Int)).tmod (kl : Int) = (m : Int) := by rw [Int.tmod_eq_emod_of_nonneg (by omega), hm]
          have hml : m < kl := by rw [hmk]; exact Nat.mod_lt _ (by omega)
          have hml2 : (m : Int) < (kl : Int) := by omega
          have hz2 : ((kl : Int) == 0) = false := by simp; omega
          have hw2 : IntKind.i64.wrap ((k : Int) + (j : Int)) = (k : Int) + (j : Int) := by simp [IntKind.wrap, IntKind.bits, IntKind.signed]; omega
          have hlw := HR.out.2.trans (h8.low.mono HR.out.2.size)
          obtain ⟨_, _, bq', oq', eq', _, r0, r1, r2, r3⟩ := (HR.out.rdw HOK.out.1).below h8.low (Nat.le_refl _) m s (by rw [hmk]; exact HAT.out)
          simp only [Option.some.injEq, Addr.mk.injEq, and_true] at eq'
          obtain ⟨rfl, rfl⟩ := eq'
          have HTW := Lib.hid (twin_any s w8 (HTS.out.2.1.fit.below hlw (Nat.le_refl _)).ok HTS.out.2.1.short)
          have HLW := Lib.hid hlw
          clear h8 hlw q0 q1 q2 q3 hmk
          unfold Vv.val at HTW
          go_wp2_with fail
          refine HTW.out.mono ?_
          intro e' w9 ht
          obtain ⟨s', rfl, i1, i2, i3, i4, hu9, hb9, hge⟩ := ht.vv2 (HTS.out.2.1.fit.below HLW.out (Nat.le_refl _))
          have hft : s'.form = true := by rw [← HTS.out.2.1.form]; unfold Vv.form; rw [i1, i2, i3, i4]
          have HP2 := Lib.hid ((H8.out.below hb9).swap.put hu9 hft (by rw [i1]; exact HTS.out.2.1.id) hge (by have := HTS.out.2.2.2.2.2.2; omega))
          have HK2 := Lib.hid (key_twin i1 i2 i4)
          clear ht i1 i2 i3 i4 hu9 hb9 hge hft HTW
          unfold Vv.val at HP2 ⊢
          go_wp2_with fail
          refine HP2.out.mono ?_
          rintro e' w10 ⟨rfl, h10, _⟩
          have H10 := Lib.hid h10
          clear h10 r0 r1 r2 r3
          go_wp2_with fail
          exact ⟨⟨j + 1, A1 ++ [t'.vx], A2 ++ [s'.vx], by omega, by go_num, Lib.hid ⟨H10.out.swap, keys_next HJ.out.2.1 HTS.out.2.2.1 HK1.out, keys_next HJ.out.2.2 HTS.out.2.2.2.1 HK2.out⟩⟩, by simp [intOf]; omega⟩
        · obtain rfl : j = kl := by omega
          have hA1 : A1.map keyX = (K.map Vv.vx).map keyX := by
            rw [HJ.out.2.1, List.take_of_length_le (by rw [HKL.out]; exact Nat.le_refl _), List.map_map]
            rfl
          have hA2 : (A2.map keyX).Perm ((K.map Vv.vx).map keyX) := by
            rw [HJ.out.2.2, List.take_of_length_le (by rw [rot_len, HKL.out]; exact Nat.le_refl _), List.map_map]
            exact (rot_perm K _).map _
          have hnd : ((K.map Vv.vx).map Vx.id).Nodup := by rw [List.map_map]; exact HOK.out.2
          have HS1 := Lib.hid (show holdAll A1 = holdAll (K.map Vv.vx) from hold_key' hA1)
          have HS2 := Lib.hid (show (holdAll A2).Perm (holdAll (K.map Vv.vx)) from perm_hold hA2 hnd)
          have HLA := Lib.hid (show A1.length ≤ 40 ∧ A2.length ≤ 40 from ⟨by have := congrArg List.length hA1; simp only [List.length_map] at this; have := HKL.out; omega, by have := hA2.length_eq; simp only [List.length_map] at this; have := HKL.out; omega⟩)
          have H32 := Lib.hid (show ∀ v ∈ K.map Vv.vx, ∀ t ∈ v.L, In32 t.1 from fun v hv => by
            obtain ⟨u, hu, rfl⟩ := List.mem_map.1 hv
            exact (HOK.out.1 u hu).fit.kl)
          obtain ⟨L, hL⟩ : ∃ L, countL (K.map Vv.vx) = L := ⟨_, rfl⟩
          have HCL := Lib.hid hL
          have hfew := count_few (K := K) (by have := HKL.out; omega) (fun v hv => by have := form_few (HOK.out.1 v hv).form; omega)
          rw [hL] at hfew
          obtain ⟨lg, hlg⟩ : ∃ lg, L.length = lg := ⟨_, rfl⟩
          rw [hlg] at hfew
          have HLG := Lib.hid hlg
          have HTW := twins_any ao5 c5 K w6 ((HR.out.rdw HOK.out.1).below HJ.out.1.low (Nat.le_refl _)) (by have := HKL.out; omega)
          rw [HKL.out] at HTW
          have HTW' := Lib.hid HTW
          have HLast := Lib.hid (HR.out.2.trans (HJ.out.1.low.mono HR.out.2.size))
          clear hA1 hA2 hnd hL hlg HTW hjl hj
          go_wp2_with fail
          refine HTW'.out.mono ?_
          rintro e' w7 ⟨v7, Us, rfl, hco, hown, hrow, hb7⟩
          have hUl : Us.length = K.length := by have := congrArg List.length hco; rwa [List.length_map, List.length_map] at this
          have hcm : ∀ u ∈ Us, ∃ v ∈ K, v.core = u.core := fun u hu => by
            have : u.core ∈ K.map Vv.core := by rw [← hco]; exact List.mem_map.2 ⟨u, hu, rfl⟩
            obtain ⟨v, hv, e⟩ := List.mem_map.1 this
            exact ⟨v, hv, e⟩
          have hin : ∀ u ∈ Us, (In32 u.id ∧ ∀ t ∈ u.L, In32 t.1) ∧ u.L.length ≤ 16 := fun u hu => by
            obtain ⟨v, hv, e⟩ := hcm u hu
            simp only [Vv.core, Prod.mk.injEq] at e
            obtain ⟨e1, _, _, e4⟩ := e
            rw [← e1, ← e4]
            exact ⟨⟨(HOK.out.1 v hv).id, (HOK.out.1 v hv).fit.kl⟩, form_few (HOK.out.1 v hv).form⟩
          have hokU : ∀ u ∈ Us.map Vv.vx, u.ok w7 := fun u hu => by
            obtain ⟨x, hx, rfl⟩ := List.mem_map.1 hu
            exact own_vxok (hown x hx) (hin x hx).1.1 (hin x hx).1.2
          rw [show Us.length = (Us.map Vv.vx).length by simp] at hrow
          obtain ⟨ao7, c7, rfl, hrd7⟩ := rdv_own hrow hokU
          have hS3 : holdAll (Us.map Vv.vx) = holdAll (K.map Vv.vx) := hold_key' (by
            have e : ∀ V : List Vv, (V.map Vv.vx).map keyX = (V.map Vv.core).map fun k => (k.1, k.2.1, k.2.2.2.map Prod.fst) := fun V => by simp only [List.map_map]; rfl
            rw [e, e, hco])
          have hC := count_any ao7 c7 (Us.map Vv.vx) w7 hrd7 (by rw [List.length_map, hUl]; have := HKL.out; omega) (fun u hu => by
            obtain ⟨x, hx, rfl⟩ := List.mem_map.1 hu
            have := (hin x hx).2
            show x.L.length ≤ 100
            omega)
          rw [hS3, List.length_map] at hC
          have HC := Lib.hid hC
          have HT7 := Lib.hid (HJ.out.1.below hb7)
          clear hco hown hrow hb7 hUl hcm hin hokU hrd7 hS3 hC
          go_wp2_with fail
          refine HC.out.mono ?_
          rintro e' w8 ⟨ao8, c8, ss8, rfl, hnm, ho, hb8⟩
          rw [count_same hnm H32.out, HCL.out] at ho ⊢
          obtain ⟨ao8', c8', e8, hr8⟩ := rdg_own ho
          simp only [Value.slice.injEq, true_and] at e8
          obtain ⟨rfl, rfl⟩ := e8
          have HT8 := Lib.hid (HT7.out.below hb8)
          have HG8 := Lib.hid (ghosts_any ao8 c8 L w8 hr8 (by have := HLG.out; omega))
          clear hnm ho hb8 hr8
          go_wp2_with fail
          refine HG8.out.mono ?_
          rintro e' w9 ⟨v9, rfl, ho, hb9⟩
          obtain ⟨ao9, c9, rfl, hr9⟩ := rdg_own ho
          have HT9 := Lib.hid (HT8.out.below hb9)
          have HR9 := Lib.hid hr9
          have HL1 := Lib.hid (HT9.out.list (by have := HLA.out; omega))
          clear ho hb9 hr9
          go_wp2_with fail
          refine HL1.out.mono ?_
          rintro e' w10 ⟨ao10, c10, ss10, rfl, hnm, ho, hb10⟩
          rw [HS1.out] at hnm ho ⊢
          rw [count_same hnm H32.out, HCL.out] at ho ⊢
          obtain ⟨ao10', c10', e10, hr10⟩ := rdg_own ho
          simp only [Value.slice.injEq, true_and] at e10
          obtain ⟨rfl, rfl⟩ := e10
          have HB10 := Lib.hid hb10
          have HG10 := Lib.hid (ghosts_any ao10 c10 L w10 hr10 (by have := HLG.out; omega))
          clear hnm ho hb10 hr10
          go_wp2_with fail
          refine HG10.out.mono ?_
          rintro e' w11 ⟨v11, rfl, ho, hb11⟩
          obtain ⟨ao11, c11, rfl, hr11⟩ := rdg_own ho
          have HB11 := Lib.hid (HB10.out.trans (hb11.mono HB10.out.size))
          have HE1 := Lib.hid (same_any ao11 ao9 c11 c9 L L w11 hr11 (HR9.out.on HB11.out (Nat.le_refl _)) (by have := HLG.out; omega) (by have := HLG.out; omega))
          clear ho hb11 hr11
          go_wp2_with fail
          refine HE1.out.mono ?_
          rintro e' w12 ⟨rfl, hb12⟩
          simp only [decide_true]
          have HB12 := Lib.hid (HB11.out.trans (hb12.mono HB11.out.size))
          have HL2 := Lib.hid ((HT9.out.below HB12.out).swap.list (by have := HLA.out; omega))
          clear hb12
          go_wp2_with fail
          refine HL2.out.mono ?_
          rintro e' w13 ⟨ao13, c13, ss13, rfl, hnm, ho, hb13⟩
          obtain ⟨hnm2, hgl⟩ := perm_gl HS2.out hnm
          rw [hgl, count_same hnm2 H32.out, HCL.out] at ho ⊢
          obtain ⟨ao13', c13', e13, hr13⟩ := rdg_own ho
          simp only [Value.slice.injEq, true_and] at e13
          obtain ⟨rfl, rfl⟩ := e13
          have HB13 := Lib.hid (HB12.out.trans (hb13.mono HB12.out.size))
          have HG13 := Lib.hid (ghosts_any ao13 c13 L w13 hr13 (by have := HLG.out; omega))
          clear hnm hnm2 hgl ho hb13 hr13
          go_wp2_with fail
          refine HG13.out.mono ?_
          rintro e' w14 ⟨v14, rfl, ho, hb14⟩
          obtain ⟨ao14, c14, rfl, hr14⟩ := rdg_own ho
          have HB14 := Lib.hid (HB13.out.trans (hb14.mono HB13.out.size))
          have HE2 := Lib.hid (same_any ao14 ao9 c14 c9 L L w14 hr14 (HR9.out.on HB14.out (Nat.le_refl _)) (by have := HLG.out; omega) (by have := HLG.out; omega))
          clear ho hb14 hr14
          go_wp2_with fail
          refine HE2.out.mono ?_
          rintro e' w15 ⟨rfl, hb15⟩
          simp only [decide_true]
          have HB15 := Lib.hid (HB14.out.trans (hb15.mono HB14.out.size))
          clear hb15
          go_wp2_with fail
          go_ret
          have hl9 : Below w.heap.size w w9 := HR.out.2.trans (HT9.out.low.mono HR.out.2.size)
          exact ⟨rfl, hl9.trans (HB15.out.mono hl9.size)⟩
end Go.Proofs.Ytgjjfodogkcmmaa.Gh

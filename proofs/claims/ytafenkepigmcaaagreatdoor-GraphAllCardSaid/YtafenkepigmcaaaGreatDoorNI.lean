/- graph: a request of its own, walked; the law's do. -/
import Derived.Test.YtafenkepigmcaaaGreatDoorNM
import Derived.Laws.AppendOwnNone
namespace Go.Proofs.YtafenkepigmcaaaGreatDoor.Gr
open Go Go.RowKit YtafenkepigmcaaaGreatDoor.So
def oCells (os : List Ox) : List Value := os.flatMap opC
theorem oCells_len (os : List Ox) : (oCells os).length = os.length * 7 := by
  induction os with
  | nil => rfl
  | cons o os ih =>
    have e : oCells (o :: os) = opC o ++ oCells os := rfl
    rw [e, List.length_append, List.length_cons, ih]
    have : (opC o).length = 7 := rfl
    omega
theorem opC_at (o : Ox) : (opC o)[0]? = some (.int .u8 o.kd) ∧ (opC o)[1]? = some (.int .u32 o.A) ∧ (opC o)[2]? = some (.int .u32 o.B) ∧ (opC o)[3]? = some (.int .u8 o.key) ∧ (opC o)[4]? = some (.int .u8 o.a.k) ∧ (opC o)[5]? = some (.int .i64 o.a.n) ∧ (opC o)[6]? = some (.string o.a.s) := ⟨rfl, rfl, rfl, rfl, rfl, rfl, rfl⟩
theorem oCells_at {os : List Ox} {i : Nat} {o : Ox} (h : os[i]? = some o) (k : Nat) (hk : k < 7) : (oCells os)[i * 7 + k]? = (opC o)[k]? := by
  induction os generalizing i with
  | nil => simp at h
  | cons a os ih =>
    have e : oCells (a :: os) = opC a ++ oCells os := rfl
    have hl : (opC a).length = 7 := rfl
    rw [e]
    cases i with
    | zero =>
      simp at h; subst h
      rw [List.getElem?_append_left (by omega)]; simp
    | succ i =>
      simp at h
      rw [List.getElem?_append_right (by omega), hl, show (i + 1) * 7 + k - 7 = i * 7 + k by omega]
      exact ih h
theorem RdO.flat {w : World} {ad : Addr} {os : List Ox} (h : RdO w (some ad) os) : ∀ j u, (oCells os)[j]? = some u → w.cell? (ad.add j) = some u := by
  intro j u hu
  have hj : j < os.length * 7 := by rw [← oCells_len]; exact (List.getElem?_eq_some_iff.1 hu).1
  have hi : j / 7 < os.length := by omega
  have ho := List.getElem?_eq_getElem hi
  have e := oCells_at ho (j % 7) (Nat.mod_lt _ (by decide))
  have ej : j / 7 * 7 + j % 7 = j := by omega
  rw [ej, hu] at e
  obtain ⟨b, off, ea, hb, q0, q1, q2, q3, q4, q5, q6⟩ := h _ _ ho
  cases ea
  obtain ⟨c0, c1, c2, c3, c4, c5, c6⟩ := opC_at (os[j / 7])
  have hm : j % 7 < 7 := Nat.mod_lt _ (by decide)
  have ha : (⟨b, off, none⟩ : Addr).add j = ⟨b, off + j, none⟩ := by simp [Addr.add]
  rw [ha]
  have key : ∀ k v, j % 7 = k → (opC (os[j / 7]))[k]? = some v → w.cell? ⟨b, off + (j / 7) * 7 + k, none⟩ = some v → w.cell? ⟨b, off + j, none⟩ = some u := fun k v hk hv hc => by
    rw [hk, hv] at e
    rw [show off + j = off + (j / 7) * 7 + k by omega, hc, e]
  rcases (show j % 7 = 0 ∨ j % 7 = 1 ∨ j % 7 = 2 ∨ j % 7 = 3 ∨ j % 7 = 4 ∨ j % 7 = 5 ∨ j % 7 = 6 by omega) with q | q | q | q | q | q | q
  · exact key 0 _ q c0 (by simpa using q0)
  · exact key 1 _ q c1 q1
  · exact key 2 _ q c2 q2
  · exact key 3 _ q c3 q3
  · exact key 4 _ q c4 q4
  · exact key 5 _ q c5 q5
  · exact key 6 _ q c6 q6
theorem row_rdO {w : World} {B n : Nat} {v : Value} {os : List Ox} (h : w.ownsRow B 75 7 v n (oCells os)) (hn : n = os.length) : ∃ ao cap, v = .slice ao n cap ∧ RdO w ao os ∧ (∀ ad, ao = some ad → B ≤ ad.block) ∧ (ao = none → cap = 0) := by
  rcases h.2 with ⟨rfl, h0⟩ | ⟨g, cap, cur, rfl, h1, h2, h3, h4, h5, h6⟩
  · refine ⟨none, 0, by rw [h0], fun i o hi => ?_, fun ad e => (by cases e), fun _ => rfl⟩
    have : os = [] := List.eq_nil_of_length_eq_zero (by omega)
    rw [this] at hi; simp at hi
  · have hg := (Array.getElem?_eq_some_iff.1 h2).1
    refine ⟨_, cap, rfl, fun i o hi => ⟨g, 0, rfl, hg, ?_⟩, fun ad e => by cases e; exact h1, fun e => by cases e⟩
    have cc : ∀ (k : Nat) (u : Value), (oCells os)[k]? = some u → w.cell? ⟨g, 0 + k, none⟩ = some u := fun k u hu => by
      rw [← h6, List.getElem?_take] at hu
      split at hu
      · simp only [World.cell?, h2]
        simpa using hu
      · cases hu
    obtain ⟨c0, c1, c2, c3, c4, c5, c6⟩ := opC_at o
    have dd : ∀ (k : Nat) (u : Value), k < 7 → (opC o)[k]? = some u → w.cell? ⟨g, 0 + (i * 7 + k), none⟩ = some u := fun k u hk hu => cc _ _ (by rw [oCells_at hi k hk]; exact hu)
    exact ⟨dd 0 _ (by omega) c0, by have := dd 1 _ (by omega) c1; rwa [← Nat.add_assoc] at this, by have := dd 2 _ (by omega) c2; rwa [← Nat.add_assoc] at this, by have := dd 3 _ (by omega) c3; rwa [← Nat.add_assoc] at this, by have := dd 4 _ (by omega) c4; rwa [← Nat.add_assoc] at this, by have := dd 5 _ (by omega) c5; rwa [← Nat.add_assoc] at this, by have := dd 6 _ (by omega) c6; rwa [← Nat.add_assoc] at this⟩
theorem info75 : (Tryz.prog.info? 75).map (fun i => (i.zero, i.size, i.bytes)) = some (some (.agg #[.int .u8 0, .int .u32 0, .int .u32 0, .int .u8 0, .int .u8 0, .int .i64 0, .string ⟨#[]⟩]), 7, 48) := by kernel_rfl
theorem size33 : (Tryz.prog.info? 33).map (·.size) = some 5 := by kernel_rfl
theorem oOne (os : List Ox) : ∀ u ∈ oCells os, u.oneCell' = true := by
  intro u hu
  obtain ⟨o, _, ho⟩ := List.mem_flatMap.1 hu
  unfold opC at ho
  simp at ho
  rcases ho with rfl | rfl | rfl | rfl | rfl | rfl | rfl <;> rfl
/-- Operations laid anew: appended to an empty literal. -/
theorem wpList_twinO {w : World} {ops : Array Oper} {rest : List Oper} {o : Oper} {a : Act} {Q : Exit → Act → World → Prop} (hgd : o.guard = none) (s x : Operand)
    (ho : o.op = .call { callee := .builtin .append, args := #[s, x], argTypes := #[31, 31] })
    (base g : Nat) (hs : a.eval s = .slice (some ⟨g, 0, none⟩) 0 0) (hown : w.ownsRow base 75 7 (.slice (some ⟨g, 0, none⟩) 0 0) 0 [])
    (ao : Option Addr) (c : Nat) (L : List Ox) (hx : a.eval x = .slice ao L.length c) (hno : ao = none → c = 0) (hr : RdO w ao L)
    (hL : L.length * 48 ≤ 140737488355328) (hbase : base ≤ w.heap.size)
    (h : ∀ v' w', w'.ownsRow base 75 7 v' L.length (oCells L) → w.grownBy w' (some g) → wpList Tryz.prog ops Q rest (a.put o.dst v') w') : wpList Tryz.prog ops Q (o :: rest) a w := by
  obtain ⟨i0, hi, hz0, hz1, hz2⟩ := info_parts info75
  cases ao with
  | none =>
    have h0 : L = [] := by
      cases L with
      | nil => rfl
      | cons t L => obtain ⟨b, off, e, _⟩ := hr 0 t rfl; cases e
    subst h0
    obtain rfl := hno rfl
    exact wpList_append_own_none hgd s x 31 ho base 75 i0 7 Tryz.underlying31 hi _ 0 [] hs hown hx (h _ w hown ⟨rfl, rfl, rfl, Nat.le_refl _, fun _ _ _ => rfl⟩)
  | some ad =>
    refine wpList_append_own w hgd s x 31 ho base 75 i0 _ 7 48 Tryz.underlying31 hi hz0 hz1 hz2 rfl (by decide) _ 0 [] hs hown ad L.length c (oCells L) hx (oCells_len L) hr.flat (oOne L) (by unfold maxLen; omega) (by omega) hbase ?_
    intro v' w' h1 h2 h3
    rw [Nat.zero_add, List.nil_append] at h1
    exact h v' w' h1 h2
theorem five {w : World} {b : Nat} {c0 c1 c2 c3 c4 : Value} {t : TypeId} (u0 u1 u2 u3 u4 : Value) (h : w.heap[b]? = some (.cells #[c0, c1, c2, c3, c4] t (0, 0))) :
    w.cell? ⟨b, 0, none⟩ = some c0 ∧ w.frozen? ⟨b, 0, none⟩ = false ∧
    (w.setCell ⟨b, 0, none⟩ u0).cell? ⟨b, 1, none⟩ = some c1 ∧ (w.setCell ⟨b, 0, none⟩ u0).frozen? ⟨b, 1, none⟩ = false ∧
    ((w.setCell ⟨b, 0, none⟩ u0).setCell ⟨b, 1, none⟩ u1).cell? ⟨b, 2, none⟩ = some c2 ∧ ((w.setCell ⟨b, 0, none⟩ u0).setCell ⟨b, 1, none⟩ u1).frozen? ⟨b, 2, none⟩ = false ∧
    (((w.setCell ⟨b, 0, none⟩ u0).setCell ⟨b, 1, none⟩ u1).setCell ⟨b, 2, none⟩ u2).cell? ⟨b, 3, none⟩ = some c3 ∧ (((w.setCell ⟨b, 0, none⟩ u0).setCell ⟨b, 1, none⟩ u1).setCell ⟨b, 2, none⟩ u2).frozen? ⟨b, 3, none⟩ = false ∧
    ((((w.setCell ⟨b, 0, none⟩ u0).setCell ⟨b, 1, none⟩ u1).setCell ⟨b, 2, none⟩ u2).setCell ⟨b, 3, none⟩ u3).cell? ⟨b, 4, none⟩ = some c4 ∧ ((((w.setCell ⟨b, 0, none⟩ u0).setCell ⟨b, 1, none⟩ u1).setCell ⟨b, 2, none⟩ u2).setCell ⟨b, 3, none⟩ u3).frozen? ⟨b, 4, none⟩ = false ∧
    (((((w.setCell ⟨b, 0, none⟩ u0).setCell ⟨b, 1, none⟩ u1).setCell ⟨b, 2, none⟩ u2).setCell ⟨b, 3, none⟩ u3).setCell ⟨b, 4, none⟩ u4).heap[b]? = some (.cells #[u0, u1, u2, u3, u4] t (0, 0)) := by
  have h1 := set_block (i := 0) (v := u0) h
  have h2 := set_block (i := 1) (v := u1) h1
  have h3 := set_block (i := 2) (v := u2) h2
  have h4 := set_block (i := 3) (v := u3) h3
  have h5 := set_block (i := 4) (v := u4) h4
  exact ⟨by simp [World.cell?, h], free4 h, by simp [World.cell?, h1], free4 h1, by simp [World.cell?, h2], free4 h2, by simp [World.cell?, h3], free4 h3, by simp [World.cell?, h4], free4 h4, h5.trans rfl⟩
theorem five_turned (w : World) (b : Nat) (u0 u1 u2 u3 u4 : Value) : Turned (fun k => k = b) w (((((w.setCell ⟨b, 0, none⟩ u0).setCell ⟨b, 1, none⟩ u1).setCell ⟨b, 2, none⟩ u2).setCell ⟨b, 3, none⟩ u3).setCell ⟨b, 4, none⟩ u4) :=
  ((((turned_set w b 0 u0).then (turned_set _ b 1 u1)).then (turned_set _ b 2 u2)).then (turned_set _ b 3 u3)).then (turned_set _ b 4 u4)
end Go.Proofs.YtafenkepigmcaaaGreatDoor.Gr
/- graph: TwinReq, the law's do, walked. -/
namespace Go.Proofs.YtafenkepigmcaaaGreatDoor.Gr
open Go Go.RowKit YtafenkepigmcaaaGreatDoor.So
theorem row_empty (w : World) (B : Nat) (hB : B ≤ w.heap.size) : (w.alloc (.cells #[] 75)).ownsRow B 75 7 (.slice (some ⟨w.heap.size, 0, none⟩) 0 0) 0 [] :=
  ⟨rfl, .inr ⟨w.heap.size, 0, #[], rfl, hB, heap_alloc_new w _, Nat.le_refl _, by decide, rfl, rfl⟩⟩
def TwPost (r : Rq) (w : World) (e : Ending) (w' : World) : Prop := ∃ ao' cap', e = .returned (r.val ao' cap') ∧ RdO w' ao' r.os ∧ (∀ ad, ao' = some ad → w.heap.size ≤ ad.block) ∧ (ao' = none → cap' = 0) ∧ Below w.heap.size w w'
set_option maxRecDepth 100000 in
set_option maxHeartbeats 2000000 in
theorem twin_any (r : Rq) (ao : Option Addr) (cap : Nat) (w : World) (hO : RdO w ao r.os) (hno : ao = none → cap = 0) (hl : r.os.length * 48 ≤ 140737488355328) : Calls Tryz.prog 17 #[r.val ao cap] w (TwPost r w) := by
  have HR := Lib.hid (fun (w : World) (v' : Value) (B : Nat) (h : w.ownsRow B 75 7 v' r.os.length (oCells r.os)) => row_rdO h rfl)
  have HF := Lib.hid (show ∀ ao' cap' (w' : World), RdO w' ao' r.os → (∀ ad, ao' = some ad → w.heap.size ≤ ad.block) → (ao' = none → cap' = 0) → Below w.heap.size w w' → TwPost r w (.returned (r.val ao' cap')) w' from fun ao' cap' w' h1 h2 h3 h4 => ⟨ao', cap', rfl, h1, h2, h3, h4⟩)
  obtain ⟨kd, os, V, K, To⟩ := r
  unfold Rq.val at HF ⊢
  simp only at hO hl HR HF ⊢
  have b1 := (Below.refl w.heap.size w).alloc (Nat.le_refl _) (.cells #[.int .u8 kd, .slice ao os.length cap, .int .u32 V, .int .i64 K, .int .i64 To] 33)
  have b2 := b1.alloc b1.size (.cells #[.int .u8 0, .slice none 0 0, .int .u32 0, .int .i64 0, .int .i64 0] 33)
  have k1 := (heap_alloc_old (w.alloc (.cells #[.int .u8 kd, .slice ao os.length cap, .int .u32 V, .int .i64 K, .int .i64 To] 33)) (.cells #[.int .u8 0, .slice none 0 0, .int .u32 0, .int .i64 0, .int .i64 0] 33) (by simp)).trans (heap_alloc_new w (.cells #[.int .u8 kd, .slice ao os.length cap, .int .u32 V, .int .i64 K, .int .i64 To] 33))
  have k2 := heap_alloc2_new w (.cells #[.int .u8 kd, .slice ao os.length cap, .int .u32 V, .int .i64 K, .int .i64 To] 33) (.cells #[.int .u8 0, .slice none 0 0, .int .u32 0, .int .i64 0, .int .i64 0] 33)
  obtain ⟨N, hN⟩ : ∃ N, os.length = N := ⟨_, rfl⟩
  rw [hN] at b1 b2 k1 k2 HR ⊢
  obtain ⟨z, hz⟩ : ∃ z, w.heap.size = z := ⟨_, rfl⟩
  obtain ⟨W, hW⟩ : ∃ W, (w.alloc (.cells #[.int .u8 kd, .slice ao N cap, .int .u32 V, .int .i64 K, .int .i64 To] 33)).alloc (.cells #[.int .u8 0, .slice none 0 0, .int .u32 0, .int .i64 0, .int .i64 0] 33) = W := ⟨_, rfl⟩
  rw [hW] at b2 k1 k2
  rw [hz] at k1 k2
  have k1' := (heap_alloc_old W (.cells #[] 75) (Array.getElem?_eq_some_iff.1 k1).1).trans k1
  have k2' := (heap_alloc_old W (.cells #[] 75) (Array.getElem?_eq_some_iff.1 k2).1).trans k2
  have b3 := b2.alloc b2.size (.cells #[] 75)
  have he := row_empty W W.heap.size (Nat.le_refl _)
  have hO3 := hO.on (K := fun _ => False) (below_any b3) (fun _ _ h => h)
  have HK := Lib.hid (And.intro k1' (And.intro k2' (And.intro b3 (And.intro hO3 (And.intro he (And.intro hno (And.intro hl hN)))))))
  obtain ⟨x0, x1, x2, x3, x4⟩ := bq k1'
  obtain ⟨v0, v1, v2, v3, v4⟩ := bq k1
  have HZ := Lib.hid (show z + 1 < W.heap.size ∧ z = w.heap.size from ⟨(Array.getElem?_eq_some_iff.1 k2).1, hz.symm⟩)
  clear hO hno hl b1 b2 k1 k2 k1' k2' b3 he hO3
  go_enter Tryz.func17, Tryz.ntmps17
  go_wp2_with (at_builtin; refine wpList_twinO rfl (.tmp 3) (.tmp 5) rfl W.heap.size W.heap.size rfl HK.out.2.2.2.2.1 ao cap os (by rw [HK.out.2.2.2.2.2.2.2]; rfl) HK.out.2.2.2.2.2.1 HK.out.2.2.2.1 HK.out.2.2.2.2.2.2.1 (by simp) ?_; intro v' w3 hown hgrow; rw [HK.out.2.2.2.2.2.2.2] at hown; obtain ⟨a', c', rfl, hrd, had, hno'⟩ := HR.out w3 v' _ hown; have k3 := (hgrow.block z (Array.getElem?_eq_some_iff.1 HK.out.1).1 (fun e => by have := Option.some.inj e; have := HZ.out.1; omega)).trans HK.out.1; have k4 := (hgrow.block (z + 1) (Array.getElem?_eq_some_iff.1 HK.out.2.1).1 (fun e => by have := Option.some.inj e; have := HZ.out.1; omega)).trans HK.out.2.1; have y1 : w3.cell? ⟨z, 1, none⟩ = some (.slice ao N cap) := (by simp [World.cell?, k3]); have f1 := free4 (i := 1) k3; have k5 := set_block (i := 1) (v := .slice a' N c') k3; have k6 := (turned_set w3 z 1 (.slice a' N c')).block (z + 1) (Array.getElem?_eq_some_iff.1 k4).1 (by omega); obtain ⟨m0, m1, m2, m3, m4⟩ := bq (show (w3.setCell ⟨z, 1, none⟩ (.slice a' N c')).heap[z]? = some (.cells #[.int .u8 kd, .slice a' N c', .int .u32 V, .int .i64 K, .int .i64 To] 33 (0, 0)) from k5); obtain ⟨p0, g0, p1, g1, p2, g2, p3, g3, p4, g4, hend⟩ := five (.int .u8 kd) (.slice a' N c') (.int .u32 V) (.int .i64 K) (.int .i64 To) (k6.trans k4); have H3 := Lib.hid (And.intro hown (And.intro hgrow (And.intro hrd (And.intro had (And.intro hno' (And.intro hend (And.intro k3 (k6.trans k4)))))))); clear hown hgrow hrd had hno' hend k3 k4 k5 k6)
  refine bodyPost_ret (v := .agg #[.int .u8 kd, .slice a' N c', .int .u32 V, .int .i64 K, .int .i64 To]) (results_cell_row rfl _ _ (z + 1) 33 _ (0, 0) _ rfl H3.out.2.2.2.2.2.1 Tryz.underlying33 rfl size33) rfl ?_
  have tt : Turned (fun k => k = z ∨ k = z + 1) w3 (((((((w3.setCell ⟨z, 1, none⟩ (.slice a' N c')).setCell ⟨z + 1, 0, none⟩ (.int .u8 kd)).setCell ⟨z + 1, 1, none⟩ (.slice a' N c')).setCell ⟨z + 1, 2, none⟩ (.int .u32 V)).setCell ⟨z + 1, 3, none⟩ (.int .i64 K)).setCell ⟨z + 1, 4, none⟩ (.int .i64 To))) :=
    ((turned_set w3 z 1 (.slice a' N c')).mono (fun k hk => .inl hk)).then ((five_turned (w3.setCell ⟨z, 1, none⟩ (.slice a' N c')) (z + 1) (.int .u8 kd) (.slice a' N c') (.int .u32 V) (.int .i64 K) (.int .i64 To)).mono (fun k hk => .inr hk))
  have hb3 : Below w.heap.size w w3 := HK.out.2.2.1.grown H3.out.2.1 HK.out.2.2.1.size (fun k e => by have := Option.some.inj e; have := HZ.out; omega)
  have q := HF.out a' c' _ (H3.out.2.2.1.on tt (fun ad e hk => by have := H3.out.2.2.2.1 ad e; have := HZ.out; omega)) (fun ad e => by have := H3.out.2.2.2.1 ad e; have := HZ.out; omega) H3.out.2.2.2.2.1 (hb3.trans (tt.below hb3.size (fun k hk => by have := HZ.out; omega)))
  rw [HK.out.2.2.2.2.2.2.2] at q
  exact q
set_option maxRecDepth 100000 in
set_option maxHeartbeats 2000000 in
theorem do_law (g n : Nat) (F : Nat → Prop) (G : GV) (r : Rq) (ao : Option Addr) (cap : Nat) (w : World) (h : DoIn w F n g G ⟨r.kd, [], r.V, r.K, r.To⟩ none) (hO : RdO w ao r.os) (hwf : ∀ o ∈ r.os, o.wf) (hno : ao = none → cap = 0) (hl : r.os.length * 48 ≤ 140737488355328) : Calls Tryz.prog 30 #[.pointer (some ⟨g, 0, none⟩), r.val ao cap] w (DoPost w F n g G r) := by
  have b1 := (Below.refl w.heap.size w).alloc (Nat.le_refl _) (.cells #[.int .u8 r.kd, .slice ao r.os.length cap, .int .u32 r.V, .int .i64 r.K, .int .i64 r.To] 33)
  have b2 := b1.alloc b1.size (.cells #[.int .i64 0, .int .i64 0, .slice none 0 0, .slice none 0 0] 39)
  have k1 := (heap_alloc_old (w.alloc (.cells #[.int .u8 r.kd, .slice ao r.os.length cap, .int .u32 r.V, .int .i64 r.K, .int .i64 r.To] 33)) (.cells #[.int .i64 0, .int .i64 0, .slice none 0 0, .slice none 0 0] 39) (by simp)).trans (heap_alloc_new w (.cells #[.int .u8 r.kd, .slice ao r.os.length cap, .int .u32 r.V, .int .i64 r.K, .int .i64 r.To] 33))
  have k2 := heap_alloc2_new w (.cells #[.int .u8 r.kd, .slice ao r.os.length cap, .int .u32 r.V, .int .i64 r.K, .int .i64 r.To] 33) (.cells #[.int .i64 0, .int .i64 0, .slice none 0 0, .slice none 0 0] 39)
  have HT := Lib.hid (twin_any r ao cap _ (hO.on (K := fun _ => False) (below_any b2) (fun _ _ h => h)) hno hl)
  have HH := Lib.hid h
  have HW := Lib.hid hwf
  have HD := Lib.hid (fun ao' cap' w1 (h1 : DoIn w1 F n g G r ao') => do_any g n F G r ao' cap' w1 h1)
  obtain ⟨rv, hrv⟩ : ∃ rv, rv = r := ⟨_, rfl⟩
  obtain ⟨kd, os, V, K, To⟩ := r
  unfold TwPost at HT
  unfold Rq.val at HT HD ⊢
  simp only at b1 b2 k1 k2 HT HD ⊢
  obtain ⟨N, hN⟩ : ∃ N, os.length = N := ⟨_, rfl⟩
  obtain ⟨z, hz⟩ : ∃ z, w.heap.size = z := ⟨_, rfl⟩
  rw [hN] at b1 b2 k1 k2 HT HD ⊢
  obtain ⟨W, hW⟩ : ∃ W, (w.alloc (.cells #[.int .u8 kd, .slice ao N cap, .int .u32 V, .int .i64 K, .int .i64 To] 33)).alloc (.cells #[.int .i64 0, .int .i64 0, .slice none 0 0, .slice none 0 0] 39) = W := ⟨_, rfl⟩
  rw [hW] at b2 k1 k2 HT
  rw [hz] at k1 k2
  have HK := Lib.hid (And.intro b2 (And.intro k2 hz))
  obtain ⟨x0, x1, x2, x3, x4⟩ := bq k1
  clear h hO hwf b1 b2 k1 k2 hN hno hl hrv
  go_enter Tryz.func30, Tryz.ntmps30
  go_wp2_with fail
  clear hW hz
  refine HT.out.mono ?_
  rintro e w1 ⟨ao1, cap1, rfl, hrd, had, hno1, hb1⟩
  have HB1 := Lib.hid (show Below w.heap.size w w1 from HK.out.1.trans (hb1.mono HK.out.1.size))
  have hk2 := (hb1.block (z + 1) (Array.getElem?_eq_some_iff.1 HK.out.2.1).1).trans HK.out.2.1
  have HK2 := Lib.hid hk2
  have hin : DoIn w1 F n g G ⟨kd, os, V, K, To⟩ ao1 := ⟨HH.out.gp.below HB1.out, HH.out.n40, HH.out.nn, HH.out.few, HH.out.cl, hrd, fun ad e hf => by have := had ad e; have := gp_lt HH.out.gp _ hf; have := HK.out.1.size; omega, HW.out, HH.out.v32, Flt.ErrT.on HH.out.err HB1.out, HH.out.f0⟩
  have HD2 := Lib.hid (HD.out ao1 cap1 w1 hin)
  clear hrd had hno1 hb1 hk2 hin x0 x1 x2 x3 x4
  go_wp2_with fail
  refine HD2.out.mono ?_
  rintro e w2 ⟨vv, lv, rfl, has⟩
  obtain ⟨av, cv, rfl⟩ := row_slice has.vals
  obtain ⟨al, cl, rfl⟩ := row_slice has.list
  have hz1 : z + 1 < w1.heap.size := (Array.getElem?_eq_some_iff.1 HK2.out).1
  have hk3 := (has.tur.block (z + 1) hz1 (fun hf => by have := gp_lt HH.out.gp _ hf; have := HK.out.2.2; omega)).trans HK2.out
  have HBx := Lib.hid hk3
  have HAs := Lib.hid (And.intro has hz1)
  obtain ⟨E, hE⟩ : ∃ E, (ansG G ⟨kd, os, V, K, To⟩).E = E := ⟨_, rfl⟩
  obtain ⟨At, hAt⟩ : ∃ At, (ansG G ⟨kd, os, V, K, To⟩).At = At := ⟨_, rfl⟩
  obtain ⟨nv, hnv⟩ : ∃ nv, (ansG G ⟨kd, os, V, K, To⟩).vals.length = nv := ⟨_, rfl⟩
  obtain ⟨nl, hnl⟩ : ∃ nl, (ansG G ⟨kd, os, V, K, To⟩).list.length = nl := ⟨_, rfl⟩
  rw [hE, hAt, hnv, hnl]
  rw [hnv, hnl] at HAs
  have HEq := Lib.hid (And.intro hE hAt)
  obtain ⟨p0, f0, p1, f1, p2, f2, p3, f3, hend⟩ := four (.int .i64 E) (.int .i64 At) (.slice av nv cv) (.slice al nl cl) HBx.out
  have HEnd := Lib.hid hend
  clear hend has hk3 hE hAt hnv hnl hz1
  go_wp2_with fail
  refine bodyPost_ret (v := .agg #[.int .i64 E, .int .i64 At, .slice av nv cv, .slice al nl cl]) (results_cell_row rfl _ _ (z + 1) 39 _ (0, 0) _ rfl HEnd.out Tryz.underlying39 rfl size39) rfl ?_
  refine ⟨.slice av nv cv, .slice al nl cl, by rw [HEq.out.1, HEq.out.2], ?_⟩
  exact Asked.fin HB1.out (by have := HK.out.2.2; omega) HAs.out.2 (gp_lt HH.out.gp) HBx.out HAs.out.1 _ _ _ _
end Go.Proofs.YtafenkepigmcaaaGreatDoor.Gr
/- graph: List, and a vertex' half, walked. -/
namespace Go.Proofs.YtafenkepigmcaaaGreatDoor.Gr
open Go Go.RowKit YtafenkepigmcaaaGreatDoor.So
set_option maxRecDepth 100000 in
set_option maxHeartbeats 1000000 in
theorem list_any (g n : Nat) (F : Nat → Prop) (G : GV) (w : World) (h : Gp w n F g G) (hn : n ≤ 1000000000000) : Calls Tryz.prog 28 #[.pointer (some ⟨g, 0, none⟩)] w fun e w' => ∃ ao cap, e = .returned (.slice ao G.length cap) ∧ w'.ownsRow w.heap.size 23 1 (.slice ao G.length cap) G.length (KA.u32s (keysE G)) ∧ Below w.heap.size w w' := by
  obtain ⟨mp, me, bp, be, h⟩ := h
  have c0 := h.cells.1
  have b1 := (Below.refl w.heap.size w).alloc (Nat.le_refl _) (.cells #[.map (some mp)] 106)
  have HS := Lib.hid (keysB w.heap.size mp n (.map none) (mapE (fun v _ => .map (some (bp v))) G) (w.alloc (.cells #[.map (some mp)] 106)) (by simp) (by simp) (MapE.on (G := fun _ => False) h.props (below_any b1) id) hn)
  have hl : (mapE (fun v (_ : EL Av × EL Av) => Value.map (some (bp v))) G).length = G.length := mapE_len _ _
  have hk : keysE (mapE (fun v (_ : EL Av × EL Av) => Value.map (some (bp v))) G) = keysE G := by unfold keysE mapE; rw [List.map_map]; rfl
  rw [hl, hk] at HS
  have HB := Lib.hid b1
  clear h hn hl hk b1
  go_enter Tryz.func28, Tryz.ntmps28
  go_wp2_with fail
  refine (KB.keys_any mp w).mono ?_
  rintro e w1 ⟨rfl, rfl⟩
  go_wp2_with fail
  refine HS.out.mono ?_
  rintro e w2 ⟨ao, cap, rfl, ho, hb⟩
  have H := Lib.hid (And.intro ho hb)
  clear ho hb
  go_wp2_with fail
  go_ret
  exact ⟨ao, cap, rfl, row_base H.out.1 HB.out.size, HB.out.trans (H.out.2.mono HB.out.size)⟩
end Go.Proofs.YtafenkepigmcaaaGreatDoor.Gr

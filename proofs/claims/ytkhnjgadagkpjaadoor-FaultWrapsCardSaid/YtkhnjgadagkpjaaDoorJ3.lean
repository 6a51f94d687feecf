/- fault: the law on what is wrapped, walked. -/
import Derived.Test.YtkhnjgadagkpjaaDoorJ1
namespace Go.Proofs.YtkhnjgadagkpjaaDoor.Flt
open Go Go.RowKit Go.Stop Go.Shelf
def consX (a : Int × Int) (X : Nat → Int × Int) : Nat → Int × Int
  | 0 => a
  | i + 1 => X i
theorem lst_cons (a : Int × Int) (X : Nat → Int × Int) (n : Nat) : lst (consX a X) (n + 1) = a :: lst X n := by
  induction n with
  | zero => rfl
  | succ n ih => rw [lst, ih, lst]; rfl
theorem Kit.on {w9 wc : World} {v : Value} {ao : Option Addr} {n : Nat} {X : Nat → Int × Int} {r : Int} (k : Kit w9 v ao n X r) (hb : Below w9.heap.size w9 wc) : Kit wc v ao n X r :=
  ⟨k.ch.on hb (Nat.le_refl _), k.er.on hb, fun w' h => k.pw w' (hb.trans (h.mono hb.size)), k.at2.on hb (Nat.le_refl _), k.n1, k.n30, k.ir, k.r0, k.r1, k.rz⟩
theorem wrap_some (t : TypeId) (x : Value) (op v : Int) (w : World) : Calls Tryd.prog 15 #[.iface t x, .int .i64 op, .int .u32 v] w fun e w' => ∃ t' x', e = .returned (.iface t' x') ∧ (∀ L r, Chain w (.iface t x) L r → Chain w' (.iface t' x') ((op, v) :: L) r) ∧ Below w.heap.size w w' :=
  (wrap_any t x op v w).mono (by
    rintro e w' ⟨rfl, rfl⟩
    exact ⟨_, _, rfl, fun L r h => chain_wrap h op v, box_below _ _⟩)
theorem links_row {v : Value} {Y : Nat → Int × Int} {m : Nat} {r : Int} {wc : World} (h : Chain wc v (lst Y m) r) (m1 : 1 ≤ m) (m2 : m ≤ 1000) : Calls Tryd.prog 10 #[v] wc fun e w' => ∃ g c, e = .returned (.slice (some ⟨g, 0, none⟩) m c) ∧ RowL w' g Y m ∧ Below wc.heap.size wc w' :=
  (links_any v (lst Y m) r wc h (by rw [lst_length]; exact m2)).mono (by
    rintro e w' ⟨v', rfl, ho, hb⟩
    obtain ⟨g, c, e, _, hg, hc⟩ := row_links ho (by rw [lst_length]; exact m1)
    rw [lst_length] at e
    subst e
    exact ⟨g, c, rfl, ⟨hg, hc⟩, hb⟩)
theorem RowL.on {w w' : World} {g : Nat} {X : Nat → Int × Int} {n : Nat} (h : RowL w g X n) (hb : Below w.heap.size w w') : RowL w' g X n :=
  ⟨Nat.lt_of_lt_of_le h.1 hb.size, fun j u hu => (hb.cell (p := ⟨g, j, none⟩) h.1).trans (h.2 j u hu)⟩
/-- Two rows of two cells stay, whatever is called. -/
theorem four_on {w9 wc wn : World} {p1 p2 p3 p4 : Addr} {u1 u2 u3 u4 : Value} (h : ((wc.cell? p1 = some u1 ∧ wc.cell? p2 = some u2) ∧ (wc.cell? p3 = some u3 ∧ wc.cell? p4 = some u4)) ∧ Hid (Below w9.heap.size w9 wc)) (hb : Below wc.heap.size wc wn) :
    ((wn.cell? p1 = some u1 ∧ wn.cell? p2 = some u2) ∧ (wn.cell? p3 = some u3 ∧ wn.cell? p4 = some u4)) ∧ Hid (Below w9.heap.size w9 wn) :=
  have k {p : Addr} {u : Value} (e : wc.cell? p = some u) : wn.cell? p = some u := (hb.cell (World.block_lt_of_cell? wc p e)).trans e
  ⟨⟨⟨k h.1.1.1, k h.1.1.2⟩, k h.1.2.1, k h.1.2.2⟩, Lib.hid (h.2.out.trans (hb.mono h.2.out.size))⟩
/-- The cells that the law's last region loads stay, whatever is called. -/
theorem ten_on {w9 wc wn : World} {p0 p1 p2 p3 p4 p5 p6 p7 p8 p9 : Addr} {u0 u1 u2 u3 u4 u5 u6 u7 u8 u9 : Value} (h : (wc.cell? p0 = some u0 ∧ wc.cell? p1 = some u1 ∧ wc.cell? p2 = some u2 ∧ wc.cell? p3 = some u3 ∧ wc.cell? p4 = some u4 ∧ wc.cell? p5 = some u5 ∧ wc.cell? p6 = some u6 ∧ wc.cell? p7 = some u7 ∧ wc.cell? p8 = some u8 ∧ wc.cell? p9 = some u9) ∧ Hid (Below w9.heap.size w9 wc)) (hb : Below wc.heap.size wc wn) : (wn.cell? p0 = some u0 ∧ wn.cell? p1 = some u1 ∧ wn.cell? p2 = some u2 ∧ wn.cell? p3 = some u3 ∧ wn.cell? p4 = some u4 ∧ wn.cell? p5 = some u5 ∧ wn.cell? p6 = some u6 ∧ wn.cell? p7 = some u7 ∧ wn.cell? p8 = some u8 ∧ wn.cell? p9 = some u9) ∧ Hid (Below w9.heap.size w9 wn) :=
  have k {p : Addr} {u : Value} (e : wc.cell? p = some u) : wn.cell? p = some u := (hb.cell (World.block_lt_of_cell? wc p e)).trans e
  ⟨⟨k h.1.1, k h.1.2.1, k h.1.2.2.1, k h.1.2.2.2.1, k h.1.2.2.2.2.1, k h.1.2.2.2.2.2.1, k h.1.2.2.2.2.2.2.1, k h.1.2.2.2.2.2.2.2.1, k h.1.2.2.2.2.2.2.2.2.1, k h.1.2.2.2.2.2.2.2.2.2⟩, Lib.hid (h.2.out.trans (hb.mono h.2.out.size))⟩
theorem below_at {w9 wc : World} {A : Prop} (hs : A ∧ Hid (Below w9.heap.size w9 wc)) : Below w9.heap.size w9 wc := hs.2.out
theorem Kit.k11x {w9 wc : World} {v v' : Value} {ao : Option Addr} {n m : Nat} {X Y : Nat → Int × Int} {r : Int} {A : Prop} {T : ByteArray} (k : Kit w9 v ao n X r) (hs : A ∧ Hid (Below w9.heap.size w9 wc)) (hch : Chain w9 v' (lst Y m) r) (hY : ∀ i, i < m → InR (Y i)) (hm : m ≤ 1000) (hT : T = chainT (lst Y m) r) :
    Calls Tryd.prog 11 #[v'] wc fun e w' => e = .returned (.string T) ∧ Below wc.heap.size wc w' := by
  have hp : ∀ w, Below wc.heap.size wc w → Pow w := fun w h => k.pw w (hs.2.out.trans (h.mono hs.2.out.size))
  rw [hT]
  exact text_any v' (lst Y m) r wc (hch.on hs.2.out (Nat.le_refl _)) (by rw [lst_length]; exact hm)
    (fun l hl => by obtain ⟨i, hi, rfl⟩ := lst_mem hl; exact told_any wc _ (hY i hi) hp) (saysI_any wc r k.r0 k.r1 hp) k.r0 k.r1 (k.er.on hs.2.out)
theorem k14x {wc : World} {m g c : Nat} {Y : Nat → Int × Int} {r : Int} {T : ByteArray} (hR : RowL wc g Y m) (hY : ∀ i, i < m → InR (Y i)) (hm : m ≤ 1000) (r0 : -9223372036854775808 ≤ r) (r1 : r ≤ 9223372036854775807) (hT : T = chainT (lst Y m) r) :
    Calls Tryd.prog 14 #[.agg #[.slice (some ⟨g, 0, none⟩) m c, .int .i64 r]] wc fun e w' => e = .returned (.string T) ∧ Below wc.heap.size wc w' := by
  rw [hT]
  exact ref_text _ m c Y r wc hm (fun i hi => ⟨g, 0, rfl, hR.1, by rw [Nat.zero_add]; exact (rowl_cells hR i hi).1, by rw [Nat.zero_add]; exact (rowl_cells hR i hi).2⟩) hY r0 r1
theorem inR_cons {a : Int × Int} {X : Nat → Int × Int} {n : Nat} (ha : InR a) (hX : ∀ i, i < n → InR (X i)) : ∀ i, i < n + 1 → InR (consX a X i) := fun i hi => by
  cases i with
  | zero => exact ha
  | succ i => exact hX i (by omega)
theorem if_step {c A E : Prop} [Decidable c] (hc : c) (h : A) : if c then A else E := by rw [if_pos hc]; exact h
theorem trans_at {w9 wc wn : World} {A : Prop} (hs : A ∧ Hid (Below w9.heap.size w9 wc)) (hb : Below wc.heap.size wc wn) : Below w9.heap.size w9 wn := hs.2.out.trans (hb.mono hs.2.out.size)
theorem at2_news {w : World} {b off n : Nat} {X : Nat → Int × Int} (h : At2 w (some ⟨b, off, none⟩) X n) : ∀ j u, (lflat (lst X n))[j]? = some u → w.cell? ((⟨b, off, none⟩ : Addr).add j) = some u := by
  intro j u hu
  have hj : j < n * 2 := by
    have := (List.getElem?_eq_some_iff.1 hu).1
    rwa [lflat_len, lst_length] at this
  have hi : j / 2 < n := by omega
  have e : lst X n = (lst X n).take (j / 2) ++ X (j / 2) :: (lst X n).drop (j / 2 + 1) := by
    conv => lhs; rw [← List.take_append_drop (j / 2) (lst X n), lst_drop X n (j / 2) hi]
  have hl : ((lst X n).take (j / 2)).length = j / 2 := by rw [List.length_take, lst_length]; omega
  have ha := lflat_at ((lst X n).take (j / 2)) ((lst X n).drop (j / 2 + 1)) (X (j / 2))
  rw [← e, hl] at ha
  obtain ⟨c0, c1⟩ := at2_cells h hi
  rw [Go.WideShapes.add_plain]
  rcases Nat.mod_two_eq_zero_or_one j with hm | hm
  · have ej : j = j / 2 * 2 := by omega
    rw [ej] at hu ⊢
    rw [ha.1] at hu
    rw [← hu]; exact c0
  · have ej : j = j / 2 * 2 + 1 := by omega
    rw [ej] at hu ⊢
    rw [ha.2] at hu
    rw [← hu]; exact c1
theorem lflat_one (L : List (Int × Int)) : ∀ u ∈ lflat L, u.oneCell' = true := by
  intro u hu
  unfold lflat at hu
  obtain ⟨l, _, hl⟩ := List.mem_flatMap.1 hu
  exact lone l.1 l.2 u hl
theorem fresh_own {w9 wc : World} {a1 a2 : Int} (hs : Below w9.heap.size w9 wc) : (wc.alloc (.cells #[.int .i64 a1, .int .u32 a2] 42)).ownsRow w9.heap.size 42 2 (.slice (some ⟨wc.heap.size, 0, none⟩) 1 1) 1 [.int .i64 a1, .int .u32 a2] :=
  ⟨rfl, .inr ⟨wc.heap.size, 1, _, rfl, hs.size, World.alloc_heap_new _ _, by omega, by unfold maxLen; omega, rfl, rfl⟩⟩
theorem own_far {w w' : World} {B : Nat} {v : Value} {xs : List Value} (h : w.ownsRow B 42 2 v 1 xs) (hb : Below w.heap.size w w') : w'.ownsRow B 42 2 v 1 xs := by
  refine ⟨h.1, ?_⟩
  rcases h.2 with h0 | ⟨g, cap, cur, h1, h2, h3, h4⟩
  · exact .inl h0
  · exact .inr ⟨g, cap, cur, h1, h2, (hb.block g (Array.getElem?_eq_some_iff.1 h3).1).trans h3, h4⟩
/-- The law's own append: the links behind one of their own. -/
theorem app_step {w9 wc : World} {A : Prop} {o : Oper} {ac : Act} {K : Act → World → Prop} {Q : Exit → Act → World → Prop} {a1 a2 : Int} {b off n c : Nat} {X : Nat → Int × Int} {v : Value} (s x : Operand)
    (ho : o.op = .call { callee := .builtin .append, args := #[s, x], argTypes := #[22, 22] }) (hs : A ∧ Hid (Below w9.heap.size w9 wc))
    (hown : wc.ownsRow w9.heap.size 42 2 v 1 [.int .i64 a1, .int .u32 a2]) (hv : ac.eval s = v) (hx : ac.eval x = .slice (some ⟨b, off, none⟩) n c) (hA : At2 w9 (some ⟨b, off, none⟩) X n) (n1 : 1 ≤ n) (n2 : n ≤ 1000)
    (h : ∀ g cap w', RowL w' g (consX (a1, a2) X) (n + 1) → Below w9.heap.size w9 w' → K (ac.put o.dst (.slice (some ⟨g, 0, none⟩) (n + 1) cap)) w') : o.wp Tryd.prog ac wc K Q := by
  obtain ⟨i0, hi, hz0, hz1, hz2⟩ := info_parts info42
  refine wp_append_lies wc s x 22 ho w9.heap.size 42 i0 _ 2 16 Tryd.underlying22 hi hz0 hz1 hz2 (by rfl) (by decide) v 1 [.int .i64 a1, .int .u32 a2] hv hown ⟨b, off, none⟩ n c (lflat (lst X n)) hx (by rw [lflat_len, lst_length]) (at2_news (hA.on hs.2.out (Nat.le_refl _))) (lflat_one _) n1 (by unfold maxLen; omega) (by omega) hs.2.out.size _ rfl ?_
  intro g cap w' ho' hg _ hlt
  rw [Nat.add_comm 1 n] at ho' ⊢
  refine h g cap w' ⟨hlt, fun j u hu => ?_⟩ (hs.2.out.grown hg hs.2.out.size (fun k hk => (World.ownsRow.lt hown k hk).1))
  rw [lst_cons] at hu
  have e : lflat ((a1, a2) :: lst X n) = [.int .i64 a1, .int .u32 a2] ++ lflat (lst X n) := by simp [lflat]
  rw [e] at hu
  have hj : j < (n + 1) * 2 := by
    have := (List.getElem?_eq_some_iff.1 hu).1
    rw [List.length_append, lflat_len, lst_length] at this
    simp at this; omega
  rw [ho'.cellAt j hj, hu]
set_option maxRecDepth 100000 in
set_option maxHeartbeats 8000000 in
theorem wraps_pos (ao : Option Addr) (n c : Nat) (X : Nat → Int × Int) (r a1 a2 b1 b2 : Int) (w : World) (hnc : n ≤ c) (hc : c ≤ maxLen) (hA : At2 w ao X n) (hX : ∀ i, i < n → InR (X i)) (hg : ErrT w) (hp : ∀ w', Below w.heap.size w w' → Pow w')
    (hr : (r == 0) = false) (r0 : -9223372036854775808 ≤ r) (r1 : r ≤ 9223372036854775807) (ha : InR (a1, a2)) (hbI : InR (b1, b2)) :
    Calls Tryd.prog 4 #[.agg #[.slice ao n c, .int .i64 r], .agg #[.int .i64 a1, .int .u32 a2], .agg #[.int .i64 b1, .int .u32 b2]] w fun e w' => e = .returned (.bool true) ∧ Below w.heap.size w w' := by
  have hb0 := ((box_below w (.cells #[.slice ao n c, .int .i64 r] 24)).trans ((box_below (w.alloc (.cells #[.slice ao n c, .int .i64 r] 24)) (.cells #[.int .i64 a1, .int .u32 a2] 42)).mono (by simp))).trans ((box_below ((w.alloc (.cells #[.slice ao n c, .int .i64 r] 24)).alloc (.cells #[.int .i64 a1, .int .u32 a2] 42)) (.cells #[.int .i64 b1, .int .u32 b2] 42)).mono (by simp; omega))
  have s1 : (w.alloc (.cells #[.slice ao n c, .int .i64 r] 24)).heap.size = w.heap.size + 1 := World.size_alloc _ _
  have s2 : ((w.alloc (.cells #[.slice ao n c, .int .i64 r] 24)).alloc (.cells #[.int .i64 a1, .int .u32 a2] 42)).heap.size = w.heap.size + 2 := by rw [World.size_alloc, s1]
  have s3 : (((w.alloc (.cells #[.slice ao n c, .int .i64 r] 24)).alloc (.cells #[.int .i64 a1, .int .u32 a2] 42)).alloc (.cells #[.int .i64 b1, .int .u32 b2] 42)).heap.size = w.heap.size + 3 := by rw [World.size_alloc, s2]
  have k0 : (((w.alloc (.cells #[.slice ao n c, .int .i64 r] 24)).alloc (.cells #[.int .i64 a1, .int .u32 a2] 42)).alloc (.cells #[.int .i64 b1, .int .u32 b2] 42)).cell? ⟨w.heap.size, 0, none⟩ = some (.slice ao n c) := cell_old (cell_old (by rw [World.cell?_alloc_new]; rfl) _) _
  have k1 : (((w.alloc (.cells #[.slice ao n c, .int .i64 r] 24)).alloc (.cells #[.int .i64 a1, .int .u32 a2] 42)).alloc (.cells #[.int .i64 b1, .int .u32 b2] 42)).cell? ⟨w.heap.size, 1, none⟩ = some (.int .i64 r) := cell_old (cell_old (by rw [World.cell?_alloc_new]; rfl) _) _
  have k2 : (((w.alloc (.cells #[.slice ao n c, .int .i64 r] 24)).alloc (.cells #[.int .i64 a1, .int .u32 a2] 42)).alloc (.cells #[.int .i64 b1, .int .u32 b2] 42)).cell? ⟨w.heap.size + 1, 0, none⟩ = some (.int .i64 a1) := cell_old (by rw [← s1, World.cell?_alloc_new]; rfl) _
  have k3 : (((w.alloc (.cells #[.slice ao n c, .int .i64 r] 24)).alloc (.cells #[.int .i64 a1, .int .u32 a2] 42)).alloc (.cells #[.int .i64 b1, .int .u32 b2] 42)).cell? ⟨w.heap.size + 1, 1, none⟩ = some (.int .u32 a2) := cell_old (by rw [← s1, World.cell?_alloc_new]; rfl) _
  have k4 : (((w.alloc (.cells #[.slice ao n c, .int .i64 r] 24)).alloc (.cells #[.int .i64 a1, .int .u32 a2] 42)).alloc (.cells #[.int .i64 b1, .int .u32 b2] 42)).cell? ⟨w.heap.size + 2, 0, none⟩ = some (.int .i64 b1) := by rw [← s2, World.cell?_alloc_new]; rfl
  have k5 : (((w.alloc (.cells #[.slice ao n c, .int .i64 r] 24)).alloc (.cells #[.int .i64 a1, .int .u32 a2] 42)).alloc (.cells #[.int .i64 b1, .int .u32 b2] 42)).cell? ⟨w.heap.size + 2, 1, none⟩ = some (.int .u32 b2) := by rw [← s2, World.cell?_alloc_new]; rfl
  have HA := Lib.hid (hA.on hb0 (Nat.le_refl _))
  have HG := Lib.hid (hg.on hb0)
  have HB0 := Lib.hid hb0
  have HX := Lib.hid hX
  have HL := Lib.hid (And.intro hnc hc)
  have HP := Lib.hid hp
  have HR := Lib.hid (And.intro r0 r1)
  have HI := Lib.hid (And.intro ha hbI)
  have HK := Lib.hid (And.intro (And.intro k0 k1) (And.intro (And.intro k2 k3) (And.intro k4 k5)))
  clear hA hg hb0 hX hnc hc hp r0 r1 ha hbI k0 k1 k2 k3 k4 k5
  go_enter Tryd.func4, Tryd.ntmps4
  go_wp2_with fail
  generalize hw0 : (((w.alloc (.cells #[.slice ao n c, .int .i64 r] 24)).alloc (.cells #[.int .i64 a1, .int .u32 a2] 42)).alloc (.cells #[.int .i64 b1, .int .u32 b2] 42)) = w0 at *
  clear hw0 s1 s2
  refine (awake_any _ HG.out).mono ?_
  rintro e w1 ⟨rfl, hb⟩
  obtain ⟨⟨k0, k1⟩, ⟨k2, k3⟩, k4, k5⟩ := HK.out
  have q0 := (hb.cell (p := ⟨w.heap.size, 0, none⟩) (by simp only; omega)).trans k0
  have q1 := (hb.cell (p := ⟨w.heap.size, 1, none⟩) (by simp only; omega)).trans k1
  have q2 := (hb.cell (p := ⟨w.heap.size + 1, 0, none⟩) (by simp only; omega)).trans k2
  have q3 := (hb.cell (p := ⟨w.heap.size + 1, 1, none⟩) (by simp only; omega)).trans k3
  have q4 := (hb.cell (p := ⟨w.heap.size + 2, 0, none⟩) (by simp only; omega)).trans k4
  have q5 := (hb.cell (p := ⟨w.heap.size + 2, 1, none⟩) (by simp only; omega)).trans k5
  have HA1 := Lib.hid (HA.out.on hb (Nat.le_refl _))
  have HB1 := Lib.hid (HB0.out.trans (hb.mono HB0.out.size))
  have HG1 := Lib.hid (HG.out.on hb)
  have z1 : w.heap.size + 2 < w1.heap.size := by have := hb.size; omega
  have HK1 := Lib.hid (And.intro q1 (And.intro (And.intro q2 q3) (And.intro q4 q5)))
  clear hb HB0 HA HG HK s3 k0 k1 k2 k3 k4 k5 q2 q3 q4 q5
  go_wp2_with fail
  refine (build_any ao n c X r w1 HL.out.1 HL.out.2 HA1.out HX.out).mono ?_
  rintro e w2 ⟨v, ao', n', c', X', rfl, _, h2, h3, h4, h5, hv, hb⟩
  have hch : Chain w2 v (lst X' n') r := by
    rcases hv with ⟨_, h⟩ | ⟨h, _⟩
    · exact h
    · rw [h] at hr; cases hr
  obtain ⟨p1, ⟨p2, p3⟩, p4, p5⟩ := HK1.out
  have p1 := (hb.cell (p := ⟨w.heap.size, 1, none⟩) (by simp only; omega)).trans p1
  have p2 := (hb.cell (p := ⟨w.heap.size + 1, 0, none⟩) (by simp only; omega)).trans p2
  have p3 := (hb.cell (p := ⟨w.heap.size + 1, 1, none⟩) (by simp only; omega)).trans p3
  have p4 := (hb.cell (p := ⟨w.heap.size + 2, 0, none⟩) (by simp only; omega)).trans p4
  have p5 := (hb.cell (p := ⟨w.heap.size + 2, 1, none⟩) (by simp only; omega)).trans p5
  obtain ⟨bq, oq, rfl, _, _, _⟩ := h2 0 (by omega)
  have hb3 := box_below w2 (.cells #[.slice (some ⟨bq, oq, none⟩) n' c', .int .i64 r] 24)
  have HB2 := Lib.hid (HB1.out.trans (hb.mono HB1.out.size))
  have HB3 := Lib.hid (HB2.out.trans (hb3.mono HB2.out.size))
  have HKit := Lib.hid (show Kit (w2.alloc (.cells #[.slice (some ⟨bq, oq, none⟩) n' c', .int .i64 r] 24)) v (some ⟨bq, oq, none⟩) n' X' r from
    ⟨hch.on hb3 (Nat.le_refl _), (HG1.out.on hb).on hb3, fun w' h => HP.out w' (HB3.out.trans (h.mono HB3.out.size)), h2.on hb3 (Nat.le_refl _), h3, h4, h5, HR.out.1, HR.out.2, hr⟩)
  have z2 : w.heap.size + 2 < w2.heap.size := by have := hb.size; omega
  have y1 : (w2.alloc (.cells #[.slice (some ⟨bq, oq, none⟩) n' c', .int .i64 r] 24)).cell? ⟨w.heap.size, 1, none⟩ = some (.int .i64 r) := cell_old p1 _
  have y2 : (w2.alloc (.cells #[.slice (some ⟨bq, oq, none⟩) n' c', .int .i64 r] 24)).cell? ⟨w.heap.size + 1, 0, none⟩ = some (.int .i64 a1) := cell_old p2 _
  have y3 : (w2.alloc (.cells #[.slice (some ⟨bq, oq, none⟩) n' c', .int .i64 r] 24)).cell? ⟨w.heap.size + 1, 1, none⟩ = some (.int .u32 a2) := cell_old p3 _
  have y4 : (w2.alloc (.cells #[.slice (some ⟨bq, oq, none⟩) n' c', .int .i64 r] 24)).cell? ⟨w.heap.size + 2, 0, none⟩ = some (.int .i64 b1) := cell_old p4 _
  have y5 : (w2.alloc (.cells #[.slice (some ⟨bq, oq, none⟩) n' c', .int .i64 r] 24)).cell? ⟨w.heap.size + 2, 1, none⟩ = some (.int .u32 b2) := cell_old p5 _
  have y6 : (w2.alloc (.cells #[.slice (some ⟨bq, oq, none⟩) n' c', .int .i64 r] 24)).cell? ⟨w2.heap.size, 0, none⟩ = some (.slice (some ⟨bq, oq, none⟩) n' c') := by rw [World.cell?_alloc_new]; rfl
  have HY := Lib.hid (And.intro y1 (And.intro (And.intro y2 y3) (And.intro (And.intro y4 y5) y6)))
  obtain ⟨t, x, rfl⟩ := chain_some hch
  clear hb hv q0 q1 z1 hb3 h2 h3 h4 h5 hch y1 y2 y3 y4 y5 y6 HK1 HA1 HG1
  go_wp2_with fail
  generalize hw9 : (w2.alloc (.cells #[.slice (some ⟨bq, oq, none⟩) n' c', .int .i64 r] 24)) = w9 at *
  clear hw9
  obtain ⟨y1, ⟨y2, y3⟩, ⟨y4, y5⟩, y6⟩ := HY.out
  have z9 := World.block_lt_of_cell? w9 ⟨w2.heap.size, 0, none⟩ y6
  generalize w2.heap.size = q at *
  clear p1 p2 p3 p4 p5
  go_region_held3 (fun w' => ((w'.cell? ⟨w.heap.size + 1, 0, none⟩ = some (.int .i64 a1) ∧ w'.cell? ⟨w.heap.size + 1, 1, none⟩ = some (.int .u32 a2)) ∧ (w'.cell? ⟨w.heap.size + 2, 0, none⟩ = some (.int .i64 b1) ∧ w'.cell? ⟨w.heap.size + 2, 1, none⟩ = some (.int .u32 b2))) ∧ Hid (Below w9.heap.size w9 w'))
    (first | exact four_on (by assumption) bN | exact ⟨⟨⟨y2, y3⟩, y4, y5⟩, Lib.hid (Below.refl _ _)⟩ | exact ⟨⟨⟨y2, y3⟩, y4, y5⟩, Lib.hid (Below.refl _ _).drew⟩)
    (first
      | (go_at_call 15; have hh := N1; clear hh; refine (wrap_some _ _ _ _ _).mono ?_; rintro e wn ⟨t2, x2, rfl, C2, bN⟩; have bN2 := bN)
      | (go_at_call 15; refine (wrap_some _ _ _ _ _).mono ?_; rintro e wm ⟨t1, x1, rfl, C1, bN⟩; have N1 := True.intro; have bN1 := bN))
  have hA1 : Below w9.heap.size w9 wm := ((Below.refl w9.heap.size w9).drew).trans bN1
  have hA2 : Below w9.heap.size w9 wn := hA1.trans (bN2.mono hA1.size)
  have D1 : Chain wn (.iface t1 x1) (lst (consX (a1, a2) X') (n' + 1)) r := by
    rw [lst_cons]
    exact (C1 _ _ (HKit.out.ch.on (Below.refl _ _).drew (Nat.le_refl _))).on bN2 (Nat.le_refl _)
  have D2 : Chain wn (.iface t2 x2) (lst (consX (b1, b2) X') (n' + 1)) r := by
    rw [lst_cons]
    exact C2 _ _ (HKit.out.ch.on hA1 (Nat.le_refl _))
  have HD1 := Lib.hid D1
  have HD2 := Lib.hid D2
  have HA2 := Lib.hid hA2
  have NN := Lib.hid (And.intro HKit.out.n1 HKit.out.n30)
  have hYn := Lib.hid (ten_on (w9 := w9) (wc := w9) (p6 := ⟨q, 0, none⟩) (p7 := ⟨q, 0, none⟩) (p8 := ⟨q, 0, none⟩) (p9 := ⟨q, 0, none⟩) ⟨⟨y1, y2, y3, y4, y5, y6, y6, y6, y6, y6⟩, Lib.hid (Below.refl _ _)⟩ hA2)
  clear C1 C2 bN1 bN2 N1 hA1 hA2 D1 D2 y1 y2 y3 y4 y5 y6
  rename_i hHeld
  clear hHeld
  go_wp2_with fail
  refine (links_row HD1.out (by omega) (by have := NN.out.2; omega)).mono ?_
  rintro e w3 ⟨g1, c1, rfl, R1, bN3⟩
  have T1 := Lib.hid (turned_row (n := n' + 1) (by omega) (by have := NN.out.2; omega) R1 (c := c1))
  have B3 := Lib.hid bN3
  clear R1 bN3
  go_wp2_with fail
  refine T1.out.mono ?_
  rintro e w4 ⟨ga, ca, rfl, R1, bN4⟩
  have B4 := Lib.hid (B3.out.trans (bN4.mono B3.out.size))
  have RA := Lib.hid R1
  have HD2' := Lib.hid (HD2.out.on B4.out (Nat.le_refl _))
  clear R1 bN4 T1 B3
  go_wp2_with fail
  refine (links_row HD2'.out (by omega) (by have := NN.out.2; omega)).mono ?_
  rintro e w5 ⟨g2, c2, rfl, R1, bN5⟩
  have T1 := Lib.hid (turned_row (n := n' + 1) (by omega) (by have := NN.out.2; omega) R1 (c := c2))
  have RA5 := Lib.hid (RA.out.on bN5)
  have B5 := Lib.hid (B4.out.trans (bN5.mono B4.out.size))
  clear R1 bN5 B4 RA
  go_wp2_with fail
  refine T1.out.mono ?_
  rintro e w6 ⟨gb, cb, rfl, R1, bN6⟩
  have RA6 := Lib.hid (RA5.out.on bN6)
  have RB6 := Lib.hid R1
  have hB6 := B5.out.trans (bN6.mono B5.out.size)
  have hY6 := ten_on hYn.out hB6
  obtain ⟨⟨y1, y2, y3, y4, y5, y6, _⟩, hB9⟩ := hY6
  have o1 := rowl_cells RA6.out 0 (by omega)
  have o2 := rowl_cells RB6.out 0 (by omega)
  simp only [Nat.zero_mul, Nat.zero_add, consX] at o1 o2
  obtain ⟨v1, v2⟩ := o1
  obtain ⟨v3, v4⟩ := o2
  have HKit6 := Lib.hid (HKit.out.on hB9.out)
  have HB6 := Lib.hid (HB3.out.trans (hB9.out.mono HB3.out.size))
  have HD6 := Lib.hid (HD1.out.on hB6 (Nat.le_refl _))
  clear bN6 R1 T1 RA5 B5 hB6 hYn HD1 HD2 HD2' HA2 hB9
  have hw1 : IntKind.i64.wrap ((n' : Int) + 1) = (n' : Int) + 1 := by have := NN.out.2; simp [IntKind.wrap, IntKind.bits, IntKind.signed]; omega
  have i1 : (0 : Int) < (n' : Int) + 1 := by omega
  obtain ⟨T, hT⟩ : ∃ T, T = chainT (lst (consX (a1, a2) X') (n' + 1)) r := ⟨_, rfl⟩
  have HT := Lib.hid hT
  clear hT HKit HB3 HB2
  have HIn := Lib.hid (inR_cons HI.out.1 HKit6.out.ir)
  have HRR := Lib.hid (And.intro HKit6.out.r0 HKit6.out.r1)
  have HS6 := Lib.hid (ten_on (w9 := w6) (wc := w6) ⟨⟨y1, y2, y3, y4, y5, y6, v1, v2, v3, v4⟩, Lib.hid (Below.refl _ _)⟩ (Below.refl _ _))
  go_wp2_with fail
  go_region_held3 (fun w' => (w'.cell? ⟨w.heap.size, 1, none⟩ = some (.int .i64 r) ∧ w'.cell? ⟨w.heap.size + 1, 0, none⟩ = some (.int .i64 a1) ∧ w'.cell? ⟨w.heap.size + 1, 1, none⟩ = some (.int .u32 a2) ∧ w'.cell? ⟨w.heap.size + 2, 0, none⟩ = some (.int .i64 b1) ∧ w'.cell? ⟨w.heap.size + 2, 1, none⟩ = some (.int .u32 b2) ∧ w'.cell? ⟨q, 0, none⟩ = some (.slice (some ⟨bq, oq, none⟩) n' c') ∧ w'.cell? ⟨ga, 0, none⟩ = some (.int .i64 a1) ∧ w'.cell? ⟨ga, 1, none⟩ = some (.int .u32 a2) ∧ w'.cell? ⟨gb, 0, none⟩ = some (.int .i64 b1) ∧ w'.cell? ⟨gb, 1, none⟩ = some (.int .u32 b2)) ∧ Hid (Below w6.heap.size w6 w'))
    (first | exact ten_on (by assumption) bM | exact ten_on HS6.out bA | exact ten_on (by assumption) bN | exact ten_on (by assumption) (box_below _ _) | exact ⟨⟨y1, y2, y3, y4, y5, y6, v1, v2, v3, v4⟩, Lib.hid (Below.refl _ _)⟩ | exact ⟨⟨y1, y2, y3, y4, y5, y6, v1, v2, v3, v4⟩, Lib.hid (Below.refl _ _).drew⟩)
    (first
      | (go_at_call 10; refine (HKit6.out.k10 (by assumption)).mono ?_; rintro e wn ⟨g1, c1, rfl, R1, bN⟩)
      | (go_at_call 13; refine (turned_row HKit6.out.n1 (Nat.le_trans HKit6.out.n30 (by decide)) R1).mono ?_; rintro e wn ⟨g2, c2, rfl, R2, bN⟩)
      | (go_at_call 12; refine (HKit6.out.k12 (by assumption) R2).mono ?_; rintro e wn ⟨rfl, bN⟩; have b12 : Below w6.heap.size w6 wn := trans_at (by assumption) bN)
      | (go_at_call 11; refine (HKit6.out.k11x (by assumption) HD6.out HIn.out (by have := NN.out.2; omega) HT.out).mono ?_; rintro e wn ⟨rfl, bN⟩; have b11 : Below w6.heap.size w6 wn := trans_at (by assumption) bN)
      | (go_at_call 14; refine (k14x R3 HIn.out (by have := NN.out.2; omega) HRR.out.1 HRR.out.2 HT.out).mono ?_; rintro e w14 ⟨rfl, bM⟩)
      | (have hh := b11; clear hh; refine if_step (by kernel_rfl) ?_; refine app_step (.tmp 81) (.tmp 83) (by rfl) (by assumption) (fresh_own b11) (by rfl) (by rfl) HKit6.out.at2 HKit6.out.n1 (Nat.le_trans HKit6.out.n30 (by decide)) ?_; intro g3 c3 w3 R3 bA)
      | (have hh := b11; clear hh; refine if_step (by kernel_rfl) ?_; refine app_step (.tmp 81) (.tmp 83) (by rfl) (by assumption) (own_far (fresh_own b12) bN) (by rfl) (by rfl) HKit6.out.at2 HKit6.out.n1 (Nat.le_trans HKit6.out.n30 (by decide)) ?_; intro g3 c3 w3 R3 bA))
  all_goals
    have hE := HB6.out.trans ((below_at (w9 := w6) (by assumption)).mono HB6.out.size)
    have HE := Lib.hid hE
    clear hE
    go_wp2_with fail
    go_ret
    exact ⟨rfl, HE.out⟩
end Go.Proofs.YtkhnjgadagkpjaaDoor.Flt

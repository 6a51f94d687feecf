/- graph: run: what it keeps between two operations. -/
import Derived.Test.YtafenkepigmcaaaGreatDoorNB
import Derived.Test.YtafenkepigmcaaaGreatDoorFA
namespace Go.Proofs.YtafenkepigmcaaaGreatDoor.Gr
open Go Go.RowKit YtafenkepigmcaaaGreatDoor.So
def opC (o : Ox) : List Value := [.int .u8 o.kd, .int .u32 o.A, .int .u32 o.B, .int .u8 o.key, .int .u8 o.a.k, .int .i64 o.a.n, .string o.a.s]
/-- From an address on these operations stand. -/
def RdO (w : World) (ao : Option Addr) (os : List Ox) : Prop :=
  ∀ (i : Nat) (o : Ox), os[i]? = some o → ∃ b off, ao = some ⟨b, off, none⟩ ∧ b < w.heap.size ∧ w.cell? ⟨b, off + i * 7, none⟩ = some (.int .u8 o.kd) ∧ w.cell? ⟨b, off + i * 7 + 1, none⟩ = some (.int .u32 o.A) ∧ w.cell? ⟨b, off + i * 7 + 2, none⟩ = some (.int .u32 o.B) ∧ w.cell? ⟨b, off + i * 7 + 3, none⟩ = some (.int .u8 o.key) ∧ w.cell? ⟨b, off + i * 7 + 4, none⟩ = some (.int .u8 o.a.k) ∧ w.cell? ⟨b, off + i * 7 + 5, none⟩ = some (.int .i64 o.a.n) ∧ w.cell? ⟨b, off + i * 7 + 6, none⟩ = some (.string o.a.s)
theorem RdO.on {w w' : World} {ao : Option Addr} {os : List Ox} {K : Nat → Prop} (h : RdO w ao os) (ht : Turned K w w') (hK : ∀ ad, ao = some ad → ¬ K ad.block) : RdO w' ao os := by
  intro i o hi
  obtain ⟨b, off, rfl, hb, h0, h1, h2, h3, h4, h5, h6⟩ := h i o hi
  have hbl := ht.block b hb (hK _ rfl)
  have hc : ∀ k, w'.cell? ⟨b, k, none⟩ = w.cell? ⟨b, k, none⟩ := fun k => by simp [World.cell?, hbl]
  exact ⟨b, off, rfl, Nat.lt_of_lt_of_le hb ht.size, (hc _).trans h0, (hc _).trans h1, (hc _).trans h2, (hc _).trans h3, (hc _).trans h4, (hc _).trans h5, (hc _).trans h6⟩
def aCells (l : List Av) : List Value := l.flatMap fun a => [.int .u8 a.k, .int .i64 a.n, .string a.s]
theorem aCells_app (A B : List Av) : aCells (A ++ B) = aCells A ++ aCells B := by simp [aCells]
theorem info47 : (Tryz.prog.info? 47).map (fun i => (i.zero, i.size, i.bytes)) = some (some (.agg #[.int .u8 0, .int .i64 0, .string ⟨#[]⟩]), 3, 32) := by kernel_rfl
theorem aNew (a n : Int) (s : ByteArray) (w : World) (T : TypeId) : ∀ j u, ([.int .u8 a, .int .i64 n, .string s] : List Value)[j]? = some u → (w.alloc (.cells #[.int .u8 a, .int .i64 n, .string s] T)).cell? ((⟨w.heap.size, 0, none⟩ : Addr).add j) = some u := by
  intro j u h
  match j, h with
  | 0, h => simp at h; subst h; simp [Addr.add, go_sem]
  | 1, h => simp at h; subst h; simp [Addr.add, go_sem]
  | 2, h => simp at h; subst h; simp [Addr.add, go_sem]
  | j + 3, h => simp at h
theorem aOne (a n : Int) (s : ByteArray) : ∀ u ∈ ([.int .u8 a, .int .i64 n, .string s] : List Value), u.oneCell' = true := by
  intro u hu
  simp at hu
  rcases hu with rfl | rfl | rfl <;> rfl
theorem stG_take {G : GV} {os : List Ox} {i : Nat} {o : Ox} (h : os[i]? = some o) : stG G (os.take (i + 1)) = chgG (stG G (os.take i)) o := by rw [List.take_add_one, h]; exact stG_snoc _ _ _
theorem valG_take {G : GV} {os : List Ox} {i : Nat} {o : Ox} (h : os[i]? = some o) : valG G (os.take (i + 1)) = valG G (os.take i) ++ (readG (stG G (os.take i)) o).toList := by rw [List.take_add_one, h]; exact valG_snoc _ _ _
theorem badG_take {G : GV} {os : List Ox} {i : Nat} {o : Ox} (h : os[i]? = some o) (hb : badG G (os.take i) = none) (hr : refG (stG G (os.take i)) o = 0) : badG G (os.take (i + 1)) = none := by rw [List.take_add_one, h]; exact badG_snoc hb hr
theorem badG_here {G : GV} {os : List Ox} {i : Nat} {o : Ox} (h : os[i]? = some o) (hb : badG G (os.take i) = none) (hr : ¬ refG (stG G (os.take i)) o = 0) : badG G os = some (i, refG (stG G (os.take i)) o) := by
  have e : os = os.take i ++ o :: os.drop (i + 1) := by
    obtain ⟨hi, rfl⟩ := List.getElem?_eq_some_iff.1 h
    rw [← List.drop_eq_getElem_cons hi, List.take_append_drop]
  have := badG_at (rest := os.drop (i + 1)) hb hr
  rw [← e] at this
  rw [this, List.length_take]
  have := (List.getElem?_eq_some_iff.1 h).1
  rw [Nat.min_eq_left (by omega)]
/-- Between two operations: those ahead are done, what they read is in a row of the call's own. -/
structure RunAt (w : World) (F : Nat → Prop) (n g : Nat) (G : GV) (vals : List Av) (vv : Value) (wr : World) : Prop where
  gr : ∃ F', Gp wr n F' g G ∧ (∀ k, F' k → F k ∨ w.heap.size ≤ k) ∧ ∀ b, vv.ownBlock = some b → ¬ F' b
  tur : Turned F w wr
  row : wr.ownsRow w.heap.size 47 3 vv vals.length (aCells vals)
theorem RunAt.below {w wr w' : World} {F : Nat → Prop} {n g : Nat} {G : GV} {vals : List Av} {vv : Value} (h : RunAt w F n g G vals vv wr) (hb : Below wr.heap.size wr w') : RunAt w F n g G vals vv w' := by
  obtain ⟨F', h1, h2, h3⟩ := h.gr
  exact ⟨⟨F', h1.below hb, h2, h3⟩, h.tur.then (turned_low hb), row_turned h.row (below_any (G := fun _ => False) hb) (fun _ _ h => h)⟩
/-- One more value is read. -/
theorem RunAt.read {w wr w4 : World} {F : Nat → Prop} {n g : Nat} {G : GV} {vals : List Av} {vv vv' : Value} {a : Av} {o : Obj} (h : RunAt w F n g G vals vv wr) (hg : (wr.alloc o).grownBy w4 vv.ownBlock) (ho : w4.ownsRow w.heap.size 47 3 vv' (vals.length + 1) (aCells vals ++ [.int .u8 a.k, .int .i64 a.n, .string a.s])) (hat : ∀ b, vv'.ownBlock = some b → vv.ownBlock = some b ∨ b = wr.heap.size + 1) : RunAt w F n g G (vals ++ [a]) vv' w4 := by
  obtain ⟨F', h1, h2, h3⟩ := h.gr
  have hF' : ∀ k, F' k → k < wr.heap.size := fun k hk => by
    obtain ⟨mp, me, bp, be, h1⟩ := h1
    exact h1.hi k hk
  have t1 : Turned (fun k => vv.ownBlock = some k) wr w4 := (turned_low ((Below.refl _ wr).alloc (Nat.le_refl _) o)).then (.of_grown hg (fun k hk => hk))
  refine ⟨⟨F', h1.on t1 (fun k hk e => h3 k e hk), h2, fun b hb hF => ?_⟩, h.tur.trans t1 (fun k hk => .inr (row_lt h.row hk).1), ?_⟩
  · rcases hat b hb with e | e
    · exact h3 b e hF
    · have := hF' b hF; omega
  · rw [List.length_append, aCells_app]
    exact ho
theorem gp_lt {w : World} {n g : Nat} {F : Nat → Prop} {G : GV} (h : Gp w n F g G) : ∀ k, F k → k < w.heap.size := by
  obtain ⟨mp, me, bp, be, h⟩ := h
  exact h.hi
/-- An operation is done. -/
theorem RunAt.done {w wr w' : World} {F F' : Nat → Prop} {n m g : Nat} {G G' : GV} {vals : List Av} {vv : Value} (_h1 : Gp wr n F' g G) (h2 : ∀ k, F' k → F k ∨ w.heap.size ≤ k) (h3 : ∀ b, vv.ownBlock = some b → ¬ F' b) (ht : Turned F w wr) (hr : wr.ownsRow w.heap.size 47 3 vv vals.length (aCells vals)) (hd : Done wr F' m g G' w') : RunAt w F m g G' vals vv w' := by
  obtain ⟨F2, d1, d2, d3⟩ := hd
  refine ⟨⟨F2, d1, fun k hk => ?_, fun b hb hF => ?_⟩, ht.trans d3 h2, row_turned hr d3 h3⟩
  · rcases d2 k hk with e | e
    · exact h2 k e
    · exact .inr (Nat.le_trans ht.size e)
  · rcases d2 b hF with e | e
    · exact h3 b hb e
    · have := (row_lt hr hb).2; omega
end Go.Proofs.YtafenkepigmcaaaGreatDoor.Gr
/- graph: run, walked. -/
namespace Go.Proofs.YtafenkepigmcaaaGreatDoor.Gr
open Go Go.RowKit YtafenkepigmcaaaGreatDoor.So
/-- What run answers. -/
def RunPost (w : World) (F : Nat → Prop) (n g : Nat) (G : GV) (os : List Ox) (e : Ending) (w' : World) : Prop :=
  (badG G os = none ∧ ∃ vv, e = .returned (.tuple #[vv, .nilIface]) ∧ RunAt w F n g (stG G os) (valG G os) vv w') ∨
  (∃ (i : Nat) (c A : Int) (p : Nat) (F' : Nat → Prop), badG G os = some (i, c) ∧ i < os.length ∧ e = .returned (.tuple #[.slice none 0 0, .iface 185 (.pointer (some ⟨p, 0, none⟩))]) ∧ w.heap.size ≤ p ∧ w'.heap[p]? = some (.cells #[.int .i64 i, .int .u32 A, .iface 35 (.int .i64 c)] 188 (0, 0)) ∧
    Gp w' n F' g (stG G (os.take i)) ∧ (∀ k, F' k → F k ∨ w.heap.size ≤ k) ∧ Turned F w w' ∧ ¬ F' p)
def BoxO (z : Nat) (o : Ox) (W : World) : Prop := W.cell? ⟨z, 0, none⟩ = some (.int .u8 o.kd) ∧ W.cell? ⟨z, 1, none⟩ = some (.int .u32 o.A) ∧ W.cell? ⟨z, 2, none⟩ = some (.int .u32 o.B) ∧ W.cell? ⟨z, 3, none⟩ = some (.int .u8 o.key) ∧ W.cell? ⟨z, 4, none⟩ = some (.int .u8 o.a.k) ∧ W.cell? ⟨z, 5, none⟩ = some (.int .i64 o.a.n) ∧ W.cell? ⟨z, 6, none⟩ = some (.string o.a.s)
theorem boxO {W : World} {z : Nat} {kd A B key k m : Int} {s : ByteArray} (h : W.heap[z]? = some (.cells #[.int .u8 kd, .int .u32 A, .int .u32 B, .int .u8 key, .int .u8 k, .int .i64 m, .string s] 75 (0, 0))) : BoxO z ⟨kd, A, B, key, ⟨k, m, s⟩⟩ W := bo h
theorem valG_len (G : GV) (os : List Ox) : (valG G os).length ≤ os.length := by
  induction os generalizing G with
  | nil => simp [valG]
  | cons o os ih =>
    have := ih (chgG G o)
    simp only [valG, List.length_append, List.length_cons]
    cases readG G o <;> simp <;> omega
set_option maxRecDepth 100000 in
set_option maxHeartbeats 4000000 in
theorem run_any (g n : Nat) (F : Nat → Prop) (G : GV) (os : List Ox) (ao : Option Addr) (cap : Nat) (w : World) (h : Gp w n F g G) (hO : RdO w ao os) (hF : ∀ ad, ao = some ad → ¬ F ad.block) (hok : ∀ o ∈ os, o.ok) (hl : os.length ≤ 1000) (hn : n + 2 * os.length + 2 < maxLen) :
    Calls Tryz.prog 86 #[.pointer (some ⟨g, 0, none⟩), .slice ao os.length cap] w (RunPost w F (n + 2 * os.length) g G os) := by
  have HX := Lib.hid (And.intro h (And.intro hO (And.intro hF (And.intro hok (And.intro hl hn)))))
  have hl' : (os.length : Int) ≤ 1000 := by omega
  obtain ⟨N, hN⟩ : ∃ N, os.length = N := ⟨_, rfl⟩
  rw [hN] at hl' ⊢
  have HN := Lib.hid hN
  clear h hO hF hok hl hn hN
  go_enter Tryz.func86, Tryz.ntmps86
  go_wp2_with fail
  go_loopw [6, 14] (fun uv u wr => ∃ i : Nat, u = .int .i64 i ∧ i ≤ N ∧ Hid (badG G (os.take i) = none ∧ RunAt w F (n + 2 * i) g (stG G (os.take i)) (valG G (os.take i)) uv wr)) (fun _ u _ => N + 1 - (intOf u).toNat)
  case atStart => exact ⟨0, rfl, Nat.zero_le _, Lib.hid ⟨rfl, ⟨⟨F, HX.out.1, fun k hk => .inl hk, fun b hb => by simp [Value.ownBlock] at hb⟩, .refl _ _, World.ownsRow_nil _ _ _ _⟩⟩⟩
  case round =>
    obtain ⟨i, rfl, hi, HI⟩ := hrel
    by_cases hiN : i < N
    · have hil : i < os.length := by have := HN.out; omega
      obtain ⟨⟨kd, A, B, key, ⟨k, m, s⟩⟩, ho⟩ : ∃ o, os[i]? = some o := ⟨_, List.getElem?_eq_getElem hil⟩
      obtain ⟨F', hg, hF1, hF2⟩ := HI.out.2.gr
      obtain ⟨b, off, rfl, hb, q0, q1, q2, q3, q4, q5, q6⟩ := (HX.out.2.1.on HI.out.2.tur HX.out.2.2.1) i _ ho
      simp only at q0 q1 q2 q3 q4 q5 q6
      have hoko := HX.out.2.2.2.1 _ (List.mem_of_getElem? ho)
      have HO := Lib.hid (And.intro ho hoko)
      have HG := Lib.hid (And.intro hg (And.intro hF1 hF2))
      have HHI := Lib.hid (And.intro hi hil)
      clear ho hoko hg hF1 hF2 hi hil
      go_upto_region 5 with fail
      obtain ⟨W, hW⟩ : ∃ W, wr.alloc (.cells #[.int .u8 kd, .int .u32 A, .int .u32 B, .int .u8 key, .int .u8 k, .int .i64 m, .string s] 75) = W := ⟨_, rfl⟩
      obtain ⟨z, hz⟩ : ∃ z, wr.heap.size = z := ⟨_, rfl⟩
      have hzb := heap_alloc_new wr (.cells #[.int .u8 kd, .int .u32 A, .int .u32 B, .int .u8 key, .int .u8 k, .int .i64 m, .string s] 75)
      have bW := (Below.refl wr.heap.size wr).alloc (Nat.le_refl _) (.cells #[.int .u8 kd, .int .u32 A, .int .u32 B, .int .u8 key, .int .u8 k, .int .i64 m, .string s] 75)
      rw [hW] at hzb bW ⊢
      rw [hz] at hzb ⊢
      have HW := Lib.hid (And.intro bW hzb)
      have HRn := Lib.hid (And.intro HI.out.1 (HI.out.2.below bW))
      have hgW := HG.out.1.below bW
      obtain ⟨x0, x1, x2, x3, x4, x5, x6⟩ := bo hzb
      obtain ⟨c, hc⟩ : ∃ c, refG (stG G (os.take i)) ⟨kd, A, B, key, ⟨k, m, s⟩⟩ = c := ⟨_, rfl⟩
      have HRf := Lib.hid (fun w1 (hb : Below W.heap.size W w1) => (refusal_any g _ F' _ _ w1 (hgW.below hb) HO.out.2).mono fun e w' hh => (by rw [hc] at hh; exact hh))
      have HZ := Lib.hid (show w.heap.size ≤ z from hz ▸ HI.out.2.tur.size)
      have Hc := Lib.hid hc
      have HzF := Lib.hid (show ¬ F' z from fun hf => by have := gp_lt HG.out.1 z hf; omega)
      clear hW hzb bW hgW q0 q1 q2 q3 q4 q5 q6 hb hc HI hz
      by_cases hc0 : c = 0
      · subst hc0
        obtain ⟨a6, c6, rfl⟩ := row_slice HRn.out.2.row
        obtain ⟨nv, hnv⟩ : ∃ nv, (valG G (os.take i)).length = nv := ⟨_, rfl⟩
        have hnv2 : nv ≤ 1000 := by have := valG_len G (os.take i); have := HHI.out.2; have := HX.out.2.2.2.2.1; rw [List.length_take] at *; omega
        obtain ⟨i0, hi0, hz0, hz1, hz2⟩ := info_parts info47
        have HII := Lib.hid (And.intro hi0 (And.intro hz0 (And.intro hz1 hz2)))
        rw [hnv]
        have HNV := Lib.hid hnv
        clear hi0 hz0 hz1 hz2 hnv
        go_region_held3 (fun w' => w'.cell? ⟨z, 0, none⟩ = some (.int .u8 kd) ∧ w'.cell? ⟨z, 1, none⟩ = some (.int .u32 A) ∧ w'.cell? ⟨z, 2, none⟩ = some (.int .u32 B) ∧ w'.cell? ⟨z, 3, none⟩ = some (.int .u8 key) ∧ w'.cell? ⟨z, 4, none⟩ = some (.int .u8 k) ∧ w'.cell? ⟨z, 5, none⟩ = some (.int .i64 m) ∧ w'.cell? ⟨z, 6, none⟩ = some (.string s))
          (first | exact ⟨x0, x1, x2, x3, x4, x5, x6⟩ | exact U1)
          (first
            | (go_at_call 111; refine (HRf.out _ ((Below.refl _ W).drew)).mono ?_; rintro e' w1 ⟨rfl, hb1⟩; have hb1' : Below W.heap.size W w1 := (Below.refl _ W).drew.trans hb1; have k1 := (hb1'.block z (Array.getElem?_eq_some_iff.1 HW.out.2).1).trans HW.out.2; have U1 := bo k1; have H1 := Lib.hid (And.intro hb1' k1); clear hb1 hb1' k1)
            | (go_at_call 110; refine (Flt.new_nil _ A _).mono ?_; rintro e' w2 ⟨rfl, h2⟩; have h2 := h2.symm; subst h2))
        obtain ⟨r, hr⟩ : ∃ r, readG (stG G (os.take i)) ⟨kd, A, B, key, ⟨k, m, s⟩⟩ = r := ⟨_, rfl⟩
        have hg1 := (HG.out.1.below HW.out.1).below H1.out.1
        have HRd := Lib.hid ((read_any g _ F' _ _ w1 hg1 HO.out.2 Hc.out).mono fun e w' hh => (by rw [hr] at hh; exact hh))
        have HR1 := Lib.hid (HRn.out.2.below H1.out.1)
        have HK1 := Lib.hid H1.out.2
        have Hr := Lib.hid hr
        clear hr hg1 x0 x1 x2 x3 x4 x5 x6
        have hiN' : i + 1 ≤ N := hiN
        have HCh := Lib.hid (fun (w5 : World) (F5 : Nat → Prop) (h5 : Gp w5 (n + 2 * i) F5 g (stG G (os.take i))) => change_any g (n + 2 * i) F5 _ _ w5 h5 (by have := HHI.out.2; have := HX.out.2.2.2.2.2; omega) HO.out.2 Hc.out)
        cases r with
        | none =>
          simp only [Option.getD_none, Option.isSome_none, zA_val, zV] at HRd
          go_wp2_with fail
          refine HRd.out.mono ?_
          rintro e' w3 ⟨rfl, hb3⟩
          have HB3 := Lib.hid (HR1.out.below hb3)
          have HK3 := Lib.hid ((hb3.block z (Array.getElem?_eq_some_iff.1 HK1.out).1).trans HK1.out)
          clear hb3
          have hk3 := HK3.out
          obtain ⟨y0, y1, y2, y3, y4, y5, y6⟩ := bo ((heap_alloc_old w3 (.cells #[.int .u8 0, .int .i64 0, .string ⟨#[]⟩] 47) (Array.getElem?_eq_some_iff.1 hk3).1).trans hk3)
          have HB4 := Lib.hid (HB3.out.below ((Below.refl _ w3).alloc (Nat.le_refl _) (.cells #[.int .u8 0, .int .i64 0, .string ⟨#[]⟩] 47)))
          clear hk3
          go_wp2_with fail
          obtain ⟨F5, g5, p5, q5⟩ := HB4.out.gr
          refine (HCh.out _ F5 g5).mono ?_
          rintro e' w5 ⟨rfl, hd⟩
          have HD := Lib.hid (RunAt.done g5 p5 q5 HB4.out.tur HB4.out.row hd)
          clear hd
          go_wp2_with fail
          go_roundw
          case rel => exact ⟨i + 1, by go_num, hiN', Lib.hid ⟨badG_take HO.out.1 HRn.out.1 Hc.out, by rw [stG_take HO.out.1, valG_take HO.out.1, Hr.out, ← HNV.out]; simpa [Nat.mul_add, Nat.add_assoc] using HD.out⟩⟩
          case measure => simp [intOf] <;> omega
        | some a' =>
          obtain ⟨k', m', s'⟩ := a'
          simp only [Option.getD_some, Option.isSome_some, Av.val] at HRd
          go_wp2_with fail
          refine HRd.out.mono ?_
          rintro e' w3 ⟨rfl, hb3⟩
          have HB3 := Lib.hid (HR1.out.below hb3)
          have hk3 := (hb3.block z (Array.getElem?_eq_some_iff.1 HK1.out).1).trans HK1.out
          have hk4 := (heap_alloc_old w3 (.cells #[.int .u8 k', .int .i64 m', .string s'] 47) (Array.getElem?_eq_some_iff.1 hk3).1).trans hk3
          have HB4 := Lib.hid (HB3.out.below ((Below.refl _ w3).alloc (Nat.le_refl _) (.cells #[.int .u8 k', .int .i64 m', .string s'] 47)))
          obtain ⟨W4, hW4⟩ : ∃ W4, w3.alloc (.cells #[.int .u8 k', .int .i64 m', .string s'] 47) = W4 := ⟨_, rfl⟩
          have n4 := heap_alloc_new w3 (.cells #[.int .u8 k', .int .i64 m', .string s'] 47)
          rw [hW4] at hk4 HB4 n4
          obtain ⟨p4, hp4⟩ : ∃ p4, w3.heap.size = p4 := ⟨_, rfl⟩
          rw [hp4] at n4
          obtain ⟨y0, y1, y2, y3, y4, y5, y6⟩ := bo hk4
          obtain ⟨v0, v1, v2⟩ : W4.cell? ⟨p4, 0, none⟩ = some (.int .u8 k') ∧ W4.cell? ⟨p4, 1, none⟩ = some (.int .i64 m') ∧ W4.cell? ⟨p4, 2, none⟩ = some (.string s') := by simp [World.cell?, n4]
          have HRow := Lib.hid (show W4.ownsRow w.heap.size 47 3 (.slice a6 nv c6) nv (aCells (valG G (os.take i))) from by have := HB4.out.row; rw [HNV.out] at this; exact this)
          have HK4 := Lib.hid hk4
          have hsz4 : w.heap.size ≤ W4.heap.size := HB4.out.tur.size
          clear hb3 hk3 hk4 n4
          have hbn : (nv + 1) * 32 ≤ 140737488355328 := by omega
          go_wp2_with (at_builtin; refine wpList_append_lies _ rfl (.tmp 36) (.tmp 38) 36 rfl w.heap.size 47 i0 _ 3 32 Tryz.underlying36 HII.out.1 HII.out.2.1 HII.out.2.2.1 HII.out.2.2.2 rfl (by decide) (.slice a6 nv c6) nv (aCells (valG G (os.take i))) rfl (HRow.out.alloc _) ⟨W4.heap.size, 0, none⟩ 1 1 [.int .u8 k', .int .i64 m', .string s'] rfl (by first | rfl | simp) (aNew k' m' s' W4 47) (aOne k' m' s') (by decide) (by unfold maxLen; omega) hbn (by simp; omega) (W4.heap.size + 1) (by simp) ?_; intro g5 cap5 w6 hown6 hgrow6 hat6 _; have hk6 := (hgrow6.block z (by have := (Array.getElem?_eq_some_iff.1 HK4.out).1; simp; omega) (far_row HK4.out (by decide) HRow.out)).trans ((heap_alloc_old W4 (.cells #[.int .u8 k', .int .i64 m', .string s'] 47) (Array.getElem?_eq_some_iff.1 HK4.out).1).trans HK4.out); have H6 := Lib.hid (And.intro hown6 (And.intro hgrow6 hat6)); obtain ⟨t0, t1, t2, t3, t4, t5, t6⟩ := bo hk6; clear hown6 hgrow6 hat6 hk6)
          have HB6 := Lib.hid (RunAt.read (a := ⟨k', m', s'⟩) (vv' := .slice (some ⟨g5, 0, none⟩) (nv + 1) cap5) (w4 := w6) HB4.out (by rw [HNV.out]; exact H6.out.2.1) (by rw [HNV.out]; exact H6.out.1) (fun b' hb' => by
            rw [HNV.out]
            have e5 : g5 = b' := by simpa [Value.ownBlock] using hb'
            rw [← e5]
            exact H6.out.2.2))
          obtain ⟨F5, g6, p5, q5⟩ := HB6.out.gr
          refine (HCh.out _ F5 g6).mono ?_
          rintro e' w7 ⟨rfl, hd⟩
          have HD := Lib.hid (RunAt.done g6 p5 q5 HB6.out.tur HB6.out.row hd)
          clear hd
          go_wp2_with fail
          go_roundw
          case rel => exact ⟨i + 1, by go_num, hiN', Lib.hid ⟨badG_take HO.out.1 HRn.out.1 Hc.out, by rw [stG_take HO.out.1, valG_take HO.out.1, Hr.out]; simpa [Nat.mul_add, Nat.add_assoc] using HD.out⟩⟩
          case measure => simp [intOf] <;> omega
      · have hcb : (c == 0) = false := by simpa using hc0
        have Hcb := Lib.hid (And.intro hcb hc0)
        clear hcb hc0
        go_region_held3 (fun w' => w'.cell? ⟨z, 0, none⟩ = some (.int .u8 kd) ∧ w'.cell? ⟨z, 1, none⟩ = some (.int .u32 A) ∧ w'.cell? ⟨z, 2, none⟩ = some (.int .u32 B) ∧ w'.cell? ⟨z, 3, none⟩ = some (.int .u8 key) ∧ w'.cell? ⟨z, 4, none⟩ = some (.int .u8 k) ∧ w'.cell? ⟨z, 5, none⟩ = some (.int .i64 m) ∧ w'.cell? ⟨z, 6, none⟩ = some (.string s))
          (first | exact ⟨x0, x1, x2, x3, x4, x5, x6⟩ | exact U1 | exact U2)
          (first
            | (go_at_call 111; refine (HRf.out _ ((Below.refl _ W).drew)).mono ?_; rintro e' w1 ⟨rfl, hb1⟩; have hb1' : Below W.heap.size W w1 := (Below.refl _ W).drew.trans hb1; have k1 := (hb1'.block z (Array.getElem?_eq_some_iff.1 HW.out.2).1).trans HW.out.2; have U1 := bo k1; have H1 := Lib.hid (And.intro hb1' k1); clear hb1 hb1' k1)
            | (go_at_call 110; refine (Flt.new_ok c _ A _ Hcb.out.1).mono ?_; rintro e' w2 ⟨rfl, rfl⟩; have U2 := bo ((heap_alloc_old w1 (.cells #[.int .i64 i, .int .u32 A, .iface 35 (.int .i64 c)] 188) (Array.getElem?_eq_some_iff.1 H1.out.2).1).trans H1.out.2); have H2 := Lib.hid (heap_alloc_new w1 (.cells #[.int .i64 i, .int .u32 A, .iface 35 (.int .i64 c)] 188))))
        all_goals
          go_wp2_with fail
          refine bodyPost_ret (v := .tuple #[.slice none 0 0, .iface 185 (.pointer (some ⟨w1.heap.size, 0, none⟩))]) (by rw [results_tmp2 (t := 4) (u := 5) rfl]; rfl) rfl ?_
          have hsz := HW.out.1.size
          have hsz1 := H1.out.1.size
          have hsw := (Array.getElem?_eq_some_iff.1 HW.out.2).1
          have hb := (H1.out.1).alloc H1.out.1.size (.cells #[.int .i64 i, .int .u32 A, .iface 35 (.int .i64 c)] 188)
          have := HZ.out
          refine .inr ⟨i, c, A, w1.heap.size, F', by have := badG_here HO.out.1 HRn.out.1 (by rw [Hc.out]; exact Hcb.out.2); rw [Hc.out] at this; exact this, HHI.out.2, rfl, by omega, H2.out, ((HG.out.1.below HW.out.1).below hb).mono (by have := HHI.out.1; omega), HG.out.2.1, HRn.out.2.tur.then (turned_low hb), fun hf => ?_⟩
          have := gp_lt HG.out.1 _ hf
          omega
    · have hiE : i = N := by omega
      subst hiE
      have hiL : os.take i = os := by rw [← HN.out]; exact List.take_length
      have HI2 := HI.out
      rw [hiL] at HI2
      have HE := Lib.hid HI2
      clear HI HI2 hi hiL
      go_wp2_with fail
      refine bodyPost_ret (v := .tuple #[u6, .nilIface]) (by rw [results_tmp2 (t := 4) (u := 5) rfl]; rfl) rfl ?_
      exact .inl ⟨HE.out.1, _, rfl, HE.out.2⟩
end Go.Proofs.YtafenkepigmcaaaGreatDoor.Gr

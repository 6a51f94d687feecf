/- graph: an operation in form, walked. -/
import Derived.Test.YtafenkepigmcaaaGreatDoorNF
import Derived.Test.YtafenkepigmcaaaGreatDoorGA
namespace Go.Proofs.YtafenkepigmcaaaGreatDoor.Gr
open Go Go.RowKit YtafenkepigmcaaaGreatDoor.So
def numB (v : Int) : Bool := decide (1 ≤ v ∧ v ≤ 40)
set_option maxRecDepth 100000 in
theorem num_any (v : Int) (w : World) : Calls Tryz.prog 94 #[.int .u32 v] w fun e w' => e = .returned (.bool (numB v)) ∧ w = w' := by
  by_cases h1 : 1 ≤ v
  · by_cases h2 : v ≤ 40
    · have e : numB v = true := by simp [numB, h1, h2]
      rw [e]
      go_enter Tryz.func94, Tryz.ntmps94
      go_wp2
      go_ret
      exact ⟨by simp, rfl⟩
    · have e : numB v = false := by simp [numB, h2]
      rw [e]
      go_enter Tryz.func94, Tryz.ntmps94
      go_wp2
      go_ret
      exact ⟨by simp, rfl⟩
  · have e : numB v = false := by simp [numB, h1]
    rw [e]
    go_enter Tryz.func94, Tryz.ntmps94
    go_wp2
    go_ret
    exact ⟨rfl, rfl⟩
def pB (kd : Int) : Bool := decide (kd = 5 ∨ kd = 6 ∨ kd = 7)
def pK (kd : Int) : Bool := decide (kd = 3 ∨ kd = 4 ∨ kd = 9)
def pV (kd : Int) : Bool := decide (kd = 3 ∨ kd = 5 ∨ kd = 9)
def pO (kd : Int) : Bool := decide (1 ≤ kd ∧ kd ≤ 9)
theorem size191 : (Tryz.prog.info? 191).map (·.size) = some 3 := by kernel_rfl
theorem results_191_tmp {fn : Func} {p u : Tmp} (h : fn.results = #[.cell p 191, .tmp u]) (tmps : Array Value) (w : World) (g : Nat) (c0 c1 c2 : Value) (fr : Nat × Nat)
    (hp : tmps.getD p undef = .pointer (some ⟨g, 0, none⟩)) (hg : w.heap[g]? = some (.cells #[c0, c1, c2] 191 fr)) :
    (results fn tmps).run Tryz.prog w = .ok (.tuple #[.agg #[c0, c1, c2], tmps.getD u undef]) w := by
  have hr := run_loadVar_row (P := Tryz.prog) w g 191 191 #[c0, c1, c2] fr _ hg Tryz.underlying191 rfl size191
  rw [results_cell_tmp h, hp]
  simp [asAddr, hr, Result.andThen]
def PartsOf (kd : Int) (w : World) (e : Ending) (w' : World) : Prop := e = .returned (.tuple #[.agg #[.bool (pB kd), .bool (pK kd), .bool (pV kd)], .bool (pO kd)]) ∧ Below w.heap.size w w'
set_option maxRecDepth 100000 in
set_option maxHeartbeats 2000000 in
theorem parts_any (kd : Int) (w : World) : Calls Tryz.prog 120 #[.int .u8 kd] w (PartsOf kd w) := by
  have hb := Lib.hid (fun o => (Below.refl w.heap.size w).alloc (Nat.le_refl _) o)
  by_cases h : 1 ≤ kd ∧ kd ≤ 9
  · rcases (show kd = 1 ∨ kd = 2 ∨ kd = 3 ∨ kd = 4 ∨ kd = 5 ∨ kd = 6 ∨ kd = 7 ∨ kd = 8 ∨ kd = 9 by omega) with rfl | rfl | rfl | rfl | rfl | rfl | rfl | rfl | rfl
    all_goals
      clear h
      go_enter Tryz.func120, Tryz.ntmps120
      go_wp2
      refine bodyPost_ret (results_191_tmp (p := 2) (u := 3) rfl _ _ w.heap.size _ _ _ (0, 0) rfl (heap_alloc_new _ _)) rfl ?_
      exact ⟨rfl, hb.out _⟩
  · have h1 : (kd == 1) = false := by simp; omega
    have h2 : (kd == 2) = false := by simp; omega
    have h3 : (kd == 3) = false := by simp; omega
    have h4 : (kd == 4) = false := by simp; omega
    have h5 : (kd == 5) = false := by simp; omega
    have h6 : (kd == 6) = false := by simp; omega
    have h7 : (kd == 7) = false := by simp; omega
    have h8 : (kd == 8) = false := by simp; omega
    have h9 : (kd == 9) = false := by simp; omega
    have e1 : pB kd = false := by unfold pB; simp; omega
    have e2 : pK kd = false := by unfold pK; simp; omega
    have e3 : pV kd = false := by unfold pV; simp; omega
    have e4 : pO kd = false := by unfold pO; simpa using h
    clear h
    unfold PartsOf
    rw [e1, e2, e3, e4]
    clear e1 e2 e3 e4
    go_enter Tryz.func120, Tryz.ntmps120
    go_wp2
    refine bodyPost_ret (results_191_tmp (p := 2) (u := 3) rfl _ _ w.heap.size _ _ _ (0, 0) rfl (heap_alloc_new _ _)) rfl ?_
    exact ⟨rfl, hb.out _⟩
def farB (A B : Int) (used : Bool) : Bool := if used then numB B && !(B == A) else B == 0
set_option maxRecDepth 100000 in
set_option maxHeartbeats 1000000 in
theorem far_any (kd A B key : Int) (a : Av) (u : Bool) (w : World) : Calls Tryz.prog 121 #[opV kd A B key a, .bool u] w fun e w' => e = .returned (.bool (farB A B u)) ∧ Below w.heap.size w w' := by
  obtain ⟨k, m, s⟩ := a
  have hb := Lib.hid (op_box w kd A B key k m s)
  have HN := Lib.hid (num_any B (w.alloc (.cells #[.int .u8 kd, .int .u32 A, .int .u32 B, .int .u8 key, .int .u8 k, .int .i64 m, .string s] 75)))
  unfold opV
  simp only
  cases u
  · have e : farB A B false = (B == 0) := rfl
    rw [e]
    go_enter Tryz.func121, Tryz.ntmps121
    go_wp2
    go_ret
    exact ⟨rfl, hb.out⟩
  · cases hn : numB B
    · have e : farB A B true = false := by simp [farB, hn]
      rw [e]
      rw [hn] at HN
      clear hn e
      go_enter Tryz.func121, Tryz.ntmps121
      go_wp2_with fail
      refine HN.out.mono ?_
      rintro e w1 ⟨rfl, rfl⟩
      go_wp2_with fail
      go_ret
      exact ⟨rfl, hb.out⟩
    · have e : farB A B true = (B != A) := by simp [farB, hn, bne]
      rw [e]
      rw [hn] at HN
      clear hn e
      go_enter Tryz.func121, Tryz.ntmps121
      go_wp2_with fail
      refine HN.out.mono ?_
      rintro e w1 ⟨rfl, rfl⟩
      go_wp2_with fail
      go_ret
      exact ⟨rfl, hb.out⟩
def keyB (key : Int) (used : Bool) : Bool := key == 0 || used && decide (key ≤ 3)
set_option maxRecDepth 100000 in
theorem key_any (key : Int) (u : Bool) (w : World) : Calls Tryz.prog 122 #[.int .u8 key, .bool u] w fun e w' => e = .returned (.bool (keyB key u)) ∧ w = w' := by
  by_cases h0 : key = 0
  · subst h0
    have e : keyB 0 u = true := by simp [keyB]
    rw [e]
    go_enter Tryz.func122, Tryz.ntmps122
    go_wp2
    go_ret
    exact ⟨rfl, rfl⟩
  · have hb : (key == 0) = false := by simpa using h0
    have e : keyB key u = (u && decide (key ≤ 3)) := by simp [keyB, hb]
    rw [e]
    clear e h0
    cases u
    all_goals
      go_enter Tryz.func122, Tryz.ntmps122
      go_wp2
      go_ret
      exact ⟨by simp, rfl⟩
end Go.Proofs.YtafenkepigmcaaaGreatDoor.Gr
/- graph: a value, an operation in form, walked. -/
namespace Go.Proofs.YtafenkepigmcaaaGreatDoor.Gr
open Go Go.RowKit YtafenkepigmcaaaGreatDoor.So
theorem run_eql47 (a b : Av) (w : World) : (binOp .eql 47 a.val b.val).run Tryz.prog w = .ok (.bool (avEq a b)) w := by
  have h := run_neq47 a b w
  unfold Av.val at h ⊢
  rw [run_neq_struct] at h
  rw [run_eql_struct]
  generalize (Op.equalIn 10000 47 (Value.agg #[.int .u8 a.k, .int .i64 a.n, .string a.s]) (Value.agg #[.int .u8 b.k, .int .i64 b.n, .string b.s])).run Tryz.prog w = R at h ⊢
  cases R with
  | ok x w' =>
    simp only [Result.andThen_ok, Result.ok.injEq, Value.bool.injEq] at h ⊢
    obtain ⟨h1, h2⟩ := h
    refine ⟨?_, h2⟩
    revert h1
    cases x <;> cases avEq a b <;> simp
  | _ => simp [Result.andThen] at h
def okV (a : Av) : Bool := Vl.formB a.k a.n a.s.data.toList
def valB (a : Av) (used : Bool) : Bool := avEq a zA || used && okV a
set_option maxRecDepth 100000 in
set_option maxHeartbeats 1000000 in
theorem val_any (a : Av) (u : Bool) (w : World) (hs : a.s.size ≤ maxLen) : Calls Tryz.prog 123 #[a.val, .bool u] w fun e w' => e = .returned (.bool (valB a u)) ∧ Below w.heap.size w w' := by
  have hq := fun w => run_eql47 a zA w
  have HC := Lib.hid (fun w => Vl.check_any a.k a.n a.s w hs)
  obtain ⟨k, m, s⟩ := a
  have hb := Lib.hid ((Below.refl w.heap.size w).alloc (Nat.le_refl _) (.cells #[.int .u8 k, .int .i64 m, .string s] 47))
  unfold Av.val zA at hq
  unfold Av.val
  simp only at *
  cases h1 : avEq ⟨k, m, s⟩ zA
  · unfold zA at h1
    rw [h1] at hq
    cases u
    · have e : valB ⟨k, m, s⟩ false = false := by unfold valB zA; rw [h1]; rfl
      rw [e]
      clear h1 e hs
      go_enter Tryz.func123, Tryz.ntmps123
      go_wp2_with fail
      go_ret
      exact ⟨rfl, hb.out⟩
    · have e : valB ⟨k, m, s⟩ true = okV ⟨k, m, s⟩ := by unfold valB zA; rw [h1]; rfl
      rw [e]
      obtain ⟨r, h2⟩ : ∃ r, okV ⟨k, m, s⟩ = r := ⟨_, rfl⟩
      rw [h2]
      cases r
      all_goals
        first | rw [Vl.chk_no (show Vl.formB k m s.data.toList = false from h2)] at HC | rw [Vl.chk_yes (show Vl.formB k m s.data.toList = true from h2)] at HC
        clear h1 e hs h2
        go_enter Tryz.func123, Tryz.ntmps123
        go_wp2_with fail
        refine (HC.out _).mono ?_
        rintro e w1 ⟨rfl, hb1⟩
        have H1 := Lib.hid hb1
        clear hb1
        go_wp2_with fail
        go_ret
        exact ⟨rfl, hb.out.trans (H1.out.mono hb.out.size)⟩
  · unfold zA at h1
    rw [h1] at hq
    have e : valB ⟨k, m, s⟩ u = true := by unfold valB zA; rw [h1]; rfl
    rw [e]
    clear h1 e hs
    go_enter Tryz.func123, Tryz.ntmps123
    go_wp2_with fail
    go_ret
    exact ⟨rfl, hb.out⟩
/-- An operation in form. -/
def okO (o : Ox) : Bool := pO o.kd && (numB o.A && (farB o.A o.B (pB o.kd) && (keyB o.key (pK o.kd) && valB o.a (pV o.kd))))
set_option maxRecDepth 100000 in
set_option maxHeartbeats 4000000 in
theorem formless_any (o : Ox) (w : World) (hs : o.a.s.size ≤ maxLen) : Calls Tryz.prog 93 #[o.v] w fun e w' => e = .returned (.bool (!okO o)) ∧ Below w.heap.size w w' := by
  obtain ⟨kd, A, B, key, ⟨k, m, s⟩⟩ := o
  have b0 := op_box w kd A B key k m s
  obtain ⟨z, hz⟩ : ∃ z, w.heap.size = z := ⟨_, rfl⟩
  obtain ⟨W, hW⟩ : ∃ W, w.alloc (.cells #[.int .u8 kd, .int .u32 A, .int .u32 B, .int .u8 key, .int .u8 k, .int .i64 m, .string s] 75) = W := ⟨_, rfl⟩
  have kz := heap_alloc_new w (.cells #[.int .u8 kd, .int .u32 A, .int .u32 B, .int .u8 key, .int .u8 k, .int .i64 m, .string s] 75)
  rw [hW, hz] at kz
  rw [hW] at b0
  obtain ⟨x0, _⟩ := bo kz
  have HK := Lib.hid (And.intro kz b0)
  have HP := Lib.hid (parts_any kd W)
  have hs' : s.size ≤ maxLen := hs
  have HS := Lib.hid hs'
  unfold PartsOf at HP
  unfold Ox.v opV okO
  simp only
  obtain ⟨uB, huB⟩ : ∃ u, pB kd = u := ⟨_, rfl⟩
  obtain ⟨uK, huK⟩ : ∃ u, pK kd = u := ⟨_, rfl⟩
  obtain ⟨uV, huV⟩ : ∃ u, pV kd = u := ⟨_, rfl⟩
  obtain ⟨uO, huO⟩ : ∃ u, pO kd = u := ⟨_, rfl⟩
  rw [huB, huK, huV, huO] at HP
  rw [huB, huK, huV, huO]
  clear huB huK huV huO kz b0 hs hs'
  obtain ⟨r1, hr1⟩ : ∃ r, numB A = r := ⟨_, rfl⟩
  obtain ⟨r2, hr2⟩ : ∃ r, farB A B uB = r := ⟨_, rfl⟩
  obtain ⟨r3, hr3⟩ : ∃ r, keyB key uK = r := ⟨_, rfl⟩
  obtain ⟨r4, hr4⟩ : ∃ r, valB ⟨k, m, s⟩ uV = r := ⟨_, rfl⟩
  have H1 := Lib.hid (fun w => (num_any A w).mono fun e w' hh => (by rw [hr1] at hh; exact hh))
  have H2 := Lib.hid (fun w => (far_any kd A B key ⟨k, m, s⟩ uB w).mono fun e w' hh => (by rw [hr2] at hh; exact hh))
  have H3 := Lib.hid (fun w => (key_any key uK w).mono fun e w' hh => (by rw [hr3] at hh; exact hh))
  have H4 := Lib.hid (fun w => (val_any ⟨k, m, s⟩ uV w HS.out).mono fun e w' hh => (by rw [hr4] at hh; exact hh))
  rw [hr1, hr2, hr3, hr4]
  clear hr1 hr2 hr3 hr4
  have fin : ∀ (w1 : World), Below W.heap.size W w1 → ∀ (b c : Bool), b = c → (Ending.returned (.bool b) = .returned (.bool c) ∧ Below w.heap.size w w1) := fun w1 h b c e => ⟨by rw [e], HK.out.2.trans (h.mono HK.out.2.size)⟩
  have HFin := Lib.hid fin
  clear fin
  go_enter Tryz.func93, Tryz.ntmps93
  go_wp2_with fail
  refine HP.out.mono ?_
  rintro e w1 ⟨rfl, hb1⟩
  have k1 := (hb1.block z (Array.getElem?_eq_some_iff.1 HK.out.1).1).trans HK.out.1
  obtain ⟨w2, hw2⟩ : ∃ w2, w1.alloc (.cells #[.bool uB, .bool uK, .bool uV] 191) = w2 := ⟨_, rfl⟩
  have k2 := (heap_alloc_old w1 (.cells #[.bool uB, .bool uK, .bool uV] 191) (Array.getElem?_eq_some_iff.1 k1).1).trans k1
  have n2 := heap_alloc_new w1 (.cells #[.bool uB, .bool uK, .bool uV] 191)
  have b2 : Below W.heap.size W w2 := hw2 ▸ (hb1.alloc hb1.size _)
  obtain ⟨p3, hp3⟩ : ∃ p3, w1.heap.size = p3 := ⟨_, rfl⟩
  rw [hw2] at k2 n2
  rw [hp3] at n2
  have HB2 := Lib.hid (And.intro k2 (And.intro n2 b2))
  obtain ⟨y0, y1, y2, y3, y4, y5, y6⟩ := bo k2
  obtain ⟨u0, u1, u2⟩ : w2.cell? ⟨p3, 0, none⟩ = some (.bool uB) ∧ w2.cell? ⟨p3, 1, none⟩ = some (.bool uK) ∧ w2.cell? ⟨p3, 2, none⟩ = some (.bool uV) := by simp [World.cell?, n2]
  clear hb1 k1 k2 n2 b2 x0 HP hz hW
  rcases (show uO = false ∨ (uO = true ∧ r1 = false) ∨ (uO = true ∧ r1 = true ∧ r2 = false) ∨ (uO = true ∧ r1 = true ∧ r2 = true ∧ r3 = false) ∨ (uO = true ∧ r1 = true ∧ r2 = true ∧ r3 = true) by clear H1 H2 H3; cases uO <;> cases r1 <;> cases r2 <;> cases r3 <;> simp) with rfl | ⟨rfl, rfl⟩ | ⟨rfl, rfl, rfl⟩ | ⟨rfl, rfl, rfl, rfl⟩ | ⟨rfl, rfl, rfl, rfl⟩
  · go_wp2_with fail
    go_ret
    exact HFin.out _ HB2.out.2.2 _ _ (by simp)
  · go_wp2_with fail
    refine (H1.out _).mono ?_
    rintro e w3 ⟨rfl, rfl⟩
    go_wp2_with fail
    go_ret
    exact HFin.out _ HB2.out.2.2 _ _ (by simp)
  all_goals
    go_wp2_with fail
    refine (H1.out _).mono ?_
    rintro e w3 ⟨rfl, rfl⟩
    go_wp2_with fail
    refine (H2.out _).mono ?_
    rintro e w4 ⟨rfl, hb4⟩
    have k4 := (hb4.block z (Array.getElem?_eq_some_iff.1 HB2.out.1).1).trans HB2.out.1
    have n4 := (hb4.block p3 (Array.getElem?_eq_some_iff.1 HB2.out.2.1).1).trans HB2.out.2.1
    have HB4 := Lib.hid (show Below W.heap.size W w4 from HB2.out.2.2.trans (hb4.mono HB2.out.2.2.size))
    obtain ⟨y0', y1', y2', y3', y4', y5', y6'⟩ := bo k4
    obtain ⟨u0', u1', u2'⟩ : w4.cell? ⟨p3, 0, none⟩ = some (.bool uB) ∧ w4.cell? ⟨p3, 1, none⟩ = some (.bool uK) ∧ w4.cell? ⟨p3, 2, none⟩ = some (.bool uV) := by simp [World.cell?, n4]
    clear hb4 k4 n4 y0 y1 y2 y3 y4 y5 y6 u0 u1 u2
    go_wp2_with fail
  · go_ret
    exact HFin.out _ HB4.out _ _ (by simp)
  all_goals
    refine (H3.out _).mono ?_
    rintro e w5 ⟨rfl, rfl⟩
    go_wp2_with fail
  · go_ret
    exact HFin.out _ HB4.out _ _ (by simp)
  refine (H4.out _).mono ?_
  rintro e w6 ⟨rfl, hb6⟩
  have HB6 := Lib.hid (show Below W.heap.size W w6 from HB4.out.trans (hb6.mono HB4.out.size))
  clear hb6
  go_wp2_with fail
  go_ret
  exact HFin.out _ HB6.out _ _ (by simp)
end Go.Proofs.YtafenkepigmcaaaGreatDoor.Gr
/- graph: requests in form, walked. -/
namespace Go.Proofs.YtafenkepigmcaaaGreatDoor.Gr
open Go Go.RowKit YtafenkepigmcaaaGreatDoor.So
theorem all_take {os : List Ox} {i : Nat} {o : Ox} (h : os[i]? = some o) (ha : (os.take i).all okO = true) (ho : okO o = true) : (os.take (i + 1)).all okO = true := by
  rw [List.take_add_one, h, List.all_append, ha]; simp [ho]
theorem all_not {os : List Ox} {i : Nat} {o : Ox} (h : os[i]? = some o) (ho : okO o = false) : os.all okO = false := by
  rw [← Bool.not_eq_true, List.all_eq_true]
  intro hh
  have := hh o (List.mem_of_getElem? h)
  rw [ho] at this; cases this
set_option maxRecDepth 100000 in
set_option maxHeartbeats 2000000 in
theorem index_any (os : List Ox) (ao : Option Addr) (cap : Nat) (w : World) (hO : RdO w ao os) (hs : ∀ o ∈ os, o.a.s.size ≤ maxLen) (hl : os.length ≤ 1000000000000) :
    Calls Tryz.prog 119 #[.slice ao os.length cap, .func (.func 93) #[] #[]] w fun e w' => (∃ i : Int, e = .returned (.int .i64 i) ∧ decide (0 ≤ i) = !os.all okO) ∧ Below w.heap.size w w' := by
  have HX := Lib.hid (And.intro hO hs)
  have hl' : (os.length : Int) ≤ 1000000000000 := by omega
  obtain ⟨N, hN⟩ : ∃ N, os.length = N := ⟨_, rfl⟩
  rw [hN] at hl' ⊢
  have HN := Lib.hid hN
  clear hO hs hl hN
  go_enter Tryz.func119, Tryz.ntmps119
  go_wp2_with fail
  go_loopw [8] (fun u wr => ∃ i : Nat, u = .int .i64 i ∧ i ≤ N ∧ Hid ((os.take i).all okO = true ∧ Below w.heap.size w wr)) (fun u _ => N + 1 - (intOf u).toNat)
  case atStart => exact ⟨0, rfl, Nat.zero_le _, Lib.hid ⟨rfl, .refl _ _⟩⟩
  case round =>
    obtain ⟨i, rfl, hi, HI⟩ := hrel
    by_cases hiN : i < N
    · obtain ⟨⟨kd, A, B, key, ⟨k, m, s⟩⟩, ho⟩ : ∃ o, os[i]? = some o := ⟨_, List.getElem?_eq_getElem (by have := HN.out; omega)⟩
      obtain ⟨b, off, rfl, hb, q0, q1, q2, q3, q4, q5, q6⟩ := (HX.out.1.on (K := fun _ => False) (below_any HI.out.2) (fun _ _ h => h)) i _ ho
      simp only at q0 q1 q2 q3 q4 q5 q6
      have HF := Lib.hid (formless_any ⟨kd, A, B, key, ⟨k, m, s⟩⟩ wr (HX.out.2 _ (List.mem_of_getElem? ho)))
      have HO := Lib.hid ho
      have hi1 : i + 1 ≤ N := hiN
      clear ho hb
      go_wp2_with fail
      refine HF.out.mono ?_
      rintro e w1 ⟨rfl, hb1⟩
      have HB1 := Lib.hid (show Below w.heap.size w w1 from HI.out.2.trans (hb1.mono HI.out.2.size))
      clear hb1
      cases hk : okO ⟨kd, A, B, key, ⟨k, m, s⟩⟩
      · have HE := Lib.hid (all_not HO.out hk)
        clear hk
        go_wp2_with fail
        go_ret
        exact ⟨⟨i, rfl, by rw [HE.out]; simp⟩, HB1.out⟩
      · have HE := Lib.hid (all_take HO.out HI.out.1 hk)
        clear hk
        go_wp2_with fail
        go_roundw
        case rel => exact ⟨i + 1, by go_num, hi1, Lib.hid ⟨HE.out, HB1.out⟩⟩
        case measure => simp [intOf] <;> omega
    · have hiE : N = i := by omega
      subst hiE
      have ha := HI.out.1
      rw [show os.take N = os by rw [← HN.out]; exact List.take_length] at ha
      have HE := Lib.hid (And.intro ha HI.out.2)
      clear ha HI hi
      go_wp2_with fail
      go_ret
      exact ⟨⟨-1, rfl, by rw [HE.out.1]; rfl⟩, HE.out.2⟩
theorem contains_any (os : List Ox) (ao : Option Addr) (cap : Nat) (w : World) (hO : RdO w ao os) (hs : ∀ o ∈ os, o.a.s.size ≤ maxLen) (hl : os.length ≤ 1000000000000) :
    Calls Tryz.prog 92 #[.slice ao os.length cap, .func (.func 93) #[] #[]] w fun e w' => e = .returned (.bool (!os.all okO)) ∧ Below w.heap.size w w' := by
  have H := Lib.hid (index_any os ao cap w hO hs hl)
  clear hO hs hl
  obtain ⟨N, hN⟩ : ∃ N, os.length = N := ⟨_, rfl⟩
  obtain ⟨c, hc⟩ : ∃ c, os.all okO = c := ⟨_, rfl⟩
  rw [hN, hc] at H
  rw [hN, hc]
  clear hN hc
  go_enter Tryz.func92, Tryz.ntmps92
  go_wp2_with fail
  refine H.out.mono ?_
  rintro e w1 ⟨⟨i, rfl, hi⟩, hb⟩
  have HB := Lib.hid hb
  clear hb
  go_wp2_with fail
  go_ret
  exact ⟨rfl, HB.out⟩
/-- A request. -/
structure Rq where
  kd : Int
  os : List Ox
  V : Int
  K : Int
  To : Int
def Rq.val (r : Rq) (ao : Option Addr) (cap : Nat) : Value := .agg #[.int .u8 r.kd, .slice ao r.os.length cap, .int .u32 r.V, .int .i64 r.K, .int .i64 r.To]
def chkTx (r : Rq) : Int := if r.os.length = 0 ∨ 6 < r.os.length then 2 else if r.V ≠ 0 ∨ r.K ≠ 0 ∨ r.To ≠ 0 ∨ r.os.all okO = false then 3 else 0
def chkOne (r : Rq) (used most unused : Int) : Int := if used < 0 ∨ most < used then 1 else if numB r.V = false ∨ unused ≠ 0 ∨ 0 < r.os.length then 3 else 0
def chkR (r : Rq) : Int := if r.kd = 1 then chkTx r else if r.kd = 2 then chkOne r r.K 8 r.To else if r.kd = 3 then chkOne r r.To 3 r.K else 1
theorem rq_box (w : World) (kd V K To : Int) (sv : Value) : Below w.heap.size w (w.alloc (.cells #[.int .u8 kd, sv, .int .u32 V, .int .i64 K, .int .i64 To] 33)) := (Below.refl w.heap.size w).alloc (Nat.le_refl _) _
set_option maxRecDepth 100000 in
set_option maxHeartbeats 2000000 in
theorem one_any (r : Rq) (used most unused : Int) (ao : Option Addr) (cap : Nat) (w : World) : Calls Tryz.prog 60 #[r.val ao cap, .int .i64 used, .int .i64 most, .int .i64 unused] w fun e w' => e = .returned (.int .i64 (chkOne r used most unused)) ∧ Below w.heap.size w w' := by
  obtain ⟨kd, os, V, K, To⟩ := r
  unfold Rq.val chkOne
  simp only
  obtain ⟨N, hN⟩ : ∃ N, os.length = N := ⟨_, rfl⟩
  rw [hN]
  have HB := Lib.hid (rq_box w kd V K To (.slice ao N cap))
  have HN := Lib.hid (num_any V (w.alloc (.cells #[.int .u8 kd, .slice ao N cap, .int .u32 V, .int .i64 K, .int .i64 To] 33)))
  clear hN
  by_cases h1 : used < 0
  · rw [if_pos (.inl h1)]
    go_enter Tryz.func60, Tryz.ntmps60
    go_wp2_with fail
    go_ret
    exact ⟨rfl, HB.out⟩
  by_cases h2 : most < used
  · rw [if_pos (.inr h2)]
    go_enter Tryz.func60, Tryz.ntmps60
    go_wp2_with fail
    go_ret
    exact ⟨rfl, HB.out⟩
  rw [if_neg (by omega)]
  cases hv : numB V
  · rw [if_pos (.inl rfl)]
    rw [hv] at HN
    clear hv
    go_enter Tryz.func60, Tryz.ntmps60
    go_wp2_with fail
    refine HN.out.mono ?_
    rintro e w1 ⟨rfl, rfl⟩
    go_wp2_with fail
    go_ret
    exact ⟨rfl, HB.out⟩
  rw [hv] at HN
  clear hv
  by_cases h3 : unused = 0
  · subst h3
    by_cases h4 : N = 0
    · subst h4
      rw [if_neg (by simp)]
      go_enter Tryz.func60, Tryz.ntmps60
      go_wp2_with fail
      refine HN.out.mono ?_
      rintro e w1 ⟨rfl, rfl⟩
      go_wp2_with fail
      go_ret
      exact ⟨rfl, HB.out⟩
    · rw [if_pos (.inr (.inr (by omega)))]
      have h5 : decide ((0 : Int) < (N : Int)) = true := by simp; omega
      go_enter Tryz.func60, Tryz.ntmps60
      go_wp2_with fail
      refine HN.out.mono ?_
      rintro e w1 ⟨rfl, rfl⟩
      go_wp2_with fail
      go_ret
      exact ⟨rfl, HB.out⟩
  · rw [if_pos (.inr (.inl h3))]
    have h5 : (unused != 0) = true := by simpa using h3
    go_enter Tryz.func60, Tryz.ntmps60
    go_wp2_with fail
    refine HN.out.mono ?_
    rintro e w1 ⟨rfl, rfl⟩
    go_wp2_with fail
    go_ret
    exact ⟨rfl, HB.out⟩
end Go.Proofs.YtafenkepigmcaaaGreatDoor.Gr
/- graph: Check, walked. -/
namespace Go.Proofs.YtafenkepigmcaaaGreatDoor.Gr
open Go Go.RowKit YtafenkepigmcaaaGreatDoor.So
set_option maxRecDepth 100000 in
set_option maxHeartbeats 2000000 in
theorem tx_any (r : Rq) (ao : Option Addr) (cap : Nat) (w : World) (hO : RdO w ao r.os) (hs : ∀ o ∈ r.os, o.a.s.size ≤ maxLen) : Calls Tryz.prog 59 #[r.val ao cap] w fun e w' => e = .returned (.int .i64 (chkTx r)) ∧ Below w.heap.size w w' := by
  obtain ⟨kd, os, V, K, To⟩ := r
  unfold Rq.val chkTx
  simp only at hO hs ⊢
  have HX := Lib.hid (And.intro hO hs)
  have HB := Lib.hid (fun sv => rq_box w kd V K To sv)
  obtain ⟨N, hN⟩ : ∃ N, os.length = N := ⟨_, rfl⟩
  rw [hN]
  have HN := Lib.hid hN
  clear hO hs hN
  by_cases h1 : N = 0
  · subst h1
    rw [if_pos (.inl rfl)]
    go_enter Tryz.func59, Tryz.ntmps59
    go_wp2_with fail
    go_ret
    exact ⟨rfl, HB.out _⟩
  have h1b : ((N : Int) == 0) = false := by simp; omega
  by_cases h2 : 6 < N
  · rw [if_pos (.inr h2)]
    have h2b : decide ((6 : Int) < (N : Int)) = true := by simp; omega
    go_enter Tryz.func59, Tryz.ntmps59
    go_wp2_with fail
    go_ret
    exact ⟨rfl, HB.out _⟩
  rw [if_neg (show ¬ (N = 0 ∨ 6 < N) by omega)]
  have h2b : decide ((6 : Int) < (N : Int)) = false := by simp; omega
  by_cases h3 : V = 0
  · subst h3
    by_cases h4 : K = 0
    · subst h4
      by_cases h5 : To = 0
      · subst h5
        have hc := contains_any os ao cap (w.alloc (.cells #[.int .u8 kd, .slice ao N cap, .int .u32 0, .int .i64 0, .int .i64 0] 33)) (HX.out.1.on (K := fun _ => False) (below_any (HB.out _)) (fun _ _ h => h)) HX.out.2 (by have := HN.out; omega)
        rw [HN.out] at hc
        have HC := Lib.hid hc
        clear hc
        cases h6 : os.all okO
        all_goals
          rw [h6] at HC
          clear h6 h1 h2
          go_enter Tryz.func59, Tryz.ntmps59
          go_wp2_with fail
          refine HC.out.mono ?_
          rintro e w1 ⟨rfl, hb⟩
          have HB1 := Lib.hid hb
          clear hb
          go_wp2_with fail
          go_ret
          exact ⟨by simp, (HB.out _).trans (HB1.out.mono (HB.out _).size)⟩
      · have h5b : (To != 0) = true := by simpa using h5
        rw [if_pos (.inr (.inr (.inl h5)))]
        go_enter Tryz.func59, Tryz.ntmps59
        go_wp2_with fail
        go_ret
        exact ⟨rfl, HB.out _⟩
    · have h4b : (K != 0) = true := by simpa using h4
      rw [if_pos (.inr (.inl h4))]
      go_enter Tryz.func59, Tryz.ntmps59
      go_wp2_with fail
      go_ret
      exact ⟨rfl, HB.out _⟩
  · have h3b : (V != 0) = true := by simpa using h3
    rw [if_pos (.inl h3)]
    go_enter Tryz.func59, Tryz.ntmps59
    go_wp2_with fail
    go_ret
    exact ⟨rfl, HB.out _⟩
set_option maxRecDepth 100000 in
set_option maxHeartbeats 2000000 in
theorem check_any (r : Rq) (ao : Option Addr) (cap : Nat) (w : World) (hO : RdO w ao r.os) (hs : ∀ o ∈ r.os, o.a.s.size ≤ maxLen) : Calls Tryz.prog 21 #[r.val ao cap] w fun e w' => e = .returned (.int .i64 (chkR r)) ∧ Below w.heap.size w w' := by
  have HB := Lib.hid (rq_box w r.kd r.V r.K r.To (.slice ao r.os.length cap))
  have HO := Lib.hid (hO.on (K := fun _ => False) (below_any HB.out) (fun _ _ h => h))
  have HT := Lib.hid (tx_any r ao cap _ HO.out hs)
  have H1 := Lib.hid (fun used most unused w => one_any r used most unused ao cap w)
  obtain ⟨kd, os, V, K, To⟩ := r
  unfold Rq.val at HT H1 ⊢
  unfold chkR
  simp only at HT H1 HB ⊢
  obtain ⟨N, hN⟩ : ∃ N, os.length = N := ⟨_, rfl⟩
  obtain ⟨c1, hc1⟩ : ∃ c, chkTx ⟨kd, os, V, K, To⟩ = c := ⟨_, rfl⟩
  obtain ⟨c2, hc2⟩ : ∃ c, chkOne ⟨kd, os, V, K, To⟩ K 8 To = c := ⟨_, rfl⟩
  obtain ⟨c3, hc3⟩ : ∃ c, chkOne ⟨kd, os, V, K, To⟩ To 3 K = c := ⟨_, rfl⟩
  have H2 := Lib.hid (H1.out K 8 To)
  have H3 := Lib.hid (H1.out To 3 K)
  rw [hN] at HT H2 H3 HB ⊢
  rw [hc1] at HT ⊢
  rw [hc2] at H2 ⊢
  rw [hc3] at H3 ⊢
  clear hN hc1 hc2 hc3 hO hs HO H1
  by_cases h1 : kd = 1
  · subst h1
    rw [if_pos rfl]
    go_enter Tryz.func21, Tryz.ntmps21
    go_wp2_with fail
    refine HT.out.mono ?_
    rintro e w1 ⟨rfl, hb⟩
    have HB1 := Lib.hid hb
    clear hb
    go_wp2_with fail
    go_ret
    exact ⟨rfl, HB.out.trans (HB1.out.mono HB.out.size)⟩
  have h1b : (kd == 1) = false := by simpa using h1
  rw [if_neg h1]
  by_cases h2 : kd = 2
  · subst h2
    rw [if_pos rfl]
    have H2 := Lib.hid (H2.out (w.alloc (.cells #[.int .u8 2, .slice ao N cap, .int .u32 V, .int .i64 K, .int .i64 To] 33)))
    go_enter Tryz.func21, Tryz.ntmps21
    go_wp2_with fail
    refine H2.out.mono ?_
    rintro e w1 ⟨rfl, hb⟩
    have HB1 := Lib.hid hb
    clear hb
    go_wp2_with fail
    go_ret
    exact ⟨rfl, HB.out.trans (HB1.out.mono HB.out.size)⟩
  have h2b : (kd == 2) = false := by simpa using h2
  rw [if_neg h2]
  by_cases h3 : kd = 3
  · subst h3
    rw [if_pos rfl]
    have H3 := Lib.hid (H3.out (w.alloc (.cells #[.int .u8 3, .slice ao N cap, .int .u32 V, .int .i64 K, .int .i64 To] 33)))
    go_enter Tryz.func21, Tryz.ntmps21
    go_wp2_with fail
    refine H3.out.mono ?_
    rintro e w1 ⟨rfl, hb⟩
    have HB1 := Lib.hid hb
    clear hb
    go_wp2_with fail
    go_ret
    exact ⟨rfl, HB.out.trans (HB1.out.mono HB.out.size)⟩
  have h3b : (kd == 3) = false := by simpa using h3
  rw [if_neg h3]
  go_enter Tryz.func21, Tryz.ntmps21
  go_wp2_with fail
  go_ret
  exact ⟨rfl, HB.out⟩
end Go.Proofs.YtafenkepigmcaaaGreatDoor.Gr

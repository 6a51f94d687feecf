/- graph: what the two known requests of the law's are answered. -/
import Derived.Test.YtafenkepigmcaaaGreatDoorNJ
import Derived.Test.YtafenkepigmcaaaGreatDoorNI
import Derived.Deep.QuietTactic
import Derived.BigQuiet
namespace Go.Proofs.YtafenkepigmcaaaGreatDoor.Gr
open Go Go.RowKit YtafenkepigmcaaaGreatDoor.So
def ax : Av := ⟨2, 0, ⟨#[120]⟩⟩
def an : Av := ⟨1, 5, ⟨#[]⟩⟩
def os1 : List Ox := [⟨1, 1, 0, 0, zA⟩, ⟨1, 2, 0, 0, zA⟩, ⟨5, 1, 2, 0, ax⟩, ⟨3, 1, 0, 0, an⟩]
def os2 : List Ox := [⟨4, 1, 0, 0, zA⟩, ⟨7, 2, 1, 0, zA⟩]
def r1 : Rq := ⟨1, os1, 0, 0, 0⟩
def r2 : Rq := ⟨1, os2, 0, 0, 0⟩
def G1 : GV := [(1, ([(0, an)], [(2, ax)])), (2, ([], [(1, ax)]))]
theorem chk1 : chkR r1 = 0 := by decide
theorem chk2 : chkR r2 = 0 := by decide
theorem bad1 : badG [] os1 = none := by rfl
theorem st1 : stG [] os1 = G1 := by rfl
theorem val1 : valG [] os1 = [] := by rfl
theorem bad2 : badG G1 os2 = none := by rfl
theorem val2 : valG G1 os2 = [an, ax] := by rfl
theorem ans1 : ansG [] r1 = ⟨0, 0, [], []⟩ := by
  unfold ansG
  rw [if_neg (by rw [chk1]; simp), if_pos (show r1.kd = 1 from rfl), show badG [] r1.os = none from bad1]
  rfl
theorem next1 : nextG [] r1 = G1 := by
  unfold nextG
  rw [if_neg (by rw [chk1]; simp), if_pos (show r1.kd = 1 from rfl), show badG [] r1.os = none from bad1]
  exact st1
theorem ans2 : ansG G1 r2 = ⟨0, 0, [an, ax], []⟩ := by
  unfold ansG
  rw [if_neg (by rw [chk2]; simp), if_pos (show r2.kd = 1 from rfl), show badG G1 r2.os = none from bad2]
  show (⟨0, 0, valG G1 os2, []⟩ : An) = _
  rw [val2]
theorem wf1 : ∀ o ∈ os1, o.wf := by
  intro o ho
  simp [os1] at ho
  rcases ho with rfl | rfl | rfl | rfl <;> exact ⟨rfl, rfl, rfl, rfl, rfl, rfl, by decide⟩
theorem wf2 : ∀ o ∈ os2, o.wf := by
  intro o ho
  simp [os2] at ho
  rcases ho with rfl | rfl <;> exact ⟨rfl, rfl, rfl, rfl, rfl, rfl, by decide⟩
theorem okG1 : OkG G1 := next1 ▸ okG_nil.next wf1
theorem eq_an : avEq an an = true := by decide
theorem eq_ax : avEq ax ax = true := by decide
/-- A literal's operations stand. -/
theorem rd_lit {w : World} {b : Nat} {cs : Array Value} {t : TypeId} {os : List Ox} (h : w.heap[b]? = some (.cells cs t (0, 0))) (hc : cs.toList = oCells os) : RdO w (some ⟨b, 0, none⟩) os := by
  intro i o hi
  refine ⟨b, 0, rfl, (Array.getElem?_eq_some_iff.1 h).1, ?_⟩
  have cc : ∀ k, k < 7 → w.cell? ⟨b, 0 + (i * 7 + k), none⟩ = (opC o)[k]? := fun k hk => by
    rw [← oCells_at hi k hk, ← hc]
    simp [World.cell?, h]
  obtain ⟨c0, c1, c2, c3, c4, c5, c6⟩ := opC_at o
  exact ⟨by have := cc 0 (by omega); simpa using this.trans c0, by have := cc 1 (by omega); rw [← Nat.add_assoc] at this; exact this.trans c1, by have := cc 2 (by omega); rw [← Nat.add_assoc] at this; exact this.trans c2, by have := cc 3 (by omega); rw [← Nat.add_assoc] at this; exact this.trans c3, by have := cc 4 (by omega); rw [← Nat.add_assoc] at this; exact this.trans c4, by have := cc 5 (by omega); rw [← Nat.add_assoc] at this; exact this.trans c5, by have := cc 6 (by omega); rw [← Nat.add_assoc] at this; exact this.trans c6⟩
/-- What is read of an answer's first two values. -/
theorem row_av {w : World} {B n : Nat} {ao : Option Addr} {cap : Nat} {l : List Av} (h : w.ownsRow B 47 3 (.slice ao n cap) l.length (aCells l)) (hn : 0 < l.length) : ∃ g, ao = some ⟨g, 0, none⟩ ∧ B ≤ g ∧ g < w.heap.size ∧ ∀ i u, (aCells l)[i]? = some u → w.cell? ⟨g, i, none⟩ = some u := by
  rcases h.2 with ⟨e, h0⟩ | ⟨g, cap, cur, e, h1, h2, h3, h4, h5, h6⟩
  · omega
  · cases e
    refine ⟨g, rfl, h1, (Array.getElem?_eq_some_iff.1 h2).1, fun i u hu => ?_⟩
    rw [← h6, List.getElem?_take] at hu
    split at hu
    · simp only [World.cell?, h2]
      simpa using hu
    · cases hu
end Go.Proofs.YtafenkepigmcaaaGreatDoor.Gr
/- graph: the law's awake, walked. -/
namespace Go.Proofs.YtafenkepigmcaaaGreatDoor.Gr
open Go Go.RowKit YtafenkepigmcaaaGreatDoor.So
def AwPost (w : World) (e : Ending) (w' : World) : Prop := e = .returned (.bool true) ∧ Below w.heap.size w w'
/-- Behind the first of the two known requests. -/
def Aw1 (g : Nat) (F : Nat → Prop) (wa : World) (e : Ending) (w' : World) : Prop := ∃ av cv al cl, e = .returned (.agg #[.int .i64 0, .int .i64 0, .slice av 0 cv, .slice al 0 cl]) ∧ ∃ F', Gp w' 64 F' g G1 ∧ (∀ k, F' k → F k ∨ wa.heap.size ≤ k) ∧ Turned F wa w'
theorem aw_do1 (g b : Nat) (F : Nat → Prop) (wa : World) (h : DoIn wa F 40 g [] r1 (some ⟨b, 0, none⟩)) : Calls Tryz.prog 18 #[.pointer (some ⟨g, 0, none⟩), .agg #[.int .u8 1, .slice (some ⟨b, 0, none⟩) 4 4, .int .u32 0, .int .i64 0, .int .i64 0]] wa (Aw1 g F wa) := by
  refine (do_any g 40 F [] r1 (some ⟨b, 0, none⟩) 4 wa h).mono ?_
  rintro e w' ⟨vv, lv, rfl, ha⟩
  rw [ans1, next1] at ha
  rw [ans1]
  obtain ⟨av, cv, rfl⟩ := row_slice ha.vals
  obtain ⟨al, cl, rfl⟩ := row_slice ha.list
  obtain ⟨F', g1, g2, _, _⟩ := ha.gr
  exact ⟨av, cv, al, cl, rfl, F', g1, g2, ha.tur⟩
/-- Behind the second. -/
def Aw2 (F : Nat → Prop) (wa : World) (e : Ending) (w' : World) : Prop := ∃ p cv al cl, e = .returned (.agg #[.int .i64 0, .int .i64 0, .slice (some ⟨p, 0, none⟩) 2 cv, .slice al 0 cl]) ∧ p < w'.heap.size ∧ (w'.cell? ⟨p, 0, none⟩ = some (.int .u8 1) ∧ w'.cell? ⟨p, 1, none⟩ = some (.int .i64 5) ∧ w'.cell? ⟨p, 2, none⟩ = some (.string ⟨#[]⟩) ∧ w'.cell? ⟨p, 3, none⟩ = some (.int .u8 2) ∧ w'.cell? ⟨p, 4, none⟩ = some (.int .i64 0) ∧ w'.cell? ⟨p, 5, none⟩ = some (.string ⟨#[120]⟩)) ∧ Turned F wa w'
theorem aw_do2 (g b : Nat) (F : Nat → Prop) (wa : World) (h : DoIn wa F 64 g G1 r2 (some ⟨b, 0, none⟩)) : Calls Tryz.prog 18 #[.pointer (some ⟨g, 0, none⟩), .agg #[.int .u8 1, .slice (some ⟨b, 0, none⟩) 2 2, .int .u32 0, .int .i64 0, .int .i64 0]] wa (Aw2 F wa) := by
  refine (do_any g 64 F G1 r2 (some ⟨b, 0, none⟩) 2 wa h).mono ?_
  rintro e w' ⟨vv, lv, rfl, ha⟩
  rw [ans2] at ha
  rw [ans2]
  obtain ⟨av, cv, rfl⟩ := row_slice ha.vals
  obtain ⟨al, cl, rfl⟩ := row_slice ha.list
  obtain ⟨p, rfl, _, hp, hc⟩ := row_av ha.vals (by simp)
  exact ⟨p, cv, al, cl, rfl, hp, ⟨hc 0 _ rfl, hc 1 _ rfl, hc 2 _ rfl, hc 3 _ rfl, hc 4 _ rfl, hc 5 _ rfl⟩, ha.tur⟩
theorem eql_an (w : World) : (binOp .eql 47 (.agg #[.int .u8 1, .int .i64 5, .string ⟨#[]⟩]) (.agg #[.int .u8 1, .int .i64 5, .string ⟨#[]⟩])).run Tryz.prog w = .ok (.bool true) w := run_eql47 Gr.an Gr.an w
theorem eql_ax (w : World) : (binOp .eql 47 (.agg #[.int .u8 2, .int .i64 0, .string ⟨#[120]⟩]) (.agg #[.int .u8 2, .int .i64 0, .string ⟨#[120]⟩])).run Tryz.prog w = .ok (.bool true) w := run_eql47 Gr.ax Gr.ax w
set_option maxRecDepth 100000 in
set_option maxHeartbeats 4000000 in
theorem awake_any (w : World) (he : Flt.ErrT w) : Calls Tryz.prog 15 #[] w (AwPost w) := by
  have hw0 : 0 < w.heap.size := World.block_lt_of_cell? _ _ he
  go_enter Tryz.func15, Tryz.ntmps15
  go_wp2_with fail
  refine (new_any w).mono ?_
  rintro e w1 ⟨rfl, hgp, hb1⟩
  obtain ⟨z, hz⟩ : ∃ z, w.heap.size = z := ⟨_, rfl⟩
  obtain ⟨q, hq⟩ : ∃ q, w1.heap.size = q := ⟨_, rfl⟩
  have hzq : z ≤ q := by have := hb1.size; omega
  have bA := hb1.alloc hb1.size (.cells #[.int .u8 2, .int .i64 0, .string ⟨#[120]⟩] 47)
  have bB := bA.alloc bA.size (.cells #[.int .u8 1, .int .i64 5, .string ⟨#[]⟩] 47)
  have HQ := Lib.hid (And.intro hgp (And.intro hb1 (And.intro bB (And.intro hz (And.intro hq hzq)))))
  have KA := heap_alloc_new w1 (.cells #[.int .u8 2, .int .i64 0, .string ⟨#[120]⟩] 47)
  have KA2 := (heap_alloc_old (w1.alloc (.cells #[.int .u8 2, .int .i64 0, .string ⟨#[120]⟩] 47)) (.cells #[.int .u8 1, .int .i64 5, .string ⟨#[]⟩] 47) (by simp)).trans KA
  have KB2 := heap_alloc2_new w1 (.cells #[.int .u8 2, .int .i64 0, .string ⟨#[120]⟩] 47) (.cells #[.int .u8 1, .int .i64 5, .string ⟨#[]⟩] 47)
  rw [hq] at KA2 KB2
  have HK := Lib.hid (And.intro KA2 KB2)
  rw [hz]
  clear hgp hb1 bA bB KA KA2 KB2
  go_wp2_with fail
  obtain ⟨wx, hwx⟩ : ∃ wx, (w1.alloc (.cells #[.int .u8 2, .int .i64 0, .string ⟨#[120]⟩] 47)).alloc (.cells #[.int .u8 1, .int .i64 5, .string ⟨#[]⟩] 47) = wx := ⟨_, rfl⟩
  have hxq : wx.heap.size = q + 2 := by rw [← hwx, ← hq]; simp
  have HQ2 := HQ.out
  have HK2 := HK.out
  rw [hwx] at HQ2 HK2 ⊢
  obtain ⟨hgp, hb1, hbx, -, -, -⟩ := HQ2
  have hgx : Gp wx 0 (fun k => w.heap.size ≤ k ∧ k < w.heap.size + 3) (w.heap.size + 2) [] := by
    rw [← hwx]
    exact hgp.below (((Below.refl _ w1).alloc (Nat.le_refl _) _).alloc (by simp) _)
  have hl := heap_alloc_new wx (.cells (oCells os1).toArray 75)
  have bL := hbx.alloc hbx.size (.cells (oCells os1).toArray 75)
  have hgl := hgx.below ((Below.refl _ wx).alloc (Nat.le_refl _) (.cells (oCells os1).toArray 75))
  have hxa := (heap_alloc_old wx (.cells (oCells os1).toArray 75) (Array.getElem?_eq_some_iff.1 HK2.1).1).trans HK2.1
  have hxb := (heap_alloc_old wx (.cells (oCells os1).toArray 75) (Array.getElem?_eq_some_iff.1 HK2.2).1).trans HK2.2
  rw [hxq] at hl
  have hfq : ∀ k, (w.heap.size ≤ k ∧ k < w.heap.size + 3) → k < q := fun k hk => by have := gp_lt hgp k hk; omega
  have hD : DoIn (wx.alloc (.cells (oCells os1).toArray 75)) (fun k => w.heap.size ≤ k ∧ k < w.heap.size + 3) 40 (w.heap.size + 2) [] r1 (some ⟨q + 2, 0, none⟩) :=
    ⟨hgl.mono (by omega), by omega, by omega, by simp, okG_nil.closed, rd_lit hl (by simp; rfl), fun ad e hf => by cases e; have := (show q + 2 < q from hfq _ hf); omega, wf1, rfl, Flt.ErrT.on he bL, fun hf => by omega⟩
  have HD := Lib.hid (aw_do1 _ _ _ _ hD)
  have H2 := Lib.hid (And.intro hxa (And.intro hxb (And.intro bL (And.intro hfq hxq))))
  rw [hz] at HD
  clear hgp hb1 hbx hgx hl bL hgl hxa hxb hfq hD HK2
  have hlit : (oCells os1).toArray = #[.int .u8 1, .int .u32 1, .int .u32 0, .int .u8 0, .int .u8 0, .int .i64 0, .string ⟨#[]⟩, .int .u8 1, .int .u32 2, .int .u32 0, .int .u8 0, .int .u8 0, .int .i64 0, .string ⟨#[]⟩, .int .u8 5, .int .u32 1, .int .u32 2, .int .u8 0, .int .u8 2, .int .i64 0, .string ⟨#[120]⟩, .int .u8 3, .int .u32 1, .int .u32 0, .int .u8 0, .int .u8 1, .int .i64 5, .string ⟨#[]⟩] := rfl
  rw [← hlit]
  obtain ⟨wl, hwl⟩ : ∃ wl, wx.alloc (.cells (oCells os1).toArray 75) = wl := ⟨_, rfl⟩
  rw [hwl] at HD H2 ⊢
  refine HD.out.mono ?_
  rintro e w2 ⟨av, cv, al, cl, rfl, F2, hg2, hF2, ht2⟩
  have hql : q < wl.heap.size := (Array.getElem?_eq_some_iff.1 H2.out.1).1
  have hql2 : q + 1 < wl.heap.size := (Array.getElem?_eq_some_iff.1 H2.out.2.1).1
  have xa2 := (ht2.block q hql (fun hf => by have hf' : z ≤ q ∧ q < z + 3 := hf; have := H2.out.2.2.2.1 q (by omega); omega)).trans H2.out.1
  have xb2 := (ht2.block (q + 1) hql2 (fun hf => by have hf' : z ≤ q + 1 ∧ q + 1 < z + 3 := hf; have := H2.out.2.2.2.1 (q + 1) (by omega); omega)).trans H2.out.2.1
  have b2 : Below w.heap.size w w2 := H2.out.2.2.1.trans (ht2.below H2.out.2.2.1.size (fun k hk => by have hf' : z ≤ k ∧ k < z + 3 := hk; omega))
  have hF0 : ∀ k, F2 k → w.heap.size ≤ k ∧ k < w2.heap.size ∧ (k < q ∨ q + 2 ≤ k) := fun k hk => by
    have h1 := gp_lt hg2 k hk
    rcases hF2 k hk with e | e
    · have hf' : z ≤ k ∧ k < z + 3 := e
      have := H2.out.2.2.2.1 k (by omega)
      exact ⟨by omega, h1, .inl this⟩
    · have := H2.out.2.2.1.size
      exact ⟨by omega, h1, .inr (by omega)⟩
  obtain ⟨y, hy⟩ : ∃ y, w2.heap.size = y := ⟨_, rfl⟩
  have hyq : q + 1 < y := by have := (Array.getElem?_eq_some_iff.1 xb2).1; omega
  have H3 := Lib.hid (And.intro hg2 (And.intro hF0 (And.intro xa2 (And.intro xb2 (And.intro b2 hyq)))))
  clear hg2 hF2 ht2 hql hql2 xa2 xb2 b2 hF0 HD H2 HQ HK hlit hwl hwx hq hxq hzq
  have kbox := heap_alloc_new w2 (.cells #[.int .i64 0, .int .i64 0, .slice av 0 cv, .slice al 0 cl] 39)
  have xa3 := (heap_alloc_old w2 (.cells #[.int .i64 0, .int .i64 0, .slice av 0 cv, .slice al 0 cl] 39) (Array.getElem?_eq_some_iff.1 H3.out.2.2.1).1).trans H3.out.2.2.1
  have xb3 := (heap_alloc_old w2 (.cells #[.int .i64 0, .int .i64 0, .slice av 0 cv, .slice al 0 cl] 39) (Array.getElem?_eq_some_iff.1 H3.out.2.2.2.1).1).trans H3.out.2.2.2.1
  rw [hy] at kbox
  have HB := Lib.hid (And.intro kbox (And.intro xa3 xb3))
  clear kbox xa3 xb3
  go_wp2_with fail
  obtain ⟨wy, hwy⟩ : ∃ wy, w2.alloc (.cells #[.int .i64 0, .int .i64 0, .slice av 0 cv, .slice al 0 cl] 39) = wy := ⟨_, rfl⟩
  have hyy : wy.heap.size = y + 1 := by rw [← hwy, ← hy]; simp
  have by2 := H3.out.2.2.2.2.1.alloc H3.out.2.2.2.2.1.size (.cells #[.int .i64 0, .int .i64 0, .slice av 0 cv, .slice al 0 cl] 39)
  have gy := H3.out.1.below ((Below.refl _ w2).alloc (Nat.le_refl _) (.cells #[.int .i64 0, .int .i64 0, .slice av 0 cv, .slice al 0 cl] 39))
  have HBy := HB.out
  rw [hwy] at by2 gy HBy ⊢
  have hl := heap_alloc_new wy (.cells (oCells os2).toArray 75)
  rw [hyy] at hl
  have bL := by2.alloc by2.size (.cells (oCells os2).toArray 75)
  have hgl := gy.below ((Below.refl _ wy).alloc (Nat.le_refl _) (.cells (oCells os2).toArray 75))
  have ky := (heap_alloc_old wy (.cells (oCells os2).toArray 75) (Array.getElem?_eq_some_iff.1 HBy.1).1).trans HBy.1
  have kxa := (heap_alloc_old wy (.cells (oCells os2).toArray 75) (Array.getElem?_eq_some_iff.1 HBy.2.1).1).trans HBy.2.1
  have kxb := (heap_alloc_old wy (.cells (oCells os2).toArray 75) (Array.getElem?_eq_some_iff.1 HBy.2.2).1).trans HBy.2.2
  have hD : DoIn (wy.alloc (.cells (oCells os2).toArray 75)) F2 64 (z + 2) G1 r2 (some ⟨y + 1, 0, none⟩) :=
    ⟨hgl, by omega, by omega, okG1.sizes, okG1.closed, rd_lit hl (by simp; rfl), fun ad e hf => by cases e; have := H3.out.2.1 (y + 1) hf; omega, wf2, rfl, Flt.ErrT.on he bL, fun hf => by have := H3.out.2.1 0 hf; omega⟩
  have HD := Lib.hid (aw_do2 _ _ _ _ hD)
  have H4 := Lib.hid (And.intro ky (And.intro kxa (And.intro kxb bL)))
  clear hl bL hgl ky kxa kxb hD by2 gy HBy hyy
  have hlit : (oCells os2).toArray = #[.int .u8 4, .int .u32 1, .int .u32 0, .int .u8 0, .int .u8 0, .int .i64 0, .string ⟨#[]⟩, .int .u8 7, .int .u32 2, .int .u32 1, .int .u8 0, .int .u8 0, .int .i64 0, .string ⟨#[]⟩] := rfl
  rw [← hlit]
  obtain ⟨wm, hwm⟩ : ∃ wm, wy.alloc (.cells (oCells os2).toArray 75) = wm := ⟨_, rfl⟩
  rw [hwm] at HD H4 ⊢
  refine HD.out.mono ?_
  rintro e w3 ⟨p, c3, a3, c4, rfl, hp, hcells, ht3⟩
  have zz : ∀ k, F2 k → k ≠ y ∧ k ≠ q ∧ k ≠ q + 1 := fun k hk => by have := H3.out.2.1 k hk; omega
  have y3 := (ht3.block y (Array.getElem?_eq_some_iff.1 H4.out.1).1 (fun hf => (zz _ hf).1 rfl)).trans H4.out.1
  have xa4 := (ht3.block q (Array.getElem?_eq_some_iff.1 H4.out.2.1).1 (fun hf => (zz _ hf).2.1 rfl)).trans H4.out.2.1
  have xb4 := (ht3.block (q + 1) (Array.getElem?_eq_some_iff.1 H4.out.2.2.1).1 (fun hf => (zz _ hf).2.2 rfl)).trans H4.out.2.2.1
  have b3 : Below w.heap.size w w3 := H4.out.2.2.2.trans (ht3.below H4.out.2.2.2.size (fun k hk => (H3.out.2.1 k hk).1))
  have H5 := Lib.hid (And.intro y3 (And.intro xa4 (And.intro xb4 (And.intro b3 (And.intro hp hcells)))))
  clear H4 H3 HB HD zz y3 xa4 xb4 b3 hp hcells ht3 hlit hwm hwy hy
  have b5 := H5.out.2.2.2.1.alloc H5.out.2.2.2.1.size (.cells #[.int .i64 0, .int .i64 0, .slice (some ⟨p, 0, none⟩) 2 c3, .slice a3 0 c4] 39)
  have n5 := heap_alloc_new w3 (.cells #[.int .i64 0, .int .i64 0, .slice (some ⟨p, 0, none⟩) 2 c3, .slice a3 0 c4] 39)
  have y5 := (heap_alloc_old w3 (.cells #[.int .i64 0, .int .i64 0, .slice (some ⟨p, 0, none⟩) 2 c3, .slice a3 0 c4] 39) (Array.getElem?_eq_some_iff.1 H5.out.1).1).trans H5.out.1
  have xa5 := (heap_alloc_old w3 (.cells #[.int .i64 0, .int .i64 0, .slice (some ⟨p, 0, none⟩) 2 c3, .slice a3 0 c4] 39) (Array.getElem?_eq_some_iff.1 H5.out.2.1).1).trans H5.out.2.1
  have xb5 := (heap_alloc_old w3 (.cells #[.int .i64 0, .int .i64 0, .slice (some ⟨p, 0, none⟩) 2 c3, .slice a3 0 c4] 39) (Array.getElem?_eq_some_iff.1 H5.out.2.2.1).1).trans H5.out.2.2.1
  have pc : ∀ i u, w3.cell? ⟨p, i, none⟩ = some u → (w3.alloc (.cells #[.int .i64 0, .int .i64 0, .slice (some ⟨p, 0, none⟩) 2 c3, .slice a3 0 c4] 39)).cell? ⟨p, i, none⟩ = some u := fun i u hu => (((Below.refl _ w3).alloc (Nat.le_refl _) _).cell H5.out.2.2.2.2.1).trans hu
  obtain ⟨c00, c01, c02, c03, c04, c05⟩ := H5.out.2.2.2.2.2
  have c10 := pc _ _ c00
  have c11 := pc _ _ c01
  have c12 := pc _ _ c02
  have c13 := pc _ _ c03
  have c14 := pc _ _ c04
  have c15 := pc _ _ c05
  obtain ⟨u0, hu0⟩ : ∃ u0, w3.heap.size = u0 := ⟨_, rfl⟩
  rw [hu0] at n5
  obtain ⟨wz, hwz⟩ : ∃ wz, w3.alloc (.cells #[.int .i64 0, .int .i64 0, .slice (some ⟨p, 0, none⟩) 2 c3, .slice a3 0 c4] 39) = wz := ⟨_, rfl⟩
  rw [hwz] at b5 n5 y5 xa5 xb5 c10 c11 c12 c13 c14 c15
  have HBe := Lib.hid b5
  have e1 := eql_an
  have e2 := eql_ax
  have q1 : wz.cell? ⟨y, 0, none⟩ = some (.int .i64 0) := by simp [World.cell?, y5]
  have q2 : wz.cell? ⟨u0, 0, none⟩ = some (.int .i64 0) ∧ wz.cell? ⟨u0, 2, none⟩ = some (.slice (some ⟨p, 0, none⟩) 2 c3) := by simp [World.cell?, n5]
  obtain ⟨q2, q3⟩ := q2
  have q4 : wz.cell? ⟨q, 0, none⟩ = some (.int .u8 2) ∧ wz.cell? ⟨q, 1, none⟩ = some (.int .i64 0) ∧ wz.cell? ⟨q, 2, none⟩ = some (.string ⟨#[120]⟩) := by simp [World.cell?, xa5]
  obtain ⟨q40, q41, q42⟩ := q4
  have q5 : wz.cell? ⟨q + 1, 0, none⟩ = some (.int .u8 1) ∧ wz.cell? ⟨q + 1, 1, none⟩ = some (.int .i64 5) ∧ wz.cell? ⟨q + 1, 2, none⟩ = some (.string ⟨#[]⟩) := by simp [World.cell?, xb5]
  obtain ⟨q50, q51, q52⟩ := q5
  clear c00 c01 c02 c03 c04 c05 pc b5 n5 y5 xa5 xb5 H5
  go_wp2_with fail
  go_quiet (fail)
  go_wp2_with fail
  go_ret
  exact ⟨rfl, HBe.out.trans ((turned_drewN (fun _ => False) _ _).below HBe.out.size (fun k hk => hk.elim))⟩
end Go.Proofs.YtafenkepigmcaaaGreatDoor.Gr

/- ghost: a list of vertices; tallyOf, Count, walked. -/
import Derived.Test.YtgjjfodogkcmmaaT9
namespace Go.Proofs.Ytgjjfodogkcmmaa.Gh
open Go Go.RowKit Ytgjjfodogkcmmaa.So
/-- A vertex: its number, whether it is there, where its properties and its halves stand. -/
structure Vx where
  id : Int
  th : Bool
  po : Option Addr
  pl : Nat
  pc : Nat
  ho : Option Addr
  hc : Nat
  L : List Hf
def Vx.cells (v : Vx) : Array Value := #[.int .u32 v.id, .bool v.th, .slice v.po v.pl v.pc, .slice v.ho v.L.length v.hc]
def Vx.fars (v : Vx) : List Int := v.L.map Prod.fst
/-- A vertex is well told: its numbers are numbers, its halves stand where it says. -/
def Vx.ok (w : World) (v : Vx) : Prop := In32 v.id ∧ (∀ t ∈ v.L, In32 t.1) ∧ RdH w v.ho v.L ∧ (∀ ad, v.ho = some ad → v.L ≠ [] → ad.block < w.heap.size)
theorem RdH.below {w w' : World} {ao : Option Addr} {L : List Hf} {B : Nat} (h : RdH w ao L) (hb : Below B w w') (hB : w.heap.size ≤ B) : RdH w' ao L := by
  intro i t hi
  obtain ⟨b, off, rfl, h0, h1, h2, h3, h4⟩ := h i t hi
  have hc : ∀ o, w'.cell? ⟨b, o, none⟩ = w.cell? ⟨b, o, none⟩ := fun o => hb.cell (p := ⟨b, o, none⟩) (Nat.lt_of_lt_of_le h0 hB)
  exact ⟨b, off, rfl, Nat.lt_of_lt_of_le h0 hb.size, (hc _).trans h1, (hc _).trans h2, (hc _).trans h3, (hc _).trans h4⟩
theorem Vx.ok.below {w w' : World} {v : Vx} {B : Nat} (h : v.ok w) (hb : Below B w w') (hB : w.heap.size ≤ B) : v.ok w' :=
  ⟨h.1, h.2.1, h.2.2.1.below hb hB, fun ad e hne => Nat.lt_of_lt_of_le (h.2.2.2 ad e hne) hb.size⟩
/-- From an address on these vertices stand. -/
def RdV (w : World) (ao : Option Addr) (Vs : List Vx) : Prop :=
  ∀ (i : Nat) (v : Vx), Vs[i]? = some v → v.ok w ∧ ∃ b off, ao = some ⟨b, off, none⟩ ∧ b < w.heap.size ∧ w.cell? ⟨b, off + i * 4, none⟩ = some (.int .u32 v.id) ∧ w.cell? ⟨b, off + i * 4 + 1, none⟩ = some (.bool v.th) ∧ w.cell? ⟨b, off + i * 4 + 2, none⟩ = some (.slice v.po v.pl v.pc) ∧ w.cell? ⟨b, off + i * 4 + 3, none⟩ = some (.slice v.ho v.L.length v.hc)
theorem RdV.below {w w' : World} {ao : Option Addr} {Vs : List Vx} {B : Nat} (h : RdV w ao Vs) (hb : Below B w w') (hB : w.heap.size ≤ B) : RdV w' ao Vs := by
  intro i v hi
  obtain ⟨hok, b, off, rfl, h0, h1, h2, h3, h4⟩ := h i v hi
  have hc : ∀ o, w'.cell? ⟨b, o, none⟩ = w.cell? ⟨b, o, none⟩ := fun o => hb.cell (p := ⟨b, o, none⟩) (Nat.lt_of_lt_of_le h0 hB)
  exact ⟨hok.below hb hB, b, off, rfl, Nat.lt_of_lt_of_le h0 hb.size, (hc _).trans h1, (hc _).trans h2, (hc _).trans h3, (hc _).trans h4⟩
def holdAll (Vs : List Vx) : GS := Vs.foldl (fun S v => holdG S v.id v.th v.fars) []
theorem holdAll_snoc (Vs : List Vx) (v : Vx) : holdAll (Vs ++ [v]) = holdG (holdAll Vs) v.id v.th v.fars := by simp [holdAll, List.foldl_append]
theorem rows_short' {K : Nat} : ∀ (Vs : List Vx) (S : GS), (∀ e ∈ S, e.2.length ≤ K) → (∀ v ∈ Vs, v.L.length ≤ K) → ∀ e ∈ Vs.foldl (fun S v => holdG S v.id v.th v.fars) S, e.2.length ≤ K
  | [], _, h, _ => h
  | v :: Vs, S, h, hV => by
    refine rows_short' Vs _ (fun e he => ?_) (fun u hu => hV u (List.mem_cons_of_mem _ hu))
    have he : e ∈ (if v.th = true then dropG S v.id ++ [(v.id, v.fars)] else dropG S v.id) := he
    split at he
    · rw [List.mem_append, List.mem_singleton] at he
      rcases he with he | rfl
      · exact h e (mem_drop.1 he).1
      · simpa [Vx.fars] using hV v (List.mem_cons_self ..)
    · exact h e (mem_drop.1 he).1
theorem rows_short {Vs : List Vx} {K : Nat} (h : ∀ v ∈ Vs, v.L.length ≤ K) : ∀ e ∈ holdAll Vs, e.2.length ≤ K := rows_short' Vs [] (by simp) h
theorem row_short {S : GS} {K : Nat} (h : ∀ e ∈ S, e.2.length ≤ K) (k : Int) : (rowG S k).length ≤ K := by
  unfold rowG
  cases hf : S.find? (fun e => e.1 = k) with
  | none => simp
  | some e => exact h e (find_mem hf).1
def TI (w : World) (p : Nat) (Vs : List Vx) (i : Nat) (wr : World) : Prop := ∃ F m, Tl wr w.heap.size m F p (holdAll (Vs.take i)) ∧ m ≤ i * 201 ∧ Below w.heap.size w wr
set_option maxRecDepth 100000 in
set_option maxHeartbeats 1000000 in
theorem tally_any (ao : Option Addr) (cap : Nat) (Vs : List Vx) (w : World) (hr : RdV w ao Vs) (hn : Vs.length ≤ 100) (hK : ∀ v ∈ Vs, v.L.length ≤ 100) :
    Calls Try.prog 28 #[.slice ao Vs.length cap] w fun e w' => ∃ p F m, e = .returned (.pointer (some ⟨p, 0, none⟩)) ∧ Tl w' w.heap.size m F p (holdAll Vs) ∧ m ≤ 20100 ∧ Below w.heap.size w w' := by
  obtain ⟨n, hl⟩ : ∃ n, Vs.length = n := ⟨_, rfl⟩
  rw [hl] at hn ⊢
  have HL := Lib.hid hl
  have HR := Lib.hid hr
  have HK := Lib.hid hK
  clear hl hr hK
  go_enter Try.func28, Try.ntmps28
  go_wp2_with (fail)
  refine (new_any w.heap.size w (Nat.le_refl _)).mono ?_
  rintro e w0 ⟨rfl, hT0, hb0⟩
  have H0 := Lib.hid (show TI w (w.heap.size + 2) Vs 0 w0 from ⟨_, 0, hT0, by omega, hb0⟩)
  obtain ⟨p, hp⟩ : ∃ p, p = w.heap.size + 2 := ⟨_, rfl⟩
  rw [← hp] at H0 ⊢
  clear hT0 hb0 hp
  go_wp2
  go_loopw [9] (fun u wr => ∃ i : Nat, u = .int .i64 i ∧ i ≤ n ∧ Hid (TI w p Vs i wr)) (fun u _ => n - (intOf u).toNat)
  case atStart => exact ⟨0, rfl, Nat.zero_le _, H0⟩
  case round =>
    obtain ⟨i, rfl, hi, HI⟩ := hrel
    clear H0
    by_cases hin : i < n
    · obtain ⟨F, m, hT, hm, hb⟩ := HI.out
      obtain ⟨v, hv⟩ : ∃ v, Vs[i]? = some v := ⟨_, List.getElem?_eq_getElem (by rw [HL.out]; exact hin)⟩
      obtain ⟨hok, b, off, rfl, hbl, c0, c1, c2, c3⟩ := (HR.out.below hb (Nat.le_refl _)) i v hv
      have hok0 := (HR.out i v hv).1
      have hvK := HK.out v (List.mem_of_getElem? hv)
      have hrow := row_short (rows_short (fun u hu => HK.out u (List.mem_of_mem_take hu)) : ∀ e ∈ holdAll (Vs.take i), e.2.length ≤ 100) v.id
      have hlow : ∀ k, F k → w.heap.size ≤ k := by obtain ⟨_, _, _, hh, _⟩ := hT; exact hh.low
      have ha := (Below.refl _ wr).alloc (Nat.le_refl _) (.cells v.cells 28)
      have HH := Lib.hid (hold_any w.heap.size m p F (holdAll (Vs.take i)) v.id v.th v.L v.po v.ho v.pl v.pc v.hc (wr.alloc (.cells v.cells 28)) (hT.below ha) hok.1 hok.2.1 (hok.2.2.1.below ha (Nat.le_refl _)) (fun ad e hne hf => by have := hok0.2.2.2 ad e hne; have := hlow _ hf; omega) (by omega) (by omega) (by omega))
      have il : (i : Int) < (n : Int) := by omega
      have HX := Lib.hid (And.intro hv (And.intro hm (And.intro hb (And.intro hvK (And.intro hrow hlow)))))
      clear hT hm hb hv hok hok0 hvK hrow hlow ha HI
      simp only [Vx.cells] at HH
      go_wp2_with (go_at_call 37; refine HH.out.mono ?_; rintro e w3 ⟨rfl, hd⟩; have HD := Lib.hid hd; clear hd)
      have hI := Lib.hid (show TI w p Vs (i + 1) w3 from by
        obtain ⟨F', hT', hF', ht'⟩ := HD.out
        refine ⟨F', m + (rowG (holdAll (Vs.take i)) v.id).length + v.L.length + 1, ?_, ?_, ?_⟩
        · rw [show Vs.take (i + 1) = Vs.take i ++ [v] by rw [List.take_add_one, HX.out.1]; rfl, holdAll_snoc]
          exact hT'
        · have h1 := HX.out.2.1
          have h2 := HX.out.2.2.2.1
          have h3 := HX.out.2.2.2.2.1
          omega
        · exact (HX.out.2.2.1.alloc HX.out.2.2.1.size _).trans (ht'.below (by have := HX.out.2.2.1.size; simp; omega) HX.out.2.2.2.2.2))
      go_roundw
      case rel => exact ⟨i + 1, by go_num, by omega, hI⟩
      case measure => simp [intOf] <;> omega
    · obtain rfl : i = n := by omega
      obtain ⟨F, m, hT, hm, hb⟩ := HI.out
      rw [List.take_of_length_le (by rw [HL.out]; exact Nat.le_refl _)] at hT
      have HE := Lib.hid (And.intro hT (And.intro (show m ≤ 20100 by omega) hb))
      clear hT hm hb HI
      go_wp2
      go_ret
      exact ⟨p, F, m, rfl, HE.out⟩
theorem count_any (ao : Option Addr) (cap : Nat) (Vs : List Vx) (w : World) (hr : RdV w ao Vs) (hn : Vs.length ≤ 100) (hK : ∀ v ∈ Vs, v.L.length ≤ 100) :
    Calls Try.prog 13 #[.slice ao Vs.length cap] w fun e w' => ListOf (holdAll Vs) w e w' := by
  have HT := Lib.hid (tally_any ao cap Vs w hr hn hK)
  clear hr hn hK
  go_enter Try.func13, Try.ntmps13
  go_wp2_with (fail)
  refine HT.out.mono ?_
  rintro e w1 ⟨p, F, m, rfl, hT, hm, hb⟩
  have H1 := Lib.hid (And.intro hT (And.intro hm hb))
  clear hT hm hb
  go_wp2_with (fail)
  refine (list_any w.heap.size m p F (holdAll Vs) w1 H1.out.1 (by have := H1.out.2.1; omega)).mono ?_
  rintro e w2 ⟨ao2, cap2, ss, rfl, hn, ho, hb⟩
  have H2 := Lib.hid (show ListOf (holdAll Vs) w (.returned (.slice ao2 (glOf (holdAll Vs) ss).length cap2)) w2 from by
    refine ⟨ao2, cap2, ss, rfl, hn, ?_, H1.out.2.2.trans (hb.mono H1.out.2.2.size)⟩
    refine ⟨ho.1, ?_⟩
    rcases ho.2 with h0 | ⟨g, cap', cur, e1, e2, e3⟩
    · exact .inl h0
    · exact .inr ⟨g, cap', cur, e1, Nat.le_trans H1.out.2.2.size e2, e3⟩)
  clear hn ho hb
  go_wp2_with (fail)
  go_ret
  exact H2.out
end Go.Proofs.Ytgjjfodogkcmmaa.Gh

/- The law on what is written and read again, walked. -/
import Derived.Test.YtnjapbfnodfgpaaW26
import Derived.Test.YtnjapbfnodfgpaaW21
namespace Go.Proofs.Ytnjapbfnodfgpaa.Rk
open Go Go.RowKit
theorem uintS (n : Int) (h0 : 0 ≤ n) (h1 : n ≤ 18446744073709551615) (w : World) : GivesS 11 #[.int .u64 n] (uintC n.toNat) w := by
  have := gives_some (uintC_pos_len n.toNat) (uint_any n.toNat (by omega) w)
  rwa [show ((n.toNat : Nat) : Int) = n by omega] at this
theorem refUintS (n : Int) (h0 : 0 ≤ n) (h1 : n ≤ 18446744073709551615) (w : World) : GivesS 15 #[.int .u64 n] (uintC n.toNat) w := by
  have := gives_some (uintC_pos_len n.toNat) (refUint_any n.toNat (by omega) w)
  rwa [show ((n.toNat : Nat) : Int) = n by omega] at this
theorem app_byte {l m : List Int} (h : ∀ x ∈ l, 0 ≤ x ∧ x ≤ 255) (h' : ∀ x ∈ m, 0 ≤ x ∧ x ≤ 255) : ∀ x ∈ l ++ m, 0 ≤ x ∧ x ≤ 255 := by
  intro x hx
  rcases List.mem_append.1 hx with hx | hx
  · exact h x hx
  · exact h' x hx
set_option maxRecDepth 100000 in
set_option maxHeartbeats 8000000 in
theorem writes (N M : Int) (ao bo : Option Addr) (n m c d : Nat) (la lb : List Int) (w : World) (hnc : n ≤ c) (hmd : m ≤ d) (_hc : c ≤ maxLen) (_hd : d ≤ maxLen) (hla : la.length = n) (hlb : lb.length = m)
    (ha : Rd w ao la) (hb : Rd w bo lb) (ba : ∀ x ∈ la, 0 ≤ x ∧ x ≤ 255) (bb : ∀ x ∈ lb, 0 ≤ x ∧ x ≤ 255) (hao : ao = none → c = 0) (hbo : bo = none → d = 0)
    (n0 : 0 ≤ N) (n1 : N ≤ 18446744073709551615) (m0 : -9223372036854775808 ≤ M) (m1 : M ≤ 9223372036854775807) :
    Calls Try.prog 3 #[.int .u64 N, .int .i64 M, .slice ao n c, .slice bo m d] w fun e w' => e = .returned (.bool true) ∧ Below w.heap.size w w' := by
  unfold maxLen at _hc _hd
  obtain ⟨n', hn'⟩ : ∃ n', n' = min n 2000 := ⟨_, rfl⟩
  obtain ⟨m', hm'⟩ : ∃ m', m' = min m 50 := ⟨_, rfl⟩
  have en : (min (n : Int) 2000).toNat = n' := by omega
  have em : (min (m : Int) 50).toNat = m' := by omega
  have q1 : (min (n : Int) 2000) ≤ c := by omega
  have q2 : (min (m : Int) 50) ≤ d := by omega
  have q3 : 0 ≤ (min (n : Int) 2000) := by omega
  have q4 : 0 ≤ (min (m : Int) 50) := by omega
  have la' : (la.take 2000).length = n' := by rw [List.length_take]; omega
  have lb' : (lb.take 50).length = m' := by rw [List.length_take]; omega
  have ra0 := ha.take 2000
  have rb0 := hb.take 50
  have ba' := take_byte 2000 ba
  have bb' := take_byte 50 bb
  clear ha hb ba bb hla hlb
  generalize la.take 2000 = A at *
  generalize lb.take 50 = B at *
  have n2 : n' ≤ 2000 := by omega
  have m2 : m' ≤ 50 := by omega
  have G11 := Lib.hid (uintS N n0 n1)
  have G15 := Lib.hid (refUintS N n0 n1)
  have G12 := Lib.hid (fun w => gives_some (intC_pos_len M) (int_any M m0 m1 w))
  have G16 := Lib.hid (fun w => gives_some (intC_pos_len M) (refInt_any M m0 m1 w))
  have G13 := Lib.hid (fun w ao c (h : Rd w ao A) => gives_some (textC_pos_len A) (text_any ao n' c A w (by omega) la' h))
  have G17 := Lib.hid (fun w ao c (h : Rd w ao A) => gives_some (textC_pos_len A) (refText_any ao n' c A w (by omega) la' h))
  have l1 := uintC_len N.toNat (by omega)
  have l2 := intC_len M m0 m1
  have l3 := textC_len A
  have p1 := uintC_pos_len N.toNat
  have p2 := intC_pos_len M
  have p3 := textC_pos_len A
  have e1 : ruR (uintC N.toNat ++ B) = some (N, ((uintC N.toNat).length : Int)) := by
    have := ruR_code N.toNat (by omega) B
    rwa [show ((N.toNat : Nat) : Int) = N by omega] at this
  have e2 := riR_code M m0 m1 B
  have e3 := rt_text n' A B (by omega)
  have y1 := app_byte (uintC_byte N.toNat (by omega)) bb'
  have y2 := app_byte (intC_byte M m0 m1) bb'
  have y3 := app_byte (textC_byte ba') bb'
  generalize uintC N.toNat = PA at *
  generalize intC M = PB at *
  generalize textC A = PC at *
  rw [la'] at l3
  have E1 := Lib.hid e1
  have E2 := Lib.hid e2
  have E3 := Lib.hid e3
  have Y1 := Lib.hid y1
  have Y2 := Lib.hid y2
  have Y3 := Lib.hid y3
  have EA := Lib.hid la'
  have EB := Lib.hid lb'
  have HA0 := Lib.hid hao
  have HB0 := Lib.hid hbo
  have LA := Lib.hid (le_max (show A.length ≤ 2000 by omega) (by decide))
  have L1 := Lib.hid (le_max l1 (by decide))
  have L2 := Lib.hid (le_max l2 (by decide))
  have L3 := Lib.hid (le_max (show PC.length ≤ 4002 by omega) (by decide))
  have Ra0 := Lib.hid ra0
  have Rb0 := Lib.hid rb0
  clear hn' hm' la' lb' ra0 rb0 ba' bb' n0 n1 m0 m1 e1 e2 e3 y1 y2 y3 hao hbo
  go_enter Try.func3, Try.ntmps3
  go_wp2_with fail
  refine (awake_any w).mono ?_
  rintro e w1 ⟨rfl, hB1⟩
  have Ra1 := Lib.hid (Ra0.out.on hB1 (Nat.le_refl _))
  have Rb1 := Lib.hid (Rb0.out.on hB1 (Nat.le_refl _))
  clear Ra0 Rb0
  have hb1 := hB1
  go_wp2_with fail
  go_quiet (fail)
  have hq1 : Below w1.heap.size w1 (w1.drewN nq) := below_drewN (Below.refl _ _) _
  have Ra2 := Lib.hid (Ra1.out.on hq1 (Nat.le_refl _))
  have Rb2 := Lib.hid (Rb1.out.on hq1 (Nat.le_refl _))
  clear Ra1 Rb1
  have hb2 : Below w.heap.size w (w1.drewN nq) := hb1.trans (hq1.mono hb1.size)
  clear hB1 hq1 hb1
  go_wp2_with fail
  refine (spare_any ao n' c A _ (by omega) EA.out Ra2.out HA0.out).mono ?_
  rintro e w3 ⟨g, cc, rfl, ⟨hof, hc1, hc2⟩, hB3⟩
  have Ra3 := Lib.hid (Ra2.out.on hB3 (Nat.le_refl _))
  have Rb3 := Lib.hid (Rb2.out.on hB3 (Nat.le_refl _))
  clear Ra2 Rb2
  have hb3 := hb2.trans (hB3.mono hb2.size)
  have hof' : w3.ownsRow w1.heap.size 5 1 (.slice (some ⟨g, 0, none⟩) (n' + 3) cc) (n' + 3) (bs (A ++ [165, 90, 165])) := by have h9 := hof; unfold Own at h9; rw [List.length_append, EA.out] at h9; exact h9
  have Rf3 := Lib.hid (own_rd hof' (by rw [List.length_append, EA.out]; rfl))
  have Rq3 := Lib.hid ((kept_facts Rf3.out).1)
  have HC1 := Lib.hid hc1
  have HC2 := Lib.hid hc2
  clear hof hof' hc1 hc2 hB3 hb2
  go_wp2_with fail
  refine (G11.out _).mono ?_
  rintro e w4 ⟨ga, ca, rfl, ⟨_, rga⟩, hB4⟩
  have Ra4 := Lib.hid (Ra3.out.on hB4 (Nat.le_refl _))
  have Rb4 := Lib.hid (Rb3.out.on hB4 (Nat.le_refl _))
  have Rf4 := Lib.hid (Rf3.out.on hB4 (Nat.le_refl _))
  have Rq4 := Lib.hid (Rq3.out.on hB4 (Nat.le_refl _))
  clear Ra3 Rb3 Rf3 Rq3
  have Rx4 := Lib.hid rga
  have hb4 := hb3.trans (hB4.mono hb3.size)
  clear rga hB4 hb3
  go_wp2_with fail
  refine (G12.out _).mono ?_
  rintro e w5 ⟨gb, cb, rfl, ⟨_, rgb⟩, hB5⟩
  have Ra5 := Lib.hid (Ra4.out.on hB5 (Nat.le_refl _))
  have Rb5 := Lib.hid (Rb4.out.on hB5 (Nat.le_refl _))
  have Rf5 := Lib.hid (Rf4.out.on hB5 (Nat.le_refl _))
  have Rq5 := Lib.hid (Rq4.out.on hB5 (Nat.le_refl _))
  have Rx5 := Lib.hid (Rx4.out.on hB5 (Nat.le_refl _))
  clear Ra4 Rb4 Rf4 Rq4 Rx4
  have Ry5 := Lib.hid rgb
  have hb5 := hb4.trans (hB5.mono hb4.size)
  clear rgb hB5 hb4
  go_wp2_with fail
  refine (G13.out _ _ _ Rq5.out).mono ?_
  rintro e w6 ⟨gc, cd, rfl, ⟨_, rgc⟩, hB6⟩
  have Ra6 := Lib.hid (Ra5.out.on hB6 (Nat.le_refl _))
  have Rb6 := Lib.hid (Rb5.out.on hB6 (Nat.le_refl _))
  have Rf6 := Lib.hid (Rf5.out.on hB6 (Nat.le_refl _))
  have Rq6 := Lib.hid (Rq5.out.on hB6 (Nat.le_refl _))
  have Rx6 := Lib.hid (Rx5.out.on hB6 (Nat.le_refl _))
  have Ry6 := Lib.hid (Ry5.out.on hB6 (Nat.le_refl _))
  clear Ra5 Rb5 Rf5 Rq5 Rx5 Ry5
  have Rz6 := Lib.hid rgc
  have hb6 := hb5.trans (hB6.mono hb5.size)
  clear rgc hB6 hb5
  go_wp2_with fail
  refine (G15.out _).mono ?_
  rintro e w7 ⟨gd, ce, rfl, ⟨_, rgd⟩, hB7⟩
  have Ra7 := Lib.hid (Ra6.out.on hB7 (Nat.le_refl _))
  have Rb7 := Lib.hid (Rb6.out.on hB7 (Nat.le_refl _))
  have Rf7 := Lib.hid (Rf6.out.on hB7 (Nat.le_refl _))
  have Rq7 := Lib.hid (Rq6.out.on hB7 (Nat.le_refl _))
  have Rx7 := Lib.hid (Rx6.out.on hB7 (Nat.le_refl _))
  have Ry7 := Lib.hid (Ry6.out.on hB7 (Nat.le_refl _))
  have Rz7 := Lib.hid (Rz6.out.on hB7 (Nat.le_refl _))
  clear Ra6 Rb6 Rf6 Rq6 Rx6 Ry6 Rz6
  have Rd7 := Lib.hid rgd
  have hb7 := hb6.trans (hB7.mono hb6.size)
  clear rgd hB7 hb6
  go_wp2_with fail
  refine (same_says (x := true) ca ce L1.out Rx7.out Rd7.out (decide_eq_true rfl)).mono ?_
  rintro e w8 ⟨rfl, hB8⟩
  have Ra8 := Lib.hid (Ra7.out.on hB8 (Nat.le_refl _))
  have Rb8 := Lib.hid (Rb7.out.on hB8 (Nat.le_refl _))
  have Rf8 := Lib.hid (Rf7.out.on hB8 (Nat.le_refl _))
  have Rq8 := Lib.hid (Rq7.out.on hB8 (Nat.le_refl _))
  have Rx8 := Lib.hid (Rx7.out.on hB8 (Nat.le_refl _))
  have Ry8 := Lib.hid (Ry7.out.on hB8 (Nat.le_refl _))
  have Rz8 := Lib.hid (Rz7.out.on hB8 (Nat.le_refl _))
  have Rd8 := Lib.hid (Rd7.out.on hB8 (Nat.le_refl _))
  clear Ra7 Rb7 Rf7 Rq7 Rx7 Ry7 Rz7 Rd7
  have hb8 := hb7.trans (hB8.mono hb7.size)
  clear hB8 hb7
  go_wp2_with fail
  refine (G16.out _).mono ?_
  rintro e w9 ⟨ge, cf, rfl, ⟨_, rge⟩, hB9⟩
  have Ra9 := Lib.hid (Ra8.out.on hB9 (Nat.le_refl _))
  have Rb9 := Lib.hid (Rb8.out.on hB9 (Nat.le_refl _))
  have Rf9 := Lib.hid (Rf8.out.on hB9 (Nat.le_refl _))
  have Rq9 := Lib.hid (Rq8.out.on hB9 (Nat.le_refl _))
  have Rx9 := Lib.hid (Rx8.out.on hB9 (Nat.le_refl _))
  have Ry9 := Lib.hid (Ry8.out.on hB9 (Nat.le_refl _))
  have Rz9 := Lib.hid (Rz8.out.on hB9 (Nat.le_refl _))
  clear Ra8 Rb8 Rf8 Rq8 Rx8 Ry8 Rz8
  have Re9 := Lib.hid rge
  have hb9 := hb8.trans (hB9.mono hb8.size)
  clear rge hB9 hb8
  go_wp2_with fail
  refine (same_says (x := true) cb cf L2.out Ry9.out Re9.out (decide_eq_true rfl)).mono ?_
  rintro e w10 ⟨rfl, hB10⟩
  have Ra10 := Lib.hid (Ra9.out.on hB10 (Nat.le_refl _))
  have Rb10 := Lib.hid (Rb9.out.on hB10 (Nat.le_refl _))
  have Rf10 := Lib.hid (Rf9.out.on hB10 (Nat.le_refl _))
  have Rq10 := Lib.hid (Rq9.out.on hB10 (Nat.le_refl _))
  have Rx10 := Lib.hid (Rx9.out.on hB10 (Nat.le_refl _))
  have Ry10 := Lib.hid (Ry9.out.on hB10 (Nat.le_refl _))
  have Rz10 := Lib.hid (Rz9.out.on hB10 (Nat.le_refl _))
  have Re10 := Lib.hid (Re9.out.on hB10 (Nat.le_refl _))
  clear Ra9 Rb9 Rf9 Rq9 Rx9 Ry9 Rz9 Re9
  have hb10 := hb9.trans (hB10.mono hb9.size)
  clear hB10 hb9
  go_wp2_with fail
  refine (G17.out _ _ _ Ra10.out).mono ?_
  rintro e w11 ⟨gf, cg, rfl, ⟨_, rgf⟩, hB11⟩
  have Ra11 := Lib.hid (Ra10.out.on hB11 (Nat.le_refl _))
  have Rb11 := Lib.hid (Rb10.out.on hB11 (Nat.le_refl _))
  have Rf11 := Lib.hid (Rf10.out.on hB11 (Nat.le_refl _))
  have Rq11 := Lib.hid (Rq10.out.on hB11 (Nat.le_refl _))
  have Rx11 := Lib.hid (Rx10.out.on hB11 (Nat.le_refl _))
  have Ry11 := Lib.hid (Ry10.out.on hB11 (Nat.le_refl _))
  have Rz11 := Lib.hid (Rz10.out.on hB11 (Nat.le_refl _))
  clear Ra10 Rb10 Rf10 Rq10 Rx10 Ry10 Rz10
  have Rg11 := Lib.hid rgf
  have hb11 := hb10.trans (hB11.mono hb10.size)
  clear rgf hB11 hb10
  go_wp2_with fail
  refine (same_says (x := true) cd cg L3.out Rz11.out Rg11.out (decide_eq_true rfl)).mono ?_
  rintro e w12 ⟨rfl, hB12⟩
  have Ra12 := Lib.hid (Ra11.out.on hB12 (Nat.le_refl _))
  have Rb12 := Lib.hid (Rb11.out.on hB12 (Nat.le_refl _))
  have Rf12 := Lib.hid (Rf11.out.on hB12 (Nat.le_refl _))
  have Rq12 := Lib.hid (Rq11.out.on hB12 (Nat.le_refl _))
  have Rx12 := Lib.hid (Rx11.out.on hB12 (Nat.le_refl _))
  have Ry12 := Lib.hid (Ry11.out.on hB12 (Nat.le_refl _))
  have Rz12 := Lib.hid (Rz11.out.on hB12 (Nat.le_refl _))
  have Rg12 := Lib.hid (Rg11.out.on hB12 (Nat.le_refl _))
  clear Ra11 Rb11 Rf11 Rq11 Rx11 Ry11 Rz11 Rg11
  have hb12 := hb11.trans (hB12.mono hb11.size)
  clear hB12 hb11
  go_wp2_with fail
  refine (kept_any g cc ao n' c A _ HC1.out HC2.out EA.out Rf12.out Ra12.out).mono ?_
  rintro e w13 ⟨rfl, hB13⟩
  have Ra13 := Lib.hid (Ra12.out.on hB13 (Nat.le_refl _))
  have Rb13 := Lib.hid (Rb12.out.on hB13 (Nat.le_refl _))
  have Rf13 := Lib.hid (Rf12.out.on hB13 (Nat.le_refl _))
  have Rq13 := Lib.hid (Rq12.out.on hB13 (Nat.le_refl _))
  have Rx13 := Lib.hid (Rx12.out.on hB13 (Nat.le_refl _))
  have Ry13 := Lib.hid (Ry12.out.on hB13 (Nat.le_refl _))
  have Rz13 := Lib.hid (Rz12.out.on hB13 (Nat.le_refl _))
  clear Ra12 Rb12 Rf12 Rq12 Rx12 Ry12 Rz12
  have hb13 := hb12.trans (hB13.mono hb12.size)
  clear hB13 hb12
  go_wp2_with fail
  refine (twin_any ⟨ga, 0, none⟩ PA.length ca PA _ (by omega) rfl p1 Rx13.out).mono ?_
  rintro e w14 ⟨hp, kp, rfl, ⟨op, _⟩, hB14⟩
  have Rmp := Lib.hid (Rb13.out.on hB14 (Nat.le_refl _))
  have Op := Lib.hid op
  have HSp := Lib.hid hB14.size
  clear op
  go_wp2_with (at_builtin; refine app_any _ rfl (.tmp 73) (.tmp 74) rfl w13.heap.size hp PA.length kp PA B rfl Op.out bo m' d rfl EB.out Rmp.out HB0.out (by unfold maxLen; omega) (by omega) HSp.out ?_; intro gp cp w15 hop hrp)
  have hBB : Below w13.heap.size w13 w15 := hB14.grown hrp hB14.size (fun k hk => by cases hk; exact (World.ownsRow.lt Op.out _ rfl).1)
  have Ra14 := Lib.hid (Ra13.out.on hBB (Nat.le_refl _))
  have Rb14 := Lib.hid (Rb13.out.on hBB (Nat.le_refl _))
  have Rx14 := Lib.hid (Rx13.out.on hBB (Nat.le_refl _))
  have Ry14 := Lib.hid (Ry13.out.on hBB (Nat.le_refl _))
  have Rz14 := Lib.hid (Rz13.out.on hBB (Nat.le_refl _))
  clear Ra13 Rb13 Rx13 Ry13 Rz13
  have hb15 := hb13.trans (hBB.mono hb13.size)
  have hrd := own_rd hop (by rw [List.length_append, EB.out])
  have hcp := own_cap hop
  have hz := ru_any (some ⟨gp, 0, none⟩) (PA.length + m') cp (PA ++ B) w15 hcp.1 hcp.2 (by rw [List.length_append, EB.out]) hrd Y1.out
  rw [E1.out, tri_some] at hz
  have HZp := Lib.hid hz
  clear hz hrd hcp hBB hB14 hop hrp hb13
  go_wp2_with fail
  refine HZp.out.mono ?_
  rintro e w16 ⟨rfl, hB16⟩
  have Ra15 := Lib.hid (Ra14.out.on hB16 (Nat.le_refl _))
  have Rb15 := Lib.hid (Rb14.out.on hB16 (Nat.le_refl _))
  have Rx15 := Lib.hid (Rx14.out.on hB16 (Nat.le_refl _))
  have Ry15 := Lib.hid (Ry14.out.on hB16 (Nat.le_refl _))
  have Rz15 := Lib.hid (Rz14.out.on hB16 (Nat.le_refl _))
  clear Ra14 Rb14 Rx14 Ry14 Rz14
  have hb16 := hb15.trans (hB16.mono hb15.size)
  clear HZp hB16 hb15
  go_wp2_with fail
  refine (twin_any ⟨gb, 0, none⟩ PB.length cb PB _ (by omega) rfl p2 Ry15.out).mono ?_
  rintro e w17 ⟨hq, kq, rfl, ⟨oq, _⟩, hB17⟩
  have Rmq := Lib.hid (Rb15.out.on hB17 (Nat.le_refl _))
  have Oq := Lib.hid oq
  have HSq := Lib.hid hB17.size
  clear oq
  go_wp2_with (at_builtin; refine app_any _ rfl (.tmp 82) (.tmp 83) rfl w16.heap.size hq PB.length kq PB B rfl Oq.out bo m' d rfl EB.out Rmq.out HB0.out (by unfold maxLen; omega) (by omega) HSq.out ?_; intro gq cq w18 hoq hrq)
  have hBB : Below w16.heap.size w16 w18 := hB17.grown hrq hB17.size (fun k hk => by cases hk; exact (World.ownsRow.lt Oq.out _ rfl).1)
  have Ra16 := Lib.hid (Ra15.out.on hBB (Nat.le_refl _))
  have Rb16 := Lib.hid (Rb15.out.on hBB (Nat.le_refl _))
  have Rx16 := Lib.hid (Rx15.out.on hBB (Nat.le_refl _))
  have Ry16 := Lib.hid (Ry15.out.on hBB (Nat.le_refl _))
  have Rz16 := Lib.hid (Rz15.out.on hBB (Nat.le_refl _))
  clear Ra15 Rb15 Rx15 Ry15 Rz15
  have hb18 := hb16.trans (hBB.mono hb16.size)
  have hrd := own_rd hoq (by rw [List.length_append, EB.out])
  have hcp := own_cap hoq
  have hz := ri_any (some ⟨gq, 0, none⟩) (PB.length + m') cq (PB ++ B) w18 hcp.1 hcp.2 (by rw [List.length_append, EB.out]) hrd Y2.out
  rw [E2.out, tri_some] at hz
  have HZq := Lib.hid hz
  clear hz hrd hcp hBB hB17 hoq hrq hb16
  go_wp2_with fail
  refine HZq.out.mono ?_
  rintro e w19 ⟨rfl, hB19⟩
  have Ra17 := Lib.hid (Ra16.out.on hB19 (Nat.le_refl _))
  have Rb17 := Lib.hid (Rb16.out.on hB19 (Nat.le_refl _))
  have Rx17 := Lib.hid (Rx16.out.on hB19 (Nat.le_refl _))
  have Ry17 := Lib.hid (Ry16.out.on hB19 (Nat.le_refl _))
  have Rz17 := Lib.hid (Rz16.out.on hB19 (Nat.le_refl _))
  clear Ra16 Rb16 Rx16 Ry16 Rz16
  have hb19 := hb18.trans (hB19.mono hb18.size)
  clear HZq hB19 hb18
  go_wp2_with fail
  refine (twin_any ⟨gc, 0, none⟩ PC.length cd PC _ (by omega) rfl p3 Rz17.out).mono ?_
  rintro e w20 ⟨hs, ks, rfl, ⟨os, _⟩, hB20⟩
  have Rms := Lib.hid (Rb17.out.on hB20 (Nat.le_refl _))
  have Os := Lib.hid os
  have HSs := Lib.hid hB20.size
  clear os
  go_wp2_with (at_builtin; refine app_any _ rfl (.tmp 91) (.tmp 92) rfl w19.heap.size hs PC.length ks PC B rfl Os.out bo m' d rfl EB.out Rms.out HB0.out (by unfold maxLen; omega) (by omega) HSs.out ?_; intro gs cs w21 hos hrs)
  have hBB : Below w19.heap.size w19 w21 := hB20.grown hrs hB20.size (fun k hk => by cases hk; exact (World.ownsRow.lt Os.out _ rfl).1)
  have Ra18 := Lib.hid (Ra17.out.on hBB (Nat.le_refl _))
  have Rb18 := Lib.hid (Rb17.out.on hBB (Nat.le_refl _))
  have Rx18 := Lib.hid (Rx17.out.on hBB (Nat.le_refl _))
  have Ry18 := Lib.hid (Ry17.out.on hBB (Nat.le_refl _))
  have Rz18 := Lib.hid (Rz17.out.on hBB (Nat.le_refl _))
  clear Ra17 Rb17 Rx17 Ry17 Rz17
  have hb21 := hb19.trans (hBB.mono hb19.size)
  have hrd := own_rd hos (by rw [List.length_append, EB.out])
  have hcp := own_cap hos
  have hz := rt_any (some ⟨gs, 0, none⟩) (PC.length + m') cs n' (PC ++ B) w21 (by omega) (Nat.le_trans hcp.1 hcp.2) (by rw [List.length_append, EB.out]) hrd Y3.out
  rw [E3.out] at hz
  have HZs := Lib.hid hz
  clear hz hrd hcp hBB hB20 hos hrs hb19
  go_wp2_with fail
  refine HZs.out.mono ?_
  rintro e w22 ⟨hB22, az, cz, rfl, oz⟩
  have Ra19 := Lib.hid (Ra18.out.on hB22 (Nat.le_refl _))
  have Rb19 := Lib.hid (Rb18.out.on hB22 (Nat.le_refl _))
  have Rx19 := Lib.hid (Rx18.out.on hB22 (Nat.le_refl _))
  have Ry19 := Lib.hid (Ry18.out.on hB22 (Nat.le_refl _))
  have Rz19 := Lib.hid (Rz18.out.on hB22 (Nat.le_refl _))
  clear Ra18 Rb18 Rx18 Ry18 Rz18
  have Rv19 := Lib.hid (own_slice_rd oz)
  clear oz
  have hb22 := hb21.trans (hB22.mono hb21.size)
  clear HZs hB22 hb21
  go_wp2_with fail
  refine (same_says' (x := true) cz c rfl EA.out LA.out Rv19.out Ra19.out (decide_eq_true rfl)).mono ?_
  rintro e w23 ⟨rfl, hB23⟩
  have hb23 := hb22.trans (hB23.mono hb22.size)
  go_wp2_with fail
  go_ret
  exact ⟨by simp, hb23⟩
end Go.Proofs.Ytnjapbfnodfgpaa.Rk

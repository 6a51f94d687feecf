/- plate: Write, walked. -/
import Derived.Test.YtjfbgihjgnbeeaaA3
import Derived.Deep.CutRange
import Derived.Deep.RegionLaw
namespace Go.Proofs.Ytjfbgihjgnbeeaa.Pl
open Go Go.RowKit
theorem write_arg_low (b : Nat) (i : Int) (x : Value) (w : World) (h : i < 0) : Calls Try.prog 16 #[.pointer (some ⟨b, 0, none⟩), .int .i64 i, x] w fun e w' => e = .returned (.int .i64 1) ∧ w = w' := by
  go_enter Try.func16, Try.ntmps16
  go_wp2_with (go_at_call 36; refine (has_low _ _ _ h).mono ?_; rintro e _ ⟨rfl, rfl⟩)
  go_ret
  exact ⟨rfl, rfl⟩
theorem write_arg_high (b : Nat) (N i : Int) (x : Value) (w : World) (c0 : w.cell? ⟨b, 0, none⟩ = some (.int .i64 N)) (h0 : 0 ≤ i) (h : N ≤ i) : Calls Try.prog 16 #[.pointer (some ⟨b, 0, none⟩), .int .i64 i, x] w fun e w' => e = .returned (.int .i64 1) ∧ w = w' := by
  go_enter Try.func16, Try.ntmps16
  go_wp2_with (go_at_call 36; refine (has_high _ _ _ _ c0 h0 h).mono ?_; rintro e _ ⟨rfl, rfl⟩)
  go_ret
  exact ⟨rfl, rfl⟩
theorem write_long (b : Nat) (N i : Int) (ao : Option Addr) (len cap : Nat) (w : World) (c0 : w.cell? ⟨b, 0, none⟩ = some (.int .i64 N)) (h0 : 0 ≤ i) (h1 : i < N) (hl : 64 < len) : Calls Try.prog 16 #[.pointer (some ⟨b, 0, none⟩), .int .i64 i, .slice ao len cap] w fun e w' => e = .returned (.int .i64 2) ∧ w = w' := by
  have hd : decide ((64 : Int) < (len : Int)) = true := by simp; omega
  go_enter Try.func16, Try.ntmps16
  go_wp2_with (go_at_call 36; refine (has_yes _ _ _ _ c0 h0 h1).mono ?_; rintro e _ ⟨rfl, rfl⟩)
  go_ret
  exact ⟨rfl, rfl⟩
theorem write_down (b : Nat) (N i : Int) (ao : Option Addr) (len cap : Nat) (w : World) (c0 : w.cell? ⟨b, 0, none⟩ = some (.int .i64 N)) (c3 : w.cell? ⟨b, 3, none⟩ = some (.bool true)) (h0 : 0 ≤ i) (h1 : i < N) (hl : len ≤ 64) : Calls Try.prog 16 #[.pointer (some ⟨b, 0, none⟩), .int .i64 i, .slice ao len cap] w fun e w' => e = .returned (.int .i64 11) ∧ w = w' := by
  have hd : decide ((64 : Int) < (len : Int)) = false := by simp; omega
  go_enter Try.func16, Try.ntmps16
  go_wp2_with (first
    | (go_at_call 36; refine (has_yes _ _ _ _ c0 h0 h1).mono ?_; rintro e _ ⟨rfl, rfl⟩)
    | (go_at_call 37; refine (ready_off _ _ c3).mono ?_; rintro e _ ⟨rfl, rfl⟩))
  go_ret
  exact ⟨rfl, rfl⟩
/-- Behind the append. -/
def Behind (w2 : World) (B b : Nat) (v : Value) (s : PSt) (i : Int) (c : Array Value) (wx : World) : Prop :=
  ∃ (w3 : World) (g cp : Nat), wx = w3.setCell ⟨b, 2, none⟩ (.slice (some ⟨g, 0, none⟩) (s.op.length + 1) cp) ∧ Got w2 B b v s i c w3 g cp
def wrote (s : PSt) (i : Int) (c : Array Value) : PSt := { s with pg := upd s.pg i c, op := s.op ++ [(i, s.pg i, c)], off := Of s.left, left := Lf s.left, ops := s.ops + 1 }
set_option maxRecDepth 100000 in
set_option maxHeartbeats 4000000 in
theorem write_ok (b n bm : Nat) (B : Nat) (F : Nat → Prop) (v : Value) (s : PSt) (i : Int) (ao : Option Addr) (len cap : Nat) (bs : List Value) (w : World) (h : PlateAt w B F b n bm v s) (hon : s.off = false) (h0 : 0 ≤ i) (h1 : i < s.N)
    (hl : bs.length = len) (hlen : len ≤ 64) (hsrc : Src w ao bs) (hn : n < maxLen) (ho : s.ops < 4000000000000000000) (hop : s.op.length ≤ 1000000) :
    Calls Try.prog 16 #[.pointer (some ⟨b, 0, none⟩), .int .i64 i, .slice ao len cap] w fun e w' => e = .returned (.int .i64 (An s.left)) ∧ Did w B F b (n + 1) bm (wrote s i (pageOf bs)) w' := by
  have hd : decide ((64 : Int) < (len : Int)) = false := by simp; omega
  have hpage := page_of (by omega) hsrc.2
  have hblk := h.blk
  rw [hon] at hblk
  obtain ⟨c0, c1, c2, c3, _, _⟩ := cells6 hblk
  have hi := in64 h0 (by have := h.nb; omega)
  have HI := Lib.hid hi
  have HP := Lib.hid hpage
  have H := Lib.hid h
  have HN := Lib.hid hon
  have HL := Lib.hid hl
  have HLE := Lib.hid hlen
  have HS := Lib.hid hsrc
  have HB := Lib.hid hblk
  have HX := Lib.hid (And.intro hn (And.intro ho hop))
  have h36 := has_yes b s.N i w c0 h0 h1
  have H36 := Lib.hid h36
  have H37 := Lib.hid (ready_on b w c3)
  have hHs := Lib.hid (Nat.le_refl w.heap.size)
  clear h36 hi hpage h hon hl hlen hsrc hblk hn ho hop h0 h1 c0 c1 c2 c3
  go_enter Try.func16, Try.ntmps16
  obtain ⟨i0, hi0, hz0, hz1, hz2⟩ := info_parts info84
  go_upto_region 9 with ((first
    | (go_at_call 36; refine H36.out.mono ?_; rintro e _ ⟨rfl, rfl⟩)
    | (go_at_call 37; refine H37.out.mono ?_; rintro e _ ⟨rfl, rfl⟩)
    | (refine wpList_turns rfl (exec_alloc82 rfl _) ?_)))
  apply wp_region_lit
  refine wpList_value rfl (exec_slice82 (x := .tmp 8) rfl rfl _) ?_
  refine wpList_value rfl (exec_move (x := .tmp 2) rfl rfl _) ?_
  refine wpList_copy_splice rfl (.tmp 23) (.tmp 24) 31 31 rfl 5 Try.underlying31 (by kernel_rfl) _ _ 64 64 len cap rfl rfl w.heap.size 0 Zp.toList 82 (heap_alloc_new w _) bs (by rw [HL.out]; exact (Nat.min_eq_left HLE.out).symm) ?_ ?_ ?_ w.heap.size w ((Below.refl _ _).alloc (Nat.le_refl _) _) (Nat.le_refl _) ?_
  · intro hb
    obtain ⟨ad, e, hc⟩ := (HS.out.on (World.grownBy_alloc w (.cells Zp 82) none) (fun _ _ => by simp)).1 hb
    exact ⟨rfl, ad, e, hc⟩
  · rw [HL.out]; simp [Zp]; exact HLE.out
  · intro x hx
    obtain ⟨n, rfl, _⟩ := HS.out.2 x hx
    rfl
  intro w2 HG hB2
  have T2 := Lib.hid (below_turned (G := fun _ => False) hB2 (fun k h1 h2 => by omega))
  have H2 := Lib.hid (H.out.on T2.out (fun _ _ h => h))
  have hb2 := H2.out.blk
  rw [HN.out] at hb2
  obtain ⟨_, k1, k2, _⟩ := cells6 hb2
  have K1 := Lib.hid k1
  have K2 := Lib.hid k2
  have K2a := Lib.hid (show (w2.drew.alloc (.cells (wr i (s.pg i) (pageOf bs)) 84)).cell? ⟨b, 2, none⟩ = some v from (World.grownBy_alloc w2.drew _ none).cell k2 (by simp))
  have HM := Lib.hid H2.out.map
  have HQ := Lib.hid (pages_of H2.out i)
  have HR := Lib.hid (show w2.drew.ownsRow B 84 129 v s.op.length (opCells s.op) from H2.out.row)
  have HBL := Lib.hid (show B ≤ (w2.drew.alloc (.cells (wr i (s.pg i) (pageOf bs)) 84)).heap.size by have h1 := H2.out.base; have h2 := (World.grownBy_alloc w2.drew (.cells (wr i (s.pg i) (pageOf bs)) 84) none).size; exact Nat.le_trans h1 h2)
  clear hB2 hb2 k1 k2
  go_upto_region 10 with (fail)
  simp only [Act.put, List.setIfInBounds_toArray, List.set_cons_zero, List.set_cons_succ]
  go_cut [] from 26 to 43 (fun wx => Behind w2 B b v s i (pageOf bs) wx)
  case first =>
    refine wp_region_any (by kernel_rfl) ?_
    change wpAny _ _ _ _ _ _ _ (World.drew _)
    try simp only [Act.put, List.setIfInBounds_toArray, List.set_cons_zero, List.set_cons_succ]
    refine wpAny_take (i := 0) (oi := { dst := some 26, op := Op.move (Operand.tmp 0), type := 24, pos := "plate.go:63", after := #[], guard := none }) (v := (Value.pointer (some ⟨b, 0, none⟩))) rfl (by kernel_rfl) (by kernel_rfl) (by kernel_rfl) (fun _ _ _ h => h) (Or.inl ⟨by rfl, fun _ => exec_move (x := .tmp 0) rfl rfl _⟩) ?_
    try simp only [Act.put, List.setIfInBounds_toArray, List.set_cons_zero, List.set_cons_succ]
    refine wpAny_take (i := 1) (oi := { dst := some 27, op := Op.move (Operand.tmp 0), type := 24, pos := "plate.go:63", after := #[], guard := none }) (v := (Value.pointer (some ⟨b, 0, none⟩))) rfl (by kernel_rfl) (by kernel_rfl) (by kernel_rfl) (fun _ _ _ h => h) (Or.inl ⟨by rfl, fun _ => exec_move (x := .tmp 0) rfl rfl _⟩) ?_
    try simp only [Act.put, List.setIfInBounds_toArray, List.set_cons_zero, List.set_cons_succ]
    refine wpAny_take (i := 2) (oi := { dst := some 28, op := Op.nilCheck (Operand.tmp 27), type := 0, pos := "plate.go:63", after := #[{ on := 1, ground := Ground.data }], guard := none }) (v := (Value.pointer (some ⟨b, 0, none⟩))) rfl (by kernel_rfl) (by kernel_rfl) (by kernel_rfl) (fun _ _ _ h => h) (Or.inl ⟨by rfl, fun _ => exec_nil (x := .tmp 27) rfl rfl _⟩) ?_
    try simp only [Act.put, List.setIfInBounds_toArray, List.set_cons_zero, List.set_cons_succ]
    refine wpAny_take (i := 3) (oi := { dst := some 29, op := Op.fieldAddr 68 (Operand.tmp 28) 2, type := 0, pos := "plate.go:63", after := #[{ on := 2, ground := Ground.data }], guard := none }) (v := (Value.pointer (some ⟨b, 2, none⟩))) rfl (by kernel_rfl) (by kernel_rfl) (by kernel_rfl) (fun _ _ _ h => h) (Or.inl ⟨by rfl, fun _ => exec_field2 (x := .tmp 28) rfl rfl _⟩) ?_
    try simp only [Act.put, List.setIfInBounds_toArray, List.set_cons_zero, List.set_cons_succ]
    refine wpAny_take (i := 5) (oi := { dst := some 31, op := Op.move (Operand.tmp 1), type := 3, pos := "plate.go:63", after := #[], guard := none }) (v := (Value.int .i64 i)) rfl (by kernel_rfl) (by kernel_rfl) (by kernel_rfl) (fun _ _ _ h => h) (Or.inl ⟨by rfl, fun _ => exec_move (x := .tmp 1) rfl rfl _⟩) ?_
    try simp only [Act.put, List.setIfInBounds_toArray, List.set_cons_zero, List.set_cons_succ]
    refine wpAny_take (i := 6) (oi := { dst := some 32, op := Op.move (Operand.tmp 0), type := 24, pos := "plate.go:63", after := #[], guard := none }) (v := (Value.pointer (some ⟨b, 0, none⟩))) rfl (by kernel_rfl) (by kernel_rfl) (by kernel_rfl) (fun _ _ _ h => h) (Or.inl ⟨by rfl, fun _ => exec_move (x := .tmp 0) rfl rfl _⟩) ?_
    try simp only [Act.put, List.setIfInBounds_toArray, List.set_cons_zero, List.set_cons_succ]
    refine wpAny_take (i := 7) (oi := { dst := some 33, op := Op.nilCheck (Operand.tmp 32), type := 0, pos := "plate.go:63", after := #[{ on := 6, ground := Ground.data }], guard := none }) (v := (Value.pointer (some ⟨b, 0, none⟩))) rfl (by kernel_rfl) (by kernel_rfl) (by kernel_rfl) (fun _ _ _ h => h) (Or.inl ⟨by rfl, fun _ => exec_nil (x := .tmp 32) rfl rfl _⟩) ?_
    try simp only [Act.put, List.setIfInBounds_toArray, List.set_cons_zero, List.set_cons_succ]
    refine wpAny_take (i := 8) (oi := { dst := some 34, op := Op.fieldAddr 68 (Operand.tmp 33) 1, type := 0, pos := "plate.go:63", after := #[{ on := 7, ground := Ground.data }], guard := none }) (v := (Value.pointer (some ⟨b, 1, none⟩))) rfl (by kernel_rfl) (by kernel_rfl) (by kernel_rfl) (fun _ _ _ h => h) (Or.inl ⟨by rfl, fun _ => exec_field1 (x := .tmp 33) rfl rfl _⟩) ?_
    try simp only [Act.put, List.setIfInBounds_toArray, List.set_cons_zero, List.set_cons_succ]
    refine wpAny_take (i := 10) (oi := { dst := some 36, op := Op.move (Operand.tmp 1), type := 3, pos := "plate.go:63", after := #[], guard := none }) (v := (Value.int .i64 i)) rfl (by kernel_rfl) (by kernel_rfl) (by kernel_rfl) (fun _ _ _ h => h) (Or.inl ⟨by rfl, fun _ => exec_move (x := .tmp 1) rfl rfl _⟩) ?_
    try simp only [Act.put, List.setIfInBounds_toArray, List.set_cons_zero, List.set_cons_succ]
    refine wpAny_ready (rs := [4, 9, 12]) (by kernel_rfl) (by simp) ?_
    refine AllReady.cons (o := { dst := some 30, op := Op.load 66 (Operand.tmp 29), type := 66, pos := "plate.go:63", after := #[{ on := 3, ground := Ground.data }], guard := none }) rfl (fun K hK => ?_) ?_
    · refine step_turns rfl (exec_load1 (t := 66) (x := .tmp 29) rfl (Try.isAgg66 _) rfl K2.out) ?_
      refine hK _ _ ?_
      clear hK K
      try simp only [Act.put, List.setIfInBounds_toArray, List.set_cons_zero, List.set_cons_succ]
      refine wpAny_ready (rs := [9, 12]) (by kernel_rfl) (by simp) ?_
      refine AllReady.cons (o := { dst := some 35, op := Op.load 65 (Operand.tmp 34), type := 65, pos := "plate.go:63", after := #[{ on := 8, ground := Ground.data }], guard := none }) rfl (fun K hK => ?_) ?_
      · refine step_turns rfl (exec_load1 (t := 65) (x := .tmp 34) rfl (Try.isAgg65 _) rfl K1.out) ?_
        refine hK _ _ ?_
        clear hK K
        try simp only [Act.put, List.setIfInBounds_toArray, List.set_cons_zero, List.set_cons_succ]
        refine wpAny_ready (rs := [11, 12]) (by kernel_rfl) (by simp) ?_
        refine AllReady.cons (o := { dst := some 37, op := Op.lookup 65 (Operand.tmp 35) (Operand.tmp 36) false, type := 82, pos := "plate.go:63", after := #[{ on := 9, ground := Ground.data }, { on := 10, ground := Ground.data }], guard := none }) rfl (fun K hK => ?_) ?_
        · refine step_turns rfl (exec_look65 (x := .tmp 35) (y := .tmp 36) rfl rfl rfl HM.out HI.out) ?_
          refine hK _ _ ?_
          clear hK K
          try simp only [Act.put, List.setIfInBounds_toArray, List.set_cons_zero, List.set_cons_succ]
          refine wpAny_ready (rs := [12]) (by kernel_rfl) (by simp) ?_
          refine AllReady.cons (o := { dst := some 38, op := Op.load 82 (Operand.tmp 8), type := 82, pos := "plate.go:63", after := #[], guard := none }) rfl (fun K hK => ?_) ?_
          · refine step_turns rfl (exec_load_row 82 (.tmp 8) rfl w.heap.size rfl 82 (pageOf bs) (0, 0) _ HG.out Try.underlying82 rfl (by rw [HP.out.1]; exact size82)) ?_
            refine hK _ _ ?_
            clear hK K
            try simp only [Act.put, List.setIfInBounds_toArray, List.set_cons_zero, List.set_cons_succ]
            refine wpAny_take (i := 13) (oi := { dst := some 39, op := Op.build 84 #[(0, Operand.tmp 31), (1, Operand.tmp 37), (2, Operand.tmp 38)], type := 84, pos := "plate.go:63", after := #[{ on := 5, ground := Ground.data }, { on := 11, ground := Ground.data }, { on := 12, ground := Ground.data }], guard := none }) (v := (Value.agg (wr i (s.pg i) (pageOf bs)))) rfl (by kernel_rfl) (by kernel_rfl) (by kernel_rfl) (fun _ _ _ h => h) (Or.inl ⟨by rfl, fun _ => exec_build84 (x := .tmp 31) (y := .tmp 37) (z := .tmp 38) rfl rfl rfl rfl HQ.out.1 HP.out.1 _⟩) ?_
            try simp only [Act.put, List.setIfInBounds_toArray, List.set_cons_zero, List.set_cons_succ]
            refine wpAny_ready (rs := [14]) (by kernel_rfl) (by simp) ?_
            refine AllReady.cons (o := { dst := some 40, op := Op.buildSlice 66 1 #[(0, Operand.tmp 39)], type := 66, pos := "plate.go:63", after := #[{ on := 13, ground := Ground.data }], guard := none }) rfl (fun K hK => ?_) ?_
            · refine step_turns rfl (exec_slice66 (x := .tmp 39) rfl rfl (wr_size HQ.out.1 HP.out.1) _) ?_
              refine hK _ _ ?_
              clear hK K
              try simp only [Act.put, List.setIfInBounds_toArray, List.set_cons_zero, List.set_cons_succ]
              refine wpAny_ready (rs := [15]) (by kernel_rfl) (by simp) ?_
              refine AllReady.cons (o := { dst := some 41, op := Op.call { callee := Callee.builtin Builtin.append, args := #[Operand.tmp 30, Operand.tmp 40], argTypes := #[66, 66] }, type := 66, pos := "plate.go:63", after := #[{ on := 4, ground := Ground.data }, { on := 14, ground := Ground.data }], guard := none }) rfl (fun K hK => ?_) ?_
              · refine step_append_lies _ rfl (.tmp 30) (.tmp 40) 66 rfl B 84 i0 _ 129 136 Try.underlying66 hi0 hz0 hz1 hz2 (by rfl) (by decide) v s.op.length (opCells s.op) rfl (HR.out.alloc _) ⟨w2.heap.size, 0, none⟩ 1 1 (wr i (s.pg i) (pageOf bs)).toList rfl (by rw [Array.length_toList, wr_size HQ.out.1 HP.out.1]) (news_at _ _ _) (wr_ones HQ.out HP.out) (by decide) (by have := HX.out.2.2; unfold maxLen; omega) (by have := HX.out.2.2; omega) HBL.out _ rfl ?_; intro g cp w3 hown3 hgrow3 hat3 hlt3; have R3 := Lib.hid (got_of H2.out (W := w2.drew.alloc (.cells (wr i (s.pg i) (pageOf bs)) 84)) (X := wr i (s.pg i) (pageOf bs)) (t := 84) rfl ⟨rfl, rfl, rfl⟩ hown3 hgrow3 hat3 hlt3); clear hown3 hgrow3 hat3 hlt3
                refine hK _ _ ?_
                clear hK K
                try simp only [Act.put, List.setIfInBounds_toArray, List.set_cons_zero, List.set_cons_succ]
                refine wpAny_take (i := 16) (oi := { dst := some 42, op := Op.nilCheck (Operand.tmp 26), type := 0, pos := "plate.go:63", after := #[{ on := 0, ground := Ground.data }, { on := 0, ground := Ground.phase }, { on := 1, ground := Ground.phase }, { on := 2, ground := Ground.phase }, { on := 3, ground := Ground.phase }, { on := 4, ground := Ground.phase }, { on := 5, ground := Ground.phase }, { on := 6, ground := Ground.phase }, { on := 7, ground := Ground.phase }, { on := 8, ground := Ground.phase }, { on := 9, ground := Ground.phase }, { on := 10, ground := Ground.phase }, { on := 11, ground := Ground.phase }, { on := 12, ground := Ground.phase }, { on := 13, ground := Ground.phase }, { on := 14, ground := Ground.phase }, { on := 15, ground := Ground.phase }], guard := none }) (v := (Value.pointer (some ⟨b, 0, none⟩))) rfl (by kernel_rfl) (by kernel_rfl) (by kernel_rfl) (fun _ _ _ h => h) (Or.inl ⟨by rfl, fun _ => exec_nil (x := .tmp 26) rfl rfl _⟩) ?_
                try simp only [Act.put, List.setIfInBounds_toArray, List.set_cons_zero, List.set_cons_succ]
                refine wpAny_take (i := 17) (oi := { dst := some 43, op := Op.fieldAddr 68 (Operand.tmp 42) 2, type := 0, pos := "plate.go:63", after := #[{ on := 16, ground := Ground.data }, { on := 0, ground := Ground.phase }, { on := 1, ground := Ground.phase }, { on := 2, ground := Ground.phase }, { on := 3, ground := Ground.phase }, { on := 4, ground := Ground.phase }, { on := 5, ground := Ground.phase }, { on := 6, ground := Ground.phase }, { on := 7, ground := Ground.phase }, { on := 8, ground := Ground.phase }, { on := 9, ground := Ground.phase }, { on := 10, ground := Ground.phase }, { on := 11, ground := Ground.phase }, { on := 12, ground := Ground.phase }, { on := 13, ground := Ground.phase }, { on := 14, ground := Ground.phase }, { on := 15, ground := Ground.phase }], guard := none }) (v := (Value.pointer (some ⟨b, 2, none⟩))) rfl (by kernel_rfl) (by kernel_rfl) (by kernel_rfl) (fun _ _ _ h => h) (Or.inl ⟨by rfl, fun _ => exec_field2 (x := .tmp 42) rfl rfl _⟩) ?_
                try simp only [Act.put, List.setIfInBounds_toArray, List.set_cons_zero, List.set_cons_succ]
                refine wpAny_ready (rs := [18]) (by kernel_rfl) (by simp) ?_
                refine AllReady.cons (o := { dst := none, op := Op.store 66 (Operand.tmp 43) (Operand.tmp 41), type := 0, pos := "plate.go:63", after := #[{ on := 17, ground := Ground.data }, { on := 15, ground := Ground.data }, { on := 15, ground := Ground.chain }, { on := 0, ground := Ground.phase }, { on := 1, ground := Ground.phase }, { on := 2, ground := Ground.phase }, { on := 3, ground := Ground.phase }, { on := 4, ground := Ground.phase }, { on := 5, ground := Ground.phase }, { on := 6, ground := Ground.phase }, { on := 7, ground := Ground.phase }, { on := 8, ground := Ground.phase }, { on := 9, ground := Ground.phase }, { on := 10, ground := Ground.phase }, { on := 11, ground := Ground.phase }, { on := 12, ground := Ground.phase }, { on := 13, ground := Ground.phase }, { on := 14, ground := Ground.phase }, { on := 15, ground := Ground.phase }], guard := none }) rfl (fun K hK => ?_) ?_
                · refine step_skips rfl (exec_store66 (x := .tmp 43) (y := .tmp 41) rfl rfl rfl R3.out.1 R3.out.2.1) ?_
                  refine hK _ _ ?_
                  clear hK K
                  try simp only [Act.put, List.setIfInBounds_toArray, List.set_cons_zero, List.set_cons_succ]
                  refine wpAny_done (by kernel_rfl) ?_ _
                  go_step; go_step; go_meet
                  exact ⟨w3, g, cp, rfl, R3.out⟩
                exact AllReady.nil
              exact AllReady.nil
            exact AllReady.nil
          exact AllReady.nil
        refine AllReady.cons (o := { dst := some 38, op := Op.load 82 (Operand.tmp 8), type := 82, pos := "plate.go:63", after := #[], guard := none }) rfl (fun K hK => ?_) ?_
        · refine step_turns rfl (exec_load_row 82 (.tmp 8) rfl w.heap.size rfl 82 (pageOf bs) (0, 0) _ HG.out Try.underlying82 rfl (by rw [HP.out.1]; exact size82)) ?_
          refine hK _ _ ?_
          clear hK K
          try simp only [Act.put, List.setIfInBounds_toArray, List.set_cons_zero, List.set_cons_succ]
          refine wpAny_ready (rs := [11]) (by kernel_rfl) (by simp) ?_
          refine AllReady.cons (o := { dst := some 37, op := Op.lookup 65 (Operand.tmp 35) (Operand.tmp 36) false, type := 82, pos := "plate.go:63", after := #[{ on := 9, ground := Ground.data }, { on := 10, ground := Ground.data }], guard := none }) rfl (fun K hK => ?_) ?_
          · refine step_turns rfl (exec_look65 (x := .tmp 35) (y := .tmp 36) rfl rfl rfl HM.out HI.out) ?_
            refine hK _ _ ?_
            clear hK K
            try simp only [Act.put, List.setIfInBounds_toArray, List.set_cons_zero, List.set_cons_succ]
            refine wpAny_take (i := 13) (oi := { dst := some 39, op := Op.build 84 #[(0, Operand.tmp 31), (1, Operand.tmp 37), (2, Operand.tmp 38)], type := 84, pos := "plate.go:63", after := #[{ on := 5, ground := Ground.data }, { on := 11, ground := Ground.data }, { on := 12, ground := Ground.data }], guard := none }) (v := (Value.agg (wr i (s.pg i) (pageOf bs)))) rfl (by kernel_rfl) (by kernel_rfl) (by kernel_rfl) (fun _ _ _ h => h) (Or.inl ⟨by rfl, fun _ => exec_build84 (x := .tmp 31) (y := .tmp 37) (z := .tmp 38) rfl rfl rfl rfl HQ.out.1 HP.out.1 _⟩) ?_
            try simp only [Act.put, List.setIfInBounds_toArray, List.set_cons_zero, List.set_cons_succ]
            refine wpAny_ready (rs := [14]) (by kernel_rfl) (by simp) ?_
            refine AllReady.cons (o := { dst := some 40, op := Op.buildSlice 66 1 #[(0, Operand.tmp 39)], type := 66, pos := "plate.go:63", after := #[{ on := 13, ground := Ground.data }], guard := none }) rfl (fun K hK => ?_) ?_
            · refine step_turns rfl (exec_slice66 (x := .tmp 39) rfl rfl (wr_size HQ.out.1 HP.out.1) _) ?_
              refine hK _ _ ?_
              clear hK K
              try simp only [Act.put, List.setIfInBounds_toArray, List.set_cons_zero, List.set_cons_succ]
              refine wpAny_ready (rs := [15]) (by kernel_rfl) (by simp) ?_
              refine AllReady.cons (o := { dst := some 41, op := Op.call { callee := Callee.builtin Builtin.append, args := #[Operand.tmp 30, Operand.tmp 40], argTypes := #[66, 66] }, type := 66, pos := "plate.go:63", after := #[{ on := 4, ground := Ground.data }, { on := 14, ground := Ground.data }], guard := none }) rfl (fun K hK => ?_) ?_
              · refine step_append_lies _ rfl (.tmp 30) (.tmp 40) 66 rfl B 84 i0 _ 129 136 Try.underlying66 hi0 hz0 hz1 hz2 (by rfl) (by decide) v s.op.length (opCells s.op) rfl (HR.out.alloc _) ⟨w2.heap.size, 0, none⟩ 1 1 (wr i (s.pg i) (pageOf bs)).toList rfl (by rw [Array.length_toList, wr_size HQ.out.1 HP.out.1]) (news_at _ _ _) (wr_ones HQ.out HP.out) (by decide) (by have := HX.out.2.2; unfold maxLen; omega) (by have := HX.out.2.2; omega) HBL.out _ rfl ?_; intro g cp w3 hown3 hgrow3 hat3 hlt3; have R3 := Lib.hid (got_of H2.out (W := w2.drew.alloc (.cells (wr i (s.pg i) (pageOf bs)) 84)) (X := wr i (s.pg i) (pageOf bs)) (t := 84) rfl ⟨rfl, rfl, rfl⟩ hown3 hgrow3 hat3 hlt3); clear hown3 hgrow3 hat3 hlt3
                refine hK _ _ ?_
                clear hK K
                try simp only [Act.put, List.setIfInBounds_toArray, List.set_cons_zero, List.set_cons_succ]
                refine wpAny_take (i := 16) (oi := { dst := some 42, op := Op.nilCheck (Operand.tmp 26), type := 0, pos := "plate.go:63", after := #[{ on := 0, ground := Ground.data }, { on := 0, ground := Ground.phase }, { on := 1, ground := Ground.phase }, { on := 2, ground := Ground.phase }, { on := 3, ground := Ground.phase }, { on := 4, ground := Ground.phase }, { on := 5, ground := Ground.phase }, { on := 6, ground := Ground.phase }, { on := 7, ground := Ground.phase }, { on := 8, ground := Ground.phase }, { on := 9, ground := Ground.phase }, { on := 10, ground := Ground.phase }, { on := 11, ground := Ground.phase }, { on := 12, ground := Ground.phase }, { on := 13, ground := Ground.phase }, { on := 14, ground := Ground.phase }, { on := 15, ground := Ground.phase }], guard := none }) (v := (Value.pointer (some ⟨b, 0, none⟩))) rfl (by kernel_rfl) (by kernel_rfl) (by kernel_rfl) (fun _ _ _ h => h) (Or.inl ⟨by rfl, fun _ => exec_nil (x := .tmp 26) rfl rfl _⟩) ?_
                try simp only [Act.put, List.setIfInBounds_toArray, List.set_cons_zero, List.set_cons_succ]
                refine wpAny_take (i := 17) (oi := { dst := some 43, op := Op.fieldAddr 68 (Operand.tmp 42) 2, type := 0, pos := "plate.go:63", after := #[{ on := 16, ground := Ground.data }, { on := 0, ground := Ground.phase }, { on := 1, ground := Ground.phase }, { on := 2, ground := Ground.phase }, { on := 3, ground := Ground.phase }, { on := 4, ground := Ground.phase }, { on := 5, ground := Ground.phase }, { on := 6, ground := Ground.phase }, { on := 7, ground := Ground.phase }, { on := 8, ground := Ground.phase }, { on := 9, ground := Ground.phase }, { on := 10, ground := Ground.phase }, { on := 11, ground := Ground.phase }, { on := 12, ground := Ground.phase }, { on := 13, ground := Ground.phase }, { on := 14, ground := Ground.phase }, { on := 15, ground := Ground.phase }], guard := none }) (v := (Value.pointer (some ⟨b, 2, none⟩))) rfl (by kernel_rfl) (by kernel_rfl) (by kernel_rfl) (fun _ _ _ h => h) (Or.inl ⟨by rfl, fun _ => exec_field2 (x := .tmp 42) rfl rfl _⟩) ?_
                try simp only [Act.put, List.setIfInBounds_toArray, List.set_cons_zero, List.set_cons_succ]
                refine wpAny_ready (rs := [18]) (by kernel_rfl) (by simp) ?_
                refine AllReady.cons (o := { dst := none, op := Op.store 66 (Operand.tmp 43) (Operand.tmp 41), type := 0, pos := "plate.go:63", after := #[{ on := 17, ground := Ground.data }, { on := 15, ground := Ground.data }, { on := 15, ground := Ground.chain }, { on := 0, ground := Ground.phase }, { on := 1, ground := Ground.phase }, { on := 2, ground := Ground.phase }, { on := 3, ground := Ground.phase }, { on := 4, ground := Ground.phase }, { on := 5, ground := Ground.phase }, { on := 6, ground := Ground.phase }, { on := 7, ground := Ground.phase }, { on := 8, ground := Ground.phase }, { on := 9, ground := Ground.phase }, { on := 10, ground := Ground.phase }, { on := 11, ground := Ground.phase }, { on := 12, ground := Ground.phase }, { on := 13, ground := Ground.phase }, { on := 14, ground := Ground.phase }, { on := 15, ground := Ground.phase }], guard := none }) rfl (fun K hK => ?_) ?_
                · refine step_skips rfl (exec_store66 (x := .tmp 43) (y := .tmp 41) rfl rfl rfl R3.out.1 R3.out.2.1) ?_
                  refine hK _ _ ?_
                  clear hK K
                  try simp only [Act.put, List.setIfInBounds_toArray, List.set_cons_zero, List.set_cons_succ]
                  refine wpAny_done (by kernel_rfl) ?_ _
                  go_step; go_step; go_meet
                  exact ⟨w3, g, cp, rfl, R3.out⟩
                exact AllReady.nil
              exact AllReady.nil
            exact AllReady.nil
          exact AllReady.nil
        exact AllReady.nil
      refine AllReady.cons (o := { dst := some 38, op := Op.load 82 (Operand.tmp 8), type := 82, pos := "plate.go:63", after := #[], guard := none }) rfl (fun K hK => ?_) ?_
      · refine step_turns rfl (exec_load_row 82 (.tmp 8) rfl w.heap.size rfl 82 (pageOf bs) (0, 0) _ HG.out Try.underlying82 rfl (by rw [HP.out.1]; exact size82)) ?_
        refine hK _ _ ?_
        clear hK K
        try simp only [Act.put, List.setIfInBounds_toArray, List.set_cons_zero, List.set_cons_succ]
        refine wpAny_ready (rs := [9]) (by kernel_rfl) (by simp) ?_
        refine AllReady.cons (o := { dst := some 35, op := Op.load 65 (Operand.tmp 34), type := 65, pos := "plate.go:63", after := #[{ on := 8, ground := Ground.data }], guard := none }) rfl (fun K hK => ?_) ?_
        · refine step_turns rfl (exec_load1 (t := 65) (x := .tmp 34) rfl (Try.isAgg65 _) rfl K1.out) ?_
          refine hK _ _ ?_
          clear hK K
          try simp only [Act.put, List.setIfInBounds_toArray, List.set_cons_zero, List.set_cons_succ]
          refine wpAny_ready (rs := [11]) (by kernel_rfl) (by simp) ?_
          refine AllReady.cons (o := { dst := some 37, op := Op.lookup 65 (Operand.tmp 35) (Operand.tmp 36) false, type := 82, pos := "plate.go:63", after := #[{ on := 9, ground := Ground.data }, { on := 10, ground := Ground.data }], guard := none }) rfl (fun K hK => ?_) ?_
          · refine step_turns rfl (exec_look65 (x := .tmp 35) (y := .tmp 36) rfl rfl rfl HM.out HI.out) ?_
            refine hK _ _ ?_
            clear hK K
            try simp only [Act.put, List.setIfInBounds_toArray, List.set_cons_zero, List.set_cons_succ]
            refine wpAny_take (i := 13) (oi := { dst := some 39, op := Op.build 84 #[(0, Operand.tmp 31), (1, Operand.tmp 37), (2, Operand.tmp 38)], type := 84, pos := "plate.go:63", after := #[{ on := 5, ground := Ground.data }, { on := 11, ground := Ground.data }, { on := 12, ground := Ground.data }], guard := none }) (v := (Value.agg (wr i (s.pg i) (pageOf bs)))) rfl (by kernel_rfl) (by kernel_rfl) (by kernel_rfl) (fun _ _ _ h => h) (Or.inl ⟨by rfl, fun _ => exec_build84 (x := .tmp 31) (y := .tmp 37) (z := .tmp 38) rfl rfl rfl rfl HQ.out.1 HP.out.1 _⟩) ?_
            try simp only [Act.put, List.setIfInBounds_toArray, List.set_cons_zero, List.set_cons_succ]
            refine wpAny_ready (rs := [14]) (by kernel_rfl) (by simp) ?_
            refine AllReady.cons (o := { dst := some 40, op := Op.buildSlice 66 1 #[(0, Operand.tmp 39)], type := 66, pos := "plate.go:63", after := #[{ on := 13, ground := Ground.data }], guard := none }) rfl (fun K hK => ?_) ?_
            · refine step_turns rfl (exec_slice66 (x := .tmp 39) rfl rfl (wr_size HQ.out.1 HP.out.1) _) ?_
              refine hK _ _ ?_
              clear hK K
              try simp only [Act.put, List.setIfInBounds_toArray, List.set_cons_zero, List.set_cons_succ]
              refine wpAny_ready (rs := [15]) (by kernel_rfl) (by simp) ?_
              refine AllReady.cons (o := { dst := some 41, op := Op.call { callee := Callee.builtin Builtin.append, args := #[Operand.tmp 30, Operand.tmp 40], argTypes := #[66, 66] }, type := 66, pos := "plate.go:63", after := #[{ on := 4, ground := Ground.data }, { on := 14, ground := Ground.data }], guard := none }) rfl (fun K hK => ?_) ?_
              · refine step_append_lies _ rfl (.tmp 30) (.tmp 40) 66 rfl B 84 i0 _ 129 136 Try.underlying66 hi0 hz0 hz1 hz2 (by rfl) (by decide) v s.op.length (opCells s.op) rfl (HR.out.alloc _) ⟨w2.heap.size, 0, none⟩ 1 1 (wr i (s.pg i) (pageOf bs)).toList rfl (by rw [Array.length_toList, wr_size HQ.out.1 HP.out.1]) (news_at _ _ _) (wr_ones HQ.out HP.out) (by decide) (by have := HX.out.2.2; unfold maxLen; omega) (by have := HX.out.2.2; omega) HBL.out _ rfl ?_; intro g cp w3 hown3 hgrow3 hat3 hlt3; have R3 := Lib.hid (got_of H2.out (W := w2.drew.alloc (.cells (wr i (s.pg i) (pageOf bs)) 84)) (X := wr i (s.pg i) (pageOf bs)) (t := 84) rfl ⟨rfl, rfl, rfl⟩ hown3 hgrow3 hat3 hlt3); clear hown3 hgrow3 hat3 hlt3
                refine hK _ _ ?_
                clear hK K
                try simp only [Act.put, List.setIfInBounds_toArray, List.set_cons_zero, List.set_cons_succ]
                refine wpAny_take (i := 16) (oi := { dst := some 42, op := Op.nilCheck (Operand.tmp 26), type := 0, pos := "plate.go:63", after := #[{ on := 0, ground := Ground.data }, { on := 0, ground := Ground.phase }, { on := 1, ground := Ground.phase }, { on := 2, ground := Ground.phase }, { on := 3, ground := Ground.phase }, { on := 4, ground := Ground.phase }, { on := 5, ground := Ground.phase }, { on := 6, ground := Ground.phase }, { on := 7, ground := Ground.phase }, { on := 8, ground := Ground.phase }, { on := 9, ground := Ground.phase }, { on := 10, ground := Ground.phase }, { on := 11, ground := Ground.phase }, { on := 12, ground := Ground.phase }, { on := 13, ground := Ground.phase }, { on := 14, ground := Ground.phase }, { on := 15, ground := Ground.phase }], guard := none }) (v := (Value.pointer (some ⟨b, 0, none⟩))) rfl (by kernel_rfl) (by kernel_rfl) (by kernel_rfl) (fun _ _ _ h => h) (Or.inl ⟨by rfl, fun _ => exec_nil (x := .tmp 26) rfl rfl _⟩) ?_
                try simp only [Act.put, List.setIfInBounds_toArray, List.set_cons_zero, List.set_cons_succ]
                refine wpAny_take (i := 17) (oi := { dst := some 43, op := Op.fieldAddr 68 (Operand.tmp 42) 2, type := 0, pos := "plate.go:63", after := #[{ on := 16, ground := Ground.data }, { on := 0, ground := Ground.phase }, { on := 1, ground := Ground.phase }, { on := 2, ground := Ground.phase }, { on := 3, ground := Ground.phase }, { on := 4, ground := Ground.phase }, { on := 5, ground := Ground.phase }, { on := 6, ground := Ground.phase }, { on := 7, ground := Ground.phase }, { on := 8, ground := Ground.phase }, { on := 9, ground := Ground.phase }, { on := 10, ground := Ground.phase }, { on := 11, ground := Ground.phase }, { on := 12, ground := Ground.phase }, { on := 13, ground := Ground.phase }, { on := 14, ground := Ground.phase }, { on := 15, ground := Ground.phase }], guard := none }) (v := (Value.pointer (some ⟨b, 2, none⟩))) rfl (by kernel_rfl) (by kernel_rfl) (by kernel_rfl) (fun _ _ _ h => h) (Or.inl ⟨by rfl, fun _ => exec_field2 (x := .tmp 42) rfl rfl _⟩) ?_
                try simp only [Act.put, List.setIfInBounds_toArray, List.set_cons_zero, List.set_cons_succ]
                refine wpAny_ready (rs := [18]) (by kernel_rfl) (by simp) ?_
                refine AllReady.cons (o := { dst := none, op := Op.store 66 (Operand.tmp 43) (Operand.tmp 41), type := 0, pos := "plate.go:63", after := #[{ on := 17, ground := Ground.data }, { on := 15, ground := Ground.data }, { on := 15, ground := Ground.chain }, { on := 0, ground := Ground.phase }, { on := 1, ground := Ground.phase }, { on := 2, ground := Ground.phase }, { on := 3, ground := Ground.phase }, { on := 4, ground := Ground.phase }, { on := 5, ground := Ground.phase }, { on := 6, ground := Ground.phase }, { on := 7, ground := Ground.phase }, { on := 8, ground := Ground.phase }, { on := 9, ground := Ground.phase }, { on := 10, ground := Ground.phase }, { on := 11, ground := Ground.phase }, { on := 12, ground := Ground.phase }, { on := 13, ground := Ground.phase }, { on := 14, ground := Ground.phase }, { on := 15, ground := Ground.phase }], guard := none }) rfl (fun K hK => ?_) ?_
                · refine step_skips rfl (exec_store66 (x := .tmp 43) (y := .tmp 41) rfl rfl rfl R3.out.1 R3.out.2.1) ?_
                  refine hK _ _ ?_
                  clear hK K
                  try simp only [Act.put, List.setIfInBounds_toArray, List.set_cons_zero, List.set_cons_succ]
                  refine wpAny_done (by kernel_rfl) ?_ _
                  go_step; go_step; go_meet
                  exact ⟨w3, g, cp, rfl, R3.out⟩
                exact AllReady.nil
              exact AllReady.nil
            exact AllReady.nil
          exact AllReady.nil
        exact AllReady.nil
      exact AllReady.nil
    refine AllReady.cons (o := { dst := some 35, op := Op.load 65 (Operand.tmp 34), type := 65, pos := "plate.go:63", after := #[{ on := 8, ground := Ground.data }], guard := none }) rfl (fun K hK => ?_) ?_
    · refine step_turns rfl (exec_load1 (t := 65) (x := .tmp 34) rfl (Try.isAgg65 _) rfl K1.out) ?_
      refine hK _ _ ?_
      clear hK K
      try simp only [Act.put, List.setIfInBounds_toArray, List.set_cons_zero, List.set_cons_succ]
      refine wpAny_ready (rs := [4, 11, 12]) (by kernel_rfl) (by simp) ?_
      refine AllReady.cons (o := { dst := some 30, op := Op.load 66 (Operand.tmp 29), type := 66, pos := "plate.go:63", after := #[{ on := 3, ground := Ground.data }], guard := none }) rfl (fun K hK => ?_) ?_
      · refine step_turns rfl (exec_load1 (t := 66) (x := .tmp 29) rfl (Try.isAgg66 _) rfl K2.out) ?_
        refine hK _ _ ?_
        clear hK K
        try simp only [Act.put, List.setIfInBounds_toArray, List.set_cons_zero, List.set_cons_succ]
        refine wpAny_ready (rs := [11, 12]) (by kernel_rfl) (by simp) ?_
        refine AllReady.cons (o := { dst := some 37, op := Op.lookup 65 (Operand.tmp 35) (Operand.tmp 36) false, type := 82, pos := "plate.go:63", after := #[{ on := 9, ground := Ground.data }, { on := 10, ground := Ground.data }], guard := none }) rfl (fun K hK => ?_) ?_
        · refine step_turns rfl (exec_look65 (x := .tmp 35) (y := .tmp 36) rfl rfl rfl HM.out HI.out) ?_
          refine hK _ _ ?_
          clear hK K
          try simp only [Act.put, List.setIfInBounds_toArray, List.set_cons_zero, List.set_cons_succ]
          refine wpAny_ready (rs := [12]) (by kernel_rfl) (by simp) ?_
          refine AllReady.cons (o := { dst := some 38, op := Op.load 82 (Operand.tmp 8), type := 82, pos := "plate.go:63", after := #[], guard := none }) rfl (fun K hK => ?_) ?_
          · refine step_turns rfl (exec_load_row 82 (.tmp 8) rfl w.heap.size rfl 82 (pageOf bs) (0, 0) _ HG.out Try.underlying82 rfl (by rw [HP.out.1]; exact size82)) ?_
            refine hK _ _ ?_
            clear hK K
            try simp only [Act.put, List.setIfInBounds_toArray, List.set_cons_zero, List.set_cons_succ]
            refine wpAny_take (i := 13) (oi := { dst := some 39, op := Op.build 84 #[(0, Operand.tmp 31), (1, Operand.tmp 37), (2, Operand.tmp 38)], type := 84, pos := "plate.go:63", after := #[{ on := 5, ground := Ground.data }, { on := 11, ground := Ground.data }, { on := 12, ground := Ground.data }], guard := none }) (v := (Value.agg (wr i (s.pg i) (pageOf bs)))) rfl (by kernel_rfl) (by kernel_rfl) (by kernel_rfl) (fun _ _ _ h => h) (Or.inl ⟨by rfl, fun _ => exec_build84 (x := .tmp 31) (y := .tmp 37) (z := .tmp 38) rfl rfl rfl rfl HQ.out.1 HP.out.1 _⟩) ?_
            try simp only [Act.put, List.setIfInBounds_toArray, List.set_cons_zero, List.set_cons_succ]
            refine wpAny_ready (rs := [14]) (by kernel_rfl) (by simp) ?_
            refine AllReady.cons (o := { dst := some 40, op := Op.buildSlice 66 1 #[(0, Operand.tmp 39)], type := 66, pos := "plate.go:63", after := #[{ on := 13, ground := Ground.data }], guard := none }) rfl (fun K hK => ?_) ?_
            · refine step_turns rfl (exec_slice66 (x := .tmp 39) rfl rfl (wr_size HQ.out.1 HP.out.1) _) ?_
              refine hK _ _ ?_
              clear hK K
              try simp only [Act.put, List.setIfInBounds_toArray, List.set_cons_zero, List.set_cons_succ]
              refine wpAny_ready (rs := [15]) (by kernel_rfl) (by simp) ?_
              refine AllReady.cons (o := { dst := some 41, op := Op.call { callee := Callee.builtin Builtin.append, args := #[Operand.tmp 30, Operand.tmp 40], argTypes := #[66, 66] }, type := 66, pos := "plate.go:63", after := #[{ on := 4, ground := Ground.data }, { on := 14, ground := Ground.data }], guard := none }) rfl (fun K hK => ?_) ?_
              · refine step_append_lies _ rfl (.tmp 30) (.tmp 40) 66 rfl B 84 i0 _ 129 136 Try.underlying66 hi0 hz0 hz1 hz2 (by rfl) (by decide) v s.op.length (opCells s.op) rfl (HR.out.alloc _) ⟨w2.heap.size, 0, none⟩ 1 1 (wr i (s.pg i) (pageOf bs)).toList rfl (by rw [Array.length_toList, wr_size HQ.out.1 HP.out.1]) (news_at _ _ _) (wr_ones HQ.out HP.out) (by decide) (by have := HX.out.2.2; unfold maxLen; omega) (by have := HX.out.2.2; omega) HBL.out _ rfl ?_; intro g cp w3 hown3 hgrow3 hat3 hlt3; have R3 := Lib.hid (got_of H2.out (W := w2.drew.alloc (.cells (wr i (s.pg i) (pageOf bs)) 84)) (X := wr i (s.pg i) (pageOf bs)) (t := 84) rfl ⟨rfl, rfl, rfl⟩ hown3 hgrow3 hat3 hlt3); clear hown3 hgrow3 hat3 hlt3
                refine hK _ _ ?_
                clear hK K
                try simp only [Act.put, List.setIfInBounds_toArray, List.set_cons_zero, List.set_cons_succ]
                refine wpAny_take (i := 16) (oi := { dst := some 42, op := Op.nilCheck (Operand.tmp 26), type := 0, pos := "plate.go:63", after := #[{ on := 0, ground := Ground.data }, { on := 0, ground := Ground.phase }, { on := 1, ground := Ground.phase }, { on := 2, ground := Ground.phase }, { on := 3, ground := Ground.phase }, { on := 4, ground := Ground.phase }, { on := 5, ground := Ground.phase }, { on := 6, ground := Ground.phase }, { on := 7, ground := Ground.phase }, { on := 8, ground := Ground.phase }, { on := 9, ground := Ground.phase }, { on := 10, ground := Ground.phase }, { on := 11, ground := Ground.phase }, { on := 12, ground := Ground.phase }, { on := 13, ground := Ground.phase }, { on := 14, ground := Ground.phase }, { on := 15, ground := Ground.phase }], guard := none }) (v := (Value.pointer (some ⟨b, 0, none⟩))) rfl (by kernel_rfl) (by kernel_rfl) (by kernel_rfl) (fun _ _ _ h => h) (Or.inl ⟨by rfl, fun _ => exec_nil (x := .tmp 26) rfl rfl _⟩) ?_
                try simp only [Act.put, List.setIfInBounds_toArray, List.set_cons_zero, List.set_cons_succ]
                refine wpAny_take (i := 17) (oi := { dst := some 43, op := Op.fieldAddr 68 (Operand.tmp 42) 2, type := 0, pos := "plate.go:63", after := #[{ on := 16, ground := Ground.data }, { on := 0, ground := Ground.phase }, { on := 1, ground := Ground.phase }, { on := 2, ground := Ground.phase }, { on := 3, ground := Ground.phase }, { on := 4, ground := Ground.phase }, { on := 5, ground := Ground.phase }, { on := 6, ground := Ground.phase }, { on := 7, ground := Ground.phase }, { on := 8, ground := Ground.phase }, { on := 9, ground := Ground.phase }, { on := 10, ground := Ground.phase }, { on := 11, ground := Ground.phase }, { on := 12, ground := Ground.phase }, { on := 13, ground := Ground.phase }, { on := 14, ground := Ground.phase }, { on := 15, ground := Ground.phase }], guard := none }) (v := (Value.pointer (some ⟨b, 2, none⟩))) rfl (by kernel_rfl) (by kernel_rfl) (by kernel_rfl) (fun _ _ _ h => h) (Or.inl ⟨by rfl, fun _ => exec_field2 (x := .tmp 42) rfl rfl _⟩) ?_
                try simp only [Act.put, List.setIfInBounds_toArray, List.set_cons_zero, List.set_cons_succ]
                refine wpAny_ready (rs := [18]) (by kernel_rfl) (by simp) ?_
                refine AllReady.cons (o := { dst := none, op := Op.store 66 (Operand.tmp 43) (Operand.tmp 41), type := 0, pos := "plate.go:63", after := #[{ on := 17, ground := Ground.data }, { on := 15, ground := Ground.data }, { on := 15, ground := Ground.chain }, { on := 0, ground := Ground.phase }, { on := 1, ground := Ground.phase }, { on := 2, ground := Ground.phase }, { on := 3, ground := Ground.phase }, { on := 4, ground := Ground.phase }, { on := 5, ground := Ground.phase }, { on := 6, ground := Ground.phase }, { on := 7, ground := Ground.phase }, { on := 8, ground := Ground.phase }, { on := 9, ground := Ground.phase }, { on := 10, ground := Ground.phase }, { on := 11, ground := Ground.phase }, { on := 12, ground := Ground.phase }, { on := 13, ground := Ground.phase }, { on := 14, ground := Ground.phase }, { on := 15, ground := Ground.phase }], guard := none }) rfl (fun K hK => ?_) ?_
                · refine step_skips rfl (exec_store66 (x := .tmp 43) (y := .tmp 41) rfl rfl rfl R3.out.1 R3.out.2.1) ?_
                  refine hK _ _ ?_
                  clear hK K
                  try simp only [Act.put, List.setIfInBounds_toArray, List.set_cons_zero, List.set_cons_succ]
                  refine wpAny_done (by kernel_rfl) ?_ _
                  go_step; go_step; go_meet
                  exact ⟨w3, g, cp, rfl, R3.out⟩
                exact AllReady.nil
              exact AllReady.nil
            exact AllReady.nil
          exact AllReady.nil
        refine AllReady.cons (o := { dst := some 38, op := Op.load 82 (Operand.tmp 8), type := 82, pos := "plate.go:63", after := #[], guard := none }) rfl (fun K hK => ?_) ?_
        · refine step_turns rfl (exec_load_row 82 (.tmp 8) rfl w.heap.size rfl 82 (pageOf bs) (0, 0) _ HG.out Try.underlying82 rfl (by rw [HP.out.1]; exact size82)) ?_
          refine hK _ _ ?_
          clear hK K
          try simp only [Act.put, List.setIfInBounds_toArray, List.set_cons_zero, List.set_cons_succ]
          refine wpAny_ready (rs := [11]) (by kernel_rfl) (by simp) ?_
          refine AllReady.cons (o := { dst := some 37, op := Op.lookup 65 (Operand.tmp 35) (Operand.tmp 36) false, type := 82, pos := "plate.go:63", after := #[{ on := 9, ground := Ground.data }, { on := 10, ground := Ground.data }], guard := none }) rfl (fun K hK => ?_) ?_
          · refine step_turns rfl (exec_look65 (x := .tmp 35) (y := .tmp 36) rfl rfl rfl HM.out HI.out) ?_
            refine hK _ _ ?_
            clear hK K
            try simp only [Act.put, List.setIfInBounds_toArray, List.set_cons_zero, List.set_cons_succ]
            refine wpAny_take (i := 13) (oi := { dst := some 39, op := Op.build 84 #[(0, Operand.tmp 31), (1, Operand.tmp 37), (2, Operand.tmp 38)], type := 84, pos := "plate.go:63", after := #[{ on := 5, ground := Ground.data }, { on := 11, ground := Ground.data }, { on := 12, ground := Ground.data }], guard := none }) (v := (Value.agg (wr i (s.pg i) (pageOf bs)))) rfl (by kernel_rfl) (by kernel_rfl) (by kernel_rfl) (fun _ _ _ h => h) (Or.inl ⟨by rfl, fun _ => exec_build84 (x := .tmp 31) (y := .tmp 37) (z := .tmp 38) rfl rfl rfl rfl HQ.out.1 HP.out.1 _⟩) ?_
            try simp only [Act.put, List.setIfInBounds_toArray, List.set_cons_zero, List.set_cons_succ]
            refine wpAny_ready (rs := [14]) (by kernel_rfl) (by simp) ?_
            refine AllReady.cons (o := { dst := some 40, op := Op.buildSlice 66 1 #[(0, Operand.tmp 39)], type := 66, pos := "plate.go:63", after := #[{ on := 13, ground := Ground.data }], guard := none }) rfl (fun K hK => ?_) ?_
            · refine step_turns rfl (exec_slice66 (x := .tmp 39) rfl rfl (wr_size HQ.out.1 HP.out.1) _) ?_
              refine hK _ _ ?_
              clear hK K
              try simp only [Act.put, List.setIfInBounds_toArray, List.set_cons_zero, List.set_cons_succ]
              refine wpAny_ready (rs := [15]) (by kernel_rfl) (by simp) ?_
              refine AllReady.cons (o := { dst := some 41, op := Op.call { callee := Callee.builtin Builtin.append, args := #[Operand.tmp 30, Operand.tmp 40], argTypes := #[66, 66] }, type := 66, pos := "plate.go:63", after := #[{ on := 4, ground := Ground.data }, { on := 14, ground := Ground.data }], guard := none }) rfl (fun K hK => ?_) ?_
              · refine step_append_lies _ rfl (.tmp 30) (.tmp 40) 66 rfl B 84 i0 _ 129 136 Try.underlying66 hi0 hz0 hz1 hz2 (by rfl) (by decide) v s.op.length (opCells s.op) rfl (HR.out.alloc _) ⟨w2.heap.size, 0, none⟩ 1 1 (wr i (s.pg i) (pageOf bs)).toList rfl (by rw [Array.length_toList, wr_size HQ.out.1 HP.out.1]) (news_at _ _ _) (wr_ones HQ.out HP.out) (by decide) (by have := HX.out.2.2; unfold maxLen; omega) (by have := HX.out.2.2; omega) HBL.out _ rfl ?_; intro g cp w3 hown3 hgrow3 hat3 hlt3; have R3 := Lib.hid (got_of H2.out (W := w2.drew.alloc (.cells (wr i (s.pg i) (pageOf bs)) 84)) (X := wr i (s.pg i) (pageOf bs)) (t := 84) rfl ⟨rfl, rfl, rfl⟩ hown3 hgrow3 hat3 hlt3); clear hown3 hgrow3 hat3 hlt3
                refine hK _ _ ?_
                clear hK K
                try simp only [Act.put, List.setIfInBounds_toArray, List.set_cons_zero, List.set_cons_succ]
                refine wpAny_take (i := 16) (oi := { dst := some 42, op := Op.nilCheck (Operand.tmp 26), type := 0, pos := "plate.go:63", after := #[{ on := 0, ground := Ground.data }, { on := 0, ground := Ground.phase }, { on := 1, ground := Ground.phase }, { on := 2, ground := Ground.phase }, { on := 3, ground := Ground.phase }, { on := 4, ground := Ground.phase }, { on := 5, ground := Ground.phase }, { on := 6, ground := Ground.phase }, { on := 7, ground := Ground.phase }, { on := 8, ground := Ground.phase }, { on := 9, ground := Ground.phase }, { on := 10, ground := Ground.phase }, { on := 11, ground := Ground.phase }, { on := 12, ground := Ground.phase }, { on := 13, ground := Ground.phase }, { on := 14, ground := Ground.phase }, { on := 15, ground := Ground.phase }], guard := none }) (v := (Value.pointer (some ⟨b, 0, none⟩))) rfl (by kernel_rfl) (by kernel_rfl) (by kernel_rfl) (fun _ _ _ h => h) (Or.inl ⟨by rfl, fun _ => exec_nil (x := .tmp 26) rfl rfl _⟩) ?_
                try simp only [Act.put, List.setIfInBounds_toArray, List.set_cons_zero, List.set_cons_succ]
                refine wpAny_take (i := 17) (oi := { dst := some 43, op := Op.fieldAddr 68 (Operand.tmp 42) 2, type := 0, pos := "plate.go:63", after := #[{ on := 16, ground := Ground.data }, { on := 0, ground := Ground.phase }, { on := 1, ground := Ground.phase }, { on := 2, ground := Ground.phase }, { on := 3, ground := Ground.phase }, { on := 4, ground := Ground.phase }, { on := 5, ground := Ground.phase }, { on := 6, ground := Ground.phase }, { on := 7, ground := Ground.phase }, { on := 8, ground := Ground.phase }, { on := 9, ground := Ground.phase }, { on := 10, ground := Ground.phase }, { on := 11, ground := Ground.phase }, { on := 12, ground := Ground.phase }, { on := 13, ground := Ground.phase }, { on := 14, ground := Ground.phase }, { on := 15, ground := Ground.phase }], guard := none }) (v := (Value.pointer (some ⟨b, 2, none⟩))) rfl (by kernel_rfl) (by kernel_rfl) (by kernel_rfl) (fun _ _ _ h => h) (Or.inl ⟨by rfl, fun _ => exec_field2 (x := .tmp 42) rfl rfl _⟩) ?_
                try simp only [Act.put, List.setIfInBounds_toArray, List.set_cons_zero, List.set_cons_succ]
                refine wpAny_ready (rs := [18]) (by kernel_rfl) (by simp) ?_
                refine AllReady.cons (o := { dst := none, op := Op.store 66 (Operand.tmp 43) (Operand.tmp 41), type := 0, pos := "plate.go:63", after := #[{ on := 17, ground := Ground.data }, { on := 15, ground := Ground.data }, { on := 15, ground := Ground.chain }, { on := 0, ground := Ground.phase }, { on := 1, ground := Ground.phase }, { on := 2, ground := Ground.phase }, { on := 3, ground := Ground.phase }, { on := 4, ground := Ground.phase }, { on := 5, ground := Ground.phase }, { on := 6, ground := Ground.phase }, { on := 7, ground := Ground.phase }, { on := 8, ground := Ground.phase }, { on := 9, ground := Ground.phase }, { on := 10, ground := Ground.phase }, { on := 11, ground := Ground.phase }, { on := 12, ground := Ground.phase }, { on := 13, ground := Ground.phase }, { on := 14, ground := Ground.phase }, { on := 15, ground := Ground.phase }], guard := none }) rfl (fun K hK => ?_) ?_
                · refine step_skips rfl (exec_store66 (x := .tmp 43) (y := .tmp 41) rfl rfl rfl R3.out.1 R3.out.2.1) ?_
                  refine hK _ _ ?_
                  clear hK K
                  try simp only [Act.put, List.setIfInBounds_toArray, List.set_cons_zero, List.set_cons_succ]
                  refine wpAny_done (by kernel_rfl) ?_ _
                  go_step; go_step; go_meet
                  exact ⟨w3, g, cp, rfl, R3.out⟩
                exact AllReady.nil
              exact AllReady.nil
            exact AllReady.nil
          exact AllReady.nil
        exact AllReady.nil
      refine AllReady.cons (o := { dst := some 37, op := Op.lookup 65 (Operand.tmp 35) (Operand.tmp 36) false, type := 82, pos := "plate.go:63", after := #[{ on := 9, ground := Ground.data }, { on := 10, ground := Ground.data }], guard := none }) rfl (fun K hK => ?_) ?_
      · refine step_turns rfl (exec_look65 (x := .tmp 35) (y := .tmp 36) rfl rfl rfl HM.out HI.out) ?_
        refine hK _ _ ?_
        clear hK K
        try simp only [Act.put, List.setIfInBounds_toArray, List.set_cons_zero, List.set_cons_succ]
        refine wpAny_ready (rs := [4, 12]) (by kernel_rfl) (by simp) ?_
        refine AllReady.cons (o := { dst := some 30, op := Op.load 66 (Operand.tmp 29), type := 66, pos := "plate.go:63", after := #[{ on := 3, ground := Ground.data }], guard := none }) rfl (fun K hK => ?_) ?_
        · refine step_turns rfl (exec_load1 (t := 66) (x := .tmp 29) rfl (Try.isAgg66 _) rfl K2.out) ?_
          refine hK _ _ ?_
          clear hK K
          try simp only [Act.put, List.setIfInBounds_toArray, List.set_cons_zero, List.set_cons_succ]
          refine wpAny_ready (rs := [12]) (by kernel_rfl) (by simp) ?_
          refine AllReady.cons (o := { dst := some 38, op := Op.load 82 (Operand.tmp 8), type := 82, pos := "plate.go:63", after := #[], guard := none }) rfl (fun K hK => ?_) ?_
          · refine step_turns rfl (exec_load_row 82 (.tmp 8) rfl w.heap.size rfl 82 (pageOf bs) (0, 0) _ HG.out Try.underlying82 rfl (by rw [HP.out.1]; exact size82)) ?_
            refine hK _ _ ?_
            clear hK K
            try simp only [Act.put, List.setIfInBounds_toArray, List.set_cons_zero, List.set_cons_succ]
            refine wpAny_take (i := 13) (oi := { dst := some 39, op := Op.build 84 #[(0, Operand.tmp 31), (1, Operand.tmp 37), (2, Operand.tmp 38)], type := 84, pos := "plate.go:63", after := #[{ on := 5, ground := Ground.data }, { on := 11, ground := Ground.data }, { on := 12, ground := Ground.data }], guard := none }) (v := (Value.agg (wr i (s.pg i) (pageOf bs)))) rfl (by kernel_rfl) (by kernel_rfl) (by kernel_rfl) (fun _ _ _ h => h) (Or.inl ⟨by rfl, fun _ => exec_build84 (x := .tmp 31) (y := .tmp 37) (z := .tmp 38) rfl rfl rfl rfl HQ.out.1 HP.out.1 _⟩) ?_
            try simp only [Act.put, List.setIfInBounds_toArray, List.set_cons_zero, List.set_cons_succ]
            refine wpAny_ready (rs := [14]) (by kernel_rfl) (by simp) ?_
            refine AllReady.cons (o := { dst := some 40, op := Op.buildSlice 66 1 #[(0, Operand.tmp 39)], type := 66, pos := "plate.go:63", after := #[{ on := 13, ground := Ground.data }], guard := none }) rfl (fun K hK => ?_) ?_
            · refine step_turns rfl (exec_slice66 (x := .tmp 39) rfl rfl (wr_size HQ.out.1 HP.out.1) _) ?_
              refine hK _ _ ?_
              clear hK K
              try simp only [Act.put, List.setIfInBounds_toArray, List.set_cons_zero, List.set_cons_succ]
              refine wpAny_ready (rs := [15]) (by kernel_rfl) (by simp) ?_
              refine AllReady.cons (o := { dst := some 41, op := Op.call { callee := Callee.builtin Builtin.append, args := #[Operand.tmp 30, Operand.tmp 40], argTypes := #[66, 66] }, type := 66, pos := "plate.go:63", after := #[{ on := 4, ground := Ground.data }, { on := 14, ground := Ground.data }], guard := none }) rfl (fun K hK => ?_) ?_
              · refine step_append_lies _ rfl (.tmp 30) (.tmp 40) 66 rfl B 84 i0 _ 129 136 Try.underlying66 hi0 hz0 hz1 hz2 (by rfl) (by decide) v s.op.length (opCells s.op) rfl (HR.out.alloc _) ⟨w2.heap.size, 0, none⟩ 1 1 (wr i (s.pg i) (pageOf bs)).toList rfl (by rw [Array.length_toList, wr_size HQ.out.1 HP.out.1]) (news_at _ _ _) (wr_ones HQ.out HP.out) (by decide) (by have := HX.out.2.2; unfold maxLen; omega) (by have := HX.out.2.2; omega) HBL.out _ rfl ?_; intro g cp w3 hown3 hgrow3 hat3 hlt3; have R3 := Lib.hid (got_of H2.out (W := w2.drew.alloc (.cells (wr i (s.pg i) (pageOf bs)) 84)) (X := wr i (s.pg i) (pageOf bs)) (t := 84) rfl ⟨rfl, rfl, rfl⟩ hown3 hgrow3 hat3 hlt3); clear hown3 hgrow3 hat3 hlt3
                refine hK _ _ ?_
                clear hK K
                try simp only [Act.put, List.setIfInBounds_toArray, List.set_cons_zero, List.set_cons_succ]
                refine wpAny_take (i := 16) (oi := { dst := some 42, op := Op.nilCheck (Operand.tmp 26), type := 0, pos := "plate.go:63", after := #[{ on := 0, ground := Ground.data }, { on := 0, ground := Ground.phase }, { on := 1, ground := Ground.phase }, { on := 2, ground := Ground.phase }, { on := 3, ground := Ground.phase }, { on := 4, ground := Ground.phase }, { on := 5, ground := Ground.phase }, { on := 6, ground := Ground.phase }, { on := 7, ground := Ground.phase }, { on := 8, ground := Ground.phase }, { on := 9, ground := Ground.phase }, { on := 10, ground := Ground.phase }, { on := 11, ground := Ground.phase }, { on := 12, ground := Ground.phase }, { on := 13, ground := Ground.phase }, { on := 14, ground := Ground.phase }, { on := 15, ground := Ground.phase }], guard := none }) (v := (Value.pointer (some ⟨b, 0, none⟩))) rfl (by kernel_rfl) (by kernel_rfl) (by kernel_rfl) (fun _ _ _ h => h) (Or.inl ⟨by rfl, fun _ => exec_nil (x := .tmp 26) rfl rfl _⟩) ?_
                try simp only [Act.put, List.setIfInBounds_toArray, List.set_cons_zero, List.set_cons_succ]
                refine wpAny_take (i := 17) (oi := { dst := some 43, op := Op.fieldAddr 68 (Operand.tmp 42) 2, type := 0, pos := "plate.go:63", after := #[{ on := 16, ground := Ground.data }, { on := 0, ground := Ground.phase }, { on := 1, ground := Ground.phase }, { on := 2, ground := Ground.phase }, { on := 3, ground := Ground.phase }, { on := 4, ground := Ground.phase }, { on := 5, ground := Ground.phase }, { on := 6, ground := Ground.phase }, { on := 7, ground := Ground.phase }, { on := 8, ground := Ground.phase }, { on := 9, ground := Ground.phase }, { on := 10, ground := Ground.phase }, { on := 11, ground := Ground.phase }, { on := 12, ground := Ground.phase }, { on := 13, ground := Ground.phase }, { on := 14, ground := Ground.phase }, { on := 15, ground := Ground.phase }], guard := none }) (v := (Value.pointer (some ⟨b, 2, none⟩))) rfl (by kernel_rfl) (by kernel_rfl) (by kernel_rfl) (fun _ _ _ h => h) (Or.inl ⟨by rfl, fun _ => exec_field2 (x := .tmp 42) rfl rfl _⟩) ?_
                try simp only [Act.put, List.setIfInBounds_toArray, List.set_cons_zero, List.set_cons_succ]
                refine wpAny_ready (rs := [18]) (by kernel_rfl) (by simp) ?_
                refine AllReady.cons (o := { dst := none, op := Op.store 66 (Operand.tmp 43) (Operand.tmp 41), type := 0, pos := "plate.go:63", after := #[{ on := 17, ground := Ground.data }, { on := 15, ground := Ground.data }, { on := 15, ground := Ground.chain }, { on := 0, ground := Ground.phase }, { on := 1, ground := Ground.phase }, { on := 2, ground := Ground.phase }, { on := 3, ground := Ground.phase }, { on := 4, ground := Ground.phase }, { on := 5, ground := Ground.phase }, { on := 6, ground := Ground.phase }, { on := 7, ground := Ground.phase }, { on := 8, ground := Ground.phase }, { on := 9, ground := Ground.phase }, { on := 10, ground := Ground.phase }, { on := 11, ground := Ground.phase }, { on := 12, ground := Ground.phase }, { on := 13, ground := Ground.phase }, { on := 14, ground := Ground.phase }, { on := 15, ground := Ground.phase }], guard := none }) rfl (fun K hK => ?_) ?_
                · refine step_skips rfl (exec_store66 (x := .tmp 43) (y := .tmp 41) rfl rfl rfl R3.out.1 R3.out.2.1) ?_
                  refine hK _ _ ?_
                  clear hK K
                  try simp only [Act.put, List.setIfInBounds_toArray, List.set_cons_zero, List.set_cons_succ]
                  refine wpAny_done (by kernel_rfl) ?_ _
                  go_step; go_step; go_meet
                  exact ⟨w3, g, cp, rfl, R3.out⟩
                exact AllReady.nil
              exact AllReady.nil
            exact AllReady.nil
          exact AllReady.nil
        refine AllReady.cons (o := { dst := some 38, op := Op.load 82 (Operand.tmp 8), type := 82, pos := "plate.go:63", after := #[], guard := none }) rfl (fun K hK => ?_) ?_
        · refine step_turns rfl (exec_load_row 82 (.tmp 8) rfl w.heap.size rfl 82 (pageOf bs) (0, 0) _ HG.out Try.underlying82 rfl (by rw [HP.out.1]; exact size82)) ?_
          refine hK _ _ ?_
          clear hK K
          try simp only [Act.put, List.setIfInBounds_toArray, List.set_cons_zero, List.set_cons_succ]
          refine wpAny_take (i := 13) (oi := { dst := some 39, op := Op.build 84 #[(0, Operand.tmp 31), (1, Operand.tmp 37), (2, Operand.tmp 38)], type := 84, pos := "plate.go:63", after := #[{ on := 5, ground := Ground.data }, { on := 11, ground := Ground.data }, { on := 12, ground := Ground.data }], guard := none }) (v := (Value.agg (wr i (s.pg i) (pageOf bs)))) rfl (by kernel_rfl) (by kernel_rfl) (by kernel_rfl) (fun _ _ _ h => h) (Or.inl ⟨by rfl, fun _ => exec_build84 (x := .tmp 31) (y := .tmp 37) (z := .tmp 38) rfl rfl rfl rfl HQ.out.1 HP.out.1 _⟩) ?_
          try simp only [Act.put, List.setIfInBounds_toArray, List.set_cons_zero, List.set_cons_succ]
          refine wpAny_ready (rs := [4, 14]) (by kernel_rfl) (by simp) ?_
          refine AllReady.cons (o := { dst := some 30, op := Op.load 66 (Operand.tmp 29), type := 66, pos := "plate.go:63", after := #[{ on := 3, ground := Ground.data }], guard := none }) rfl (fun K hK => ?_) ?_
          · refine step_turns rfl (exec_load1 (t := 66) (x := .tmp 29) rfl (Try.isAgg66 _) rfl K2.out) ?_
            refine hK _ _ ?_
            clear hK K
            try simp only [Act.put, List.setIfInBounds_toArray, List.set_cons_zero, List.set_cons_succ]
            refine wpAny_ready (rs := [14]) (by kernel_rfl) (by simp) ?_
            refine AllReady.cons (o := { dst := some 40, op := Op.buildSlice 66 1 #[(0, Operand.tmp 39)], type := 66, pos := "plate.go:63", after := #[{ on := 13, ground := Ground.data }], guard := none }) rfl (fun K hK => ?_) ?_
            · refine step_turns rfl (exec_slice66 (x := .tmp 39) rfl rfl (wr_size HQ.out.1 HP.out.1) _) ?_
              refine hK _ _ ?_
              clear hK K
              try simp only [Act.put, List.setIfInBounds_toArray, List.set_cons_zero, List.set_cons_succ]
              refine wpAny_ready (rs := [15]) (by kernel_rfl) (by simp) ?_
              refine AllReady.cons (o := { dst := some 41, op := Op.call { callee := Callee.builtin Builtin.append, args := #[Operand.tmp 30, Operand.tmp 40], argTypes := #[66, 66] }, type := 66, pos := "plate.go:63", after := #[{ on := 4, ground := Ground.data }, { on := 14, ground := Ground.data }], guard := none }) rfl (fun K hK => ?_) ?_
              · refine step_append_lies _ rfl (.tmp 30) (.tmp 40) 66 rfl B 84 i0 _ 129 136 Try.underlying66 hi0 hz0 hz1 hz2 (by rfl) (by decide) v s.op.length (opCells s.op) rfl (HR.out.alloc _) ⟨w2.heap.size, 0, none⟩ 1 1 (wr i (s.pg i) (pageOf bs)).toList rfl (by rw [Array.length_toList, wr_size HQ.out.1 HP.out.1]) (news_at _ _ _) (wr_ones HQ.out HP.out) (by decide) (by have := HX.out.2.2; unfold maxLen; omega) (by have := HX.out.2.2; omega) HBL.out _ rfl ?_; intro g cp w3 hown3 hgrow3 hat3 hlt3; have R3 := Lib.hid (got_of H2.out (W := w2.drew.alloc (.cells (wr i (s.pg i) (pageOf bs)) 84)) (X := wr i (s.pg i) (pageOf bs)) (t := 84) rfl ⟨rfl, rfl, rfl⟩ hown3 hgrow3 hat3 hlt3); clear hown3 hgrow3 hat3 hlt3
                refine hK _ _ ?_
                clear hK K
                try simp only [Act.put, List.setIfInBounds_toArray, List.set_cons_zero, List.set_cons_succ]
                refine wpAny_take (i := 16) (oi := { dst := some 42, op := Op.nilCheck (Operand.tmp 26), type := 0, pos := "plate.go:63", after := #[{ on := 0, ground := Ground.data }, { on := 0, ground := Ground.phase }, { on := 1, ground := Ground.phase }, { on := 2, ground := Ground.phase }, { on := 3, ground := Ground.phase }, { on := 4, ground := Ground.phase }, { on := 5, ground := Ground.phase }, { on := 6, ground := Ground.phase }, { on := 7, ground := Ground.phase }, { on := 8, ground := Ground.phase }, { on := 9, ground := Ground.phase }, { on := 10, ground := Ground.phase }, { on := 11, ground := Ground.phase }, { on := 12, ground := Ground.phase }, { on := 13, ground := Ground.phase }, { on := 14, ground := Ground.phase }, { on := 15, ground := Ground.phase }], guard := none }) (v := (Value.pointer (some ⟨b, 0, none⟩))) rfl (by kernel_rfl) (by kernel_rfl) (by kernel_rfl) (fun _ _ _ h => h) (Or.inl ⟨by rfl, fun _ => exec_nil (x := .tmp 26) rfl rfl _⟩) ?_
                try simp only [Act.put, List.setIfInBounds_toArray, List.set_cons_zero, List.set_cons_succ]
                refine wpAny_take (i := 17) (oi := { dst := some 43, op := Op.fieldAddr 68 (Operand.tmp 42) 2, type := 0, pos := "plate.go:63", after := #[{ on := 16, ground := Ground.data }, { on := 0, ground := Ground.phase }, { on := 1, ground := Ground.phase }, { on := 2, ground := Ground.phase }, { on := 3, ground := Ground.phase }, { on := 4, ground := Ground.phase }, { on := 5, ground := Ground.phase }, { on := 6, ground := Ground.phase }, { on := 7, ground := Ground.phase }, { on := 8, ground := Ground.phase }, { on := 9, ground := Ground.phase }, { on := 10, ground := Ground.phase }, { on := 11, ground := Ground.phase }, { on := 12, ground := Ground.phase }, { on := 13, ground := Ground.phase }, { on := 14, ground := Ground.phase }, { on := 15, ground := Ground.phase }], guard := none }) (v := (Value.pointer (some ⟨b, 2, none⟩))) rfl (by kernel_rfl) (by kernel_rfl) (by kernel_rfl) (fun _ _ _ h => h) (Or.inl ⟨by rfl, fun _ => exec_field2 (x := .tmp 42) rfl rfl _⟩) ?_
                try simp only [Act.put, List.setIfInBounds_toArray, List.set_cons_zero, List.set_cons_succ]
                refine wpAny_ready (rs := [18]) (by kernel_rfl) (by simp) ?_
                refine AllReady.cons (o := { dst := none, op := Op.store 66 (Operand.tmp 43) (Operand.tmp 41), type := 0, pos := "plate.go:63", after := #[{ on := 17, ground := Ground.data }, { on := 15, ground := Ground.data }, { on := 15, ground := Ground.chain }, { on := 0, ground := Ground.phase }, { on := 1, ground := Ground.phase }, { on := 2, ground := Ground.phase }, { on := 3, ground := Ground.phase }, { on := 4, ground := Ground.phase }, { on := 5, ground := Ground.phase }, { on := 6, ground := Ground.phase }, { on := 7, ground := Ground.phase }, { on := 8, ground := Ground.phase }, { on := 9, ground := Ground.phase }, { on := 10, ground := Ground.phase }, { on := 11, ground := Ground.phase }, { on := 12, ground := Ground.phase }, { on := 13, ground := Ground.phase }, { on := 14, ground := Ground.phase }, { on := 15, ground := Ground.phase }], guard := none }) rfl (fun K hK => ?_) ?_
                · refine step_skips rfl (exec_store66 (x := .tmp 43) (y := .tmp 41) rfl rfl rfl R3.out.1 R3.out.2.1) ?_
                  refine hK _ _ ?_
                  clear hK K
                  try simp only [Act.put, List.setIfInBounds_toArray, List.set_cons_zero, List.set_cons_succ]
                  refine wpAny_done (by kernel_rfl) ?_ _
                  go_step; go_step; go_meet
                  exact ⟨w3, g, cp, rfl, R3.out⟩
                exact AllReady.nil
              exact AllReady.nil
            exact AllReady.nil
          refine AllReady.cons (o := { dst := some 40, op := Op.buildSlice 66 1 #[(0, Operand.tmp 39)], type := 66, pos := "plate.go:63", after := #[{ on := 13, ground := Ground.data }], guard := none }) rfl (fun K hK => ?_) ?_
          · refine step_turns rfl (exec_slice66 (x := .tmp 39) rfl rfl (wr_size HQ.out.1 HP.out.1) _) ?_
            refine hK _ _ ?_
            clear hK K
            try simp only [Act.put, List.setIfInBounds_toArray, List.set_cons_zero, List.set_cons_succ]
            refine wpAny_ready (rs := [4]) (by kernel_rfl) (by simp) ?_
            refine AllReady.cons (o := { dst := some 30, op := Op.load 66 (Operand.tmp 29), type := 66, pos := "plate.go:63", after := #[{ on := 3, ground := Ground.data }], guard := none }) rfl (fun K hK => ?_) ?_
            · refine step_turns rfl (exec_load1 (t := 66) (x := .tmp 29) rfl (Try.isAgg66 _) rfl K2a.out) ?_
              refine hK _ _ ?_
              clear hK K
              try simp only [Act.put, List.setIfInBounds_toArray, List.set_cons_zero, List.set_cons_succ]
              refine wpAny_ready (rs := [15]) (by kernel_rfl) (by simp) ?_
              refine AllReady.cons (o := { dst := some 41, op := Op.call { callee := Callee.builtin Builtin.append, args := #[Operand.tmp 30, Operand.tmp 40], argTypes := #[66, 66] }, type := 66, pos := "plate.go:63", after := #[{ on := 4, ground := Ground.data }, { on := 14, ground := Ground.data }], guard := none }) rfl (fun K hK => ?_) ?_
              · refine step_append_lies _ rfl (.tmp 30) (.tmp 40) 66 rfl B 84 i0 _ 129 136 Try.underlying66 hi0 hz0 hz1 hz2 (by rfl) (by decide) v s.op.length (opCells s.op) rfl (HR.out.alloc _) ⟨w2.heap.size, 0, none⟩ 1 1 (wr i (s.pg i) (pageOf bs)).toList rfl (by rw [Array.length_toList, wr_size HQ.out.1 HP.out.1]) (news_at _ _ _) (wr_ones HQ.out HP.out) (by decide) (by have := HX.out.2.2; unfold maxLen; omega) (by have := HX.out.2.2; omega) HBL.out _ rfl ?_; intro g cp w3 hown3 hgrow3 hat3 hlt3; have R3 := Lib.hid (got_of H2.out (W := w2.drew.alloc (.cells (wr i (s.pg i) (pageOf bs)) 84)) (X := wr i (s.pg i) (pageOf bs)) (t := 84) rfl ⟨rfl, rfl, rfl⟩ hown3 hgrow3 hat3 hlt3); clear hown3 hgrow3 hat3 hlt3
                refine hK _ _ ?_
                clear hK K
                try simp only [Act.put, List.setIfInBounds_toArray, List.set_cons_zero, List.set_cons_succ]
                refine wpAny_take (i := 16) (oi := { dst := some 42, op := Op.nilCheck (Operand.tmp 26), type := 0, pos := "plate.go:63", after := #[{ on := 0, ground := Ground.data }, { on := 0, ground := Ground.phase }, { on := 1, ground := Ground.phase }, { on := 2, ground := Ground.phase }, { on := 3, ground := Ground.phase }, { on := 4, ground := Ground.phase }, { on := 5, ground := Ground.phase }, { on := 6, ground := Ground.phase }, { on := 7, ground := Ground.phase }, { on := 8, ground := Ground.phase }, { on := 9, ground := Ground.phase }, { on := 10, ground := Ground.phase }, { on := 11, ground := Ground.phase }, { on := 12, ground := Ground.phase }, { on := 13, ground := Ground.phase }, { on := 14, ground := Ground.phase }, { on := 15, ground := Ground.phase }], guard := none }) (v := (Value.pointer (some ⟨b, 0, none⟩))) rfl (by kernel_rfl) (by kernel_rfl) (by kernel_rfl) (fun _ _ _ h => h) (Or.inl ⟨by rfl, fun _ => exec_nil (x := .tmp 26) rfl rfl _⟩) ?_
                try simp only [Act.put, List.setIfInBounds_toArray, List.set_cons_zero, List.set_cons_succ]
                refine wpAny_take (i := 17) (oi := { dst := some 43, op := Op.fieldAddr 68 (Operand.tmp 42) 2, type := 0, pos := "plate.go:63", after := #[{ on := 16, ground := Ground.data }, { on := 0, ground := Ground.phase }, { on := 1, ground := Ground.phase }, { on := 2, ground := Ground.phase }, { on := 3, ground := Ground.phase }, { on := 4, ground := Ground.phase }, { on := 5, ground := Ground.phase }, { on := 6, ground := Ground.phase }, { on := 7, ground := Ground.phase }, { on := 8, ground := Ground.phase }, { on := 9, ground := Ground.phase }, { on := 10, ground := Ground.phase }, { on := 11, ground := Ground.phase }, { on := 12, ground := Ground.phase }, { on := 13, ground := Ground.phase }, { on := 14, ground := Ground.phase }, { on := 15, ground := Ground.phase }], guard := none }) (v := (Value.pointer (some ⟨b, 2, none⟩))) rfl (by kernel_rfl) (by kernel_rfl) (by kernel_rfl) (fun _ _ _ h => h) (Or.inl ⟨by rfl, fun _ => exec_field2 (x := .tmp 42) rfl rfl _⟩) ?_
                try simp only [Act.put, List.setIfInBounds_toArray, List.set_cons_zero, List.set_cons_succ]
                refine wpAny_ready (rs := [18]) (by kernel_rfl) (by simp) ?_
                refine AllReady.cons (o := { dst := none, op := Op.store 66 (Operand.tmp 43) (Operand.tmp 41), type := 0, pos := "plate.go:63", after := #[{ on := 17, ground := Ground.data }, { on := 15, ground := Ground.data }, { on := 15, ground := Ground.chain }, { on := 0, ground := Ground.phase }, { on := 1, ground := Ground.phase }, { on := 2, ground := Ground.phase }, { on := 3, ground := Ground.phase }, { on := 4, ground := Ground.phase }, { on := 5, ground := Ground.phase }, { on := 6, ground := Ground.phase }, { on := 7, ground := Ground.phase }, { on := 8, ground := Ground.phase }, { on := 9, ground := Ground.phase }, { on := 10, ground := Ground.phase }, { on := 11, ground := Ground.phase }, { on := 12, ground := Ground.phase }, { on := 13, ground := Ground.phase }, { on := 14, ground := Ground.phase }, { on := 15, ground := Ground.phase }], guard := none }) rfl (fun K hK => ?_) ?_
                · refine step_skips rfl (exec_store66 (x := .tmp 43) (y := .tmp 41) rfl rfl rfl R3.out.1 R3.out.2.1) ?_
                  refine hK _ _ ?_
                  clear hK K
                  try simp only [Act.put, List.setIfInBounds_toArray, List.set_cons_zero, List.set_cons_succ]
                  refine wpAny_done (by kernel_rfl) ?_ _
                  go_step; go_step; go_meet
                  exact ⟨w3, g, cp, rfl, R3.out⟩
                exact AllReady.nil
              exact AllReady.nil
            exact AllReady.nil
          exact AllReady.nil
        exact AllReady.nil
      refine AllReady.cons (o := { dst := some 38, op := Op.load 82 (Operand.tmp 8), type := 82, pos := "plate.go:63", after := #[], guard := none }) rfl (fun K hK => ?_) ?_
      · refine step_turns rfl (exec_load_row 82 (.tmp 8) rfl w.heap.size rfl 82 (pageOf bs) (0, 0) _ HG.out Try.underlying82 rfl (by rw [HP.out.1]; exact size82)) ?_
        refine hK _ _ ?_
        clear hK K
        try simp only [Act.put, List.setIfInBounds_toArray, List.set_cons_zero, List.set_cons_succ]
        refine wpAny_ready (rs := [4, 11]) (by kernel_rfl) (by simp) ?_
        refine AllReady.cons (o := { dst := some 30, op := Op.load 66 (Operand.tmp 29), type := 66, pos := "plate.go:63", after := #[{ on := 3, ground := Ground.data }], guard := none }) rfl (fun K hK => ?_) ?_
        · refine step_turns rfl (exec_load1 (t := 66) (x := .tmp 29) rfl (Try.isAgg66 _) rfl K2.out) ?_
          refine hK _ _ ?_
          clear hK K
          try simp only [Act.put, List.setIfInBounds_toArray, List.set_cons_zero, List.set_cons_succ]
          refine wpAny_ready (rs := [11]) (by kernel_rfl) (by simp) ?_
          refine AllReady.cons (o := { dst := some 37, op := Op.lookup 65 (Operand.tmp 35) (Operand.tmp 36) false, type := 82, pos := "plate.go:63", after := #[{ on := 9, ground := Ground.data }, { on := 10, ground := Ground.data }], guard := none }) rfl (fun K hK => ?_) ?_
          · refine step_turns rfl (exec_look65 (x := .tmp 35) (y := .tmp 36) rfl rfl rfl HM.out HI.out) ?_
            refine hK _ _ ?_
            clear hK K
            try simp only [Act.put, List.setIfInBounds_toArray, List.set_cons_zero, List.set_cons_succ]
            refine wpAny_take (i := 13) (oi := { dst := some 39, op := Op.build 84 #[(0, Operand.tmp 31), (1, Operand.tmp 37), (2, Operand.tmp 38)], type := 84, pos := "plate.go:63", after := #[{ on := 5, ground := Ground.data }, { on := 11, ground := Ground.data }, { on := 12, ground := Ground.data }], guard := none }) (v := (Value.agg (wr i (s.pg i) (pageOf bs)))) rfl (by kernel_rfl) (by kernel_rfl) (by kernel_rfl) (fun _ _ _ h => h) (Or.inl ⟨by rfl, fun _ => exec_build84 (x := .tmp 31) (y := .tmp 37) (z := .tmp 38) rfl rfl rfl rfl HQ.out.1 HP.out.1 _⟩) ?_
            try simp only [Act.put, List.setIfInBounds_toArray, List.set_cons_zero, List.set_cons_succ]
            refine wpAny_ready (rs := [14]) (by kernel_rfl) (by simp) ?_
            refine AllReady.cons (o := { dst := some 40, op := Op.buildSlice 66 1 #[(0, Operand.tmp 39)], type := 66, pos := "plate.go:63", after := #[{ on := 13, ground := Ground.data }], guard := none }) rfl (fun K hK => ?_) ?_
            · refine step_turns rfl (exec_slice66 (x := .tmp 39) rfl rfl (wr_size HQ.out.1 HP.out.1) _) ?_
              refine hK _ _ ?_
              clear hK K
              try simp only [Act.put, List.setIfInBounds_toArray, List.set_cons_zero, List.set_cons_succ]
              refine wpAny_ready (rs := [15]) (by kernel_rfl) (by simp) ?_
              refine AllReady.cons (o := { dst := some 41, op := Op.call { callee := Callee.builtin Builtin.append, args := #[Operand.tmp 30, Operand.tmp 40], argTypes := #[66, 66] }, type := 66, pos := "plate.go:63", after := #[{ on := 4, ground := Ground.data }, { on := 14, ground := Ground.data }], guard := none }) rfl (fun K hK => ?_) ?_
              · refine step_append_lies _ rfl (.tmp 30) (.tmp 40) 66 rfl B 84 i0 _ 129 136 Try.underlying66 hi0 hz0 hz1 hz2 (by rfl) (by decide) v s.op.length (opCells s.op) rfl (HR.out.alloc _) ⟨w2.heap.size, 0, none⟩ 1 1 (wr i (s.pg i) (pageOf bs)).toList rfl (by rw [Array.length_toList, wr_size HQ.out.1 HP.out.1]) (news_at _ _ _) (wr_ones HQ.out HP.out) (by decide) (by have := HX.out.2.2; unfold maxLen; omega) (by have := HX.out.2.2; omega) HBL.out _ rfl ?_; intro g cp w3 hown3 hgrow3 hat3 hlt3; have R3 := Lib.hid (got_of H2.out (W := w2.drew.alloc (.cells (wr i (s.pg i) (pageOf bs)) 84)) (X := wr i (s.pg i) (pageOf bs)) (t := 84) rfl ⟨rfl, rfl, rfl⟩ hown3 hgrow3 hat3 hlt3); clear hown3 hgrow3 hat3 hlt3
                refine hK _ _ ?_
                clear hK K
                try simp only [Act.put, List.setIfInBounds_toArray, List.set_cons_zero, List.set_cons_succ]
                refine wpAny_take (i := 16) (oi := { dst := some 42, op := Op.nilCheck (Operand.tmp 26), type := 0, pos := "plate.go:63", after := #[{ on := 0, ground := Ground.data }, { on := 0, ground := Ground.phase }, { on := 1, ground := Ground.phase }, { on := 2, ground := Ground.phase }, { on := 3, ground := Ground.phase }, { on := 4, ground := Ground.phase }, { on := 5, ground := Ground.phase }, { on := 6, ground := Ground.phase }, { on := 7, ground := Ground.phase }, { on := 8, ground := Ground.phase }, { on := 9, ground := Ground.phase }, { on := 10, ground := Ground.phase }, { on := 11, ground := Ground.phase }, { on := 12, ground := Ground.phase }, { on := 13, ground := Ground.phase }, { on := 14, ground := Ground.phase }, { on := 15, ground := Ground.phase }], guard := none }) (v := (Value.pointer (some ⟨b, 0, none⟩))) rfl (by kernel_rfl) (by kernel_rfl) (by kernel_rfl) (fun _ _ _ h => h) (Or.inl ⟨by rfl, fun _ => exec_nil (x := .tmp 26) rfl rfl _⟩) ?_
                try simp only [Act.put, List.setIfInBounds_toArray, List.set_cons_zero, List.set_cons_succ]
                refine wpAny_take (i := 17) (oi := { dst := some 43, op := Op.fieldAddr 68 (Operand.tmp 42) 2, type := 0, pos := "plate.go:63", after := #[{ on := 16, ground := Ground.data }, { on := 0, ground := Ground.phase }, { on := 1, ground := Ground.phase }, { on := 2, ground := Ground.phase }, { on := 3, ground := Ground.phase }, { on := 4, ground := Ground.phase }, { on := 5, ground := Ground.phase }, { on := 6, ground := Ground.phase }, { on := 7, ground := Ground.phase }, { on := 8, ground := Ground.phase }, { on := 9, ground := Ground.phase }, { on := 10, ground := Ground.phase }, { on := 11, ground := Ground.phase }, { on := 12, ground := Ground.phase }, { on := 13, ground := Ground.phase }, { on := 14, ground := Ground.phase }, { on := 15, ground := Ground.phase }], guard := none }) (v := (Value.pointer (some ⟨b, 2, none⟩))) rfl (by kernel_rfl) (by kernel_rfl) (by kernel_rfl) (fun _ _ _ h => h) (Or.inl ⟨by rfl, fun _ => exec_field2 (x := .tmp 42) rfl rfl _⟩) ?_
                try simp only [Act.put, List.setIfInBounds_toArray, List.set_cons_zero, List.set_cons_succ]
                refine wpAny_ready (rs := [18]) (by kernel_rfl) (by simp) ?_
                refine AllReady.cons (o := { dst := none, op := Op.store 66 (Operand.tmp 43) (Operand.tmp 41), type := 0, pos := "plate.go:63", after := #[{ on := 17, ground := Ground.data }, { on := 15, ground := Ground.data }, { on := 15, ground := Ground.chain }, { on := 0, ground := Ground.phase }, { on := 1, ground := Ground.phase }, { on := 2, ground := Ground.phase }, { on := 3, ground := Ground.phase }, { on := 4, ground := Ground.phase }, { on := 5, ground := Ground.phase }, { on := 6, ground := Ground.phase }, { on := 7, ground := Ground.phase }, { on := 8, ground := Ground.phase }, { on := 9, ground := Ground.phase }, { on := 10, ground := Ground.phase }, { on := 11, ground := Ground.phase }, { on := 12, ground := Ground.phase }, { on := 13, ground := Ground.phase }, { on := 14, ground := Ground.phase }, { on := 15, ground := Ground.phase }], guard := none }) rfl (fun K hK => ?_) ?_
                · refine step_skips rfl (exec_store66 (x := .tmp 43) (y := .tmp 41) rfl rfl rfl R3.out.1 R3.out.2.1) ?_
                  refine hK _ _ ?_
                  clear hK K
                  try simp only [Act.put, List.setIfInBounds_toArray, List.set_cons_zero, List.set_cons_succ]
                  refine wpAny_done (by kernel_rfl) ?_ _
                  go_step; go_step; go_meet
                  exact ⟨w3, g, cp, rfl, R3.out⟩
                exact AllReady.nil
              exact AllReady.nil
            exact AllReady.nil
          exact AllReady.nil
        refine AllReady.cons (o := { dst := some 37, op := Op.lookup 65 (Operand.tmp 35) (Operand.tmp 36) false, type := 82, pos := "plate.go:63", after := #[{ on := 9, ground := Ground.data }, { on := 10, ground := Ground.data }], guard := none }) rfl (fun K hK => ?_) ?_
        · refine step_turns rfl (exec_look65 (x := .tmp 35) (y := .tmp 36) rfl rfl rfl HM.out HI.out) ?_
          refine hK _ _ ?_
          clear hK K
          try simp only [Act.put, List.setIfInBounds_toArray, List.set_cons_zero, List.set_cons_succ]
          refine wpAny_take (i := 13) (oi := { dst := some 39, op := Op.build 84 #[(0, Operand.tmp 31), (1, Operand.tmp 37), (2, Operand.tmp 38)], type := 84, pos := "plate.go:63", after := #[{ on := 5, ground := Ground.data }, { on := 11, ground := Ground.data }, { on := 12, ground := Ground.data }], guard := none }) (v := (Value.agg (wr i (s.pg i) (pageOf bs)))) rfl (by kernel_rfl) (by kernel_rfl) (by kernel_rfl) (fun _ _ _ h => h) (Or.inl ⟨by rfl, fun _ => exec_build84 (x := .tmp 31) (y := .tmp 37) (z := .tmp 38) rfl rfl rfl rfl HQ.out.1 HP.out.1 _⟩) ?_
          try simp only [Act.put, List.setIfInBounds_toArray, List.set_cons_zero, List.set_cons_succ]
          refine wpAny_ready (rs := [4, 14]) (by kernel_rfl) (by simp) ?_
          refine AllReady.cons (o := { dst := some 30, op := Op.load 66 (Operand.tmp 29), type := 66, pos := "plate.go:63", after := #[{ on := 3, ground := Ground.data }], guard := none }) rfl (fun K hK => ?_) ?_
          · refine step_turns rfl (exec_load1 (t := 66) (x := .tmp 29) rfl (Try.isAgg66 _) rfl K2.out) ?_
            refine hK _ _ ?_
            clear hK K
            try simp only [Act.put, List.setIfInBounds_toArray, List.set_cons_zero, List.set_cons_succ]
            refine wpAny_ready (rs := [14]) (by kernel_rfl) (by simp) ?_
            refine AllReady.cons (o := { dst := some 40, op := Op.buildSlice 66 1 #[(0, Operand.tmp 39)], type := 66, pos := "plate.go:63", after := #[{ on := 13, ground := Ground.data }], guard := none }) rfl (fun K hK => ?_) ?_
            · refine step_turns rfl (exec_slice66 (x := .tmp 39) rfl rfl (wr_size HQ.out.1 HP.out.1) _) ?_
              refine hK _ _ ?_
              clear hK K
              try simp only [Act.put, List.setIfInBounds_toArray, List.set_cons_zero, List.set_cons_succ]
              refine wpAny_ready (rs := [15]) (by kernel_rfl) (by simp) ?_
              refine AllReady.cons (o := { dst := some 41, op := Op.call { callee := Callee.builtin Builtin.append, args := #[Operand.tmp 30, Operand.tmp 40], argTypes := #[66, 66] }, type := 66, pos := "plate.go:63", after := #[{ on := 4, ground := Ground.data }, { on := 14, ground := Ground.data }], guard := none }) rfl (fun K hK => ?_) ?_
              · refine step_append_lies _ rfl (.tmp 30) (.tmp 40) 66 rfl B 84 i0 _ 129 136 Try.underlying66 hi0 hz0 hz1 hz2 (by rfl) (by decide) v s.op.length (opCells s.op) rfl (HR.out.alloc _) ⟨w2.heap.size, 0, none⟩ 1 1 (wr i (s.pg i) (pageOf bs)).toList rfl (by rw [Array.length_toList, wr_size HQ.out.1 HP.out.1]) (news_at _ _ _) (wr_ones HQ.out HP.out) (by decide) (by have := HX.out.2.2; unfold maxLen; omega) (by have := HX.out.2.2; omega) HBL.out _ rfl ?_; intro g cp w3 hown3 hgrow3 hat3 hlt3; have R3 := Lib.hid (got_of H2.out (W := w2.drew.alloc (.cells (wr i (s.pg i) (pageOf bs)) 84)) (X := wr i (s.pg i) (pageOf bs)) (t := 84) rfl ⟨rfl, rfl, rfl⟩ hown3 hgrow3 hat3 hlt3); clear hown3 hgrow3 hat3 hlt3
                refine hK _ _ ?_
                clear hK K
                try simp only [Act.put, List.setIfInBounds_toArray, List.set_cons_zero, List.set_cons_succ]
                refine wpAny_take (i := 16) (oi := { dst := some 42, op := Op.nilCheck (Operand.tmp 26), type := 0, pos := "plate.go:63", after := #[{ on := 0, ground := Ground.data }, { on := 0, ground := Ground.phase }, { on := 1, ground := Ground.phase }, { on := 2, ground := Ground.phase }, { on := 3, ground := Ground.phase }, { on := 4, ground := Ground.phase }, { on := 5, ground := Ground.phase }, { on := 6, ground := Ground.phase }, { on := 7, ground := Ground.phase }, { on := 8, ground := Ground.phase }, { on := 9, ground := Ground.phase }, { on := 10, ground := Ground.phase }, { on := 11, ground := Ground.phase }, { on := 12, ground := Ground.phase }, { on := 13, ground := Ground.phase }, { on := 14, ground := Ground.phase }, { on := 15, ground := Ground.phase }], guard := none }) (v := (Value.pointer (some ⟨b, 0, none⟩))) rfl (by kernel_rfl) (by kernel_rfl) (by kernel_rfl) (fun _ _ _ h => h) (Or.inl ⟨by rfl, fun _ => exec_nil (x := .tmp 26) rfl rfl _⟩) ?_
                try simp only [Act.put, List.setIfInBounds_toArray, List.set_cons_zero, List.set_cons_succ]
                refine wpAny_take (i := 17) (oi := { dst := some 43, op := Op.fieldAddr 68 (Operand.tmp 42) 2, type := 0, pos := "plate.go:63", after := #[{ on := 16, ground := Ground.data }, { on := 0, ground := Ground.phase }, { on := 1, ground := Ground.phase }, { on := 2, ground := Ground.phase }, { on := 3, ground := Ground.phase }, { on := 4, ground := Ground.phase }, { on := 5, ground := Ground.phase }, { on := 6, ground := Ground.phase }, { on := 7, ground := Ground.phase }, { on := 8, ground := Ground.phase }, { on := 9, ground := Ground.phase }, { on := 10, ground := Ground.phase }, { on := 11, ground := Ground.phase }, { on := 12, ground := Ground.phase }, { on := 13, ground := Ground.phase }, { on := 14, ground := Ground.phase }, { on := 15, ground := Ground.phase }], guard := none }) (v := (Value.pointer (some ⟨b, 2, none⟩))) rfl (by kernel_rfl) (by kernel_rfl) (by kernel_rfl) (fun _ _ _ h => h) (Or.inl ⟨by rfl, fun _ => exec_field2 (x := .tmp 42) rfl rfl _⟩) ?_
                try simp only [Act.put, List.setIfInBounds_toArray, List.set_cons_zero, List.set_cons_succ]
                refine wpAny_ready (rs := [18]) (by kernel_rfl) (by simp) ?_
                refine AllReady.cons (o := { dst := none, op := Op.store 66 (Operand.tmp 43) (Operand.tmp 41), type := 0, pos := "plate.go:63", after := #[{ on := 17, ground := Ground.data }, { on := 15, ground := Ground.data }, { on := 15, ground := Ground.chain }, { on := 0, ground := Ground.phase }, { on := 1, ground := Ground.phase }, { on := 2, ground := Ground.phase }, { on := 3, ground := Ground.phase }, { on := 4, ground := Ground.phase }, { on := 5, ground := Ground.phase }, { on := 6, ground := Ground.phase }, { on := 7, ground := Ground.phase }, { on := 8, ground := Ground.phase }, { on := 9, ground := Ground.phase }, { on := 10, ground := Ground.phase }, { on := 11, ground := Ground.phase }, { on := 12, ground := Ground.phase }, { on := 13, ground := Ground.phase }, { on := 14, ground := Ground.phase }, { on := 15, ground := Ground.phase }], guard := none }) rfl (fun K hK => ?_) ?_
                · refine step_skips rfl (exec_store66 (x := .tmp 43) (y := .tmp 41) rfl rfl rfl R3.out.1 R3.out.2.1) ?_
                  refine hK _ _ ?_
                  clear hK K
                  try simp only [Act.put, List.setIfInBounds_toArray, List.set_cons_zero, List.set_cons_succ]
                  refine wpAny_done (by kernel_rfl) ?_ _
                  go_step; go_step; go_meet
                  exact ⟨w3, g, cp, rfl, R3.out⟩
                exact AllReady.nil
              exact AllReady.nil
            exact AllReady.nil
          refine AllReady.cons (o := { dst := some 40, op := Op.buildSlice 66 1 #[(0, Operand.tmp 39)], type := 66, pos := "plate.go:63", after := #[{ on := 13, ground := Ground.data }], guard := none }) rfl (fun K hK => ?_) ?_
          · refine step_turns rfl (exec_slice66 (x := .tmp 39) rfl rfl (wr_size HQ.out.1 HP.out.1) _) ?_
            refine hK _ _ ?_
            clear hK K
            try simp only [Act.put, List.setIfInBounds_toArray, List.set_cons_zero, List.set_cons_succ]
            refine wpAny_ready (rs := [4]) (by kernel_rfl) (by simp) ?_
            refine AllReady.cons (o := { dst := some 30, op := Op.load 66 (Operand.tmp 29), type := 66, pos := "plate.go:63", after := #[{ on := 3, ground := Ground.data }], guard := none }) rfl (fun K hK => ?_) ?_
            · refine step_turns rfl (exec_load1 (t := 66) (x := .tmp 29) rfl (Try.isAgg66 _) rfl K2a.out) ?_
              refine hK _ _ ?_
              clear hK K
              try simp only [Act.put, List.setIfInBounds_toArray, List.set_cons_zero, List.set_cons_succ]
              refine wpAny_ready (rs := [15]) (by kernel_rfl) (by simp) ?_
              refine AllReady.cons (o := { dst := some 41, op := Op.call { callee := Callee.builtin Builtin.append, args := #[Operand.tmp 30, Operand.tmp 40], argTypes := #[66, 66] }, type := 66, pos := "plate.go:63", after := #[{ on := 4, ground := Ground.data }, { on := 14, ground := Ground.data }], guard := none }) rfl (fun K hK => ?_) ?_
              · refine step_append_lies _ rfl (.tmp 30) (.tmp 40) 66 rfl B 84 i0 _ 129 136 Try.underlying66 hi0 hz0 hz1 hz2 (by rfl) (by decide) v s.op.length (opCells s.op) rfl (HR.out.alloc _) ⟨w2.heap.size, 0, none⟩ 1 1 (wr i (s.pg i) (pageOf bs)).toList rfl (by rw [Array.length_toList, wr_size HQ.out.1 HP.out.1]) (news_at _ _ _) (wr_ones HQ.out HP.out) (by decide) (by have := HX.out.2.2; unfold maxLen; omega) (by have := HX.out.2.2; omega) HBL.out _ rfl ?_; intro g cp w3 hown3 hgrow3 hat3 hlt3; have R3 := Lib.hid (got_of H2.out (W := w2.drew.alloc (.cells (wr i (s.pg i) (pageOf bs)) 84)) (X := wr i (s.pg i) (pageOf bs)) (t := 84) rfl ⟨rfl, rfl, rfl⟩ hown3 hgrow3 hat3 hlt3); clear hown3 hgrow3 hat3 hlt3
                refine hK _ _ ?_
                clear hK K
                try simp only [Act.put, List.setIfInBounds_toArray, List.set_cons_zero, List.set_cons_succ]
                refine wpAny_take (i := 16) (oi := { dst := some 42, op := Op.nilCheck (Operand.tmp 26), type := 0, pos := "plate.go:63", after := #[{ on := 0, ground := Ground.data }, { on := 0, ground := Ground.phase }, { on := 1, ground := Ground.phase }, { on := 2, ground := Ground.phase }, { on := 3, ground := Ground.phase }, { on := 4, ground := Ground.phase }, { on := 5, ground := Ground.phase }, { on := 6, ground := Ground.phase }, { on := 7, ground := Ground.phase }, { on := 8, ground := Ground.phase }, { on := 9, ground := Ground.phase }, { on := 10, ground := Ground.phase }, { on := 11, ground := Ground.phase }, { on := 12, ground := Ground.phase }, { on := 13, ground := Ground.phase }, { on := 14, ground := Ground.phase }, { on := 15, ground := Ground.phase }], guard := none }) (v := (Value.pointer (some ⟨b, 0, none⟩))) rfl (by kernel_rfl) (by kernel_rfl) (by kernel_rfl) (fun _ _ _ h => h) (Or.inl ⟨by rfl, fun _ => exec_nil (x := .tmp 26) rfl rfl _⟩) ?_
                try simp only [Act.put, List.setIfInBounds_toArray, List.set_cons_zero, List.set_cons_succ]
                refine wpAny_take (i := 17) (oi := { dst := some 43, op := Op.fieldAddr 68 (Operand.tmp 42) 2, type := 0, pos := "plate.go:63", after := #[{ on := 16, ground := Ground.data }, { on := 0, ground := Ground.phase }, { on := 1, ground := Ground.phase }, { on := 2, ground := Ground.phase }, { on := 3, ground := Ground.phase }, { on := 4, ground := Ground.phase }, { on := 5, ground := Ground.phase }, { on := 6, ground := Ground.phase }, { on := 7, ground := Ground.phase }, { on := 8, ground := Ground.phase }, { on := 9, ground := Ground.phase }, { on := 10, ground := Ground.phase }, { on := 11, ground := Ground.phase }, { on := 12, ground := Ground.phase }, { on := 13, ground := Ground.phase }, { on := 14, ground := Ground.phase }, { on := 15, ground := Ground.phase }], guard := none }) (v := (Value.pointer (some ⟨b, 2, none⟩))) rfl (by kernel_rfl) (by kernel_rfl) (by kernel_rfl) (fun _ _ _ h => h) (Or.inl ⟨by rfl, fun _ => exec_field2 (x := .tmp 42) rfl rfl _⟩) ?_
                try simp only [Act.put, List.setIfInBounds_toArray, List.set_cons_zero, List.set_cons_succ]
                refine wpAny_ready (rs := [18]) (by kernel_rfl) (by simp) ?_
                refine AllReady.cons (o := { dst := none, op := Op.store 66 (Operand.tmp 43) (Operand.tmp 41), type := 0, pos := "plate.go:63", after := #[{ on := 17, ground := Ground.data }, { on := 15, ground := Ground.data }, { on := 15, ground := Ground.chain }, { on := 0, ground := Ground.phase }, { on := 1, ground := Ground.phase }, { on := 2, ground := Ground.phase }, { on := 3, ground := Ground.phase }, { on := 4, ground := Ground.phase }, { on := 5, ground := Ground.phase }, { on := 6, ground := Ground.phase }, { on := 7, ground := Ground.phase }, { on := 8, ground := Ground.phase }, { on := 9, ground := Ground.phase }, { on := 10, ground := Ground.phase }, { on := 11, ground := Ground.phase }, { on := 12, ground := Ground.phase }, { on := 13, ground := Ground.phase }, { on := 14, ground := Ground.phase }, { on := 15, ground := Ground.phase }], guard := none }) rfl (fun K hK => ?_) ?_
                · refine step_skips rfl (exec_store66 (x := .tmp 43) (y := .tmp 41) rfl rfl rfl R3.out.1 R3.out.2.1) ?_
                  refine hK _ _ ?_
                  clear hK K
                  try simp only [Act.put, List.setIfInBounds_toArray, List.set_cons_zero, List.set_cons_succ]
                  refine wpAny_done (by kernel_rfl) ?_ _
                  go_step; go_step; go_meet
                  exact ⟨w3, g, cp, rfl, R3.out⟩
                exact AllReady.nil
              exact AllReady.nil
            exact AllReady.nil
          exact AllReady.nil
        exact AllReady.nil
      exact AllReady.nil
    refine AllReady.cons (o := { dst := some 38, op := Op.load 82 (Operand.tmp 8), type := 82, pos := "plate.go:63", after := #[], guard := none }) rfl (fun K hK => ?_) ?_
    · refine step_turns rfl (exec_load_row 82 (.tmp 8) rfl w.heap.size rfl 82 (pageOf bs) (0, 0) _ HG.out Try.underlying82 rfl (by rw [HP.out.1]; exact size82)) ?_
      refine hK _ _ ?_
      clear hK K
      try simp only [Act.put, List.setIfInBounds_toArray, List.set_cons_zero, List.set_cons_succ]
      refine wpAny_ready (rs := [4, 9]) (by kernel_rfl) (by simp) ?_
      refine AllReady.cons (o := { dst := some 30, op := Op.load 66 (Operand.tmp 29), type := 66, pos := "plate.go:63", after := #[{ on := 3, ground := Ground.data }], guard := none }) rfl (fun K hK => ?_) ?_
      · refine step_turns rfl (exec_load1 (t := 66) (x := .tmp 29) rfl (Try.isAgg66 _) rfl K2.out) ?_
        refine hK _ _ ?_
        clear hK K
        try simp only [Act.put, List.setIfInBounds_toArray, List.set_cons_zero, List.set_cons_succ]
        refine wpAny_ready (rs := [9]) (by kernel_rfl) (by simp) ?_
        refine AllReady.cons (o := { dst := some 35, op := Op.load 65 (Operand.tmp 34), type := 65, pos := "plate.go:63", after := #[{ on := 8, ground := Ground.data }], guard := none }) rfl (fun K hK => ?_) ?_
        · refine step_turns rfl (exec_load1 (t := 65) (x := .tmp 34) rfl (Try.isAgg65 _) rfl K1.out) ?_
          refine hK _ _ ?_
          clear hK K
          try simp only [Act.put, List.setIfInBounds_toArray, List.set_cons_zero, List.set_cons_succ]
          refine wpAny_ready (rs := [11]) (by kernel_rfl) (by simp) ?_
          refine AllReady.cons (o := { dst := some 37, op := Op.lookup 65 (Operand.tmp 35) (Operand.tmp 36) false, type := 82, pos := "plate.go:63", after := #[{ on := 9, ground := Ground.data }, { on := 10, ground := Ground.data }], guard := none }) rfl (fun K hK => ?_) ?_
          · refine step_turns rfl (exec_look65 (x := .tmp 35) (y := .tmp 36) rfl rfl rfl HM.out HI.out) ?_
            refine hK _ _ ?_
            clear hK K
            try simp only [Act.put, List.setIfInBounds_toArray, List.set_cons_zero, List.set_cons_succ]
            refine wpAny_take (i := 13) (oi := { dst := some 39, op := Op.build 84 #[(0, Operand.tmp 31), (1, Operand.tmp 37), (2, Operand.tmp 38)], type := 84, pos := "plate.go:63", after := #[{ on := 5, ground := Ground.data }, { on := 11, ground := Ground.data }, { on := 12, ground := Ground.data }], guard := none }) (v := (Value.agg (wr i (s.pg i) (pageOf bs)))) rfl (by kernel_rfl) (by kernel_rfl) (by kernel_rfl) (fun _ _ _ h => h) (Or.inl ⟨by rfl, fun _ => exec_build84 (x := .tmp 31) (y := .tmp 37) (z := .tmp 38) rfl rfl rfl rfl HQ.out.1 HP.out.1 _⟩) ?_
            try simp only [Act.put, List.setIfInBounds_toArray, List.set_cons_zero, List.set_cons_succ]
            refine wpAny_ready (rs := [14]) (by kernel_rfl) (by simp) ?_
            refine AllReady.cons (o := { dst := some 40, op := Op.buildSlice 66 1 #[(0, Operand.tmp 39)], type := 66, pos := "plate.go:63", after := #[{ on := 13, ground := Ground.data }], guard := none }) rfl (fun K hK => ?_) ?_
            · refine step_turns rfl (exec_slice66 (x := .tmp 39) rfl rfl (wr_size HQ.out.1 HP.out.1) _) ?_
              refine hK _ _ ?_
              clear hK K
              try simp only [Act.put, List.setIfInBounds_toArray, List.set_cons_zero, List.set_cons_succ]
              refine wpAny_ready (rs := [15]) (by kernel_rfl) (by simp) ?_
              refine AllReady.cons (o := { dst := some 41, op := Op.call { callee := Callee.builtin Builtin.append, args := #[Operand.tmp 30, Operand.tmp 40], argTypes := #[66, 66] }, type := 66, pos := "plate.go:63", after := #[{ on := 4, ground := Ground.data }, { on := 14, ground := Ground.data }], guard := none }) rfl (fun K hK => ?_) ?_
              · refine step_append_lies _ rfl (.tmp 30) (.tmp 40) 66 rfl B 84 i0 _ 129 136 Try.underlying66 hi0 hz0 hz1 hz2 (by rfl) (by decide) v s.op.length (opCells s.op) rfl (HR.out.alloc _) ⟨w2.heap.size, 0, none⟩ 1 1 (wr i (s.pg i) (pageOf bs)).toList rfl (by rw [Array.length_toList, wr_size HQ.out.1 HP.out.1]) (news_at _ _ _) (wr_ones HQ.out HP.out) (by decide) (by have := HX.out.2.2; unfold maxLen; omega) (by have := HX.out.2.2; omega) HBL.out _ rfl ?_; intro g cp w3 hown3 hgrow3 hat3 hlt3; have R3 := Lib.hid (got_of H2.out (W := w2.drew.alloc (.cells (wr i (s.pg i) (pageOf bs)) 84)) (X := wr i (s.pg i) (pageOf bs)) (t := 84) rfl ⟨rfl, rfl, rfl⟩ hown3 hgrow3 hat3 hlt3); clear hown3 hgrow3 hat3 hlt3
                refine hK _ _ ?_
                clear hK K
                try simp only [Act.put, List.setIfInBounds_toArray, List.set_cons_zero, List.set_cons_succ]
                refine wpAny_take (i := 16) (oi := { dst := some 42, op := Op.nilCheck (Operand.tmp 26), type := 0, pos := "plate.go:63", after := #[{ on := 0, ground := Ground.data }, { on := 0, ground := Ground.phase }, { on := 1, ground := Ground.phase }, { on := 2, ground := Ground.phase }, { on := 3, ground := Ground.phase }, { on := 4, ground := Ground.phase }, { on := 5, ground := Ground.phase }, { on := 6, ground := Ground.phase }, { on := 7, ground := Ground.phase }, { on := 8, ground := Ground.phase }, { on := 9, ground := Ground.phase }, { on := 10, ground := Ground.phase }, { on := 11, ground := Ground.phase }, { on := 12, ground := Ground.phase }, { on := 13, ground := Ground.phase }, { on := 14, ground := Ground.phase }, { on := 15, ground := Ground.phase }], guard := none }) (v := (Value.pointer (some ⟨b, 0, none⟩))) rfl (by kernel_rfl) (by kernel_rfl) (by kernel_rfl) (fun _ _ _ h => h) (Or.inl ⟨by rfl, fun _ => exec_nil (x := .tmp 26) rfl rfl _⟩) ?_
                try simp only [Act.put, List.setIfInBounds_toArray, List.set_cons_zero, List.set_cons_succ]
                refine wpAny_take (i := 17) (oi := { dst := some 43, op := Op.fieldAddr 68 (Operand.tmp 42) 2, type := 0, pos := "plate.go:63", after := #[{ on := 16, ground := Ground.data }, { on := 0, ground := Ground.phase }, { on := 1, ground := Ground.phase }, { on := 2, ground := Ground.phase }, { on := 3, ground := Ground.phase }, { on := 4, ground := Ground.phase }, { on := 5, ground := Ground.phase }, { on := 6, ground := Ground.phase }, { on := 7, ground := Ground.phase }, { on := 8, ground := Ground.phase }, { on := 9, ground := Ground.phase }, { on := 10, ground := Ground.phase }, { on := 11, ground := Ground.phase }, { on := 12, ground := Ground.phase }, { on := 13, ground := Ground.phase }, { on := 14, ground := Ground.phase }, { on := 15, ground := Ground.phase }], guard := none }) (v := (Value.pointer (some ⟨b, 2, none⟩))) rfl (by kernel_rfl) (by kernel_rfl) (by kernel_rfl) (fun _ _ _ h => h) (Or.inl ⟨by rfl, fun _ => exec_field2 (x := .tmp 42) rfl rfl _⟩) ?_
                try simp only [Act.put, List.setIfInBounds_toArray, List.set_cons_zero, List.set_cons_succ]
                refine wpAny_ready (rs := [18]) (by kernel_rfl) (by simp) ?_
                refine AllReady.cons (o := { dst := none, op := Op.store 66 (Operand.tmp 43) (Operand.tmp 41), type := 0, pos := "plate.go:63", after := #[{ on := 17, ground := Ground.data }, { on := 15, ground := Ground.data }, { on := 15, ground := Ground.chain }, { on := 0, ground := Ground.phase }, { on := 1, ground := Ground.phase }, { on := 2, ground := Ground.phase }, { on := 3, ground := Ground.phase }, { on := 4, ground := Ground.phase }, { on := 5, ground := Ground.phase }, { on := 6, ground := Ground.phase }, { on := 7, ground := Ground.phase }, { on := 8, ground := Ground.phase }, { on := 9, ground := Ground.phase }, { on := 10, ground := Ground.phase }, { on := 11, ground := Ground.phase }, { on := 12, ground := Ground.phase }, { on := 13, ground := Ground.phase }, { on := 14, ground := Ground.phase }, { on := 15, ground := Ground.phase }], guard := none }) rfl (fun K hK => ?_) ?_
                · refine step_skips rfl (exec_store66 (x := .tmp 43) (y := .tmp 41) rfl rfl rfl R3.out.1 R3.out.2.1) ?_
                  refine hK _ _ ?_
                  clear hK K
                  try simp only [Act.put, List.setIfInBounds_toArray, List.set_cons_zero, List.set_cons_succ]
                  refine wpAny_done (by kernel_rfl) ?_ _
                  go_step; go_step; go_meet
                  exact ⟨w3, g, cp, rfl, R3.out⟩
                exact AllReady.nil
              exact AllReady.nil
            exact AllReady.nil
          exact AllReady.nil
        exact AllReady.nil
      refine AllReady.cons (o := { dst := some 35, op := Op.load 65 (Operand.tmp 34), type := 65, pos := "plate.go:63", after := #[{ on := 8, ground := Ground.data }], guard := none }) rfl (fun K hK => ?_) ?_
      · refine step_turns rfl (exec_load1 (t := 65) (x := .tmp 34) rfl (Try.isAgg65 _) rfl K1.out) ?_
        refine hK _ _ ?_
        clear hK K
        try simp only [Act.put, List.setIfInBounds_toArray, List.set_cons_zero, List.set_cons_succ]
        refine wpAny_ready (rs := [4, 11]) (by kernel_rfl) (by simp) ?_
        refine AllReady.cons (o := { dst := some 30, op := Op.load 66 (Operand.tmp 29), type := 66, pos := "plate.go:63", after := #[{ on := 3, ground := Ground.data }], guard := none }) rfl (fun K hK => ?_) ?_
        · refine step_turns rfl (exec_load1 (t := 66) (x := .tmp 29) rfl (Try.isAgg66 _) rfl K2.out) ?_
          refine hK _ _ ?_
          clear hK K
          try simp only [Act.put, List.setIfInBounds_toArray, List.set_cons_zero, List.set_cons_succ]
          refine wpAny_ready (rs := [11]) (by kernel_rfl) (by simp) ?_
          refine AllReady.cons (o := { dst := some 37, op := Op.lookup 65 (Operand.tmp 35) (Operand.tmp 36) false, type := 82, pos := "plate.go:63", after := #[{ on := 9, ground := Ground.data }, { on := 10, ground := Ground.data }], guard := none }) rfl (fun K hK => ?_) ?_
          · refine step_turns rfl (exec_look65 (x := .tmp 35) (y := .tmp 36) rfl rfl rfl HM.out HI.out) ?_
            refine hK _ _ ?_
            clear hK K
            try simp only [Act.put, List.setIfInBounds_toArray, List.set_cons_zero, List.set_cons_succ]
            refine wpAny_take (i := 13) (oi := { dst := some 39, op := Op.build 84 #[(0, Operand.tmp 31), (1, Operand.tmp 37), (2, Operand.tmp 38)], type := 84, pos := "plate.go:63", after := #[{ on := 5, ground := Ground.data }, { on := 11, ground := Ground.data }, { on := 12, ground := Ground.data }], guard := none }) (v := (Value.agg (wr i (s.pg i) (pageOf bs)))) rfl (by kernel_rfl) (by kernel_rfl) (by kernel_rfl) (fun _ _ _ h => h) (Or.inl ⟨by rfl, fun _ => exec_build84 (x := .tmp 31) (y := .tmp 37) (z := .tmp 38) rfl rfl rfl rfl HQ.out.1 HP.out.1 _⟩) ?_
            try simp only [Act.put, List.setIfInBounds_toArray, List.set_cons_zero, List.set_cons_succ]
            refine wpAny_ready (rs := [14]) (by kernel_rfl) (by simp) ?_
            refine AllReady.cons (o := { dst := some 40, op := Op.buildSlice 66 1 #[(0, Operand.tmp 39)], type := 66, pos := "plate.go:63", after := #[{ on := 13, ground := Ground.data }], guard := none }) rfl (fun K hK => ?_) ?_
            · refine step_turns rfl (exec_slice66 (x := .tmp 39) rfl rfl (wr_size HQ.out.1 HP.out.1) _) ?_
              refine hK _ _ ?_
              clear hK K
              try simp only [Act.put, List.setIfInBounds_toArray, List.set_cons_zero, List.set_cons_succ]
              refine wpAny_ready (rs := [15]) (by kernel_rfl) (by simp) ?_
              refine AllReady.cons (o := { dst := some 41, op := Op.call { callee := Callee.builtin Builtin.append, args := #[Operand.tmp 30, Operand.tmp 40], argTypes := #[66, 66] }, type := 66, pos := "plate.go:63", after := #[{ on := 4, ground := Ground.data }, { on := 14, ground := Ground.data }], guard := none }) rfl (fun K hK => ?_) ?_
              · refine step_append_lies _ rfl (.tmp 30) (.tmp 40) 66 rfl B 84 i0 _ 129 136 Try.underlying66 hi0 hz0 hz1 hz2 (by rfl) (by decide) v s.op.length (opCells s.op) rfl (HR.out.alloc _) ⟨w2.heap.size, 0, none⟩ 1 1 (wr i (s.pg i) (pageOf bs)).toList rfl (by rw [Array.length_toList, wr_size HQ.out.1 HP.out.1]) (news_at _ _ _) (wr_ones HQ.out HP.out) (by decide) (by have := HX.out.2.2; unfold maxLen; omega) (by have := HX.out.2.2; omega) HBL.out _ rfl ?_; intro g cp w3 hown3 hgrow3 hat3 hlt3; have R3 := Lib.hid (got_of H2.out (W := w2.drew.alloc (.cells (wr i (s.pg i) (pageOf bs)) 84)) (X := wr i (s.pg i) (pageOf bs)) (t := 84) rfl ⟨rfl, rfl, rfl⟩ hown3 hgrow3 hat3 hlt3); clear hown3 hgrow3 hat3 hlt3
                refine hK _ _ ?_
                clear hK K
                try simp only [Act.put, List.setIfInBounds_toArray, List.set_cons_zero, List.set_cons_succ]
                refine wpAny_take (i := 16) (oi := { dst := some 42, op := Op.nilCheck (Operand.tmp 26), type := 0, pos := "plate.go:63", after := #[{ on := 0, ground := Ground.data }, { on := 0, ground := Ground.phase }, { on := 1, ground := Ground.phase }, { on := 2, ground := Ground.phase }, { on := 3, ground := Ground.phase }, { on := 4, ground := Ground.phase }, { on := 5, ground := Ground.phase }, { on := 6, ground := Ground.phase }, { on := 7, ground := Ground.phase }, { on := 8, ground := Ground.phase }, { on := 9, ground := Ground.phase }, { on := 10, ground := Ground.phase }, { on := 11, ground := Ground.phase }, { on := 12, ground := Ground.phase }, { on := 13, ground := Ground.phase }, { on := 14, ground := Ground.phase }, { on := 15, ground := Ground.phase }], guard := none }) (v := (Value.pointer (some ⟨b, 0, none⟩))) rfl (by kernel_rfl) (by kernel_rfl) (by kernel_rfl) (fun _ _ _ h => h) (Or.inl ⟨by rfl, fun _ => exec_nil (x := .tmp 26) rfl rfl _⟩) ?_
                try simp only [Act.put, List.setIfInBounds_toArray, List.set_cons_zero, List.set_cons_succ]
                refine wpAny_take (i := 17) (oi := { dst := some 43, op := Op.fieldAddr 68 (Operand.tmp 42) 2, type := 0, pos := "plate.go:63", after := #[{ on := 16, ground := Ground.data }, { on := 0, ground := Ground.phase }, { on := 1, ground := Ground.phase }, { on := 2, ground := Ground.phase }, { on := 3, ground := Ground.phase }, { on := 4, ground := Ground.phase }, { on := 5, ground := Ground.phase }, { on := 6, ground := Ground.phase }, { on := 7, ground := Ground.phase }, { on := 8, ground := Ground.phase }, { on := 9, ground := Ground.phase }, { on := 10, ground := Ground.phase }, { on := 11, ground := Ground.phase }, { on := 12, ground := Ground.phase }, { on := 13, ground := Ground.phase }, { on := 14, ground := Ground.phase }, { on := 15, ground := Ground.phase }], guard := none }) (v := (Value.pointer (some ⟨b, 2, none⟩))) rfl (by kernel_rfl) (by kernel_rfl) (by kernel_rfl) (fun _ _ _ h => h) (Or.inl ⟨by rfl, fun _ => exec_field2 (x := .tmp 42) rfl rfl _⟩) ?_
                try simp only [Act.put, List.setIfInBounds_toArray, List.set_cons_zero, List.set_cons_succ]
                refine wpAny_ready (rs := [18]) (by kernel_rfl) (by simp) ?_
                refine AllReady.cons (o := { dst := none, op := Op.store 66 (Operand.tmp 43) (Operand.tmp 41), type := 0, pos := "plate.go:63", after := #[{ on := 17, ground := Ground.data }, { on := 15, ground := Ground.data }, { on := 15, ground := Ground.chain }, { on := 0, ground := Ground.phase }, { on := 1, ground := Ground.phase }, { on := 2, ground := Ground.phase }, { on := 3, ground := Ground.phase }, { on := 4, ground := Ground.phase }, { on := 5, ground := Ground.phase }, { on := 6, ground := Ground.phase }, { on := 7, ground := Ground.phase }, { on := 8, ground := Ground.phase }, { on := 9, ground := Ground.phase }, { on := 10, ground := Ground.phase }, { on := 11, ground := Ground.phase }, { on := 12, ground := Ground.phase }, { on := 13, ground := Ground.phase }, { on := 14, ground := Ground.phase }, { on := 15, ground := Ground.phase }], guard := none }) rfl (fun K hK => ?_) ?_
                · refine step_skips rfl (exec_store66 (x := .tmp 43) (y := .tmp 41) rfl rfl rfl R3.out.1 R3.out.2.1) ?_
                  refine hK _ _ ?_
                  clear hK K
                  try simp only [Act.put, List.setIfInBounds_toArray, List.set_cons_zero, List.set_cons_succ]
                  refine wpAny_done (by kernel_rfl) ?_ _
                  go_step; go_step; go_meet
                  exact ⟨w3, g, cp, rfl, R3.out⟩
                exact AllReady.nil
              exact AllReady.nil
            exact AllReady.nil
          exact AllReady.nil
        refine AllReady.cons (o := { dst := some 37, op := Op.lookup 65 (Operand.tmp 35) (Operand.tmp 36) false, type := 82, pos := "plate.go:63", after := #[{ on := 9, ground := Ground.data }, { on := 10, ground := Ground.data }], guard := none }) rfl (fun K hK => ?_) ?_
        · refine step_turns rfl (exec_look65 (x := .tmp 35) (y := .tmp 36) rfl rfl rfl HM.out HI.out) ?_
          refine hK _ _ ?_
          clear hK K
          try simp only [Act.put, List.setIfInBounds_toArray, List.set_cons_zero, List.set_cons_succ]
          refine wpAny_take (i := 13) (oi := { dst := some 39, op := Op.build 84 #[(0, Operand.tmp 31), (1, Operand.tmp 37), (2, Operand.tmp 38)], type := 84, pos := "plate.go:63", after := #[{ on := 5, ground := Ground.data }, { on := 11, ground := Ground.data }, { on := 12, ground := Ground.data }], guard := none }) (v := (Value.agg (wr i (s.pg i) (pageOf bs)))) rfl (by kernel_rfl) (by kernel_rfl) (by kernel_rfl) (fun _ _ _ h => h) (Or.inl ⟨by rfl, fun _ => exec_build84 (x := .tmp 31) (y := .tmp 37) (z := .tmp 38) rfl rfl rfl rfl HQ.out.1 HP.out.1 _⟩) ?_
          try simp only [Act.put, List.setIfInBounds_toArray, List.set_cons_zero, List.set_cons_succ]
          refine wpAny_ready (rs := [4, 14]) (by kernel_rfl) (by simp) ?_
          refine AllReady.cons (o := { dst := some 30, op := Op.load 66 (Operand.tmp 29), type := 66, pos := "plate.go:63", after := #[{ on := 3, ground := Ground.data }], guard := none }) rfl (fun K hK => ?_) ?_
          · refine step_turns rfl (exec_load1 (t := 66) (x := .tmp 29) rfl (Try.isAgg66 _) rfl K2.out) ?_
            refine hK _ _ ?_
            clear hK K
            try simp only [Act.put, List.setIfInBounds_toArray, List.set_cons_zero, List.set_cons_succ]
            refine wpAny_ready (rs := [14]) (by kernel_rfl) (by simp) ?_
            refine AllReady.cons (o := { dst := some 40, op := Op.buildSlice 66 1 #[(0, Operand.tmp 39)], type := 66, pos := "plate.go:63", after := #[{ on := 13, ground := Ground.data }], guard := none }) rfl (fun K hK => ?_) ?_
            · refine step_turns rfl (exec_slice66 (x := .tmp 39) rfl rfl (wr_size HQ.out.1 HP.out.1) _) ?_
              refine hK _ _ ?_
              clear hK K
              try simp only [Act.put, List.setIfInBounds_toArray, List.set_cons_zero, List.set_cons_succ]
              refine wpAny_ready (rs := [15]) (by kernel_rfl) (by simp) ?_
              refine AllReady.cons (o := { dst := some 41, op := Op.call { callee := Callee.builtin Builtin.append, args := #[Operand.tmp 30, Operand.tmp 40], argTypes := #[66, 66] }, type := 66, pos := "plate.go:63", after := #[{ on := 4, ground := Ground.data }, { on := 14, ground := Ground.data }], guard := none }) rfl (fun K hK => ?_) ?_
              · refine step_append_lies _ rfl (.tmp 30) (.tmp 40) 66 rfl B 84 i0 _ 129 136 Try.underlying66 hi0 hz0 hz1 hz2 (by rfl) (by decide) v s.op.length (opCells s.op) rfl (HR.out.alloc _) ⟨w2.heap.size, 0, none⟩ 1 1 (wr i (s.pg i) (pageOf bs)).toList rfl (by rw [Array.length_toList, wr_size HQ.out.1 HP.out.1]) (news_at _ _ _) (wr_ones HQ.out HP.out) (by decide) (by have := HX.out.2.2; unfold maxLen; omega) (by have := HX.out.2.2; omega) HBL.out _ rfl ?_; intro g cp w3 hown3 hgrow3 hat3 hlt3; have R3 := Lib.hid (got_of H2.out (W := w2.drew.alloc (.cells (wr i (s.pg i) (pageOf bs)) 84)) (X := wr i (s.pg i) (pageOf bs)) (t := 84) rfl ⟨rfl, rfl, rfl⟩ hown3 hgrow3 hat3 hlt3); clear hown3 hgrow3 hat3 hlt3
                refine hK _ _ ?_
                clear hK K
                try simp only [Act.put, List.setIfInBounds_toArray, List.set_cons_zero, List.set_cons_succ]
                refine wpAny_take (i := 16) (oi := { dst := some 42, op := Op.nilCheck (Operand.tmp 26), type := 0, pos := "plate.go:63", after := #[{ on := 0, ground := Ground.data }, { on := 0, ground := Ground.phase }, { on := 1, ground := Ground.phase }, { on := 2, ground := Ground.phase }, { on := 3, ground := Ground.phase }, { on := 4, ground := Ground.phase }, { on := 5, ground := Ground.phase }, { on := 6, ground := Ground.phase }, { on := 7, ground := Ground.phase }, { on := 8, ground := Ground.phase }, { on := 9, ground := Ground.phase }, { on := 10, ground := Ground.phase }, { on := 11, ground := Ground.phase }, { on := 12, ground := Ground.phase }, { on := 13, ground := Ground.phase }, { on := 14, ground := Ground.phase }, { on := 15, ground := Ground.phase }], guard := none }) (v := (Value.pointer (some ⟨b, 0, none⟩))) rfl (by kernel_rfl) (by kernel_rfl) (by kernel_rfl) (fun _ _ _ h => h) (Or.inl ⟨by rfl, fun _ => exec_nil (x := .tmp 26) rfl rfl _⟩) ?_
                try simp only [Act.put, List.setIfInBounds_toArray, List.set_cons_zero, List.set_cons_succ]
                refine wpAny_take (i := 17) (oi := { dst := some 43, op := Op.fieldAddr 68 (Operand.tmp 42) 2, type := 0, pos := "plate.go:63", after := #[{ on := 16, ground := Ground.data }, { on := 0, ground := Ground.phase }, { on := 1, ground := Ground.phase }, { on := 2, ground := Ground.phase }, { on := 3, ground := Ground.phase }, { on := 4, ground := Ground.phase }, { on := 5, ground := Ground.phase }, { on := 6, ground := Ground.phase }, { on := 7, ground := Ground.phase }, { on := 8, ground := Ground.phase }, { on := 9, ground := Ground.phase }, { on := 10, ground := Ground.phase }, { on := 11, ground := Ground.phase }, { on := 12, ground := Ground.phase }, { on := 13, ground := Ground.phase }, { on := 14, ground := Ground.phase }, { on := 15, ground := Ground.phase }], guard := none }) (v := (Value.pointer (some ⟨b, 2, none⟩))) rfl (by kernel_rfl) (by kernel_rfl) (by kernel_rfl) (fun _ _ _ h => h) (Or.inl ⟨by rfl, fun _ => exec_field2 (x := .tmp 42) rfl rfl _⟩) ?_
                try simp only [Act.put, List.setIfInBounds_toArray, List.set_cons_zero, List.set_cons_succ]
                refine wpAny_ready (rs := [18]) (by kernel_rfl) (by simp) ?_
                refine AllReady.cons (o := { dst := none, op := Op.store 66 (Operand.tmp 43) (Operand.tmp 41), type := 0, pos := "plate.go:63", after := #[{ on := 17, ground := Ground.data }, { on := 15, ground := Ground.data }, { on := 15, ground := Ground.chain }, { on := 0, ground := Ground.phase }, { on := 1, ground := Ground.phase }, { on := 2, ground := Ground.phase }, { on := 3, ground := Ground.phase }, { on := 4, ground := Ground.phase }, { on := 5, ground := Ground.phase }, { on := 6, ground := Ground.phase }, { on := 7, ground := Ground.phase }, { on := 8, ground := Ground.phase }, { on := 9, ground := Ground.phase }, { on := 10, ground := Ground.phase }, { on := 11, ground := Ground.phase }, { on := 12, ground := Ground.phase }, { on := 13, ground := Ground.phase }, { on := 14, ground := Ground.phase }, { on := 15, ground := Ground.phase }], guard := none }) rfl (fun K hK => ?_) ?_
                · refine step_skips rfl (exec_store66 (x := .tmp 43) (y := .tmp 41) rfl rfl rfl R3.out.1 R3.out.2.1) ?_
                  refine hK _ _ ?_
                  clear hK K
                  try simp only [Act.put, List.setIfInBounds_toArray, List.set_cons_zero, List.set_cons_succ]
                  refine wpAny_done (by kernel_rfl) ?_ _
                  go_step; go_step; go_meet
                  exact ⟨w3, g, cp, rfl, R3.out⟩
                exact AllReady.nil
              exact AllReady.nil
            exact AllReady.nil
          refine AllReady.cons (o := { dst := some 40, op := Op.buildSlice 66 1 #[(0, Operand.tmp 39)], type := 66, pos := "plate.go:63", after := #[{ on := 13, ground := Ground.data }], guard := none }) rfl (fun K hK => ?_) ?_
          · refine step_turns rfl (exec_slice66 (x := .tmp 39) rfl rfl (wr_size HQ.out.1 HP.out.1) _) ?_
            refine hK _ _ ?_
            clear hK K
            try simp only [Act.put, List.setIfInBounds_toArray, List.set_cons_zero, List.set_cons_succ]
            refine wpAny_ready (rs := [4]) (by kernel_rfl) (by simp) ?_
            refine AllReady.cons (o := { dst := some 30, op := Op.load 66 (Operand.tmp 29), type := 66, pos := "plate.go:63", after := #[{ on := 3, ground := Ground.data }], guard := none }) rfl (fun K hK => ?_) ?_
            · refine step_turns rfl (exec_load1 (t := 66) (x := .tmp 29) rfl (Try.isAgg66 _) rfl K2a.out) ?_
              refine hK _ _ ?_
              clear hK K
              try simp only [Act.put, List.setIfInBounds_toArray, List.set_cons_zero, List.set_cons_succ]
              refine wpAny_ready (rs := [15]) (by kernel_rfl) (by simp) ?_
              refine AllReady.cons (o := { dst := some 41, op := Op.call { callee := Callee.builtin Builtin.append, args := #[Operand.tmp 30, Operand.tmp 40], argTypes := #[66, 66] }, type := 66, pos := "plate.go:63", after := #[{ on := 4, ground := Ground.data }, { on := 14, ground := Ground.data }], guard := none }) rfl (fun K hK => ?_) ?_
              · refine step_append_lies _ rfl (.tmp 30) (.tmp 40) 66 rfl B 84 i0 _ 129 136 Try.underlying66 hi0 hz0 hz1 hz2 (by rfl) (by decide) v s.op.length (opCells s.op) rfl (HR.out.alloc _) ⟨w2.heap.size, 0, none⟩ 1 1 (wr i (s.pg i) (pageOf bs)).toList rfl (by rw [Array.length_toList, wr_size HQ.out.1 HP.out.1]) (news_at _ _ _) (wr_ones HQ.out HP.out) (by decide) (by have := HX.out.2.2; unfold maxLen; omega) (by have := HX.out.2.2; omega) HBL.out _ rfl ?_; intro g cp w3 hown3 hgrow3 hat3 hlt3; have R3 := Lib.hid (got_of H2.out (W := w2.drew.alloc (.cells (wr i (s.pg i) (pageOf bs)) 84)) (X := wr i (s.pg i) (pageOf bs)) (t := 84) rfl ⟨rfl, rfl, rfl⟩ hown3 hgrow3 hat3 hlt3); clear hown3 hgrow3 hat3 hlt3
                refine hK _ _ ?_
                clear hK K
                try simp only [Act.put, List.setIfInBounds_toArray, List.set_cons_zero, List.set_cons_succ]
                refine wpAny_take (i := 16) (oi := { dst := some 42, op := Op.nilCheck (Operand.tmp 26), type := 0, pos := "plate.go:63", after := #[{ on := 0, ground := Ground.data }, { on := 0, ground := Ground.phase }, { on := 1, ground := Ground.phase }, { on := 2, ground := Ground.phase }, { on := 3, ground := Ground.phase }, { on := 4, ground := Ground.phase }, { on := 5, ground := Ground.phase }, { on := 6, ground := Ground.phase }, { on := 7, ground := Ground.phase }, { on := 8, ground := Ground.phase }, { on := 9, ground := Ground.phase }, { on := 10, ground := Ground.phase }, { on := 11, ground := Ground.phase }, { on := 12, ground := Ground.phase }, { on := 13, ground := Ground.phase }, { on := 14, ground := Ground.phase }, { on := 15, ground := Ground.phase }], guard := none }) (v := (Value.pointer (some ⟨b, 0, none⟩))) rfl (by kernel_rfl) (by kernel_rfl) (by kernel_rfl) (fun _ _ _ h => h) (Or.inl ⟨by rfl, fun _ => exec_nil (x := .tmp 26) rfl rfl _⟩) ?_
                try simp only [Act.put, List.setIfInBounds_toArray, List.set_cons_zero, List.set_cons_succ]
                refine wpAny_take (i := 17) (oi := { dst := some 43, op := Op.fieldAddr 68 (Operand.tmp 42) 2, type := 0, pos := "plate.go:63", after := #[{ on := 16, ground := Ground.data }, { on := 0, ground := Ground.phase }, { on := 1, ground := Ground.phase }, { on := 2, ground := Ground.phase }, { on := 3, ground := Ground.phase }, { on := 4, ground := Ground.phase }, { on := 5, ground := Ground.phase }, { on := 6, ground := Ground.phase }, { on := 7, ground := Ground.phase }, { on := 8, ground := Ground.phase }, { on := 9, ground := Ground.phase }, { on := 10, ground := Ground.phase }, { on := 11, ground := Ground.phase }, { on := 12, ground := Ground.phase }, { on := 13, ground := Ground.phase }, { on := 14, ground := Ground.phase }, { on := 15, ground := Ground.phase }], guard := none }) (v := (Value.pointer (some ⟨b, 2, none⟩))) rfl (by kernel_rfl) (by kernel_rfl) (by kernel_rfl) (fun _ _ _ h => h) (Or.inl ⟨by rfl, fun _ => exec_field2 (x := .tmp 42) rfl rfl _⟩) ?_
                try simp only [Act.put, List.setIfInBounds_toArray, List.set_cons_zero, List.set_cons_succ]
                refine wpAny_ready (rs := [18]) (by kernel_rfl) (by simp) ?_
                refine AllReady.cons (o := { dst := none, op := Op.store 66 (Operand.tmp 43) (Operand.tmp 41), type := 0, pos := "plate.go:63", after := #[{ on := 17, ground := Ground.data }, { on := 15, ground := Ground.data }, { on := 15, ground := Ground.chain }, { on := 0, ground := Ground.phase }, { on := 1, ground := Ground.phase }, { on := 2, ground := Ground.phase }, { on := 3, ground := Ground.phase }, { on := 4, ground := Ground.phase }, { on := 5, ground := Ground.phase }, { on := 6, ground := Ground.phase }, { on := 7, ground := Ground.phase }, { on := 8, ground := Ground.phase }, { on := 9, ground := Ground.phase }, { on := 10, ground := Ground.phase }, { on := 11, ground := Ground.phase }, { on := 12, ground := Ground.phase }, { on := 13, ground := Ground.phase }, { on := 14, ground := Ground.phase }, { on := 15, ground := Ground.phase }], guard := none }) rfl (fun K hK => ?_) ?_
                · refine step_skips rfl (exec_store66 (x := .tmp 43) (y := .tmp 41) rfl rfl rfl R3.out.1 R3.out.2.1) ?_
                  refine hK _ _ ?_
                  clear hK K
                  try simp only [Act.put, List.setIfInBounds_toArray, List.set_cons_zero, List.set_cons_succ]
                  refine wpAny_done (by kernel_rfl) ?_ _
                  go_step; go_step; go_meet
                  exact ⟨w3, g, cp, rfl, R3.out⟩
                exact AllReady.nil
              exact AllReady.nil
            exact AllReady.nil
          exact AllReady.nil
        exact AllReady.nil
      exact AllReady.nil
    exact AllReady.nil

  case rest =>
    obtain ⟨w3, g, cp, rfl, hG⟩ := hcut
    obtain ⟨hA, hT⟩ := appended H2.out HI.out HP.out (pages_of H2.out) hG
    generalize (w3.setCell ⟨b, 2, none⟩ (.slice (some ⟨g, 0, none⟩) (s.op.length + 1) cp)) = wx at *
    have hgw : w.heap.size < w2.heap.size := (Array.getElem?_eq_some_iff.1 HG.out).1
    have hp := (hT.block w.heap.size hgw (fun e => by have := H.out.hi _ e; omega)).trans HG.out
    have HPG := Lib.hid (show wx.heap[w.heap.size]? = some (.cells (pageOf bs) 82 (0, 0)) from hp)
    have hg0 : ∀ k, (F k ∨ k = g) → F k ∨ w.heap.size ≤ k := fun k hk => by
      rcases hk with hk | rfl
      · exact .inl hk
      · rcases hG.2.2.2.2.1 with e' | e'
        · exact .inl (H2.out.fv _ e')
        · exact .inr (by omega)
    have hput := put_any b bm n i (pageOf bs) s.pg wx (cells6 hA.blk).2.1 hA.map HX.out.1 HI.out HP.out
    have HPUT := Lib.hid hput
    have HA := Lib.hid hA
    have HT := Lib.hid hT
    have HG0 := Lib.hid hg0
    have HSZ := Lib.hid hgw
    clear hput hA hT hg0 hp hgw hG HG H36 H37 HB HM HQ HR HBL K1 K2 K2a hd
    go_wp2_with (first
      | (refine wpList_load_row rfl 82 (.tmp 8) rfl w.heap.size rfl 82 (pageOf bs) (0, 0) _ HPG.out Try.underlying82 rfl (by rw [HP.out.1]; exact size82) ?_)
      | (go_at_call 38; refine HPUT.out.mono ?_; rintro e w4 ⟨rfl, hm4, hg4⟩; obtain ⟨hM, hMT⟩ := mapped HA.out hm4 hg4; have HM4 := Lib.hid hM; have HMT := Lib.hid hMT; have hb4 := hM.blk; simp only [HN.out] at hb4; have HCNT := Lib.hid (count_any b _ _ _ s.left s.ops w4 hb4 HA.out.lb.1 HA.out.lb.2 HA.out.ob.1 HA.out.ob.2); clear hM hMT hm4 hg4 hb4)
      | (go_at_call 39; refine HCNT.out.mono ?_; rintro e w5 ⟨rfl, hb5, hg5⟩; have HB5 := Lib.hid hb5; have HG5 := Lib.hid hg5; clear hb5 hg5))
    go_ret
    refine ⟨rfl, _, _, HM4.out.again (s' := wrote s i (pageOf bs)) HG5.out HB5.out rfl rfl (.inl ⟨rfl, rfl⟩) (lf_ok HA.out.lb) (by have := HA.out.ob; have := HX.out.2.1; simp only [wrote]; simp only at *; omega), HG0.out, ?_⟩
    refine ((T2.out.mono (fun _ h => h.elim)).trans HT.out (fun _ h => .inl h)).trans ((HMT.out).trans (.of_grown HG5.out (fun k e => .inl (by injection e with e; subst e; exact H.out.fb))) (fun _ h => .inl h)) (fun k hk => HG0.out k hk)
end Go.Proofs.Ytjfbgihjgnbeeaa.Pl

/-
  What the document's Leaves returns: pairs behind others; condition: the tree lies in memory. It only makes memory of its own.
-/
import Derived.Test.YtbhmldoehgkhfaaDoorRNode
import Derived.Test.YtbhmldoehgkhfaaDoorPairsA
namespace Go.Proofs.YtbhmldoehgkhfaaDoor
open Go.RowKit
open Tr

theorem rzero44 : ∀ w, (zeroValue 44).run Tryd.prog w = .ok (.agg #[.slice none 0 0, .slice none 0 0]) w := (zero_of_info (P := Tryd.prog) (t := 44) (v := .agg #[.slice none 0 0, .slice none 0 0]) (n := 2) (by kernel_rfl)).1
/-- A pair more, at an operation of a region that draws. -/
theorem step_append_p {ops : Array Oper} {o : Oper} {a : Act} {w : World} {K : Act → World → Prop} {Q : Exit → Act → World → Prop} {F : Prop} (hgd : o.guard = none) (s x : Operand)
    (ho : o.op = .call { callee := .builtin .append, args := #[s, x], argTypes := #[32, 32] })
    (base : Nat) (v : Value) (n : Nat) (ps : Prs) (p : List UInt8 × List UInt8) (hs : a.eval s = v) (hown : POwn w base v n ps) (A : Option Addr) (m c : Nat) (A' : Option Addr) (m' c' : Nat)
    (hx : a.eval x = .slice (some ⟨w.heap.size, 0, none⟩) 1 1) (hc : m ≤ c) (hc' : m' ≤ c') (hk : RdX w w.heap.size v.ownBlock A m p.1) (hv : RdX w w.heap.size v.ownBlock A' m' p.2)
    (hn : n ≤ 1000000) (hbase : base ≤ w.heap.size)
    (h : ∀ v' w', POwn w' base v' (n + 1) (ps ++ [p]) → Below base w w' → K (a.put o.dst v') w') :
    if Region.wanted o (yielded ops a.tmps) = true then Oper.wp Tryd.prog o a (w.alloc (.cells #[.slice A m c, .slice A' m' c'] 44)) K Q else F := by
  have hw : Region.wanted o (yielded ops a.tmps) = true := by simp [Region.wanted, hgd]
  rw [if_pos hw]
  obtain ⟨xs, h1, h2, h3⟩ := hown
  have hr : RdV (w.alloc (.cells #[.slice A m c, .slice A' m' c'] 44)) (w.heap.size + 1) 2 (some ⟨w.heap.size, 0, none⟩) 1 [.slice A m c, .slice A' m' c'] :=
    ⟨rfl, fun _ => ⟨_, _, rfl, by omega, fun j u hu => (Whole.made w 44 #[.slice A m c, .slice A' m' c']).at_ (by rw [Nat.zero_add]; simpa using hu)⟩⟩
  obtain ⟨v', w', hrun, k2, k3, k4⟩ := run_append_rd (w.alloc (.cells #[.slice A m c, .slice A' m' c'] 44)) base 32 o.type 44 _ 2 48 Tryd.underlying32 info44 rfl (by omega) v n xs (h1.alloc _) _ _ 1 1 _ hr
    (fun u hu => by simp only [List.mem_cons, List.not_mem_nil, or_false] at hu; rcases hu with rfl | rfl <;> rfl) (by unfold maxLen; omega) (by omega) (by rw [size_alloc]; omega)
  have hb0 : Below w.heap.size w (w.alloc (.cells #[.slice A m c, .slice A' m' c'] 44)) := (Below.refl _ _).alloc (Nat.le_refl _) _
  have hbg : Below base w w' := (hb0.mono hbase).grown k3 (by rw [size_alloc]; omega) (fun k hk => (h1.lt k hk).1)
  unfold Oper.wp execOp
  simp only [ho, resolve, invoke, builtin, Sem.run_bind, Sem.run_pure, Result.andThen_ok, List.map_toArray, List.map_cons, List.map_nil, hs, hx, hrun]
  refine h v' w' ⟨xs ++ [.slice A m c, .slice A' m' c'], k2, by rw [List.length_append, h2]; rfl, ?_⟩ hbg
  exact (h3.snoc p A m c A' m' c' hc hc' hk hv).mono fun A n bs hx => ((hx.below hb0 (Nat.le_refl _)).more hb0.size |>.grown k3 (Nat.le_refl _) k4).more k3.size

theorem rleaves_nil (v : Value) (w : World) : Calls Tryd.prog 14 #[.pointer none, v] w fun e w' => e = .returned v ∧ w = w' := by
  go_enter Tryd.func14, Tryd.ntmps14
  go_wp2_with fail
  go_ret
  exact ⟨rfl, rfl⟩

def LeavesPost (base : Nat) (n : Nat) (ps : Prs) (w : World) (e : Ending) (w' : World) : Prop := ∃ v', e = .returned v' ∧ POwn w' base v' n ps ∧ Below base w w'
set_option maxRecDepth 100000 in
set_option maxHeartbeats 1000000 in
theorem rleaves_any (base : Nat) : ∀ (t : T) (b : Nat) (w : World) (v : Value) (m : Nat) (ps : Prs) (_ : RIn w base t b) (_ : POwn w base v m ps) (_ : base ≤ w.heap.size) (_ : m + t.n ≤ 1000000),
    Calls Tryd.prog 14 #[ptr (some b), v] w (LeavesPost base (m + t.n) (ps ++ t.leaves) w)
  | .leaf k val, b, w, v, m, ps, hl, hO, hbs, hn => by
    obtain ⟨A, n, c, A', n', c', hh⟩ := hl
    obtain ⟨A0, c0', rfl, hc0, _⟩ := hO.form
    have hlt := hh.lt
    obtain ⟨c0, c1, -, -, -, -⟩ := hh.cells
    have c2 : w.cell? ⟨b, 2, none⟩ = some (.int .i64 0) := hh.cells.2.2.1
    have hnc := hh.knc
    have hnc' := hh.vnc
    have HH := Lib.hid hh
    have HO := Lib.hid hO
    change m + 1 ≤ _ at hn
    clear hh hO
    rw [ptr_some]
    go_enter Tryd.func14, Tryd.ntmps14
    go_upto_region 4 with (fail)
    have hS0 : w.drew.cell? ⟨b, 0, none⟩ = some (.slice A n c) ∧ w.drew.cell? ⟨b, 1, none⟩ = some (.slice A' n' c') := ⟨c0, c1⟩
    refine wp_region_held_drew (S := fun u => u.cell? ⟨b, 0, none⟩ = some (.slice A n c) ∧ u.cell? ⟨b, 1, none⟩ = some (.slice A' n' c')) (by kernel_rfl) hS0 (fun hHeld => ?_)
    have hz44 := rzero44
    refine wpAnyH_take (i := 0) (oi := { dst := some 13, op := Op.move (Operand.tmp 1), type := 32, pos := "ref.go:127", after := #[], guard := none }) (v := ?_) rfl (by kernel_rfl) (by kernel_rfl) (by kernel_rfl) (fun _ _ _ h => h) (Or.inl ⟨by rfl, ?_⟩) (by assumption) ?_
    rotate_left
    · first | (intro w hSw; (try dsimp only at hSw); go_simp; done) | (intro w hSw; (try dsimp only at hSw); go_simp; with_reducible rfl)
    simp only [Act.put, List.setIfInBounds_toArray, List.set_cons_zero, List.set_cons_succ]
    refine wpAnyH_take (i := 1) (oi := { dst := some 14, op := Op.move (Operand.tmp 0), type := 26, pos := "ref.go:127", after := #[], guard := none }) (v := ?_) rfl (by kernel_rfl) (by kernel_rfl) (by kernel_rfl) (fun _ _ _ h => h) (Or.inl ⟨by rfl, ?_⟩) (by assumption) ?_
    rotate_left
    · first | (intro w hSw; (try dsimp only at hSw); go_simp; done) | (intro w hSw; (try dsimp only at hSw); go_simp; with_reducible rfl)
    simp only [Act.put, List.setIfInBounds_toArray, List.set_cons_zero, List.set_cons_succ]
    refine wpAnyH_take (i := 2) (oi := { dst := some 15, op := Op.nilCheck (Operand.tmp 14), type := 0, pos := "ref.go:127", after := #[{ on := 1, ground := Ground.data }], guard := none }) (v := ?_) rfl (by kernel_rfl) (by kernel_rfl) (by kernel_rfl) (fun _ _ _ h => h) (Or.inl ⟨by rfl, ?_⟩) (by assumption) ?_
    rotate_left
    · first | (intro w hSw; (try dsimp only at hSw); go_simp; done) | (intro w hSw; (try dsimp only at hSw); go_simp; with_reducible rfl)
    simp only [Act.put, List.setIfInBounds_toArray, List.set_cons_zero, List.set_cons_succ]
    refine wpAnyH_take (i := 3) (oi := { dst := some 16, op := Op.fieldAddr 62 (Operand.tmp 15) 0, type := 0, pos := "ref.go:127", after := #[{ on := 2, ground := Ground.data }], guard := none }) (v := ?_) rfl (by kernel_rfl) (by kernel_rfl) (by kernel_rfl) (fun _ _ _ h => h) (Or.inl ⟨by rfl, ?_⟩) (by assumption) ?_
    rotate_left
    · first | (intro w hSw; (try dsimp only at hSw); go_simp; done) | (intro w hSw; (try dsimp only at hSw); go_simp; with_reducible rfl)
    simp only [Act.put, List.setIfInBounds_toArray, List.set_cons_zero, List.set_cons_succ]
    refine wpAnyH_take (i := 4) (oi := { dst := some 17, op := Op.load 27 (Operand.tmp 16), type := 27, pos := "ref.go:127", after := #[{ on := 3, ground := Ground.data }], guard := none }) (v := ?_) rfl (by kernel_rfl) (by kernel_rfl) (by kernel_rfl) (fun _ _ _ h => h) (Or.inl ⟨by rfl, ?_⟩) (by assumption) ?_
    rotate_left
    · first | (intro w hSw; (try dsimp only at hSw); go_simp; done) | (intro w hSw; (try dsimp only at hSw); go_simp; with_reducible rfl)
    simp only [Act.put, List.setIfInBounds_toArray, List.set_cons_zero, List.set_cons_succ]
    refine wpAnyH_take (i := 5) (oi := { dst := some 18, op := Op.move (Operand.tmp 0), type := 26, pos := "ref.go:127", after := #[], guard := none }) (v := ?_) rfl (by kernel_rfl) (by kernel_rfl) (by kernel_rfl) (fun _ _ _ h => h) (Or.inl ⟨by rfl, ?_⟩) (by assumption) ?_
    rotate_left
    · first | (intro w hSw; (try dsimp only at hSw); go_simp; done) | (intro w hSw; (try dsimp only at hSw); go_simp; with_reducible rfl)
    simp only [Act.put, List.setIfInBounds_toArray, List.set_cons_zero, List.set_cons_succ]
    refine wpAnyH_take (i := 6) (oi := { dst := some 19, op := Op.nilCheck (Operand.tmp 18), type := 0, pos := "ref.go:127", after := #[{ on := 5, ground := Ground.data }], guard := none }) (v := ?_) rfl (by kernel_rfl) (by kernel_rfl) (by kernel_rfl) (fun _ _ _ h => h) (Or.inl ⟨by rfl, ?_⟩) (by assumption) ?_
    rotate_left
    · first | (intro w hSw; (try dsimp only at hSw); go_simp; done) | (intro w hSw; (try dsimp only at hSw); go_simp; with_reducible rfl)
    simp only [Act.put, List.setIfInBounds_toArray, List.set_cons_zero, List.set_cons_succ]
    refine wpAnyH_take (i := 7) (oi := { dst := some 20, op := Op.fieldAddr 62 (Operand.tmp 19) 1, type := 0, pos := "ref.go:127", after := #[{ on := 6, ground := Ground.data }], guard := none }) (v := ?_) rfl (by kernel_rfl) (by kernel_rfl) (by kernel_rfl) (fun _ _ _ h => h) (Or.inl ⟨by rfl, ?_⟩) (by assumption) ?_
    rotate_left
    · first | (intro w hSw; (try dsimp only at hSw); go_simp; done) | (intro w hSw; (try dsimp only at hSw); go_simp; with_reducible rfl)
    simp only [Act.put, List.setIfInBounds_toArray, List.set_cons_zero, List.set_cons_succ]
    refine wpAnyH_take (i := 8) (oi := { dst := some 21, op := Op.load 27 (Operand.tmp 20), type := 27, pos := "ref.go:127", after := #[{ on := 7, ground := Ground.data }], guard := none }) (v := ?_) rfl (by kernel_rfl) (by kernel_rfl) (by kernel_rfl) (fun _ _ _ h => h) (Or.inl ⟨by rfl, ?_⟩) (by assumption) ?_
    rotate_left
    · first | (intro w hSw; (try dsimp only at hSw); go_simp; done) | (intro w hSw; (try dsimp only at hSw); go_simp; with_reducible rfl)
    simp only [Act.put, List.setIfInBounds_toArray, List.set_cons_zero, List.set_cons_succ]
    refine wpAnyH_take (i := 9) (oi := { dst := some 22, op := Op.build 44 #[(0, Operand.tmp 17), (1, Operand.tmp 21)], type := 44, pos := "ref.go:127", after := #[{ on := 4, ground := Ground.data }, { on := 8, ground := Ground.data }], guard := none }) (v := ?_) rfl (by kernel_rfl) (by kernel_rfl) (by kernel_rfl) (fun _ _ _ h => h) (Or.inl ⟨by rfl, ?_⟩) (by assumption) ?_
    rotate_left
    · first | (intro w hSw; (try dsimp only at hSw); go_simp; done) | (intro w hSw; (try dsimp only at hSw); go_simp; with_reducible rfl)
    simp only [Act.put, List.setIfInBounds_toArray, List.set_cons_zero, List.set_cons_succ]
    clear hz44 c0 c1 c2 hHeld
    have HO1 : Hid (POwn w.drew base (.slice A0 m c0') m ps) := Lib.hid HO.out
    have HK1 : Hid (Rd w.drew base A n k) := Lib.hid HH.out.key
    have HV1 : Hid (Rd w.drew base A' n' val) := Lib.hid HH.out.val
    have HB1 : Hid (Below base w w.drew) := Lib.hid (Below.refl _ _).drew
    have hbs1 : base ≤ w.drew.heap.size := hbs
    clear HO HH
    generalize w.drew = w1 at *
    refine wpAnyH_ready (rs := [10]) (by kernel_rfl) (by simp) ?_
    refine AllReadyH.cons rfl (fun K hK => ?_) AllReadyH.nil
    go_simp
    have hb2 : Below w1.heap.size w1 (w1.alloc (.cells #[.slice A n c, .slice A' n' c'] 44)) := (Below.refl _ _).alloc (Nat.le_refl _) _
    have hS2 : (w1.alloc (.cells #[.slice A n c, .slice A' n' c'] 44)).cell? ⟨b, 0, none⟩ = some (.slice A n c) ∧ (w1.alloc (.cells #[.slice A n c, .slice A' n' c'] 44)).cell? ⟨b, 1, none⟩ = some (.slice A' n' c') :=
      ⟨(hb2.cell (p := ⟨b, 0, none⟩) (by show b < _; omega)).trans hS0.1, (hb2.cell (p := ⟨b, 1, none⟩) (by show b < _; omega)).trans hS0.2⟩
    refine hK.out _ _ hS2 (fun _ => ?_)
    clear hK K hb2 hS2
    refine wpAnyH_ready (rs := [11]) (by kernel_rfl) (by simp) ?_
    refine AllReadyH.cons (o := { dst := some 24, op := Op.call { callee := Callee.builtin Builtin.append, args := #[Operand.tmp 13, Operand.tmp 23], argTypes := #[32, 32] }, type := 32, pos := "ref.go:127", after := #[{ on := 0, ground := Ground.data }, { on := 10, ground := Ground.data }], guard := none }) rfl (fun K hK => ?_) AllReadyH.nil
    refine step_append_p rfl (.tmp 13) (.tmp 23) rfl base _ m _ (k, val) rfl HO1.out A n c A' n' c' rfl hnc hnc' (by obtain ⟨_, h1, _⟩ := HO1.out; exact rdx_old h1 HK1.out hbs1) (by obtain ⟨_, h1, _⟩ := HO1.out; exact rdx_old h1 HV1.out hbs1) (by omega) hbs1 ?_
    intro v3 w3 hO3 hb3
    obtain ⟨A3, c3, rfl, _, _⟩ := hO3.form
    have hHeld : w3.cell? ⟨b, 0, none⟩ = some (.slice A n c) ∧ w3.cell? ⟨b, 1, none⟩ = some (.slice A' n' c') := ⟨(hb3.cell (p := ⟨b, 0, none⟩) hlt).trans hS0.1, (hb3.cell (p := ⟨b, 1, none⟩) hlt).trans hS0.2⟩
    have HO3 := Lib.hid hO3
    have HB3 := Lib.hid (HB1.out.trans hb3)
    refine hK.out _ _ hHeld (fun _ => ?_)
    clear hK K hO3 hb3 HO1 HK1 HV1 HB1 hS0
    simp only [Act.put, List.setIfInBounds_toArray, List.set_cons_zero, List.set_cons_succ]
    refine wpAnyH_take (i := 12) (oi := { dst := some 4, op := Op.assign (Operand.tmp 24), type := 32, pos := "ref.go:127", after := #[{ on := 11, ground := Ground.data }, { on := 11, ground := Ground.chain }, { on := 0, ground := Ground.phase }, { on := 1, ground := Ground.phase }, { on := 2, ground := Ground.phase }, { on := 3, ground := Ground.phase }, { on := 4, ground := Ground.phase }, { on := 5, ground := Ground.phase }, { on := 6, ground := Ground.phase }, { on := 7, ground := Ground.phase }, { on := 8, ground := Ground.phase }, { on := 9, ground := Ground.phase }, { on := 10, ground := Ground.phase }, { on := 11, ground := Ground.phase }], guard := none }) (v := ?_) rfl (by kernel_rfl) (by kernel_rfl) (by kernel_rfl) (fun _ _ _ h => h) (Or.inl ⟨by rfl, ?_⟩) (by assumption) ?_
    rotate_left
    · first | (intro w hSw; (try dsimp only at hSw); go_simp; done) | (intro w hSw; (try dsimp only at hSw); go_simp; with_reducible rfl)
    simp only [Act.put, List.setIfInBounds_toArray, List.set_cons_zero, List.set_cons_succ]
    clear hHeld
    refine wpAnyH_done (by kernel_rfl) ?_ _
    go_wp2_with fail
    go_ret
    exact ⟨_, rfl, HO3.out, HB3.out⟩
  | .node l r, b, w, v, m, ps, hl, hO, hbs, hn => by
    obtain ⟨A, n, c, A', n', c', x, y, hh, hx, hy⟩ := hl
    obtain ⟨A0, c0', rfl, hc0, _⟩ := hO.form
    have c2 := hh.cells.2.2.1
    have hne := h_ne l r
    have hz : (((T.node l r).h : Int) == 0) = false := by rw [beq_eq_false_iff_ne]; omega
    have HSD : Hid (∀ u, Below base w u → u.cell? ⟨b, 4, none⟩ = some (.pointer (some ⟨x, 0, none⟩)) ∧ u.cell? ⟨b, 5, none⟩ = some (.pointer (some ⟨y, 0, none⟩))) := Lib.hid (fun u hu => hh.sides hu)
    have HX := Lib.hid hx
    have HY := Lib.hid hy
    have HO := Lib.hid hO
    have HEQ : Hid (ps ++ (T.node l r).leaves = (ps ++ l.leaves) ++ r.leaves) := Lib.hid (by show ps ++ (l.leaves ++ r.leaves) = _; rw [List.append_assoc])
    have HEN : Hid (m + (T.node l r).n = (m + l.n) + r.n) := Lib.hid (by show m + (l.n + r.n) = _; omega)
    rw [HEN.out] at hn
    have p2 := T.n_pos r
    clear hh hx hy hO hne
    rw [ptr_some]
    generalize (T.node l r).h = H at *
    go_enter Tryd.func14, Tryd.ntmps14
    go_upto_region 5 with (fail)
    have hb1 : Below base w w.drew := (Below.refl _ _).drew
    have hS0 := HSD.out w.drew hb1
    refine wp_region_held_drew (S := fun u => u.cell? ⟨b, 4, none⟩ = some (.pointer (some ⟨x, 0, none⟩)) ∧ u.cell? ⟨b, 5, none⟩ = some (.pointer (some ⟨y, 0, none⟩))) (by kernel_rfl) hS0 (fun hHeld => ?_)
    refine wpAnyH_take (i := 0) (oi := { dst := some 25, op := Op.move (Operand.tmp 0), type := 26, pos := "ref.go:129", after := #[], guard := none }) (v := ?_) rfl (by kernel_rfl) (by kernel_rfl) (by kernel_rfl) (fun _ _ _ h => h) (Or.inl ⟨by rfl, ?_⟩) (by assumption) ?_
    rotate_left
    · first | (intro w hSw; (try dsimp only at hSw); go_simp; done) | (intro w hSw; (try dsimp only at hSw); go_simp; with_reducible rfl)
    simp only [Act.put, List.setIfInBounds_toArray, List.set_cons_zero, List.set_cons_succ]
    refine wpAnyH_take (i := 1) (oi := { dst := some 26, op := Op.nilCheck (Operand.tmp 25), type := 0, pos := "ref.go:129", after := #[{ on := 0, ground := Ground.data }], guard := none }) (v := ?_) rfl (by kernel_rfl) (by kernel_rfl) (by kernel_rfl) (fun _ _ _ h => h) (Or.inl ⟨by rfl, ?_⟩) (by assumption) ?_
    rotate_left
    · first | (intro w hSw; (try dsimp only at hSw); go_simp; done) | (intro w hSw; (try dsimp only at hSw); go_simp; with_reducible rfl)
    simp only [Act.put, List.setIfInBounds_toArray, List.set_cons_zero, List.set_cons_succ]
    refine wpAnyH_take (i := 2) (oi := { dst := some 27, op := Op.fieldAddr 62 (Operand.tmp 26) 5, type := 0, pos := "ref.go:129", after := #[{ on := 1, ground := Ground.data }], guard := none }) (v := ?_) rfl (by kernel_rfl) (by kernel_rfl) (by kernel_rfl) (fun _ _ _ h => h) (Or.inl ⟨by rfl, ?_⟩) (by assumption) ?_
    rotate_left
    · first | (intro w hSw; (try dsimp only at hSw); go_simp; done) | (intro w hSw; (try dsimp only at hSw); go_simp; with_reducible rfl)
    simp only [Act.put, List.setIfInBounds_toArray, List.set_cons_zero, List.set_cons_succ]
    refine wpAnyH_take (i := 3) (oi := { dst := some 28, op := Op.load 26 (Operand.tmp 27), type := 26, pos := "ref.go:129", after := #[{ on := 2, ground := Ground.data }], guard := none }) (v := ?_) rfl (by kernel_rfl) (by kernel_rfl) (by kernel_rfl) (fun _ _ _ h => h) (Or.inl ⟨by rfl, ?_⟩) (by assumption) ?_
    rotate_left
    · first | (intro w hSw; (try dsimp only at hSw); go_simp; done) | (intro w hSw; (try dsimp only at hSw); go_simp; with_reducible rfl)
    simp only [Act.put, List.setIfInBounds_toArray, List.set_cons_zero, List.set_cons_succ]
    refine wpAnyH_take (i := 4) (oi := { dst := some 29, op := Op.move (Operand.tmp 0), type := 26, pos := "ref.go:129", after := #[], guard := none }) (v := ?_) rfl (by kernel_rfl) (by kernel_rfl) (by kernel_rfl) (fun _ _ _ h => h) (Or.inl ⟨by rfl, ?_⟩) (by assumption) ?_
    rotate_left
    · first | (intro w hSw; (try dsimp only at hSw); go_simp; done) | (intro w hSw; (try dsimp only at hSw); go_simp; with_reducible rfl)
    simp only [Act.put, List.setIfInBounds_toArray, List.set_cons_zero, List.set_cons_succ]
    refine wpAnyH_take (i := 5) (oi := { dst := some 30, op := Op.nilCheck (Operand.tmp 29), type := 0, pos := "ref.go:129", after := #[{ on := 4, ground := Ground.data }], guard := none }) (v := ?_) rfl (by kernel_rfl) (by kernel_rfl) (by kernel_rfl) (fun _ _ _ h => h) (Or.inl ⟨by rfl, ?_⟩) (by assumption) ?_
    rotate_left
    · first | (intro w hSw; (try dsimp only at hSw); go_simp; done) | (intro w hSw; (try dsimp only at hSw); go_simp; with_reducible rfl)
    simp only [Act.put, List.setIfInBounds_toArray, List.set_cons_zero, List.set_cons_succ]
    refine wpAnyH_take (i := 6) (oi := { dst := some 31, op := Op.fieldAddr 62 (Operand.tmp 30) 4, type := 0, pos := "ref.go:129", after := #[{ on := 5, ground := Ground.data }], guard := none }) (v := ?_) rfl (by kernel_rfl) (by kernel_rfl) (by kernel_rfl) (fun _ _ _ h => h) (Or.inl ⟨by rfl, ?_⟩) (by assumption) ?_
    rotate_left
    · first | (intro w hSw; (try dsimp only at hSw); go_simp; done) | (intro w hSw; (try dsimp only at hSw); go_simp; with_reducible rfl)
    simp only [Act.put, List.setIfInBounds_toArray, List.set_cons_zero, List.set_cons_succ]
    refine wpAnyH_take (i := 7) (oi := { dst := some 32, op := Op.load 26 (Operand.tmp 31), type := 26, pos := "ref.go:129", after := #[{ on := 6, ground := Ground.data }], guard := none }) (v := ?_) rfl (by kernel_rfl) (by kernel_rfl) (by kernel_rfl) (fun _ _ _ h => h) (Or.inl ⟨by rfl, ?_⟩) (by assumption) ?_
    rotate_left
    · first | (intro w hSw; (try dsimp only at hSw); go_simp; done) | (intro w hSw; (try dsimp only at hSw); go_simp; with_reducible rfl)
    simp only [Act.put, List.setIfInBounds_toArray, List.set_cons_zero, List.set_cons_succ]
    refine wpAnyH_take (i := 8) (oi := { dst := some 33, op := Op.move (Operand.tmp 1), type := 32, pos := "ref.go:129", after := #[], guard := none }) (v := ?_) rfl (by kernel_rfl) (by kernel_rfl) (by kernel_rfl) (fun _ _ _ h => h) (Or.inl ⟨by rfl, ?_⟩) (by assumption) ?_
    rotate_left
    · first | (intro w hSw; (try dsimp only at hSw); go_simp; done) | (intro w hSw; (try dsimp only at hSw); go_simp; with_reducible rfl)
    simp only [Act.put, List.setIfInBounds_toArray, List.set_cons_zero, List.set_cons_succ]
    clear hHeld hS0 c2 hz
    have HO1 : Hid (POwn w.drew base (.slice A0 m c0') m ps) := Lib.hid HO.out
    have hbs1 : base ≤ w.drew.heap.size := hbs
    clear HO
    generalize w.drew = w1 at *
    have HC1 := Lib.hid (rleaves_any base l x w1 _ m ps (HX.out.below hb1 (Nat.le_refl _)) HO1.out hbs1 (by omega))
    rw [ptr_some] at HC1
    refine wpAnyH_ready (rs := [9]) (by kernel_rfl) (by simp) ?_
    refine AllReadyH.cons rfl (fun K hK => ?_) AllReadyH.nil
    go_simp
    refine HC1.out.mono ?_
    rintro e w2 ⟨v2, rfl, hO2, hb2⟩
    have hs2 := hb2.size
    replace hb2 := hb1.trans hb2
    refine hK.out _ _ (HSD.out w2 hb2) (fun _ => ?_)
    clear hK K HC1 hb1 HO1
    have HC2 := Lib.hid (rleaves_any base r y w2 v2 (m + l.n) (ps ++ l.leaves) (HY.out.below hb2 (Nat.le_refl _)) hO2 (by omega) (by omega))
    rw [ptr_some] at HC2
    clear hO2
    refine wpAnyH_ready (rs := [10]) (by kernel_rfl) (by simp) ?_
    refine AllReadyH.cons rfl (fun K hK => ?_) AllReadyH.nil
    go_simp
    refine HC2.out.mono ?_
    rintro e w3 ⟨v3, rfl, hO3, hb3⟩
    replace hb3 := hb2.trans hb3
    have hHeld := HSD.out w3 hb3
    refine hK.out _ _ hHeld (fun _ => ?_)
    have HO3 := Lib.hid hO3
    have HB3 := Lib.hid hb3
    clear hK K HC2 hb2 hO3 hb3
    refine wpAnyH_take (i := 11) (oi := { dst := some 4, op := Op.assign (Operand.tmp 35), type := 32, pos := "ref.go:129", after := #[{ on := 10, ground := Ground.data }, { on := 10, ground := Ground.chain }, { on := 0, ground := Ground.phase }, { on := 1, ground := Ground.phase }, { on := 2, ground := Ground.phase }, { on := 3, ground := Ground.phase }, { on := 4, ground := Ground.phase }, { on := 5, ground := Ground.phase }, { on := 6, ground := Ground.phase }, { on := 7, ground := Ground.phase }, { on := 8, ground := Ground.phase }, { on := 9, ground := Ground.phase }, { on := 10, ground := Ground.phase }], guard := none }) (v := ?_) rfl (by kernel_rfl) (by kernel_rfl) (by kernel_rfl) (fun _ _ _ h => h) (Or.inl ⟨by rfl, ?_⟩) (by assumption) ?_
    rotate_left
    · first | (intro w hSw; (try dsimp only at hSw); go_simp; done) | (intro w hSw; (try dsimp only at hSw); go_simp; with_reducible rfl)
    simp only [Act.put, List.setIfInBounds_toArray, List.set_cons_zero, List.set_cons_succ]
    clear hHeld
    refine wpAnyH_done (by kernel_rfl) ?_ _
    go_wp2_with fail
    go_ret
    refine ⟨v3, rfl, ?_, HB3.out⟩
    rw [HEN.out, HEQ.out]
    exact HO3.out
end Go.Proofs.YtbhmldoehgkhfaaDoor

/-
  The law that a tree stays: a tree out of which others were made is as it was, whatever is done to bytes that were handed in and answered; conditions: the calls lie in memory.
-/
import Derived.Test.YtolkpjbbfopmnaaDoorByt
import Derived.Deep.CutBlock
import Derived.Deep.CutRange
import Derived.Deep.DeepCutAuto
namespace Go.Proofs.YtolkpjbbfopmnaaDoor
open Go.RowKit
open Tr

theorem append_fresh (w : World) (e0 base B : Nat) (h0 : w.ownsRow base 5 1 (.slice (some ⟨e0, 0, none⟩) 0 0) 0 []) (A : Option Addr) (m c : Nat) (bs : List UInt8) (hr : Rd w B A m bs) (hm : m ≤ 140737488355328) (hbase : base ≤ w.heap.size) (ty : TypeId) :
    ∃ K c' w', (Builtin.append_ #[31, 31] ty #[.slice (some ⟨e0, 0, none⟩) 0 0, .slice A m c]).run Tryd.prog w = .ok (.slice K m c') w' ∧ Rd w' w'.heap.size K m bs ∧ Fresh base w' K ∧ Below w.heap.size w w' := by
  obtain ⟨i, hi, hz, hs, hby⟩ := info_of info5
  rcases Nat.eq_zero_or_pos m with h | h
  · subst h
    have hb : bs = [] := List.eq_nil_of_length_eq_zero hr.len
    subst hb
    refine ⟨some ⟨e0, 0, none⟩, 0, w, ?_, Rd.nil, Fresh.own h0, Below.refl _ _⟩
    cases A <;> simp [Builtin.append_, run_underlying Tryd.underlying31, sizeOf, typeInfo, hi, Builtin.lenOf, Builtin.firstCells, storeCells]
    simp [loadCells, loadCellsFrom, storeCells]
  · obtain ⟨b, o, rfl, hlt, hc⟩ := hr.at_ h
    obtain ⟨v', w', hrun, hown, hgr⟩ := run_append_arg_grows (P := Tryd.prog) w 31 ty 5 i _ 1 1 Tryd.underlying31 hi hz hs hby rfl (by omega) ⟨e0, 0, none⟩ 0 0 [] rfl (fun j u hu => by simp at hu) ⟨b, o, none⟩ m c (bs.map V8) (by rw [List.length_map, hr.len]; omega) (fun j u hu => by
      rw [List.getElem?_map, Option.map_eq_some_iff] at hu
      obtain ⟨x, hx, rfl⟩ := hu
      rw [Addr.add_mid]
      exact hc j x hx) (by omega) (by unfold maxLen; omega) (by omega)
    rw [Nat.zero_add, List.nil_append] at hown
    obtain ⟨K, c', rfl, _, _⟩ := own_form hown
    exact ⟨K, c', w', hrun, Rd.of_own hown, (Fresh.own hown).less hbase, ⟨hgr.os, hgr.tape, hgr.output, hgr.size, fun k hk => hgr.block k hk (fun e => by cases e)⟩⟩
theorem step_append_run {o : Oper} {a : Act} {w : World} {K : Act → World → Prop} {Q : Exit → Act → World → Prop} (s x : Operand)
    (ho : o.op = .call { callee := .builtin .append, args := #[s, x], argTypes := #[31, 31] }) (v y v' : Value) (w' : World) (hs : a.eval s = v) (hx : a.eval x = y)
    (hrun : (Builtin.append_ #[31, 31] o.type #[v, y]).run Tryd.prog w = .ok v' w') (h : K (a.put o.dst v') w') : o.wp Tryd.prog a w K Q := by
  unfold Oper.wp execOp
  simp only [ho, resolve, invoke, builtin, Sem.run_bind, Sem.run_pure, Result.andThen_ok, List.map_toArray, List.map_cons, List.map_nil, hs, hx, hrun]
  exact h
theorem info42s : (Tryd.prog.info? 42).map (·.size) = some 2 := by kernel_rfl
/-- Two rows of bytes in new blocks, that may be written. -/
def KVAt (W wx : World) (k v : List UInt8) (s t : Value) : Prop :=
  ∃ K n c V m d, s = .slice K n c ∧ t = .slice V m d ∧ Rd wx wx.heap.size K n k ∧ Fresh W.heap.size wx K ∧ Rd wx wx.heap.size V m v ∧ Fresh W.heap.size wx V ∧ Below W.heap.size W wx
/-- How memory stands while trees are made out of a tree. -/
structure SAt (W wx : World) (i : Nat) (o : Option T) (g : Nat) : Prop where
  tree : TIn All wx wx.heap.size o g
  fine : Fine o
  few : oln o ≤ 40 + i
  bel : Below W.heap.size W wx
theorem SAt.on {W wx w' : World} {i : Nat} {o : Option T} {g : Nat} (h : SAt W wx i o g) (hb : Below wx.heap.size wx w') : SAt W w' i o g :=
  ⟨h.tree.on hb, h.fine, h.few, h.bel.trans (hb.mono h.bel.size)⟩
theorem range_on {w w' : World} {B b o : Nat} {cs : List Value} (h : w.rangeAt b o cs) (hb : Below B w w') (hB : b < B) : w'.rangeAt b o cs := fun j v hv => (hb.cell (p := ⟨b, o + j, none⟩) hB).trans (h j v hv)

set_option maxRecDepth 100000 in
set_option maxHeartbeats 4000000 in
theorem treeStays_any (A : Option Addr) (n c : Nat) (cs : List Ac) (B : Option Addr) (m d : Nat) (ds : List Ac) (w : World) (hc : ARd w w.heap.size A n cs) (hn : n ≤ 9223372036854775807) (hd : ARd w w.heap.size B m ds) (hm : m ≤ 9223372036854775807) (ht : Sh.Tab w 1) (hw : 1 < w.heap.size) :
    Calls Tryd.prog 3 #[.slice A n c, .slice B m d] w fun e w' => e = .returned (.bool true) ∧ Below w.heap.size w w' := by
  have HAW := Lib.hid (awake_any w ht hw)
  have HC := Lib.hid hc
  have HD := Lib.hid hd
  have HT := Lib.hid ht
  clear hc hd ht
  go_enter Tryd.func3, Tryd.ntmps3
  go_wp2_with fail
  refine HAW.out.mono ?_
  rintro e w1 ⟨rfl, hb1⟩
  have hs1 := hb1.size
  have HB1 := Lib.hid hb1
  have HC1 := Lib.hid (grow_any All A n c cs 40 w1 (ARd.more (HC.out.below hb1 (Nat.le_refl _)) hs1) hn (by omega) (Sh.tab_below HT.out hb1 hw) (room (by omega)))
  clear hb1 HAW
  go_wp2_with fail
  refine HC1.out.mono ?_
  rintro e w2 ⟨g, A2, n2, c2, rfl, hT2, hp2, hnc2, _, hF2, hm2, hb2⟩
  generalize grow 40 cs none = o at *
  have hs2 := hb2.size
  have hn40 : n2 ≤ 40 := by have h1 := hp2.len; have h2 := oln_leaves o; omega
  have HLN : Hid (oln o = n2 ∧ n2 ≤ 40) := Lib.hid ⟨by rw [← oln_leaves]; exact hp2.len, hn40⟩
  have HT2 := Lib.hid hT2
  have HP2 := Lib.hid hp2
  have HF2 := Lib.hid hF2
  have HB2 := Lib.hid (HB1.out.trans (hb2.mono hs1))
  have HTB2 := Lib.hid (Sh.tab_below HT.out HB2.out hw)
  have HR := Lib.hid (root_any (G := All) (some o) (some g) w2 ⟨g, rfl, hT2⟩ HTB2.out (by omega))
  rw [ptr_some] at HR
  rw [ptr_some]
  clear hT2 hp2 hF2 hb2 HC1 HB1 hm2
  go_wp2_with fail
  refine HR.out.mono ?_
  rintro e w3 ⟨rfl, hb3⟩
  have hs3 := hb3.size
  rw [show topOf (some o) = o from rfl]
  have hl : (osum o).length = 32 := osum32 o
  simp only []
  have hz49 := zero49
  clear HR
  iterate 4 go_step
  clear hz49
  have hwm := Whole.made w3 29 (zb 32)
  refine wpList_store_mid rfl 29 (.tmp 7) (.tmp 30) rfl w3.heap.size 0 (Sh.bcells (osum o)) rfl rfl ?_ ?_ (Sh.bcells_one _) ?_
  · rw [show (Sh.bcells (osum o)).size = (zb 32).size from by rw [zb_size]; simp [Sh.bcells, hl]]; exact hwm.there_
  · rw [show (Sh.bcells (osum o)).size = (zb 32).size from by rw [zb_size]; simp [Sh.bcells, hl], zb_size]; exact info49
  have hws := hwm.setAll (vs := Sh.bcells (osum o)) (by rw [zb_size]; simp [Sh.bcells, hl])
  have hbs : Below w3.heap.size w3 ((w3.alloc (.cells (zb 32) 29)).setCells w3.heap.size 0 (Sh.bcells (osum o)).toList) := below_setCells w3 w3.heap.size _ 0 ((Below.refl _ _).alloc (Nat.le_refl _) _) (Nat.le_refl _)
  generalize (w3.alloc (.cells (zb 32) 29)).setCells w3.heap.size 0 (Sh.bcells (osum o)).toList = w4 at *
  obtain ⟨gr, hgr⟩ : ∃ g, w3.heap.size = g := ⟨_, rfl⟩
  rw [hgr] at hws ⊢
  have hb24 := hb3.trans (hbs.mono hs3)
  have hr4 : w4.rangeAt gr 0 ((osum o).map V8) := hws.range
  have hg4 : gr < w4.heap.size := hws.lt
  have hs4 : w3.heap.size ≤ w4.heap.size := hbs.size
  have HB4 := Lib.hid (HB2.out.trans (hb24.mono HB2.out.size))
  have HT4 := Lib.hid (HT2.out.on hb24)
  have HP4 := Lib.hid (HP2.out.on hb24)
  have HTB4 := Lib.hid (Sh.tab_below HT.out HB4.out hw)
  have HR4 := Lib.hid hr4
  have hw4 : w.heap.size ≤ w4.heap.size := HB4.out.size
  clear hwm hws hbs hb3 hb24 hr4 HT2 HP2 HB2 HTB2
  go_upto_block 0 with fail
  go_cut [8] from 8 (fun s8 wx => Below w4.heap.size w4 wx)
  case rest =>
    have HB5 := Lib.hid (HB4.out.trans (hcut.mono hw4))
    have HBC := Lib.hid hcut
    have hsc : w4.heap.size ≤ wc.heap.size := hcut.size
    clear hcut
    have heq : ∀ u : World, (Op.equalIn 10000 29 (.agg (Sh.bcells (osum o))) (.agg ((osum o).map V8).toArray)).run Tryd.prog u = .ok true u := fun u => by
      have := run_eq49 (osum o) (osum o) hl hl u
      rw [beq_self_eq_true] at this
      exact this
    have hi : (Tryd.prog.info? 29).map (·.size) = some ((osum o).map V8).length := by rw [List.length_map, hl]; exact info49
    have hrc : wc.rangeAt gr 0 ((osum o).map V8) := range_on HR4.out HBC.out hg4
    go_upto_region 46 with (fail)
    have hS0 : wc.drew.rangeAt gr 0 ((osum o).map V8) := hrc
    refine wp_region_held_drew (S := fun u => u.rangeAt gr 0 ((osum o).map V8)) (by kernel_rfl) hS0 (fun hHeld => ?_)
    clear hS0
    refine wpAnyH_take (i := 0) (oi := { dst := some 152, op := Op.move (Operand.tmp 5), type := 24, pos := "law.go:223", after := #[], guard := none }) (v := ?_) rfl (by kernel_rfl) (by kernel_rfl) (by kernel_rfl) (fun _ _ _ h => h) (Or.inl ⟨by rfl, ?_⟩) (by assumption) ?_
    rotate_left
    · first | (intro w hSw; (try dsimp only at hSw); go_simp; done) | (intro w hSw; (try dsimp only at hSw); go_simp; with_reducible rfl)
    simp only [Act.put, List.setIfInBounds_toArray, List.set_cons_zero, List.set_cons_succ]
    refine wpAnyH_take (i := 2) (oi := { dst := some 154, op := Op.load 29 (Operand.tmp 7), type := 29, pos := "law.go:223", after := #[], guard := none }) (v := .agg ((osum o).map V8).toArray) rfl (by kernel_rfl) (by kernel_rfl) (by kernel_rfl) (fun _ _ _ h => h) (yieldsIf_load_mid (by rfl) 29 (.tmp 7) rfl gr 0 rfl ((osum o).map V8) _ (fun _ h => h) Tryd.underlying29 rfl hi) (by assumption) ?_
    simp only [Act.put, List.setIfInBounds_toArray, List.set_cons_zero, List.set_cons_succ]
    have HTd : Hid (TIn All wc.drew wc.drew.heap.size o g) := Lib.hid (HT4.out.on HBC.out.drew)
    have HPd : Hid (PRd wc.drew wc.drew.heap.size A2 n2 (optLeaves o)) := Lib.hid (HP4.out.on HBC.out.drew)
    have HTBd : Hid (Sh.Tab wc.drew 1) := Lib.hid (Sh.tab_below HT.out HB5.out.drew hw)
    have HBd : Hid (Below w.heap.size w wc.drew) := Lib.hid HB5.out.drew
    have hrd : wc.drew.rangeAt gr 0 ((osum o).map V8) := hrc
    have hsd : w4.heap.size ≤ wc.drew.heap.size := hsc
    clear hHeld hrc HB5 HBC
    generalize wc.drew = wd at *
    have HRT := Lib.hid (root_any (G := All) (some o) (some g) wd ⟨g, rfl, HTd.out⟩ HTBd.out (by omega))
    rw [ptr_some] at HRT
    refine wpAnyH_ready (rs := [1]) (by kernel_rfl) (by simp) ?_
    refine AllReadyH.cons (o := { dst := some 153, op := Op.call { callee := Callee.value (Operand.func 8), args := #[Operand.tmp 152], argTypes := #[24] }, type := 29, pos := "law.go:223", after := #[{ on := 0, ground := Ground.data }], guard := none }) rfl (fun K hK => ?_) AllReadyH.nil
    go_simp
    refine HRT.out.mono ?_
    rintro e w6 ⟨rfl, hb6⟩
    have hs6 := hb6.size
    rw [show topOf (some o) = o from rfl]
    have hr6 := range_on hrd hb6 (by omega)
    have HT6 := Lib.hid (HTd.out.on hb6)
    have HP6 := Lib.hid (HPd.out.on hb6)
    have HB6 := Lib.hid (HBd.out.trans (hb6.mono HBd.out.size))
    refine hK.out _ _ hr6 (fun hHeld => ?_)
    clear hK K HRT hb6 hrd HTd HPd HBd HTBd
    refine wpAnyH_take (i := 3) (oi := { dst := some 155, op := Op.binOp BinOp.eql 29 (Operand.tmp 153) (Operand.tmp 154) 29, type := 4, pos := "law.go:223", after := #[{ on := 1, ground := Ground.data }, { on := 2, ground := Ground.data }], guard := none }) (v := ?_) rfl (by kernel_rfl) (by kernel_rfl) (by kernel_rfl) (fun _ _ _ h => h) (Or.inl ⟨by rfl, ?_⟩) (by assumption) ?_
    rotate_left
    · first | (intro w hSw; (try dsimp only at hSw); go_simp; done) | (intro w hSw; (try dsimp only at hSw); go_simp; with_reducible rfl)
    simp only [Act.put, List.setIfInBounds_toArray, List.set_cons_zero, List.set_cons_succ]
    refine wpAnyH_take (i := 4) (oi := { dst := some 156, op := Op.move (Operand.tmp 155), type := 4, pos := "law.go:223", after := #[{ on := 3, ground := Ground.data }, { on := 1, ground := Ground.chain }], guard := none }) (v := ?_) rfl (by kernel_rfl) (by kernel_rfl) (by kernel_rfl) (fun _ _ _ h => h) (Or.inl ⟨by rfl, ?_⟩) (by assumption) ?_
    rotate_left
    · first | (intro w hSw; (try dsimp only at hSw); go_simp; done) | (intro w hSw; (try dsimp only at hSw); go_simp; with_reducible rfl)
    simp only [Act.put, List.setIfInBounds_toArray, List.set_cons_zero, List.set_cons_succ]
    refine wpAnyH_take (i := 5) (oi := { dst := some 157, op := Op.move (Operand.tmp 5), type := 24, pos := "law.go:223", after := #[{ on := 4, ground := Ground.guard }], guard := some (4, true) }) (v := ?_) rfl (by kernel_rfl) (by kernel_rfl) (by kernel_rfl) (fun _ _ _ h => h) (Or.inl ⟨by rfl, ?_⟩) (by assumption) ?_
    rotate_left
    · first | (intro w hSw; (try dsimp only at hSw); go_simp; done) | (intro w hSw; (try dsimp only at hSw); go_simp; with_reducible rfl)
    simp only [Act.put, List.setIfInBounds_toArray, List.set_cons_zero, List.set_cons_succ]
    refine wpAnyH_take (i := 7) (oi := { dst := some 159, op := Op.move (Operand.tmp 6), type := 25, pos := "law.go:223", after := #[{ on := 4, ground := Ground.guard }], guard := some (4, true) }) (v := ?_) rfl (by kernel_rfl) (by kernel_rfl) (by kernel_rfl) (fun _ _ _ h => h) (Or.inl ⟨by rfl, ?_⟩) (by assumption) ?_
    rotate_left
    · first | (intro w hSw; (try dsimp only at hSw); go_simp; done) | (intro w hSw; (try dsimp only at hSw); go_simp; with_reducible rfl)
    simp only [Act.put, List.setIfInBounds_toArray, List.set_cons_zero, List.set_cons_succ]
    have HAL := Lib.hid (all_any (G := All) o g w6 HT6.out (by have := HLN.out; omega))
    rw [ptr_some] at HAL
    refine wpAnyH_ready (rs := [6]) (by kernel_rfl) (by simp) ?_
    refine AllReadyH.cons (o := { dst := some 158, op := Op.call { callee := Callee.value (Operand.func 12), args := #[Operand.tmp 157], argTypes := #[24] }, type := 25, pos := "law.go:223", after := #[{ on := 5, ground := Ground.data }, { on := 4, ground := Ground.chain }, { on := 4, ground := Ground.guard }], guard := some (4, true) }) rfl (fun K hK => ?_) AllReadyH.nil
    refine Eq.mpr (if_pos (by rfl)) ?_
    go_simp
    refine HAL.out.mono ?_
    rintro e w7 hpo
    obtain ⟨A7, n7, c7, rfl, hp7, hc7, _, hb7⟩ := hpo.pairs
    have hs7 := hb7.size
    have HSP := Lib.hid (samePairs_yes A7 n7 c7 A2 n2 c2 (optLeaves o) w7 hp7 (HP6.out.on hb7) (by have h1 := hp7.len; have h2 := oln_leaves o; have := HLN.out; omega))
    have hr7 := range_on hr6 hb7 (by omega)
    have HB7 := Lib.hid (HB6.out.trans (hb7.mono HB6.out.size))
    refine hK.out _ _ hr7 (fun hHeld => ?_)
    clear hK K HAL hpo hp7 hb7 hr6 HT6 HP6 HB6
    refine wpAnyH_ready (rs := [8]) (by kernel_rfl) (by simp) ?_
    refine AllReadyH.cons (o := { dst := some 160, op := Op.call { callee := Callee.value (Operand.func 14), args := #[Operand.tmp 158, Operand.tmp 159], argTypes := #[25, 25] }, type := 4, pos := "law.go:223", after := #[{ on := 6, ground := Ground.data }, { on := 7, ground := Ground.data }, { on := 6, ground := Ground.chain }, { on := 4, ground := Ground.guard }], guard := some (4, true) }) rfl (fun K hK => ?_) AllReadyH.nil
    refine Eq.mpr (if_pos (by rfl)) ?_
    go_simp
    refine HSP.out.mono ?_
    rintro e w8 ⟨rfl, hb8⟩
    have hr8 := range_on hr7 hb8 (by omega)
    have HB8 := Lib.hid (HB7.out.trans (hb8.mono HB7.out.size))
    refine hK.out _ _ hr8 (fun hHeld => ?_)
    clear hK K HSP hb8 hr7 HB7
    refine wpAnyH_take (i := 9) (oi := { dst := some 161, op := Op.pick (Operand.tmp 156) (Operand.tmp 160) (Operand.const (Value.bool false)), type := 4, pos := "law.go:223", after := #[{ on := 4, ground := Ground.data }, { on := 8, ground := Ground.data }], guard := none }) (v := ?_) rfl (by kernel_rfl) (by kernel_rfl) (by kernel_rfl) (fun _ _ _ h => h) (Or.inl ⟨by rfl, ?_⟩) (by assumption) ?_
    rotate_left
    · first | (intro w hSw; (try dsimp only at hSw); go_simp; done) | (intro w hSw; (try dsimp only at hSw); go_simp; with_reducible rfl)
    simp only [Act.put, List.setIfInBounds_toArray, List.set_cons_zero, List.set_cons_succ]
    refine wpAnyH_take (i := 10) (oi := { dst := some 4, op := Op.assign (Operand.tmp 161), type := 4, pos := "law.go:223", after := #[{ on := 9, ground := Ground.data }, { on := 8, ground := Ground.chain }, { on := 0, ground := Ground.phase }, { on := 1, ground := Ground.phase }, { on := 2, ground := Ground.phase }, { on := 3, ground := Ground.phase }, { on := 4, ground := Ground.phase }, { on := 5, ground := Ground.phase }, { on := 6, ground := Ground.phase }, { on := 7, ground := Ground.phase }, { on := 8, ground := Ground.phase }, { on := 9, ground := Ground.phase }], guard := none }) (v := ?_) rfl (by kernel_rfl) (by kernel_rfl) (by kernel_rfl) (fun _ _ _ h => h) (Or.inl ⟨by rfl, ?_⟩) (by assumption) ?_
    rotate_left
    · first | (intro w hSw; (try dsimp only at hSw); go_simp; done) | (intro w hSw; (try dsimp only at hSw); go_simp; with_reducible rfl)
    simp only [Act.put, List.setIfInBounds_toArray, List.set_cons_zero, List.set_cons_succ]
    refine wpAnyH_done (by kernel_rfl) ?_ _
    go_wp2_with fail
    go_ret
    exact ⟨rfl, HB8.out⟩
  case first =>
    go_wp2_with fail
    go_loopg [8, 34] m (fun gk s8 s34 wx => ∃ i ou gu, i + gk = m ∧ i ≤ 31 ∧ s34 = .int .i64 (i : Nat) ∧ s8 = ptr (some gu) ∧ SAt w4 wx i ou gu)
    case atStart => exact ⟨0, o, g, by omega, by omega, rfl, rfl, ⟨HT4.out, HF2.out, by have := HLN.out; omega, Below.refl _ _⟩⟩
    case round =>
      obtain ⟨i, ou, gu, hi, hi31, rfl, rfl, hS⟩ := hrel
      have HS := Lib.hid hS
      have hs := hS.bel.size
      clear hS
      cases gk with
      | zero =>
        obtain rfl : i = m := by omega
        go_wp2_with fail
        go_meet
        case rel => exact HS.out.bel
      | succ gn =>
        have him : i < m := by omega
        have HLEN := Lib.hid HD.out.1
        obtain ⟨a, hai⟩ : ∃ a, ds[i]? = some a := ⟨_, List.getElem?_eq_getElem (by rw [HLEN.out]; exact him)⟩
        obtain ⟨b, ob, A1, n1, c1, A2', n2', c2', rfl, hbb, k0, k1, k2, k3, m1, m2, m3, m4, r1, r2⟩ := HD.out.2 i a hai
        have HRR := Lib.hid (And.intro r1 r2)
        have hcw : ∀ q, wr.cell? ⟨b, q, none⟩ = w.cell? ⟨b, q, none⟩ := fun q => (HB4.out.trans (HS.out.bel.mono hw4)).cell (p := ⟨b, q, none⟩) hbb
        rw [← hcw] at k0 k1 k2 k3
        clear hai r1 r2 hcw
        have hz29 := zero29
        go_upto_region 8 with (fail)
        refine wp_region_lit ?_
        iterate 15 go_step
        clear hz29 k0 k1 k2 k3
        have hw2 := Whole.made wr 33 #[.int .u8 0, .int .u8 0, .slice none 0 0, .slice none 0 0]
        refine wpList_store_mid rfl 33 (.tmp 10) (.tmp 38) rfl wr.heap.size 0 (a.cells A1 n1 c1 A2' n2' c2') rfl rfl ?_ ?_ (a.one ..) ?_
        · exact hw2.there_
        · exact info29
        have hw3 := hw2.setAll (vs := a.cells A1 n1 c1 A2' n2' c2') rfl
        have hb5 : Below wr.heap.size wr ((wr.alloc (.cells #[.int .u8 0, .int .u8 0, .slice none 0 0, .slice none 0 0] 33)).setCells wr.heap.size 0 (a.cells A1 n1 c1 A2' n2' c2').toList) := below_setCells wr wr.heap.size _ 0 ((Below.refl _ _).alloc (Nat.le_refl _) _) (Nat.le_refl _)
        generalize (wr.alloc (.cells #[.int .u8 0, .int .u8 0, .slice none 0 0, .slice none 0 0] 33)).setCells wr.heap.size 0 (a.cells A1 n1 c1 A2' n2' c2').toList = w5 at *
        have hs5 : wr.heap.size < w5.heap.size := hw3.lt
        have HW5 := Lib.hid hw3
        have HS5 := Lib.hid (HS.out.on hb5)
        clear hw2 hw3 hb5 HS
        generalize wr.heap.size = g3 at *
        have q0 : w5.cell? ⟨g3, 0, none⟩ = some (.int .u8 a.kind.toNat) := HW5.out.at_ rfl
        have q1 : w5.cell? ⟨g3, 1, none⟩ = some (.int .u8 a.no.toNat) := HW5.out.at_ rfl
        have q2 : w5.cell? ⟨g3, 2, none⟩ = some (.slice A1 n1 c1) := HW5.out.at_ rfl
        have q3 : w5.cell? ⟨g3, 3, none⟩ = some (.slice A2' n2' c2') := HW5.out.at_ rfl
        by_cases hi30 : 30 < i
        · have p1 : decide (30 < (i : Int)) = true := decide_eq_true (by omega)
          go_wp2_with fail
          go_meet
          case rel => exact HS5.out.bel
        have p1 : decide (30 < (i : Int)) = false := decide_eq_false (by omega)
        have HR5 := Lib.hid (And.intro ((HRR.out.1.below (HB4.out.trans (HS5.out.bel.mono hw4)) (Nat.le_refl _)).more (Nat.le_trans hw4 HS5.out.bel.size)) ((HRR.out.2.below (HB4.out.trans (HS5.out.bel.mono hw4)) (Nat.le_refl _)).more (Nat.le_trans hw4 HS5.out.bel.size)))
        have HCK := Lib.hid (key_any a A1 A2' n1 c1 n2' c2' w5 HR5.out.1 m1)
        go_wp2_with fail
        refine HCK.out.mono ?_
        rintro e w6 ⟨Ak, nk, ck, rfl, hrk, hnck, hb6⟩
        have hs6 := hb6.size
        have HKL : Hid (a.key.length = nk) := Lib.hid hrk.len
        have HW6 := Lib.hid (HW5.out.below hb6 hs5)
        have HS6 := Lib.hid (HS5.out.on hb6)
        have HR6 := Lib.hid (And.intro ((HR5.out.1.below hb6 (Nat.le_refl _)).more hs6) ((HR5.out.2.below hb6 (Nat.le_refl _)).more hs6))
        have hgs6 : g3 < w6.heap.size := by omega
        clear hb6 hrk HCK HW5 HS5 HR5 q0 q1 q2 q3 p1 HRR
        by_cases hk90 : 90 < nk
        · have p2 : decide (90 < (nk : Int)) = true := decide_eq_true (by omega)
          go_wp2_with fail
          go_meet
          case rel => exact HS6.out.bel
        have p2 : decide (90 < (nk : Int)) = false := decide_eq_false (by omega)
        go_upto_region 10 with (fail)
        obtain ⟨M, hM⟩ : ∃ M : Nat, M = min 100 n2' := ⟨_, rfl⟩
        have hmin : (if (100 : Int) < (n2' : Int) then (100 : Int) else (n2' : Int)) = (M : Int) := by split <;> omega
        have hM1 : M ≤ n2' := by omega
        have hM2 : M ≤ 100 := by omega
        have hM3 : M ≤ c2' := by omega
        have HM := Lib.hid hM
        clear hM p2
        go_cut [11, 12] (fun s11 s12 wx => KVAt w6 wx a.key a.cut s11 s12)
        case first =>
          have hS0 : w6.drew.cell? ⟨g3, 0, none⟩ = some (.int .u8 a.kind.toNat) ∧ w6.drew.cell? ⟨g3, 1, none⟩ = some (.int .u8 a.no.toNat) ∧ w6.drew.cell? ⟨g3, 2, none⟩ = some (.slice A1 n1 c1) ∧ w6.drew.cell? ⟨g3, 3, none⟩ = some (.slice A2' n2' c2') := ⟨HW6.out.at_ rfl, HW6.out.at_ rfl, HW6.out.at_ rfl, HW6.out.at_ rfl⟩
          refine wp_region_held_drew (S := fun u => u.cell? ⟨g3, 0, none⟩ = some (.int .u8 a.kind.toNat) ∧ u.cell? ⟨g3, 1, none⟩ = some (.int .u8 a.no.toNat) ∧ u.cell? ⟨g3, 2, none⟩ = some (.slice A1 n1 c1) ∧ u.cell? ⟨g3, 3, none⟩ = some (.slice A2' n2' c2')) (by kernel_rfl) hS0 (fun hHeld => ?_)
          refine wpAnyH_take (i := 1) (oi := { dst := some 48, op := Op.load 33 (Operand.tmp 10), type := 33, pos := "law.go:196", after := #[], guard := none }) (v := ?_) rfl (by kernel_rfl) (by kernel_rfl) (by kernel_rfl) (fun _ _ _ h => h) (Or.inl ⟨by rfl, ?_⟩) (by assumption) ?_
          rotate_left
          · first | (intro w hSw; (try dsimp only at hSw); go_simp; done) | (intro w hSw; (try dsimp only at hSw); go_simp; with_reducible rfl)
          simp only [Act.put, List.setIfInBounds_toArray, List.set_cons_zero, List.set_cons_succ]
          refine wpAnyH_take (i := 5) (oi := { dst := some 52, op := Op.fieldAddr 33 (Operand.tmp 10) 3, type := 0, pos := "law.go:196", after := #[], guard := none }) (v := ?_) rfl (by kernel_rfl) (by kernel_rfl) (by kernel_rfl) (fun _ _ _ h => h) (Or.inl ⟨by rfl, ?_⟩) (by assumption) ?_
          rotate_left
          · first | (intro w hSw; (try dsimp only at hSw); go_simp; done) | (intro w hSw; (try dsimp only at hSw); go_simp; with_reducible rfl)
          simp only [Act.put, List.setIfInBounds_toArray, List.set_cons_zero, List.set_cons_succ]
          refine wpAnyH_take (i := 6) (oi := { dst := some 53, op := Op.load 31 (Operand.tmp 52), type := 31, pos := "law.go:196", after := #[{ on := 5, ground := Ground.data }], guard := none }) (v := ?_) rfl (by kernel_rfl) (by kernel_rfl) (by kernel_rfl) (fun _ _ _ h => h) (Or.inl ⟨by rfl, ?_⟩) (by assumption) ?_
          rotate_left
          · first | (intro w hSw; (try dsimp only at hSw); go_simp; done) | (intro w hSw; (try dsimp only at hSw); go_simp; with_reducible rfl)
          simp only [Act.put, List.setIfInBounds_toArray, List.set_cons_zero, List.set_cons_succ]
          refine wpAnyH_take (i := 7) (oi := { dst := some 54, op := Op.fieldAddr 33 (Operand.tmp 10) 3, type := 0, pos := "law.go:196", after := #[], guard := none }) (v := ?_) rfl (by kernel_rfl) (by kernel_rfl) (by kernel_rfl) (fun _ _ _ h => h) (Or.inl ⟨by rfl, ?_⟩) (by assumption) ?_
          rotate_left
          · first | (intro w hSw; (try dsimp only at hSw); go_simp; done) | (intro w hSw; (try dsimp only at hSw); go_simp; with_reducible rfl)
          simp only [Act.put, List.setIfInBounds_toArray, List.set_cons_zero, List.set_cons_succ]
          refine wpAnyH_take (i := 8) (oi := { dst := some 55, op := Op.load 31 (Operand.tmp 54), type := 31, pos := "law.go:196", after := #[{ on := 7, ground := Ground.data }], guard := none }) (v := ?_) rfl (by kernel_rfl) (by kernel_rfl) (by kernel_rfl) (fun _ _ _ h => h) (Or.inl ⟨by rfl, ?_⟩) (by assumption) ?_
          rotate_left
          · first | (intro w hSw; (try dsimp only at hSw); go_simp; done) | (intro w hSw; (try dsimp only at hSw); go_simp; with_reducible rfl)
          simp only [Act.put, List.setIfInBounds_toArray, List.set_cons_zero, List.set_cons_succ]
          refine wpAnyH_take (i := 9) (oi := { dst := some 56, op := Op.call { callee := Callee.builtin Builtin.len, args := #[Operand.tmp 55], argTypes := #[31] }, type := 3, pos := "law.go:196", after := #[{ on := 8, ground := Ground.data }], guard := none }) (v := ?_) rfl (by kernel_rfl) (by kernel_rfl) (by kernel_rfl) (fun _ _ _ h => h) (Or.inl ⟨by rfl, ?_⟩) (by assumption) ?_
          rotate_left
          · first | (intro w hSw; (try dsimp only at hSw); go_simp; done) | (intro w hSw; (try dsimp only at hSw); go_simp; with_reducible rfl)
          simp only [Act.put, List.setIfInBounds_toArray, List.set_cons_zero, List.set_cons_succ]
          refine wpAnyH_take (i := 10) (oi := { dst := some 57, op := Op.call { callee := Callee.builtin Builtin.min, args := #[Operand.tmp 56, Operand.const (Value.int IntKind.i64 100)], argTypes := #[3, 3] }, type := 3, pos := "law.go:196", after := #[{ on := 9, ground := Ground.data }], guard := none }) (v := ?_) rfl (by kernel_rfl) (by kernel_rfl) (by kernel_rfl) (fun _ _ _ h => h) (Or.inl ⟨by rfl, ?_⟩) (by assumption) ?_
          rotate_left
          · first | (intro w hSw; (try dsimp only at hSw); go_simp; done) | (intro w hSw; (try dsimp only at hSw); go_simp; with_reducible rfl)
          simp only [Act.put, List.setIfInBounds_toArray, List.set_cons_zero, List.set_cons_succ]
          refine wpAnyH_take (i := 11) (oi := { dst := some 58, op := Op.slice 31 (Operand.tmp 53) none (some (Operand.tmp 57)) none, type := 31, pos := "law.go:196", after := #[{ on := 6, ground := Ground.data }, { on := 10, ground := Ground.data }], guard := none }) (v := ?_) rfl (by kernel_rfl) (by kernel_rfl) (by kernel_rfl) (fun _ _ _ h => h) (Or.inl ⟨by rfl, ?_⟩) (by assumption) ?_
          rotate_left
          · first | (intro w hSw; (try dsimp only at hSw); go_simp; done) | (intro w hSw; (try dsimp only at hSw); go_simp; with_reducible rfl)
          simp only [Act.put, List.setIfInBounds_toArray, List.set_cons_zero, List.set_cons_succ]
          have HX0 : Hid (w6.heap.size = w6.drew.heap.size ∧ Below w6.heap.size w6 w6.drew) := Lib.hid ⟨rfl, (Below.refl _ _).drew⟩
          have HR7 : Hid ((∀ u, Below w6.drew.heap.size w6.drew u → Rd u u.heap.size A1 n1 a.raw) ∧ ∀ u, Below w6.drew.heap.size w6.drew u → Rd u u.heap.size A2' M a.cut) := Lib.hid ⟨fun u hb => (Rd.below (w := w6.drew) HR6.out.1 hb (Nat.le_refl _)).more hb.size, fun u hb => by
            have h := ((Rd.below (w := w6.drew) HR6.out.2 hb (Nat.le_refl _)).more hb.size).pre M hM1
            rwa [a.cut_take n2' HR6.out.2.len M HM.out] at h⟩
          have HCELL : Hid (∀ u, Below w6.drew.heap.size w6.drew u → u.cell? ⟨g3, 0, none⟩ = some (.int .u8 a.kind.toNat) ∧ u.cell? ⟨g3, 1, none⟩ = some (.int .u8 a.no.toNat) ∧ u.cell? ⟨g3, 2, none⟩ = some (.slice A1 n1 c1) ∧ u.cell? ⟨g3, 3, none⟩ = some (.slice A2' n2' c2')) := Lib.hid (fun u hb => ⟨(HW6.out.below (w := w6.drew) hb hgs6).at_ rfl, (HW6.out.below (w := w6.drew) hb hgs6).at_ rfl, (HW6.out.below (w := w6.drew) hb hgs6).at_ rfl, (HW6.out.below (w := w6.drew) hb hgs6).at_ rfl⟩)
          clear hS0 hHeld hmin
          generalize w6.drew = x0 at *
          have HBX := Lib.hid (Below.refl x0.heap.size x0)
          refine wpAnyH_ready (rs := [0, 2, 4]) (by kernel_rfl) (by simp) ?_
          refine (AllReadyH.cons (o := { dst := some 47, op := Op.buildSlice 31 0 #[], type := 31, pos := "law.go:196", after := #[], guard := none }) rfl (fun K hK => ?_) (AllReadyH.cons (o := { dst := some 49, op := Op.call { callee := Callee.value (Operand.func 9), args := #[Operand.tmp 48], argTypes := #[33] }, type := 31, pos := "law.go:196", after := #[{ on := 1, ground := Ground.data }], guard := none }) rfl (fun K hK => ?_) (AllReadyH.cons (o := { dst := some 51, op := Op.buildSlice 31 0 #[], type := 31, pos := "law.go:196", after := #[], guard := none }) rfl (fun K hK => ?_) AllReadyH.nil)))
          · refine Eq.mpr (if_pos (by rfl)) ?_
            go_simp
            have hbb : Below x0.heap.size x0 (x0.alloc (.cells #[] 5)) := (Below.refl _ _).alloc (Nat.le_refl _) _
            have he : (x0.alloc (.cells #[] 5)).ownsRow w6.heap.size 5 1 (.slice (some ⟨x0.heap.size, 0, none⟩) 0 0) 0 [] := World.ownsRow_lit x0 #[] 0 (by rw [HX0.out.1]; exact HBX.out.size) (by unfold maxLen; omega) rfl
            have hcl := HCELL.out _ (HBX.out.trans (hbb.mono HBX.out.size))
            generalize x0.alloc (.cells #[] 5) = x1 at *
            have hsz1 : x0.heap.size ≤ x1.heap.size := hbb.size
            have HBX := Lib.hid (HBX.out.trans (hbb.mono HBX.out.size))
            have HE0 := Lib.hid he
            obtain ⟨E0, hE0⟩ : ∃ g, x0.heap.size = g := ⟨_, rfl⟩
            rw [hE0] at HE0 ⊢
            refine hK.out _ _ hcl (fun hHeld => ?_)
            clear hK K hbb he hcl hE0
            refine wpAnyH_ready (rs := [2, 4]) (by kernel_rfl) (by simp) ?_
            refine (AllReadyH.cons (o := { dst := some 49, op := Op.call { callee := Callee.value (Operand.func 9), args := #[Operand.tmp 48], argTypes := #[33] }, type := 31, pos := "law.go:196", after := #[{ on := 1, ground := Ground.data }], guard := none }) rfl (fun K hK => ?_) (AllReadyH.cons (o := { dst := some 51, op := Op.buildSlice 31 0 #[], type := 31, pos := "law.go:196", after := #[], guard := none }) rfl (fun K hK => ?_) AllReadyH.nil))
            · have HCK := Lib.hid (key_any a A1 A2' n1 c1 n2' c2' x1 (HR7.out.1 _ HBX.out) m1)
              refine Eq.mpr (if_pos (by rfl)) ?_
              go_simp
              refine HCK.out.mono ?_
              rintro e x2 ⟨Ay, ny, cy, rfl, hry, -, hbb⟩
              have hcl := HCELL.out _ (HBX.out.trans (hbb.mono HBX.out.size))
              have hsz2 : x1.heap.size ≤ x2.heap.size := hbb.size
              have HBX := Lib.hid (HBX.out.trans (hbb.mono HBX.out.size))
              have HE0 := Lib.hid (own_keep HE0.out hbb)
              have HKY := Lib.hid hry
              have hny : ny ≤ 90 := by rw [← hry.len, HKL.out]; omega
              refine hK.out _ _ hcl (fun hHeld => ?_)
              clear hK K hbb hcl HCK hry
              refine wpAnyH_ready (rs := [3, 4]) (by kernel_rfl) (by simp) ?_
              refine (AllReadyH.cons (o := { dst := some 50, op := Op.call { callee := Callee.builtin Builtin.append, args := #[Operand.tmp 47, Operand.tmp 49], argTypes := #[31, 31] }, type := 31, pos := "law.go:196", after := #[{ on := 0, ground := Ground.data }, { on := 2, ground := Ground.data }, { on := 2, ground := Ground.chain }], guard := none }) rfl (fun K hK => ?_) (AllReadyH.cons (o := { dst := some 51, op := Op.buildSlice 31 0 #[], type := 31, pos := "law.go:196", after := #[], guard := none }) rfl (fun K hK => ?_) AllReadyH.nil))
              · refine Eq.mpr (if_pos (by rfl)) ?_
                obtain ⟨Kk, ck2, x3, hrun, hrk, hfk, hbb⟩ := append_fresh x2 E0 w6.heap.size _ HE0.out Ay ny cy a.key HKY.out (by omega) (by rw [HX0.out.1]; exact HBX.out.size) 31
                refine step_append_run (.tmp 47) (.tmp 49) rfl _ _ _ _ rfl rfl hrun ?_
                have hcl := HCELL.out _ (HBX.out.trans (hbb.mono HBX.out.size))
                have hsz3 : x2.heap.size ≤ x3.heap.size := hbb.size
                have HBX := Lib.hid (HBX.out.trans (hbb.mono HBX.out.size))
                have HE0 := Lib.hid (own_keep HE0.out hbb)
                have HKY := Lib.hid ((HKY.out.below hbb (Nat.le_refl _)).more hbb.size)
                have HKK := Lib.hid (And.intro hrk hfk)
                refine hK.out _ _ hcl (fun hHeld => ?_)
                clear hK K hbb hcl hrun hrk hfk
                simp only [Act.put, List.setIfInBounds_toArray, List.set_cons_zero, List.set_cons_succ]
                refine wpAnyH_ready (rs := [4]) (by kernel_rfl) (by simp) ?_
                refine (AllReadyH.cons (o := { dst := some 51, op := Op.buildSlice 31 0 #[], type := 31, pos := "law.go:196", after := #[], guard := none }) rfl (fun K hK => ?_) AllReadyH.nil)
                refine Eq.mpr (if_pos (by rfl)) ?_
                go_simp
                have hbb : Below x3.heap.size x3 (x3.alloc (.cells #[] 5)) := (Below.refl _ _).alloc (Nat.le_refl _) _
                have he : (x3.alloc (.cells #[] 5)).ownsRow w6.heap.size 5 1 (.slice (some ⟨x3.heap.size, 0, none⟩) 0 0) 0 [] := World.ownsRow_lit x3 #[] 0 (by rw [HX0.out.1]; exact HBX.out.size) (by unfold maxLen; omega) rfl
                have hcl := HCELL.out _ (HBX.out.trans (hbb.mono HBX.out.size))
                generalize x3.alloc (.cells #[] 5) = x4 at *
                have hsz4 : x3.heap.size ≤ x4.heap.size := hbb.size
                have HBX := Lib.hid (HBX.out.trans (hbb.mono HBX.out.size))
                have HE0 := Lib.hid (own_keep HE0.out hbb)
                have HKY := Lib.hid ((HKY.out.below hbb (Nat.le_refl _)).more hbb.size)
                have HKK := Lib.hid (And.intro ((HKK.out.1.below hbb (Nat.le_refl _)).more hbb.size) (HKK.out.2.below hbb (Nat.le_refl _)))
                have HE4 := Lib.hid he
                obtain ⟨E4, hE4⟩ : ∃ g, x3.heap.size = g := ⟨_, rfl⟩
                rw [hE4] at HE4 ⊢
                refine hK.out _ _ hcl (fun hHeld => ?_)
                clear hK K hbb he hcl hE4
                refine wpAnyH_ready (rs := [12]) (by kernel_rfl) (by simp) ?_
                refine (AllReadyH.cons (o := { dst := some 59, op := Op.call { callee := Callee.builtin Builtin.append, args := #[Operand.tmp 51, Operand.tmp 58], argTypes := #[31, 31] }, type := 31, pos := "law.go:196", after := #[{ on := 4, ground := Ground.data }, { on := 11, ground := Ground.data }, { on := 3, ground := Ground.chain }], guard := none }) rfl (fun K hK => ?_) AllReadyH.nil)
                refine Eq.mpr (if_pos (by rfl)) ?_
                obtain ⟨Kv, cv, x5, hrun, hrk, hfk, hbb⟩ := append_fresh x4 E4 w6.heap.size _ HE4.out A2' M c2' a.cut (HR7.out.2 _ HBX.out) (by omega) (by rw [HX0.out.1]; exact HBX.out.size) 31
                refine step_append_run (.tmp 51) (.tmp 58) rfl _ _ _ _ rfl rfl hrun ?_
                have hcl := HCELL.out _ (HBX.out.trans (hbb.mono HBX.out.size))
                have hsz5 : x4.heap.size ≤ x5.heap.size := hbb.size
                have HBX := Lib.hid (HBX.out.trans (hbb.mono HBX.out.size))
                have HE0 := Lib.hid (own_keep HE0.out hbb)
                have HE4 := Lib.hid (own_keep HE4.out hbb)
                have HKY := Lib.hid ((HKY.out.below hbb (Nat.le_refl _)).more hbb.size)
                have HKK := Lib.hid (And.intro ((HKK.out.1.below hbb (Nat.le_refl _)).more hbb.size) (HKK.out.2.below hbb (Nat.le_refl _)))
                have HVV := Lib.hid (And.intro hrk hfk)
                refine hK.out _ _ hcl (fun hHeld => ?_)
                clear hK K hbb hcl hrun hrk hfk
                simp only [Act.put, List.setIfInBounds_toArray, List.set_cons_zero, List.set_cons_succ]
                refine wpAnyH_take (i := 13) (oi := { dst := some 11, op := Op.assign (Operand.tmp 50), type := 31, pos := "law.go:196", after := #[{ on := 3, ground := Ground.data }, { on := 12, ground := Ground.chain }, { on := 0, ground := Ground.phase }, { on := 1, ground := Ground.phase }, { on := 2, ground := Ground.phase }, { on := 3, ground := Ground.phase }, { on := 4, ground := Ground.textOnly Departure.lateStores }, { on := 5, ground := Ground.textOnly Departure.lateStores }, { on := 6, ground := Ground.textOnly Departure.lateStores }, { on := 7, ground := Ground.textOnly Departure.lateStores }, { on := 8, ground := Ground.textOnly Departure.lateStores }, { on := 9, ground := Ground.textOnly Departure.lateStoresUnsure }, { on := 10, ground := Ground.textOnly Departure.lateStoresUnsure }, { on := 11, ground := Ground.textOnly Departure.lateStoresUnsure }, { on := 12, ground := Ground.textOnly Departure.lateStoresUnsure }], guard := none }) (v := ?_) rfl (by kernel_rfl) (by kernel_rfl) (by kernel_rfl) (fun _ _ _ h => h) (Or.inl ⟨by rfl, ?_⟩) (by assumption) ?_
                rotate_left
                · first | (intro w hSw; (try dsimp only at hSw); go_simp; done) | (intro w hSw; (try dsimp only at hSw); go_simp; with_reducible rfl)
                simp only [Act.put, List.setIfInBounds_toArray, List.set_cons_zero, List.set_cons_succ]
                refine wpAnyH_take (i := 14) (oi := { dst := some 12, op := Op.assign (Operand.tmp 59), type := 31, pos := "law.go:196", after := #[{ on := 12, ground := Ground.data }, { on := 13, ground := Ground.chain }, { on := 0, ground := Ground.phase }, { on := 1, ground := Ground.phase }, { on := 2, ground := Ground.phase }, { on := 3, ground := Ground.phase }, { on := 4, ground := Ground.phase }, { on := 5, ground := Ground.phase }, { on := 6, ground := Ground.phase }, { on := 7, ground := Ground.phase }, { on := 8, ground := Ground.phase }, { on := 9, ground := Ground.phase }, { on := 10, ground := Ground.phase }, { on := 11, ground := Ground.phase }, { on := 12, ground := Ground.phase }, { on := 13, ground := Ground.phase }], guard := none }) (v := ?_) rfl (by kernel_rfl) (by kernel_rfl) (by kernel_rfl) (fun _ _ _ h => h) (Or.inl ⟨by rfl, ?_⟩) (by assumption) ?_
                rotate_left
                · first | (intro w hSw; (try dsimp only at hSw); go_simp; done) | (intro w hSw; (try dsimp only at hSw); go_simp; with_reducible rfl)
                simp only [Act.put, List.setIfInBounds_toArray, List.set_cons_zero, List.set_cons_succ]
                refine wpAnyH_done (by kernel_rfl) ?_ _
                go_wp2_with fail
                go_meet
                case rel => exact ⟨Kk, ny, ck2, Kv, M, cv, rfl, rfl, HKK.out.1, HKK.out.2, HVV.out.1, HVV.out.2, HX0.out.2.trans (HBX.out.mono (Nat.le_of_eq HX0.out.1))⟩
              · refine Eq.mpr (if_pos (by rfl)) ?_
                go_simp
                have hbb : Below x2.heap.size x2 (x2.alloc (.cells #[] 5)) := (Below.refl _ _).alloc (Nat.le_refl _) _
                have he : (x2.alloc (.cells #[] 5)).ownsRow w6.heap.size 5 1 (.slice (some ⟨x2.heap.size, 0, none⟩) 0 0) 0 [] := World.ownsRow_lit x2 #[] 0 (by rw [HX0.out.1]; exact HBX.out.size) (by unfold maxLen; omega) rfl
                have hcl := HCELL.out _ (HBX.out.trans (hbb.mono HBX.out.size))
                generalize x2.alloc (.cells #[] 5) = x3 at *
                have hsz3 : x2.heap.size ≤ x3.heap.size := hbb.size
                have HBX := Lib.hid (HBX.out.trans (hbb.mono HBX.out.size))
                have HE0 := Lib.hid (own_keep HE0.out hbb)
                have HKY := Lib.hid ((HKY.out.below hbb (Nat.le_refl _)).more hbb.size)
                have HE4 := Lib.hid he
                obtain ⟨E4, hE4⟩ : ∃ g, x2.heap.size = g := ⟨_, rfl⟩
                rw [hE4] at HE4 ⊢
                refine hK.out _ _ hcl (fun hHeld => ?_)
                clear hK K hbb he hcl hE4
                refine wpAnyH_ready (rs := [3]) (by kernel_rfl) (by simp) ?_
                refine (AllReadyH.cons (o := { dst := some 50, op := Op.call { callee := Callee.builtin Builtin.append, args := #[Operand.tmp 47, Operand.tmp 49], argTypes := #[31, 31] }, type := 31, pos := "law.go:196", after := #[{ on := 0, ground := Ground.data }, { on := 2, ground := Ground.data }, { on := 2, ground := Ground.chain }], guard := none }) rfl (fun K hK => ?_) AllReadyH.nil)
                refine Eq.mpr (if_pos (by rfl)) ?_
                obtain ⟨Kk, ck2, x4, hrun, hrk, hfk, hbb⟩ := append_fresh x3 E0 w6.heap.size _ HE0.out Ay ny cy a.key HKY.out (by omega) (by rw [HX0.out.1]; exact HBX.out.size) 31
                refine step_append_run (.tmp 47) (.tmp 49) rfl _ _ _ _ rfl rfl hrun ?_
                have hcl := HCELL.out _ (HBX.out.trans (hbb.mono HBX.out.size))
                have hsz4 : x3.heap.size ≤ x4.heap.size := hbb.size
                have HBX := Lib.hid (HBX.out.trans (hbb.mono HBX.out.size))
                have HE0 := Lib.hid (own_keep HE0.out hbb)
                have HE4 := Lib.hid (own_keep HE4.out hbb)
                have HKY := Lib.hid ((HKY.out.below hbb (Nat.le_refl _)).more hbb.size)
                have HKK := Lib.hid (And.intro hrk hfk)
                refine hK.out _ _ hcl (fun hHeld => ?_)
                clear hK K hbb hcl hrun hrk hfk
                simp only [Act.put, List.setIfInBounds_toArray, List.set_cons_zero, List.set_cons_succ]
                refine wpAnyH_ready (rs := [12]) (by kernel_rfl) (by simp) ?_
                refine (AllReadyH.cons (o := { dst := some 59, op := Op.call { callee := Callee.builtin Builtin.append, args := #[Operand.tmp 51, Operand.tmp 58], argTypes := #[31, 31] }, type := 31, pos := "law.go:196", after := #[{ on := 4, ground := Ground.data }, { on := 11, ground := Ground.data }, { on := 3, ground := Ground.chain }], guard := none }) rfl (fun K hK => ?_) AllReadyH.nil)
                refine Eq.mpr (if_pos (by rfl)) ?_
                obtain ⟨Kv, cv, x5, hrun, hrk, hfk, hbb⟩ := append_fresh x4 E4 w6.heap.size _ HE4.out A2' M c2' a.cut (HR7.out.2 _ HBX.out) (by omega) (by rw [HX0.out.1]; exact HBX.out.size) 31
                refine step_append_run (.tmp 51) (.tmp 58) rfl _ _ _ _ rfl rfl hrun ?_
                have hcl := HCELL.out _ (HBX.out.trans (hbb.mono HBX.out.size))
                have hsz5 : x4.heap.size ≤ x5.heap.size := hbb.size
                have HBX := Lib.hid (HBX.out.trans (hbb.mono HBX.out.size))
                have HE0 := Lib.hid (own_keep HE0.out hbb)
                have HE4 := Lib.hid (own_keep HE4.out hbb)
                have HKY := Lib.hid ((HKY.out.below hbb (Nat.le_refl _)).more hbb.size)
                have HKK := Lib.hid (And.intro ((HKK.out.1.below hbb (Nat.le_refl _)).more hbb.size) (HKK.out.2.below hbb (Nat.le_refl _)))
                have HVV := Lib.hid (And.intro hrk hfk)
                refine hK.out _ _ hcl (fun hHeld => ?_)
                clear hK K hbb hcl hrun hrk hfk
                simp only [Act.put, List.setIfInBounds_toArray, List.set_cons_zero, List.set_cons_succ]
                refine wpAnyH_take (i := 13) (oi := { dst := some 11, op := Op.assign (Operand.tmp 50), type := 31, pos := "law.go:196", after := #[{ on := 3, ground := Ground.data }, { on := 12, ground := Ground.chain }, { on := 0, ground := Ground.phase }, { on := 1, ground := Ground.phase }, { on := 2, ground := Ground.phase }, { on := 3, ground := Ground.phase }, { on := 4, ground := Ground.textOnly Departure.lateStores }, { on := 5, ground := Ground.textOnly Departure.lateStores }, { on := 6, ground := Ground.textOnly Departure.lateStores }, { on := 7, ground := Ground.textOnly Departure.lateStores }, { on := 8, ground := Ground.textOnly Departure.lateStores }, { on := 9, ground := Ground.textOnly Departure.lateStoresUnsure }, { on := 10, ground := Ground.textOnly Departure.lateStoresUnsure }, { on := 11, ground := Ground.textOnly Departure.lateStoresUnsure }, { on := 12, ground := Ground.textOnly Departure.lateStoresUnsure }], guard := none }) (v := ?_) rfl (by kernel_rfl) (by kernel_rfl) (by kernel_rfl) (fun _ _ _ h => h) (Or.inl ⟨by rfl, ?_⟩) (by assumption) ?_
                rotate_left
                · first | (intro w hSw; (try dsimp only at hSw); go_simp; done) | (intro w hSw; (try dsimp only at hSw); go_simp; with_reducible rfl)
                simp only [Act.put, List.setIfInBounds_toArray, List.set_cons_zero, List.set_cons_succ]
                refine wpAnyH_take (i := 14) (oi := { dst := some 12, op := Op.assign (Operand.tmp 59), type := 31, pos := "law.go:196", after := #[{ on := 12, ground := Ground.data }, { on := 13, ground := Ground.chain }, { on := 0, ground := Ground.phase }, { on := 1, ground := Ground.phase }, { on := 2, ground := Ground.phase }, { on := 3, ground := Ground.phase }, { on := 4, ground := Ground.phase }, { on := 5, ground := Ground.phase }, { on := 6, ground := Ground.phase }, { on := 7, ground := Ground.phase }, { on := 8, ground := Ground.phase }, { on := 9, ground := Ground.phase }, { on := 10, ground := Ground.phase }, { on := 11, ground := Ground.phase }, { on := 12, ground := Ground.phase }, { on := 13, ground := Ground.phase }], guard := none }) (v := ?_) rfl (by kernel_rfl) (by kernel_rfl) (by kernel_rfl) (fun _ _ _ h => h) (Or.inl ⟨by rfl, ?_⟩) (by assumption) ?_
                rotate_left
                · first | (intro w hSw; (try dsimp only at hSw); go_simp; done) | (intro w hSw; (try dsimp only at hSw); go_simp; with_reducible rfl)
                simp only [Act.put, List.setIfInBounds_toArray, List.set_cons_zero, List.set_cons_succ]
                refine wpAnyH_done (by kernel_rfl) ?_ _
                go_wp2_with fail
                go_meet
                case rel => exact ⟨Kk, ny, ck2, Kv, M, cv, rfl, rfl, HKK.out.1, HKK.out.2, HVV.out.1, HVV.out.2, HX0.out.2.trans (HBX.out.mono (Nat.le_of_eq HX0.out.1))⟩
            · refine Eq.mpr (if_pos (by rfl)) ?_
              go_simp
              have hbb : Below x1.heap.size x1 (x1.alloc (.cells #[] 5)) := (Below.refl _ _).alloc (Nat.le_refl _) _
              have he : (x1.alloc (.cells #[] 5)).ownsRow w6.heap.size 5 1 (.slice (some ⟨x1.heap.size, 0, none⟩) 0 0) 0 [] := World.ownsRow_lit x1 #[] 0 (by rw [HX0.out.1]; exact HBX.out.size) (by unfold maxLen; omega) rfl
              have hcl := HCELL.out _ (HBX.out.trans (hbb.mono HBX.out.size))
              generalize x1.alloc (.cells #[] 5) = x2 at *
              have hsz2 : x1.heap.size ≤ x2.heap.size := hbb.size
              have HBX := Lib.hid (HBX.out.trans (hbb.mono HBX.out.size))
              have HE0 := Lib.hid (own_keep HE0.out hbb)
              have HE4 := Lib.hid he
              obtain ⟨E4, hE4⟩ : ∃ g, x1.heap.size = g := ⟨_, rfl⟩
              rw [hE4] at HE4 ⊢
              refine hK.out _ _ hcl (fun hHeld => ?_)
              clear hK K hbb he hcl hE4
              refine wpAnyH_ready (rs := [2]) (by kernel_rfl) (by simp) ?_
              refine (AllReadyH.cons (o := { dst := some 49, op := Op.call { callee := Callee.value (Operand.func 9), args := #[Operand.tmp 48], argTypes := #[33] }, type := 31, pos := "law.go:196", after := #[{ on := 1, ground := Ground.data }], guard := none }) rfl (fun K hK => ?_) AllReadyH.nil)
              have HCK := Lib.hid (key_any a A1 A2' n1 c1 n2' c2' x2 (HR7.out.1 _ HBX.out) m1)
              refine Eq.mpr (if_pos (by rfl)) ?_
              go_simp
              refine HCK.out.mono ?_
              rintro e x3 ⟨Ay, ny, cy, rfl, hry, -, hbb⟩
              have hcl := HCELL.out _ (HBX.out.trans (hbb.mono HBX.out.size))
              have hsz3 : x2.heap.size ≤ x3.heap.size := hbb.size
              have HBX := Lib.hid (HBX.out.trans (hbb.mono HBX.out.size))
              have HE0 := Lib.hid (own_keep HE0.out hbb)
              have HE4 := Lib.hid (own_keep HE4.out hbb)
              have HKY := Lib.hid hry
              have hny : ny ≤ 90 := by rw [← hry.len, HKL.out]; omega
              refine hK.out _ _ hcl (fun hHeld => ?_)
              clear hK K hbb hcl HCK hry
              refine wpAnyH_ready (rs := [3]) (by kernel_rfl) (by simp) ?_
              refine (AllReadyH.cons (o := { dst := some 50, op := Op.call { callee := Callee.builtin Builtin.append, args := #[Operand.tmp 47, Operand.tmp 49], argTypes := #[31, 31] }, type := 31, pos := "law.go:196", after := #[{ on := 0, ground := Ground.data }, { on := 2, ground := Ground.data }, { on := 2, ground := Ground.chain }], guard := none }) rfl (fun K hK => ?_) AllReadyH.nil)
              refine Eq.mpr (if_pos (by rfl)) ?_
              obtain ⟨Kk, ck2, x4, hrun, hrk, hfk, hbb⟩ := append_fresh x3 E0 w6.heap.size _ HE0.out Ay ny cy a.key HKY.out (by omega) (by rw [HX0.out.1]; exact HBX.out.size) 31
              refine step_append_run (.tmp 47) (.tmp 49) rfl _ _ _ _ rfl rfl hrun ?_
              have hcl := HCELL.out _ (HBX.out.trans (hbb.mono HBX.out.size))
              have hsz4 : x3.heap.size ≤ x4.heap.size := hbb.size
              have HBX := Lib.hid (HBX.out.trans (hbb.mono HBX.out.size))
              have HE0 := Lib.hid (own_keep HE0.out hbb)
              have HE4 := Lib.hid (own_keep HE4.out hbb)
              have HKY := Lib.hid ((HKY.out.below hbb (Nat.le_refl _)).more hbb.size)
              have HKK := Lib.hid (And.intro hrk hfk)
              refine hK.out _ _ hcl (fun hHeld => ?_)
              clear hK K hbb hcl hrun hrk hfk
              simp only [Act.put, List.setIfInBounds_toArray, List.set_cons_zero, List.set_cons_succ]
              refine wpAnyH_ready (rs := [12]) (by kernel_rfl) (by simp) ?_
              refine (AllReadyH.cons (o := { dst := some 59, op := Op.call { callee := Callee.builtin Builtin.append, args := #[Operand.tmp 51, Operand.tmp 58], argTypes := #[31, 31] }, type := 31, pos := "law.go:196", after := #[{ on := 4, ground := Ground.data }, { on := 11, ground := Ground.data }, { on := 3, ground := Ground.chain }], guard := none }) rfl (fun K hK => ?_) AllReadyH.nil)
              refine Eq.mpr (if_pos (by rfl)) ?_
              obtain ⟨Kv, cv, x5, hrun, hrk, hfk, hbb⟩ := append_fresh x4 E4 w6.heap.size _ HE4.out A2' M c2' a.cut (HR7.out.2 _ HBX.out) (by omega) (by rw [HX0.out.1]; exact HBX.out.size) 31
              refine step_append_run (.tmp 51) (.tmp 58) rfl _ _ _ _ rfl rfl hrun ?_
              have hcl := HCELL.out _ (HBX.out.trans (hbb.mono HBX.out.size))
              have hsz5 : x4.heap.size ≤ x5.heap.size := hbb.size
              have HBX := Lib.hid (HBX.out.trans (hbb.mono HBX.out.size))
              have HE0 := Lib.hid (own_keep HE0.out hbb)
              have HE4 := Lib.hid (own_keep HE4.out hbb)
              have HKY := Lib.hid ((HKY.out.below hbb (Nat.le_refl _)).more hbb.size)
              have HKK := Lib.hid (And.intro ((HKK.out.1.below hbb (Nat.le_refl _)).more hbb.size) (HKK.out.2.below hbb (Nat.le_refl _)))
              have HVV := Lib.hid (And.intro hrk hfk)
              refine hK.out _ _ hcl (fun hHeld => ?_)
              clear hK K hbb hcl hrun hrk hfk
              simp only [Act.put, List.setIfInBounds_toArray, List.set_cons_zero, List.set_cons_succ]
              refine wpAnyH_take (i := 13) (oi := { dst := some 11, op := Op.assign (Operand.tmp 50), type := 31, pos := "law.go:196", after := #[{ on := 3, ground := Ground.data }, { on := 12, ground := Ground.chain }, { on := 0, ground := Ground.phase }, { on := 1, ground := Ground.phase }, { on := 2, ground := Ground.phase }, { on := 3, ground := Ground.phase }, { on := 4, ground := Ground.textOnly Departure.lateStores }, { on := 5, ground := Ground.textOnly Departure.lateStores }, { on := 6, ground := Ground.textOnly Departure.lateStores }, { on := 7, ground := Ground.textOnly Departure.lateStores }, { on := 8, ground := Ground.textOnly Departure.lateStores }, { on := 9, ground := Ground.textOnly Departure.lateStoresUnsure }, { on := 10, ground := Ground.textOnly Departure.lateStoresUnsure }, { on := 11, ground := Ground.textOnly Departure.lateStoresUnsure }, { on := 12, ground := Ground.textOnly Departure.lateStoresUnsure }], guard := none }) (v := ?_) rfl (by kernel_rfl) (by kernel_rfl) (by kernel_rfl) (fun _ _ _ h => h) (Or.inl ⟨by rfl, ?_⟩) (by assumption) ?_
              rotate_left
              · first | (intro w hSw; (try dsimp only at hSw); go_simp; done) | (intro w hSw; (try dsimp only at hSw); go_simp; with_reducible rfl)
              simp only [Act.put, List.setIfInBounds_toArray, List.set_cons_zero, List.set_cons_succ]
              refine wpAnyH_take (i := 14) (oi := { dst := some 12, op := Op.assign (Operand.tmp 59), type := 31, pos := "law.go:196", after := #[{ on := 12, ground := Ground.data }, { on := 13, ground := Ground.chain }, { on := 0, ground := Ground.phase }, { on := 1, ground := Ground.phase }, { on := 2, ground := Ground.phase }, { on := 3, ground := Ground.phase }, { on := 4, ground := Ground.phase }, { on := 5, ground := Ground.phase }, { on := 6, ground := Ground.phase }, { on := 7, ground := Ground.phase }, { on := 8, ground := Ground.phase }, { on := 9, ground := Ground.phase }, { on := 10, ground := Ground.phase }, { on := 11, ground := Ground.phase }, { on := 12, ground := Ground.phase }, { on := 13, ground := Ground.phase }], guard := none }) (v := ?_) rfl (by kernel_rfl) (by kernel_rfl) (by kernel_rfl) (fun _ _ _ h => h) (Or.inl ⟨by rfl, ?_⟩) (by assumption) ?_
              rotate_left
              · first | (intro w hSw; (try dsimp only at hSw); go_simp; done) | (intro w hSw; (try dsimp only at hSw); go_simp; with_reducible rfl)
              simp only [Act.put, List.setIfInBounds_toArray, List.set_cons_zero, List.set_cons_succ]
              refine wpAnyH_done (by kernel_rfl) ?_ _
              go_wp2_with fail
              go_meet
              case rel => exact ⟨Kk, ny, ck2, Kv, M, cv, rfl, rfl, HKK.out.1, HKK.out.2, HVV.out.1, HVV.out.2, HX0.out.2.trans (HBX.out.mono (Nat.le_of_eq HX0.out.1))⟩
          · have HCK := Lib.hid (key_any a A1 A2' n1 c1 n2' c2' x0 (HR7.out.1 _ HBX.out) m1)
            refine Eq.mpr (if_pos (by rfl)) ?_
            go_simp
            refine HCK.out.mono ?_
            rintro e x1 ⟨Ay, ny, cy, rfl, hry, -, hbb⟩
            have hcl := HCELL.out _ (HBX.out.trans (hbb.mono HBX.out.size))
            have hsz1 : x0.heap.size ≤ x1.heap.size := hbb.size
            have HBX := Lib.hid (HBX.out.trans (hbb.mono HBX.out.size))
            have HKY := Lib.hid hry
            have hny : ny ≤ 90 := by rw [← hry.len, HKL.out]; omega
            refine hK.out _ _ hcl (fun hHeld => ?_)
            clear hK K hbb hcl HCK hry
            refine wpAnyH_ready (rs := [0, 4]) (by kernel_rfl) (by simp) ?_
            refine (AllReadyH.cons (o := { dst := some 47, op := Op.buildSlice 31 0 #[], type := 31, pos := "law.go:196", after := #[], guard := none }) rfl (fun K hK => ?_) (AllReadyH.cons (o := { dst := some 51, op := Op.buildSlice 31 0 #[], type := 31, pos := "law.go:196", after := #[], guard := none }) rfl (fun K hK => ?_) AllReadyH.nil))
            · refine Eq.mpr (if_pos (by rfl)) ?_
              go_simp
              have hbb : Below x1.heap.size x1 (x1.alloc (.cells #[] 5)) := (Below.refl _ _).alloc (Nat.le_refl _) _
              have he : (x1.alloc (.cells #[] 5)).ownsRow w6.heap.size 5 1 (.slice (some ⟨x1.heap.size, 0, none⟩) 0 0) 0 [] := World.ownsRow_lit x1 #[] 0 (by rw [HX0.out.1]; exact HBX.out.size) (by unfold maxLen; omega) rfl
              have hcl := HCELL.out _ (HBX.out.trans (hbb.mono HBX.out.size))
              generalize x1.alloc (.cells #[] 5) = x2 at *
              have hsz2 : x1.heap.size ≤ x2.heap.size := hbb.size
              have HBX := Lib.hid (HBX.out.trans (hbb.mono HBX.out.size))
              have HKY := Lib.hid ((HKY.out.below hbb (Nat.le_refl _)).more hbb.size)
              have HE0 := Lib.hid he
              obtain ⟨E0, hE0⟩ : ∃ g, x1.heap.size = g := ⟨_, rfl⟩
              rw [hE0] at HE0 ⊢
              refine hK.out _ _ hcl (fun hHeld => ?_)
              clear hK K hbb he hcl hE0
              refine wpAnyH_ready (rs := [3, 4]) (by kernel_rfl) (by simp) ?_
              refine (AllReadyH.cons (o := { dst := some 50, op := Op.call { callee := Callee.builtin Builtin.append, args := #[Operand.tmp 47, Operand.tmp 49], argTypes := #[31, 31] }, type := 31, pos := "law.go:196", after := #[{ on := 0, ground := Ground.data }, { on := 2, ground := Ground.data }, { on := 2, ground := Ground.chain }], guard := none }) rfl (fun K hK => ?_) (AllReadyH.cons (o := { dst := some 51, op := Op.buildSlice 31 0 #[], type := 31, pos := "law.go:196", after := #[], guard := none }) rfl (fun K hK => ?_) AllReadyH.nil))
              · refine Eq.mpr (if_pos (by rfl)) ?_
                obtain ⟨Kk, ck2, x3, hrun, hrk, hfk, hbb⟩ := append_fresh x2 E0 w6.heap.size _ HE0.out Ay ny cy a.key HKY.out (by omega) (by rw [HX0.out.1]; exact HBX.out.size) 31
                refine step_append_run (.tmp 47) (.tmp 49) rfl _ _ _ _ rfl rfl hrun ?_
                have hcl := HCELL.out _ (HBX.out.trans (hbb.mono HBX.out.size))
                have hsz3 : x2.heap.size ≤ x3.heap.size := hbb.size
                have HBX := Lib.hid (HBX.out.trans (hbb.mono HBX.out.size))
                have HE0 := Lib.hid (own_keep HE0.out hbb)
                have HKY := Lib.hid ((HKY.out.below hbb (Nat.le_refl _)).more hbb.size)
                have HKK := Lib.hid (And.intro hrk hfk)
                refine hK.out _ _ hcl (fun hHeld => ?_)
                clear hK K hbb hcl hrun hrk hfk
                simp only [Act.put, List.setIfInBounds_toArray, List.set_cons_zero, List.set_cons_succ]
                refine wpAnyH_ready (rs := [4]) (by kernel_rfl) (by simp) ?_
                refine (AllReadyH.cons (o := { dst := some 51, op := Op.buildSlice 31 0 #[], type := 31, pos := "law.go:196", after := #[], guard := none }) rfl (fun K hK => ?_) AllReadyH.nil)
                refine Eq.mpr (if_pos (by rfl)) ?_
                go_simp
                have hbb : Below x3.heap.size x3 (x3.alloc (.cells #[] 5)) := (Below.refl _ _).alloc (Nat.le_refl _) _
                have he : (x3.alloc (.cells #[] 5)).ownsRow w6.heap.size 5 1 (.slice (some ⟨x3.heap.size, 0, none⟩) 0 0) 0 [] := World.ownsRow_lit x3 #[] 0 (by rw [HX0.out.1]; exact HBX.out.size) (by unfold maxLen; omega) rfl
                have hcl := HCELL.out _ (HBX.out.trans (hbb.mono HBX.out.size))
                generalize x3.alloc (.cells #[] 5) = x4 at *
                have hsz4 : x3.heap.size ≤ x4.heap.size := hbb.size
                have HBX := Lib.hid (HBX.out.trans (hbb.mono HBX.out.size))
                have HE0 := Lib.hid (own_keep HE0.out hbb)
                have HKY := Lib.hid ((HKY.out.below hbb (Nat.le_refl _)).more hbb.size)
                have HKK := Lib.hid (And.intro ((HKK.out.1.below hbb (Nat.le_refl _)).more hbb.size) (HKK.out.2.below hbb (Nat.le_refl _)))
                have HE4 := Lib.hid he
                obtain ⟨E4, hE4⟩ : ∃ g, x3.heap.size = g := ⟨_, rfl⟩
                rw [hE4] at HE4 ⊢
                refine hK.out _ _ hcl (fun hHeld => ?_)
                clear hK K hbb he hcl hE4
                refine wpAnyH_ready (rs := [12]) (by kernel_rfl) (by simp) ?_
                refine (AllReadyH.cons (o := { dst := some 59, op := Op.call { callee := Callee.builtin Builtin.append, args := #[Operand.tmp 51, Operand.tmp 58], argTypes := #[31, 31] }, type := 31, pos := "law.go:196", after := #[{ on := 4, ground := Ground.data }, { on := 11, ground := Ground.data }, { on := 3, ground := Ground.chain }], guard := none }) rfl (fun K hK => ?_) AllReadyH.nil)
                refine Eq.mpr (if_pos (by rfl)) ?_
                obtain ⟨Kv, cv, x5, hrun, hrk, hfk, hbb⟩ := append_fresh x4 E4 w6.heap.size _ HE4.out A2' M c2' a.cut (HR7.out.2 _ HBX.out) (by omega) (by rw [HX0.out.1]; exact HBX.out.size) 31
                refine step_append_run (.tmp 51) (.tmp 58) rfl _ _ _ _ rfl rfl hrun ?_
                have hcl := HCELL.out _ (HBX.out.trans (hbb.mono HBX.out.size))
                have hsz5 : x4.heap.size ≤ x5.heap.size := hbb.size
                have HBX := Lib.hid (HBX.out.trans (hbb.mono HBX.out.size))
                have HE0 := Lib.hid (own_keep HE0.out hbb)
                have HE4 := Lib.hid (own_keep HE4.out hbb)
                have HKY := Lib.hid ((HKY.out.below hbb (Nat.le_refl _)).more hbb.size)
                have HKK := Lib.hid (And.intro ((HKK.out.1.below hbb (Nat.le_refl _)).more hbb.size) (HKK.out.2.below hbb (Nat.le_refl _)))
                have HVV := Lib.hid (And.intro hrk hfk)
                refine hK.out _ _ hcl (fun hHeld => ?_)
                clear hK K hbb hcl hrun hrk hfk
                simp only [Act.put, List.setIfInBounds_toArray, List.set_cons_zero, List.set_cons_succ]
                refine wpAnyH_take (i := 13) (oi := { dst := some 11, op := Op.assign (Operand.tmp 50), type := 31, pos := "law.go:196", after := #[{ on := 3, ground := Ground.data }, { on := 12, ground := Ground.chain }, { on := 0, ground := Ground.phase }, { on := 1, ground := Ground.phase }, { on := 2, ground := Ground.phase }, { on := 3, ground := Ground.phase }, { on := 4, ground := Ground.textOnly Departure.lateStores }, { on := 5, ground := Ground.textOnly Departure.lateStores }, { on := 6, ground := Ground.textOnly Departure.lateStores }, { on := 7, ground := Ground.textOnly Departure.lateStores }, { on := 8, ground := Ground.textOnly Departure.lateStores }, { on := 9, ground := Ground.textOnly Departure.lateStoresUnsure }, { on := 10, ground := Ground.textOnly Departure.lateStoresUnsure }, { on := 11, ground := Ground.textOnly Departure.lateStoresUnsure }, { on := 12, ground := Ground.textOnly Departure.lateStoresUnsure }], guard := none }) (v := ?_) rfl (by kernel_rfl) (by kernel_rfl) (by kernel_rfl) (fun _ _ _ h => h) (Or.inl ⟨by rfl, ?_⟩) (by assumption) ?_
                rotate_left
                · first | (intro w hSw; (try dsimp only at hSw); go_simp; done) | (intro w hSw; (try dsimp only at hSw); go_simp; with_reducible rfl)
                simp only [Act.put, List.setIfInBounds_toArray, List.set_cons_zero, List.set_cons_succ]
                refine wpAnyH_take (i := 14) (oi := { dst := some 12, op := Op.assign (Operand.tmp 59), type := 31, pos := "law.go:196", after := #[{ on := 12, ground := Ground.data }, { on := 13, ground := Ground.chain }, { on := 0, ground := Ground.phase }, { on := 1, ground := Ground.phase }, { on := 2, ground := Ground.phase }, { on := 3, ground := Ground.phase }, { on := 4, ground := Ground.phase }, { on := 5, ground := Ground.phase }, { on := 6, ground := Ground.phase }, { on := 7, ground := Ground.phase }, { on := 8, ground := Ground.phase }, { on := 9, ground := Ground.phase }, { on := 10, ground := Ground.phase }, { on := 11, ground := Ground.phase }, { on := 12, ground := Ground.phase }, { on := 13, ground := Ground.phase }], guard := none }) (v := ?_) rfl (by kernel_rfl) (by kernel_rfl) (by kernel_rfl) (fun _ _ _ h => h) (Or.inl ⟨by rfl, ?_⟩) (by assumption) ?_
                rotate_left
                · first | (intro w hSw; (try dsimp only at hSw); go_simp; done) | (intro w hSw; (try dsimp only at hSw); go_simp; with_reducible rfl)
                simp only [Act.put, List.setIfInBounds_toArray, List.set_cons_zero, List.set_cons_succ]
                refine wpAnyH_done (by kernel_rfl) ?_ _
                go_wp2_with fail
                go_meet
                case rel => exact ⟨Kk, ny, ck2, Kv, M, cv, rfl, rfl, HKK.out.1, HKK.out.2, HVV.out.1, HVV.out.2, HX0.out.2.trans (HBX.out.mono (Nat.le_of_eq HX0.out.1))⟩
              · refine Eq.mpr (if_pos (by rfl)) ?_
                go_simp
                have hbb : Below x2.heap.size x2 (x2.alloc (.cells #[] 5)) := (Below.refl _ _).alloc (Nat.le_refl _) _
                have he : (x2.alloc (.cells #[] 5)).ownsRow w6.heap.size 5 1 (.slice (some ⟨x2.heap.size, 0, none⟩) 0 0) 0 [] := World.ownsRow_lit x2 #[] 0 (by rw [HX0.out.1]; exact HBX.out.size) (by unfold maxLen; omega) rfl
                have hcl := HCELL.out _ (HBX.out.trans (hbb.mono HBX.out.size))
                generalize x2.alloc (.cells #[] 5) = x3 at *
                have hsz3 : x2.heap.size ≤ x3.heap.size := hbb.size
                have HBX := Lib.hid (HBX.out.trans (hbb.mono HBX.out.size))
                have HE0 := Lib.hid (own_keep HE0.out hbb)
                have HKY := Lib.hid ((HKY.out.below hbb (Nat.le_refl _)).more hbb.size)
                have HE4 := Lib.hid he
                obtain ⟨E4, hE4⟩ : ∃ g, x2.heap.size = g := ⟨_, rfl⟩
                rw [hE4] at HE4 ⊢
                refine hK.out _ _ hcl (fun hHeld => ?_)
                clear hK K hbb he hcl hE4
                refine wpAnyH_ready (rs := [3]) (by kernel_rfl) (by simp) ?_
                refine (AllReadyH.cons (o := { dst := some 50, op := Op.call { callee := Callee.builtin Builtin.append, args := #[Operand.tmp 47, Operand.tmp 49], argTypes := #[31, 31] }, type := 31, pos := "law.go:196", after := #[{ on := 0, ground := Ground.data }, { on := 2, ground := Ground.data }, { on := 2, ground := Ground.chain }], guard := none }) rfl (fun K hK => ?_) AllReadyH.nil)
                refine Eq.mpr (if_pos (by rfl)) ?_
                obtain ⟨Kk, ck2, x4, hrun, hrk, hfk, hbb⟩ := append_fresh x3 E0 w6.heap.size _ HE0.out Ay ny cy a.key HKY.out (by omega) (by rw [HX0.out.1]; exact HBX.out.size) 31
                refine step_append_run (.tmp 47) (.tmp 49) rfl _ _ _ _ rfl rfl hrun ?_
                have hcl := HCELL.out _ (HBX.out.trans (hbb.mono HBX.out.size))
                have hsz4 : x3.heap.size ≤ x4.heap.size := hbb.size
                have HBX := Lib.hid (HBX.out.trans (hbb.mono HBX.out.size))
                have HE0 := Lib.hid (own_keep HE0.out hbb)
                have HE4 := Lib.hid (own_keep HE4.out hbb)
                have HKY := Lib.hid ((HKY.out.below hbb (Nat.le_refl _)).more hbb.size)
                have HKK := Lib.hid (And.intro hrk hfk)
                refine hK.out _ _ hcl (fun hHeld => ?_)
                clear hK K hbb hcl hrun hrk hfk
                simp only [Act.put, List.setIfInBounds_toArray, List.set_cons_zero, List.set_cons_succ]
                refine wpAnyH_ready (rs := [12]) (by kernel_rfl) (by simp) ?_
                refine (AllReadyH.cons (o := { dst := some 59, op := Op.call { callee := Callee.builtin Builtin.append, args := #[Operand.tmp 51, Operand.tmp 58], argTypes := #[31, 31] }, type := 31, pos := "law.go:196", after := #[{ on := 4, ground := Ground.data }, { on := 11, ground := Ground.data }, { on := 3, ground := Ground.chain }], guard := none }) rfl (fun K hK => ?_) AllReadyH.nil)
                refine Eq.mpr (if_pos (by rfl)) ?_
                obtain ⟨Kv, cv, x5, hrun, hrk, hfk, hbb⟩ := append_fresh x4 E4 w6.heap.size _ HE4.out A2' M c2' a.cut (HR7.out.2 _ HBX.out) (by omega) (by rw [HX0.out.1]; exact HBX.out.size) 31
                refine step_append_run (.tmp 51) (.tmp 58) rfl _ _ _ _ rfl rfl hrun ?_
                have hcl := HCELL.out _ (HBX.out.trans (hbb.mono HBX.out.size))
                have hsz5 : x4.heap.size ≤ x5.heap.size := hbb.size
                have HBX := Lib.hid (HBX.out.trans (hbb.mono HBX.out.size))
                have HE0 := Lib.hid (own_keep HE0.out hbb)
                have HE4 := Lib.hid (own_keep HE4.out hbb)
                have HKY := Lib.hid ((HKY.out.below hbb (Nat.le_refl _)).more hbb.size)
                have HKK := Lib.hid (And.intro ((HKK.out.1.below hbb (Nat.le_refl _)).more hbb.size) (HKK.out.2.below hbb (Nat.le_refl _)))
                have HVV := Lib.hid (And.intro hrk hfk)
                refine hK.out _ _ hcl (fun hHeld => ?_)
                clear hK K hbb hcl hrun hrk hfk
                simp only [Act.put, List.setIfInBounds_toArray, List.set_cons_zero, List.set_cons_succ]
                refine wpAnyH_take (i := 13) (oi := { dst := some 11, op := Op.assign (Operand.tmp 50), type := 31, pos := "law.go:196", after := #[{ on := 3, ground := Ground.data }, { on := 12, ground := Ground.chain }, { on := 0, ground := Ground.phase }, { on := 1, ground := Ground.phase }, { on := 2, ground := Ground.phase }, { on := 3, ground := Ground.phase }, { on := 4, ground := Ground.textOnly Departure.lateStores }, { on := 5, ground := Ground.textOnly Departure.lateStores }, { on := 6, ground := Ground.textOnly Departure.lateStores }, { on := 7, ground := Ground.textOnly Departure.lateStores }, { on := 8, ground := Ground.textOnly Departure.lateStores }, { on := 9, ground := Ground.textOnly Departure.lateStoresUnsure }, { on := 10, ground := Ground.textOnly Departure.lateStoresUnsure }, { on := 11, ground := Ground.textOnly Departure.lateStoresUnsure }, { on := 12, ground := Ground.textOnly Departure.lateStoresUnsure }], guard := none }) (v := ?_) rfl (by kernel_rfl) (by kernel_rfl) (by kernel_rfl) (fun _ _ _ h => h) (Or.inl ⟨by rfl, ?_⟩) (by assumption) ?_
                rotate_left
                · first | (intro w hSw; (try dsimp only at hSw); go_simp; done) | (intro w hSw; (try dsimp only at hSw); go_simp; with_reducible rfl)
                simp only [Act.put, List.setIfInBounds_toArray, List.set_cons_zero, List.set_cons_succ]
                refine wpAnyH_take (i := 14) (oi := { dst := some 12, op := Op.assign (Operand.tmp 59), type := 31, pos := "law.go:196", after := #[{ on := 12, ground := Ground.data }, { on := 13, ground := Ground.chain }, { on := 0, ground := Ground.phase }, { on := 1, ground := Ground.phase }, { on := 2, ground := Ground.phase }, { on := 3, ground := Ground.phase }, { on := 4, ground := Ground.phase }, { on := 5, ground := Ground.phase }, { on := 6, ground := Ground.phase }, { on := 7, ground := Ground.phase }, { on := 8, ground := Ground.phase }, { on := 9, ground := Ground.phase }, { on := 10, ground := Ground.phase }, { on := 11, ground := Ground.phase }, { on := 12, ground := Ground.phase }, { on := 13, ground := Ground.phase }], guard := none }) (v := ?_) rfl (by kernel_rfl) (by kernel_rfl) (by kernel_rfl) (fun _ _ _ h => h) (Or.inl ⟨by rfl, ?_⟩) (by assumption) ?_
                rotate_left
                · first | (intro w hSw; (try dsimp only at hSw); go_simp; done) | (intro w hSw; (try dsimp only at hSw); go_simp; with_reducible rfl)
                simp only [Act.put, List.setIfInBounds_toArray, List.set_cons_zero, List.set_cons_succ]
                refine wpAnyH_done (by kernel_rfl) ?_ _
                go_wp2_with fail
                go_meet
                case rel => exact ⟨Kk, ny, ck2, Kv, M, cv, rfl, rfl, HKK.out.1, HKK.out.2, HVV.out.1, HVV.out.2, HX0.out.2.trans (HBX.out.mono (Nat.le_of_eq HX0.out.1))⟩
            · refine Eq.mpr (if_pos (by rfl)) ?_
              go_simp
              have hbb : Below x1.heap.size x1 (x1.alloc (.cells #[] 5)) := (Below.refl _ _).alloc (Nat.le_refl _) _
              have he : (x1.alloc (.cells #[] 5)).ownsRow w6.heap.size 5 1 (.slice (some ⟨x1.heap.size, 0, none⟩) 0 0) 0 [] := World.ownsRow_lit x1 #[] 0 (by rw [HX0.out.1]; exact HBX.out.size) (by unfold maxLen; omega) rfl
              have hcl := HCELL.out _ (HBX.out.trans (hbb.mono HBX.out.size))
              generalize x1.alloc (.cells #[] 5) = x2 at *
              have hsz2 : x1.heap.size ≤ x2.heap.size := hbb.size
              have HBX := Lib.hid (HBX.out.trans (hbb.mono HBX.out.size))
              have HKY := Lib.hid ((HKY.out.below hbb (Nat.le_refl _)).more hbb.size)
              have HE4 := Lib.hid he
              obtain ⟨E4, hE4⟩ : ∃ g, x1.heap.size = g := ⟨_, rfl⟩
              rw [hE4] at HE4 ⊢
              refine hK.out _ _ hcl (fun hHeld => ?_)
              clear hK K hbb he hcl hE4
              refine wpAnyH_ready (rs := [0]) (by kernel_rfl) (by simp) ?_
              refine (AllReadyH.cons (o := { dst := some 47, op := Op.buildSlice 31 0 #[], type := 31, pos := "law.go:196", after := #[], guard := none }) rfl (fun K hK => ?_) AllReadyH.nil)
              refine Eq.mpr (if_pos (by rfl)) ?_
              go_simp
              have hbb : Below x2.heap.size x2 (x2.alloc (.cells #[] 5)) := (Below.refl _ _).alloc (Nat.le_refl _) _
              have he : (x2.alloc (.cells #[] 5)).ownsRow w6.heap.size 5 1 (.slice (some ⟨x2.heap.size, 0, none⟩) 0 0) 0 [] := World.ownsRow_lit x2 #[] 0 (by rw [HX0.out.1]; exact HBX.out.size) (by unfold maxLen; omega) rfl
              have hcl := HCELL.out _ (HBX.out.trans (hbb.mono HBX.out.size))
              generalize x2.alloc (.cells #[] 5) = x3 at *
              have hsz3 : x2.heap.size ≤ x3.heap.size := hbb.size
              have HBX := Lib.hid (HBX.out.trans (hbb.mono HBX.out.size))
              have HE4 := Lib.hid (own_keep HE4.out hbb)
              have HKY := Lib.hid ((HKY.out.below hbb (Nat.le_refl _)).more hbb.size)
              have HE0 := Lib.hid he
              obtain ⟨E0, hE0⟩ : ∃ g, x2.heap.size = g := ⟨_, rfl⟩
              rw [hE0] at HE0 ⊢
              refine hK.out _ _ hcl (fun hHeld => ?_)
              clear hK K hbb he hcl hE0
              refine wpAnyH_ready (rs := [3]) (by kernel_rfl) (by simp) ?_
              refine (AllReadyH.cons (o := { dst := some 50, op := Op.call { callee := Callee.builtin Builtin.append, args := #[Operand.tmp 47, Operand.tmp 49], argTypes := #[31, 31] }, type := 31, pos := "law.go:196", after := #[{ on := 0, ground := Ground.data }, { on := 2, ground := Ground.data }, { on := 2, ground := Ground.chain }], guard := none }) rfl (fun K hK => ?_) AllReadyH.nil)
              refine Eq.mpr (if_pos (by rfl)) ?_
              obtain ⟨Kk, ck2, x4, hrun, hrk, hfk, hbb⟩ := append_fresh x3 E0 w6.heap.size _ HE0.out Ay ny cy a.key HKY.out (by omega) (by rw [HX0.out.1]; exact HBX.out.size) 31
              refine step_append_run (.tmp 47) (.tmp 49) rfl _ _ _ _ rfl rfl hrun ?_
              have hcl := HCELL.out _ (HBX.out.trans (hbb.mono HBX.out.size))
              have hsz4 : x3.heap.size ≤ x4.heap.size := hbb.size
              have HBX := Lib.hid (HBX.out.trans (hbb.mono HBX.out.size))
              have HE0 := Lib.hid (own_keep HE0.out hbb)
              have HE4 := Lib.hid (own_keep HE4.out hbb)
              have HKY := Lib.hid ((HKY.out.below hbb (Nat.le_refl _)).more hbb.size)
              have HKK := Lib.hid (And.intro hrk hfk)
              refine hK.out _ _ hcl (fun hHeld => ?_)
              clear hK K hbb hcl hrun hrk hfk
              simp only [Act.put, List.setIfInBounds_toArray, List.set_cons_zero, List.set_cons_succ]
              refine wpAnyH_ready (rs := [12]) (by kernel_rfl) (by simp) ?_
              refine (AllReadyH.cons (o := { dst := some 59, op := Op.call { callee := Callee.builtin Builtin.append, args := #[Operand.tmp 51, Operand.tmp 58], argTypes := #[31, 31] }, type := 31, pos := "law.go:196", after := #[{ on := 4, ground := Ground.data }, { on := 11, ground := Ground.data }, { on := 3, ground := Ground.chain }], guard := none }) rfl (fun K hK => ?_) AllReadyH.nil)
              refine Eq.mpr (if_pos (by rfl)) ?_
              obtain ⟨Kv, cv, x5, hrun, hrk, hfk, hbb⟩ := append_fresh x4 E4 w6.heap.size _ HE4.out A2' M c2' a.cut (HR7.out.2 _ HBX.out) (by omega) (by rw [HX0.out.1]; exact HBX.out.size) 31
              refine step_append_run (.tmp 51) (.tmp 58) rfl _ _ _ _ rfl rfl hrun ?_
              have hcl := HCELL.out _ (HBX.out.trans (hbb.mono HBX.out.size))
              have hsz5 : x4.heap.size ≤ x5.heap.size := hbb.size
              have HBX := Lib.hid (HBX.out.trans (hbb.mono HBX.out.size))
              have HE0 := Lib.hid (own_keep HE0.out hbb)
              have HE4 := Lib.hid (own_keep HE4.out hbb)
              have HKY := Lib.hid ((HKY.out.below hbb (Nat.le_refl _)).more hbb.size)
              have HKK := Lib.hid (And.intro ((HKK.out.1.below hbb (Nat.le_refl _)).more hbb.size) (HKK.out.2.below hbb (Nat.le_refl _)))
              have HVV := Lib.hid (And.intro hrk hfk)
              refine hK.out _ _ hcl (fun hHeld => ?_)
              clear hK K hbb hcl hrun hrk hfk
              simp only [Act.put, List.setIfInBounds_toArray, List.set_cons_zero, List.set_cons_succ]
              refine wpAnyH_take (i := 13) (oi := { dst := some 11, op := Op.assign (Operand.tmp 50), type := 31, pos := "law.go:196", after := #[{ on := 3, ground := Ground.data }, { on := 12, ground := Ground.chain }, { on := 0, ground := Ground.phase }, { on := 1, ground := Ground.phase }, { on := 2, ground := Ground.phase }, { on := 3, ground := Ground.phase }, { on := 4, ground := Ground.textOnly Departure.lateStores }, { on := 5, ground := Ground.textOnly Departure.lateStores }, { on := 6, ground := Ground.textOnly Departure.lateStores }, { on := 7, ground := Ground.textOnly Departure.lateStores }, { on := 8, ground := Ground.textOnly Departure.lateStores }, { on := 9, ground := Ground.textOnly Departure.lateStoresUnsure }, { on := 10, ground := Ground.textOnly Departure.lateStoresUnsure }, { on := 11, ground := Ground.textOnly Departure.lateStoresUnsure }, { on := 12, ground := Ground.textOnly Departure.lateStoresUnsure }], guard := none }) (v := ?_) rfl (by kernel_rfl) (by kernel_rfl) (by kernel_rfl) (fun _ _ _ h => h) (Or.inl ⟨by rfl, ?_⟩) (by assumption) ?_
              rotate_left
              · first | (intro w hSw; (try dsimp only at hSw); go_simp; done) | (intro w hSw; (try dsimp only at hSw); go_simp; with_reducible rfl)
              simp only [Act.put, List.setIfInBounds_toArray, List.set_cons_zero, List.set_cons_succ]
              refine wpAnyH_take (i := 14) (oi := { dst := some 12, op := Op.assign (Operand.tmp 59), type := 31, pos := "law.go:196", after := #[{ on := 12, ground := Ground.data }, { on := 13, ground := Ground.chain }, { on := 0, ground := Ground.phase }, { on := 1, ground := Ground.phase }, { on := 2, ground := Ground.phase }, { on := 3, ground := Ground.phase }, { on := 4, ground := Ground.phase }, { on := 5, ground := Ground.phase }, { on := 6, ground := Ground.phase }, { on := 7, ground := Ground.phase }, { on := 8, ground := Ground.phase }, { on := 9, ground := Ground.phase }, { on := 10, ground := Ground.phase }, { on := 11, ground := Ground.phase }, { on := 12, ground := Ground.phase }, { on := 13, ground := Ground.phase }], guard := none }) (v := ?_) rfl (by kernel_rfl) (by kernel_rfl) (by kernel_rfl) (fun _ _ _ h => h) (Or.inl ⟨by rfl, ?_⟩) (by assumption) ?_
              rotate_left
              · first | (intro w hSw; (try dsimp only at hSw); go_simp; done) | (intro w hSw; (try dsimp only at hSw); go_simp; with_reducible rfl)
              simp only [Act.put, List.setIfInBounds_toArray, List.set_cons_zero, List.set_cons_succ]
              refine wpAnyH_done (by kernel_rfl) ?_ _
              go_wp2_with fail
              go_meet
              case rel => exact ⟨Kk, ny, ck2, Kv, M, cv, rfl, rfl, HKK.out.1, HKK.out.2, HVV.out.1, HVV.out.2, HX0.out.2.trans (HBX.out.mono (Nat.le_of_eq HX0.out.1))⟩
          · refine Eq.mpr (if_pos (by rfl)) ?_
            go_simp
            have hbb : Below x0.heap.size x0 (x0.alloc (.cells #[] 5)) := (Below.refl _ _).alloc (Nat.le_refl _) _
            have he : (x0.alloc (.cells #[] 5)).ownsRow w6.heap.size 5 1 (.slice (some ⟨x0.heap.size, 0, none⟩) 0 0) 0 [] := World.ownsRow_lit x0 #[] 0 (by rw [HX0.out.1]; exact HBX.out.size) (by unfold maxLen; omega) rfl
            have hcl := HCELL.out _ (HBX.out.trans (hbb.mono HBX.out.size))
            generalize x0.alloc (.cells #[] 5) = x1 at *
            have hsz1 : x0.heap.size ≤ x1.heap.size := hbb.size
            have HBX := Lib.hid (HBX.out.trans (hbb.mono HBX.out.size))
            have HE4 := Lib.hid he
            obtain ⟨E4, hE4⟩ : ∃ g, x0.heap.size = g := ⟨_, rfl⟩
            rw [hE4] at HE4 ⊢
            refine hK.out _ _ hcl (fun hHeld => ?_)
            clear hK K hbb he hcl hE4
            refine wpAnyH_ready (rs := [0, 2]) (by kernel_rfl) (by simp) ?_
            refine (AllReadyH.cons (o := { dst := some 47, op := Op.buildSlice 31 0 #[], type := 31, pos := "law.go:196", after := #[], guard := none }) rfl (fun K hK => ?_) (AllReadyH.cons (o := { dst := some 49, op := Op.call { callee := Callee.value (Operand.func 9), args := #[Operand.tmp 48], argTypes := #[33] }, type := 31, pos := "law.go:196", after := #[{ on := 1, ground := Ground.data }], guard := none }) rfl (fun K hK => ?_) AllReadyH.nil))
            · refine Eq.mpr (if_pos (by rfl)) ?_
              go_simp
              have hbb : Below x1.heap.size x1 (x1.alloc (.cells #[] 5)) := (Below.refl _ _).alloc (Nat.le_refl _) _
              have he : (x1.alloc (.cells #[] 5)).ownsRow w6.heap.size 5 1 (.slice (some ⟨x1.heap.size, 0, none⟩) 0 0) 0 [] := World.ownsRow_lit x1 #[] 0 (by rw [HX0.out.1]; exact HBX.out.size) (by unfold maxLen; omega) rfl
              have hcl := HCELL.out _ (HBX.out.trans (hbb.mono HBX.out.size))
              generalize x1.alloc (.cells #[] 5) = x2 at *
              have hsz2 : x1.heap.size ≤ x2.heap.size := hbb.size
              have HBX := Lib.hid (HBX.out.trans (hbb.mono HBX.out.size))
              have HE4 := Lib.hid (own_keep HE4.out hbb)
              have HE0 := Lib.hid he
              obtain ⟨E0, hE0⟩ : ∃ g, x1.heap.size = g := ⟨_, rfl⟩
              rw [hE0] at HE0 ⊢
              refine hK.out _ _ hcl (fun hHeld => ?_)
              clear hK K hbb he hcl hE0
              refine wpAnyH_ready (rs := [2]) (by kernel_rfl) (by simp) ?_
              refine (AllReadyH.cons (o := { dst := some 49, op := Op.call { callee := Callee.value (Operand.func 9), args := #[Operand.tmp 48], argTypes := #[33] }, type := 31, pos := "law.go:196", after := #[{ on := 1, ground := Ground.data }], guard := none }) rfl (fun K hK => ?_) AllReadyH.nil)
              have HCK := Lib.hid (key_any a A1 A2' n1 c1 n2' c2' x2 (HR7.out.1 _ HBX.out) m1)
              refine Eq.mpr (if_pos (by rfl)) ?_
              go_simp
              refine HCK.out.mono ?_
              rintro e x3 ⟨Ay, ny, cy, rfl, hry, -, hbb⟩
              have hcl := HCELL.out _ (HBX.out.trans (hbb.mono HBX.out.size))
              have hsz3 : x2.heap.size ≤ x3.heap.size := hbb.size
              have HBX := Lib.hid (HBX.out.trans (hbb.mono HBX.out.size))
              have HE0 := Lib.hid (own_keep HE0.out hbb)
              have HE4 := Lib.hid (own_keep HE4.out hbb)
              have HKY := Lib.hid hry
              have hny : ny ≤ 90 := by rw [← hry.len, HKL.out]; omega
              refine hK.out _ _ hcl (fun hHeld => ?_)
              clear hK K hbb hcl HCK hry
              refine wpAnyH_ready (rs := [3]) (by kernel_rfl) (by simp) ?_
              refine (AllReadyH.cons (o := { dst := some 50, op := Op.call { callee := Callee.builtin Builtin.append, args := #[Operand.tmp 47, Operand.tmp 49], argTypes := #[31, 31] }, type := 31, pos := "law.go:196", after := #[{ on := 0, ground := Ground.data }, { on := 2, ground := Ground.data }, { on := 2, ground := Ground.chain }], guard := none }) rfl (fun K hK => ?_) AllReadyH.nil)
              refine Eq.mpr (if_pos (by rfl)) ?_
              obtain ⟨Kk, ck2, x4, hrun, hrk, hfk, hbb⟩ := append_fresh x3 E0 w6.heap.size _ HE0.out Ay ny cy a.key HKY.out (by omega) (by rw [HX0.out.1]; exact HBX.out.size) 31
              refine step_append_run (.tmp 47) (.tmp 49) rfl _ _ _ _ rfl rfl hrun ?_
              have hcl := HCELL.out _ (HBX.out.trans (hbb.mono HBX.out.size))
              have hsz4 : x3.heap.size ≤ x4.heap.size := hbb.size
              have HBX := Lib.hid (HBX.out.trans (hbb.mono HBX.out.size))
              have HE0 := Lib.hid (own_keep HE0.out hbb)
              have HE4 := Lib.hid (own_keep HE4.out hbb)
              have HKY := Lib.hid ((HKY.out.below hbb (Nat.le_refl _)).more hbb.size)
              have HKK := Lib.hid (And.intro hrk hfk)
              refine hK.out _ _ hcl (fun hHeld => ?_)
              clear hK K hbb hcl hrun hrk hfk
              simp only [Act.put, List.setIfInBounds_toArray, List.set_cons_zero, List.set_cons_succ]
              refine wpAnyH_ready (rs := [12]) (by kernel_rfl) (by simp) ?_
              refine (AllReadyH.cons (o := { dst := some 59, op := Op.call { callee := Callee.builtin Builtin.append, args := #[Operand.tmp 51, Operand.tmp 58], argTypes := #[31, 31] }, type := 31, pos := "law.go:196", after := #[{ on := 4, ground := Ground.data }, { on := 11, ground := Ground.data }, { on := 3, ground := Ground.chain }], guard := none }) rfl (fun K hK => ?_) AllReadyH.nil)
              refine Eq.mpr (if_pos (by rfl)) ?_
              obtain ⟨Kv, cv, x5, hrun, hrk, hfk, hbb⟩ := append_fresh x4 E4 w6.heap.size _ HE4.out A2' M c2' a.cut (HR7.out.2 _ HBX.out) (by omega) (by rw [HX0.out.1]; exact HBX.out.size) 31
              refine step_append_run (.tmp 51) (.tmp 58) rfl _ _ _ _ rfl rfl hrun ?_
              have hcl := HCELL.out _ (HBX.out.trans (hbb.mono HBX.out.size))
              have hsz5 : x4.heap.size ≤ x5.heap.size := hbb.size
              have HBX := Lib.hid (HBX.out.trans (hbb.mono HBX.out.size))
              have HE0 := Lib.hid (own_keep HE0.out hbb)
              have HE4 := Lib.hid (own_keep HE4.out hbb)
              have HKY := Lib.hid ((HKY.out.below hbb (Nat.le_refl _)).more hbb.size)
              have HKK := Lib.hid (And.intro ((HKK.out.1.below hbb (Nat.le_refl _)).more hbb.size) (HKK.out.2.below hbb (Nat.le_refl _)))
              have HVV := Lib.hid (And.intro hrk hfk)
              refine hK.out _ _ hcl (fun hHeld => ?_)
              clear hK K hbb hcl hrun hrk hfk
              simp only [Act.put, List.setIfInBounds_toArray, List.set_cons_zero, List.set_cons_succ]
              refine wpAnyH_take (i := 13) (oi := { dst := some 11, op := Op.assign (Operand.tmp 50), type := 31, pos := "law.go:196", after := #[{ on := 3, ground := Ground.data }, { on := 12, ground := Ground.chain }, { on := 0, ground := Ground.phase }, { on := 1, ground := Ground.phase }, { on := 2, ground := Ground.phase }, { on := 3, ground := Ground.phase }, { on := 4, ground := Ground.textOnly Departure.lateStores }, { on := 5, ground := Ground.textOnly Departure.lateStores }, { on := 6, ground := Ground.textOnly Departure.lateStores }, { on := 7, ground := Ground.textOnly Departure.lateStores }, { on := 8, ground := Ground.textOnly Departure.lateStores }, { on := 9, ground := Ground.textOnly Departure.lateStoresUnsure }, { on := 10, ground := Ground.textOnly Departure.lateStoresUnsure }, { on := 11, ground := Ground.textOnly Departure.lateStoresUnsure }, { on := 12, ground := Ground.textOnly Departure.lateStoresUnsure }], guard := none }) (v := ?_) rfl (by kernel_rfl) (by kernel_rfl) (by kernel_rfl) (fun _ _ _ h => h) (Or.inl ⟨by rfl, ?_⟩) (by assumption) ?_
              rotate_left
              · first | (intro w hSw; (try dsimp only at hSw); go_simp; done) | (intro w hSw; (try dsimp only at hSw); go_simp; with_reducible rfl)
              simp only [Act.put, List.setIfInBounds_toArray, List.set_cons_zero, List.set_cons_succ]
              refine wpAnyH_take (i := 14) (oi := { dst := some 12, op := Op.assign (Operand.tmp 59), type := 31, pos := "law.go:196", after := #[{ on := 12, ground := Ground.data }, { on := 13, ground := Ground.chain }, { on := 0, ground := Ground.phase }, { on := 1, ground := Ground.phase }, { on := 2, ground := Ground.phase }, { on := 3, ground := Ground.phase }, { on := 4, ground := Ground.phase }, { on := 5, ground := Ground.phase }, { on := 6, ground := Ground.phase }, { on := 7, ground := Ground.phase }, { on := 8, ground := Ground.phase }, { on := 9, ground := Ground.phase }, { on := 10, ground := Ground.phase }, { on := 11, ground := Ground.phase }, { on := 12, ground := Ground.phase }, { on := 13, ground := Ground.phase }], guard := none }) (v := ?_) rfl (by kernel_rfl) (by kernel_rfl) (by kernel_rfl) (fun _ _ _ h => h) (Or.inl ⟨by rfl, ?_⟩) (by assumption) ?_
              rotate_left
              · first | (intro w hSw; (try dsimp only at hSw); go_simp; done) | (intro w hSw; (try dsimp only at hSw); go_simp; with_reducible rfl)
              simp only [Act.put, List.setIfInBounds_toArray, List.set_cons_zero, List.set_cons_succ]
              refine wpAnyH_done (by kernel_rfl) ?_ _
              go_wp2_with fail
              go_meet
              case rel => exact ⟨Kk, ny, ck2, Kv, M, cv, rfl, rfl, HKK.out.1, HKK.out.2, HVV.out.1, HVV.out.2, HX0.out.2.trans (HBX.out.mono (Nat.le_of_eq HX0.out.1))⟩
            · have HCK := Lib.hid (key_any a A1 A2' n1 c1 n2' c2' x1 (HR7.out.1 _ HBX.out) m1)
              refine Eq.mpr (if_pos (by rfl)) ?_
              go_simp
              refine HCK.out.mono ?_
              rintro e x2 ⟨Ay, ny, cy, rfl, hry, -, hbb⟩
              have hcl := HCELL.out _ (HBX.out.trans (hbb.mono HBX.out.size))
              have hsz2 : x1.heap.size ≤ x2.heap.size := hbb.size
              have HBX := Lib.hid (HBX.out.trans (hbb.mono HBX.out.size))
              have HE4 := Lib.hid (own_keep HE4.out hbb)
              have HKY := Lib.hid hry
              have hny : ny ≤ 90 := by rw [← hry.len, HKL.out]; omega
              refine hK.out _ _ hcl (fun hHeld => ?_)
              clear hK K hbb hcl HCK hry
              refine wpAnyH_ready (rs := [0]) (by kernel_rfl) (by simp) ?_
              refine (AllReadyH.cons (o := { dst := some 47, op := Op.buildSlice 31 0 #[], type := 31, pos := "law.go:196", after := #[], guard := none }) rfl (fun K hK => ?_) AllReadyH.nil)
              refine Eq.mpr (if_pos (by rfl)) ?_
              go_simp
              have hbb : Below x2.heap.size x2 (x2.alloc (.cells #[] 5)) := (Below.refl _ _).alloc (Nat.le_refl _) _
              have he : (x2.alloc (.cells #[] 5)).ownsRow w6.heap.size 5 1 (.slice (some ⟨x2.heap.size, 0, none⟩) 0 0) 0 [] := World.ownsRow_lit x2 #[] 0 (by rw [HX0.out.1]; exact HBX.out.size) (by unfold maxLen; omega) rfl
              have hcl := HCELL.out _ (HBX.out.trans (hbb.mono HBX.out.size))
              generalize x2.alloc (.cells #[] 5) = x3 at *
              have hsz3 : x2.heap.size ≤ x3.heap.size := hbb.size
              have HBX := Lib.hid (HBX.out.trans (hbb.mono HBX.out.size))
              have HE4 := Lib.hid (own_keep HE4.out hbb)
              have HKY := Lib.hid ((HKY.out.below hbb (Nat.le_refl _)).more hbb.size)
              have HE0 := Lib.hid he
              obtain ⟨E0, hE0⟩ : ∃ g, x2.heap.size = g := ⟨_, rfl⟩
              rw [hE0] at HE0 ⊢
              refine hK.out _ _ hcl (fun hHeld => ?_)
              clear hK K hbb he hcl hE0
              refine wpAnyH_ready (rs := [3]) (by kernel_rfl) (by simp) ?_
              refine (AllReadyH.cons (o := { dst := some 50, op := Op.call { callee := Callee.builtin Builtin.append, args := #[Operand.tmp 47, Operand.tmp 49], argTypes := #[31, 31] }, type := 31, pos := "law.go:196", after := #[{ on := 0, ground := Ground.data }, { on := 2, ground := Ground.data }, { on := 2, ground := Ground.chain }], guard := none }) rfl (fun K hK => ?_) AllReadyH.nil)
              refine Eq.mpr (if_pos (by rfl)) ?_
              obtain ⟨Kk, ck2, x4, hrun, hrk, hfk, hbb⟩ := append_fresh x3 E0 w6.heap.size _ HE0.out Ay ny cy a.key HKY.out (by omega) (by rw [HX0.out.1]; exact HBX.out.size) 31
              refine step_append_run (.tmp 47) (.tmp 49) rfl _ _ _ _ rfl rfl hrun ?_
              have hcl := HCELL.out _ (HBX.out.trans (hbb.mono HBX.out.size))
              have hsz4 : x3.heap.size ≤ x4.heap.size := hbb.size
              have HBX := Lib.hid (HBX.out.trans (hbb.mono HBX.out.size))
              have HE0 := Lib.hid (own_keep HE0.out hbb)
              have HE4 := Lib.hid (own_keep HE4.out hbb)
              have HKY := Lib.hid ((HKY.out.below hbb (Nat.le_refl _)).more hbb.size)
              have HKK := Lib.hid (And.intro hrk hfk)
              refine hK.out _ _ hcl (fun hHeld => ?_)
              clear hK K hbb hcl hrun hrk hfk
              simp only [Act.put, List.setIfInBounds_toArray, List.set_cons_zero, List.set_cons_succ]
              refine wpAnyH_ready (rs := [12]) (by kernel_rfl) (by simp) ?_
              refine (AllReadyH.cons (o := { dst := some 59, op := Op.call { callee := Callee.builtin Builtin.append, args := #[Operand.tmp 51, Operand.tmp 58], argTypes := #[31, 31] }, type := 31, pos := "law.go:196", after := #[{ on := 4, ground := Ground.data }, { on := 11, ground := Ground.data }, { on := 3, ground := Ground.chain }], guard := none }) rfl (fun K hK => ?_) AllReadyH.nil)
              refine Eq.mpr (if_pos (by rfl)) ?_
              obtain ⟨Kv, cv, x5, hrun, hrk, hfk, hbb⟩ := append_fresh x4 E4 w6.heap.size _ HE4.out A2' M c2' a.cut (HR7.out.2 _ HBX.out) (by omega) (by rw [HX0.out.1]; exact HBX.out.size) 31
              refine step_append_run (.tmp 51) (.tmp 58) rfl _ _ _ _ rfl rfl hrun ?_
              have hcl := HCELL.out _ (HBX.out.trans (hbb.mono HBX.out.size))
              have hsz5 : x4.heap.size ≤ x5.heap.size := hbb.size
              have HBX := Lib.hid (HBX.out.trans (hbb.mono HBX.out.size))
              have HE0 := Lib.hid (own_keep HE0.out hbb)
              have HE4 := Lib.hid (own_keep HE4.out hbb)
              have HKY := Lib.hid ((HKY.out.below hbb (Nat.le_refl _)).more hbb.size)
              have HKK := Lib.hid (And.intro ((HKK.out.1.below hbb (Nat.le_refl _)).more hbb.size) (HKK.out.2.below hbb (Nat.le_refl _)))
              have HVV := Lib.hid (And.intro hrk hfk)
              refine hK.out _ _ hcl (fun hHeld => ?_)
              clear hK K hbb hcl hrun hrk hfk
              simp only [Act.put, List.setIfInBounds_toArray, List.set_cons_zero, List.set_cons_succ]
              refine wpAnyH_take (i := 13) (oi := { dst := some 11, op := Op.assign (Operand.tmp 50), type := 31, pos := "law.go:196", after := #[{ on := 3, ground := Ground.data }, { on := 12, ground := Ground.chain }, { on := 0, ground := Ground.phase }, { on := 1, ground := Ground.phase }, { on := 2, ground := Ground.phase }, { on := 3, ground := Ground.phase }, { on := 4, ground := Ground.textOnly Departure.lateStores }, { on := 5, ground := Ground.textOnly Departure.lateStores }, { on := 6, ground := Ground.textOnly Departure.lateStores }, { on := 7, ground := Ground.textOnly Departure.lateStores }, { on := 8, ground := Ground.textOnly Departure.lateStores }, { on := 9, ground := Ground.textOnly Departure.lateStoresUnsure }, { on := 10, ground := Ground.textOnly Departure.lateStoresUnsure }, { on := 11, ground := Ground.textOnly Departure.lateStoresUnsure }, { on := 12, ground := Ground.textOnly Departure.lateStoresUnsure }], guard := none }) (v := ?_) rfl (by kernel_rfl) (by kernel_rfl) (by kernel_rfl) (fun _ _ _ h => h) (Or.inl ⟨by rfl, ?_⟩) (by assumption) ?_
              rotate_left
              · first | (intro w hSw; (try dsimp only at hSw); go_simp; done) | (intro w hSw; (try dsimp only at hSw); go_simp; with_reducible rfl)
              simp only [Act.put, List.setIfInBounds_toArray, List.set_cons_zero, List.set_cons_succ]
              refine wpAnyH_take (i := 14) (oi := { dst := some 12, op := Op.assign (Operand.tmp 59), type := 31, pos := "law.go:196", after := #[{ on := 12, ground := Ground.data }, { on := 13, ground := Ground.chain }, { on := 0, ground := Ground.phase }, { on := 1, ground := Ground.phase }, { on := 2, ground := Ground.phase }, { on := 3, ground := Ground.phase }, { on := 4, ground := Ground.phase }, { on := 5, ground := Ground.phase }, { on := 6, ground := Ground.phase }, { on := 7, ground := Ground.phase }, { on := 8, ground := Ground.phase }, { on := 9, ground := Ground.phase }, { on := 10, ground := Ground.phase }, { on := 11, ground := Ground.phase }, { on := 12, ground := Ground.phase }, { on := 13, ground := Ground.phase }], guard := none }) (v := ?_) rfl (by kernel_rfl) (by kernel_rfl) (by kernel_rfl) (fun _ _ _ h => h) (Or.inl ⟨by rfl, ?_⟩) (by assumption) ?_
              rotate_left
              · first | (intro w hSw; (try dsimp only at hSw); go_simp; done) | (intro w hSw; (try dsimp only at hSw); go_simp; with_reducible rfl)
              simp only [Act.put, List.setIfInBounds_toArray, List.set_cons_zero, List.set_cons_succ]
              refine wpAnyH_done (by kernel_rfl) ?_ _
              go_wp2_with fail
              go_meet
              case rel => exact ⟨Kk, ny, ck2, Kv, M, cv, rfl, rfl, HKK.out.1, HKK.out.2, HVV.out.1, HVV.out.2, HX0.out.2.trans (HBX.out.mono (Nat.le_of_eq HX0.out.1))⟩
        case rest =>
          generalize wc = wa at *
          obtain ⟨Kk, ny, ck2, Kv, M', cv, rfl, rfl, hkr, hkf, hvr, hvf, hbc⟩ := hcut
          have hsc := hbc.size
          have HSC := Lib.hid (HS6.out.on hbc)
          have hkl : ny ≤ 90 := by rw [← hkr.len, HKL.out]; omega
          have hk1 : 1 ≤ ny := by have := a.key_pos; rw [hkr.len] at this; exact this
          have hvl : M' ≤ 100 := by rw [← hvr.len]; show (a.val.take 100).length ≤ 100; rw [List.length_take]; omega
          have hBy1 := Byt.mk (g := w6.heap.size) hkr (fun b o e _ => ⟨(hkf b o e).1, (hkf b o e).2.2⟩)
          have hBy2 := Byt.mk (g := w6.heap.size) hvr (fun b o e _ => ⟨(hvf b o e).1, (hvf b o e).2.2⟩)
          have hTG := HS6.out.tree
          have hwb : w4.heap.size ≤ w6.heap.size := HS6.out.bel.size
          obtain ⟨G, hG⟩ : ∃ G : Nat → Prop, (fun b => ∀ o, Kk ≠ some ⟨b, o, none⟩ ∧ Kv ≠ some ⟨b, o, none⟩) = G := ⟨_, rfl⟩
          have hG6 : ∀ b, b < w6.heap.size → G b := fun b hb => by
            subst hG
            exact fun o => ⟨fun e => by have := (hkf b o e).1; omega, fun e => by have := (hvf b o e).1; omega⟩
          have hGn : ∀ b, wa.heap.size ≤ b → G b := fun b hb => by
            subst hG
            exact fun o => ⟨fun e => by have := (hkf b o e).2.1; omega, fun e => by have := (hvf b o e).2.1; omega⟩
          have hGK : ∀ b o, Kk = some ⟨b, o, none⟩ → ¬ G b := fun b o e => by subst hG; exact fun h => (h o).1 e
          have hGV : ∀ b o, Kv = some ⟨b, o, none⟩ → ¬ G b := fun b o e => by subst hG; exact fun h => (h o).2 e
          have hTc : TIn G wa wa.heap.size ou gu := ((hTG.regood fun b hb _ => hG6 b hb).below hbc (Nat.le_refl _)).more hsc
          have HGG := Lib.hid (And.intro hG6 (And.intro hGn (And.intro hGK hGV)))
          have HKC := Lib.hid (And.intro hkr hBy1)
          have HVC := Lib.hid (And.intro hvr hBy2)
          have HTC := Lib.hid hTc
          have HB6C := Lib.hid hbc
          have HTBC := Lib.hid (Sh.tab_below HT.out (HB4.out.trans (HSC.out.bel.mono hw4)) hw)
          have hRm : Room G wa := ⟨by omega, hGn⟩
          have HWC := Lib.hid (HW6.out.below hbc hgs6)
          have q0 : wa.cell? ⟨g3, 0, none⟩ = some (.int .u8 a.kind.toNat) := HWC.out.at_ rfl
          have hgc : g3 < wa.heap.size := by omega
          clear hkr hkf hvr hvf hbc hBy1 hBy2 hTG hTc hG hG6 hGn hGK hGV HR6 HW6
          go_upto_if 63 with (fail)
          go_cut [8] (fun s8 wx => ∃ ou' gu', s8 = ptr (some gu') ∧ TIn G wx wx.heap.size ou' gu' ∧ Fine ou' ∧ oln ou' ≤ 40 + (i + 1) ∧ Below wa.heap.size wa wx)
          case first =>
            by_cases hk6 : a.kind.toNat % 6 < 4
            · have hk6' : (a.kind.toNat : Int) % 6 < 4 := by omega
              have HP := Lib.hid (put_any ou gu Kk Kv ny ck2 M' cv a.key a.cut wa HTC.out HKC.out.1 HVC.out.1 hk1 (by omega) (by omega) (by have := HSC.out.few; omega) HTBC.out hRm)
              go_wp2_with fail
              refine HP.out.mono ?_
              rintro e w8 ⟨g8, rfl, hg8, hT8, hb8⟩
              have HH := Lib.hid (And.intro hT8 hb8)
              clear hT8 hb8 HP
              go_wp2_with fail
              go_meet
              case rel => exact ⟨_, g8, rfl, HH.out.1, HSC.out.fine.put a.key a.cut, by have h1 := oput_n ou a.key a.cut; have h2 := HSC.out.few; show (oput ou a.key a.cut).n ≤ _; omega, HH.out.2⟩
            · have hk6' : 4 ≤ (a.kind.toNat : Int) % 6 := by omega
              have HP := Lib.hid (cut_any (some ou) (some gu) Kk ny ck2 a.key wa ⟨gu, rfl, HTC.out⟩ HKC.out.1 (by have := HSC.out.few; show oln ou ≤ _; omega) HTBC.out hRm)
              go_wp2_with fail
              refine HP.out.mono ?_
              rintro e w8 hpost
              rcases hpost with ⟨-, rfl, rfl⟩ | ⟨v, g8, hf, rfl, hg8, hT8, hb8⟩
              · clear HP
                go_wp2_with fail
                go_meet
                case rel => exact ⟨ou, gu, rfl, HTC.out, HSC.out.fine, by have h2 := HSC.out.few; omega, Below.refl _ _⟩
              · have HH := Lib.hid (And.intro hT8 (And.intro hb8 hf))
                clear hT8 hb8 HP hf
                go_wp2_with fail
                go_meet
                case rel =>
                  have hfs : (ofind ou a.key).isSome = true := by rw [show ofind ou a.key = some v from HH.out.2.2]; rfl
                  exact ⟨_, g8, rfl, HH.out.1, HSC.out.fine.cut a.key hfs, by
                    have hcl := ocut_leaves ou a.key HSC.out.fine.srt hfs
                    have h1 := cutL_le (optLeaves ou) a.key
                    have h2 := HSC.out.few
                    rw [← oln_leaves, show topOf (some ou) = ou from rfl, hcl]
                    rw [oln_leaves] at h1
                    omega, HH.out.2.1⟩
          case rest =>
            generalize wc = wd at *
            obtain ⟨ov, gv, rfl, hT9, hF9, hf9, hb9⟩ := hcut
            have hs9 := hb9.size
            have HTB9 := Lib.hid (Sh.tab_below HT.out (HB4.out.trans (HSC.out.bel.trans (hb9.mono (by have := HSC.out.bel.size; omega)) |>.mono hw4)) hw)
            have HF9 := Lib.hid (And.intro hF9 hf9)
            have HBY9 := Lib.hid (And.intro (HKC.out.2.on hb9) (HVC.out.2.on hb9))
            have HBD := Lib.hid (HSC.out.bel.trans (hb9.mono HSC.out.bel.size))
            have HR := Lib.hid (root_any (G := G) (some ov) (some gv) wd ⟨gv, rfl, hT9⟩ HTB9.out (by omega))
            have HT9 := Lib.hid hT9
            have hlv : (osum ov).length = 32 := osum32 ov
            clear hT9 hF9 hf9 hb9 q0 hRm HTC HKC HVC HTBC HWC HS6 HB6C HSC hgs6
            go_wp2_with fail
            refine HR.out.mono ?_
            rintro e w8 ⟨rfl, hb8⟩
            have hs8 := hb8.size
            rw [show topOf (some ov) = ov from rfl]
            simp only []
            have hz49 := zero49
            clear HR
            iterate 4 go_step
            clear hz49
            have hwm := Whole.made w8 29 (zb 32)
            refine wpList_store_mid rfl 29 (.tmp 13) (.tmp 78) rfl w8.heap.size 0 (Sh.bcells (osum ov)) rfl rfl ?_ ?_ (Sh.bcells_one _) ?_
            · rw [show (Sh.bcells (osum ov)).size = (zb 32).size from by rw [zb_size]; simp [Sh.bcells, hlv]]; exact hwm.there_
            · rw [show (Sh.bcells (osum ov)).size = (zb 32).size from by rw [zb_size]; simp [Sh.bcells, hlv], zb_size]; exact info49
            have hws := hwm.setAll (vs := Sh.bcells (osum ov)) (by rw [zb_size]; simp [Sh.bcells, hlv])
            have hbs : Below w8.heap.size w8 ((w8.alloc (.cells (zb 32) 29)).setCells w8.heap.size 0 (Sh.bcells (osum ov)).toList) := below_setCells w8 w8.heap.size _ 0 ((Below.refl _ _).alloc (Nat.le_refl _) _) (Nat.le_refl _)
            generalize (w8.alloc (.cells (zb 32) 29)).setCells w8.heap.size 0 (Sh.bcells (osum ov)).toList = wz at *
            obtain ⟨gw, hgw⟩ : ∃ g, w8.heap.size = g := ⟨_, rfl⟩
            rw [hgw] at hws ⊢
            have hbz := hb8.trans (hbs.mono hs8)
            have hsz : w8.heap.size ≤ wz.heap.size := hbs.size
            have hgwz : gw < wz.heap.size := hws.lt
            have hrz : wz.rangeAt gw 0 ((osum ov).map V8) := hws.range
            have HRZ := Lib.hid hrz
            have HTZ := Lib.hid (HT9.out.on hbz)
            have HBYZ := Lib.hid (And.intro (HBY9.out.1.on hbz) (HBY9.out.2.on hbz))
            have HBZ := Lib.hid (HBD.out.trans (hbz.mono HBD.out.size))
            have hwz : w6.heap.size ≤ wz.heap.size := by omega
            have hGw : G gw := HGG.out.2.1 gw (by omega)
            clear hwm hws hbs hb8 hbz hrz HT9 HBY9 HBD HTB9
            go_upto_block 2 with fail
            go_cut [14] (fun _ wx => Kp G wz wx ∧ wx.heap.size = wz.heap.size ∧ Byt wx w6.heap.size Kk ny ∧ Byt wx w6.heap.size Kv M')
            case first =>
              go_wp2_with fail
              go_loopg [81, 14] ny (fun gk s5 s6 wx => ∃ i, i + gk = ny ∧ s5 = .int .i64 (i : Nat) ∧ Kp G wz wx ∧ wx.heap.size = wz.heap.size ∧ Byt wx w6.heap.size Kk ny ∧ Byt wx w6.heap.size Kv M')
              case atStart => exact ⟨0, by omega, rfl, Kp.refl G wz, rfl, HBYZ.out.1, HBYZ.out.2⟩
              case round =>
                obtain ⟨j, hj, rfl, hkp, hsj, hby, hbv⟩ := hrel
                by_cases hjn : j < ny
                · have HH := Lib.hid (And.intro hkp (And.intro hsj (And.intro hby hbv)))
                  obtain ⟨b1, q, hq, hge, hlt, hcs, hfree⟩ := hby (by omega)
                  obtain ⟨x, c1⟩ := hcs j hjn
                  have f1 := hfree (q + j)
                  obtain ⟨x', hx'⟩ := xor_255 x
                  have HC1 := Lib.hid c1
                  have HNG := Lib.hid (HGG.out.2.2.1 b1 q hq)
                  subst hq
                  clear hkp hsj hby hbv hcs hfree
                  go_wp2_with fail
                  go_roundg (ny - (j + 1))
                  case measure => omega
                  case rel =>
                    obtain ⟨hkp, hsj, hby, hbv⟩ := HH.out
                    exact ⟨j + 1, by omega, by go_num, hkp.turn _ (.inr HNG.out), by rw [World.size_setCell]; exact hsj, hby.turn x' ⟨x, HC1.out⟩, hbv.turn x' ⟨x, HC1.out⟩⟩
                · have HH := Lib.hid (And.intro hkp (And.intro hsj (And.intro hby hbv)))
                  clear hkp hsj hby hbv
                  go_wp2_with fail
                  go_meet
                  case rel => exact HH.out
            case rest =>
              obtain ⟨hkp1, hsz1, hky1, hvy1⟩ := hcut
              generalize wc = wk at *
              have HK1 := Lib.hid (And.intro hkp1 (And.intro hsz1 hvy1))
              clear hkp1 hky1 hvy1 HBYZ
              go_upto_block 4 with fail
              go_cut [15] (fun _ wx => Kp G wz wx ∧ wx.heap.size = wz.heap.size)
              case first =>
                go_wp2_with fail
                go_loopg [93, 15] M' (fun gk s5 s6 wx => ∃ i, i + gk = M' ∧ s5 = .int .i64 (i : Nat) ∧ Kp G wz wx ∧ wx.heap.size = wz.heap.size ∧ Byt wx w6.heap.size Kv M')
                case atStart => exact ⟨0, by omega, rfl, HK1.out.1, HK1.out.2.1, HK1.out.2.2⟩
                case round =>
                  obtain ⟨j, hj, rfl, hkp, hsj, hby⟩ := hrel
                  by_cases hjn : j < M'
                  · have HH := Lib.hid (And.intro hkp (And.intro hsj (And.intro hby trivial)))
                    obtain ⟨b1, q, hq, hge, hlt, hcs, hfree⟩ := hby (by omega)
                    obtain ⟨x, c1⟩ := hcs j hjn
                    have f1 := hfree (q + j)
                    obtain ⟨x', hx'⟩ := xor_255 x
                    have HC1 := Lib.hid c1
                    have HNG := Lib.hid (HGG.out.2.2.2 b1 q hq)
                    subst hq
                    clear hkp hsj hby hcs hfree
                    go_wp2_with fail
                    go_roundg (M' - (j + 1))
                    case measure => omega
                    case rel =>
                      obtain ⟨hkp, hsj, hby, hbv⟩ := HH.out
                      exact ⟨j + 1, by omega, by go_num, hkp.turn _ (.inr HNG.out), by rw [World.size_setCell]; exact hsj, hby.turn x' ⟨x, HC1.out⟩⟩
                  · have HH := Lib.hid (And.intro hkp (And.intro hsj (And.intro hby trivial)))
                    clear hkp hsj hby
                    go_wp2_with fail
                    go_meet
                    case rel => exact ⟨HH.out.1, HH.out.2.1⟩
              case rest =>
                obtain ⟨hkp2, hsz2⟩ := hcut
                generalize wc = wv at *
                have HK2 := Lib.hid hkp2
                clear hkp2 HK1
                have HTV := Lib.hid (HK2.out.tree HTZ.out)
                have HAL := Lib.hid (all_any (G := G) ov gv wv HTV.out (by have := HF9.out.2; omega))
                rw [ptr_some] at HAL
                simp only [ptr_some]
                go_wp2_with fail
                refine HAL.out.mono ?_
                rintro e wp hpo
                obtain ⟨vp, np, rfl, hO, hbp⟩ := hpo
                have hnp : np ≤ 1000 := by
                  obtain ⟨_, _, h2, _⟩ := hO
                  rw [← h2, oln_leaves]
                  have := HF9.out.2
                  omega
                obtain ⟨Ap, cp, rfl, hcp, _⟩ := hO.pown.form
                obtain ⟨xs, hkr, hsec⟩ := hO.keys (tin_leaves HTV.out)
                have HKP := Lib.hid (And.intro (HK2.out.on hbp) (And.intro hbp.size (And.intro hkr hsec)))
                clear hkr hsec hO hbp HAL
                go_upto_block 6 with fail
                go_cut [17] (fun _ wx => Kp G wz wx)
                case first =>
                  go_wp2_with fail
                  go_loopg [106, 17] np (fun gk s5 s6 wx => ∃ p, p + gk = np ∧ s5 = .int .i64 (p : Nat) ∧ Kp G wz wx ∧ wv.heap.size ≤ wx.heap.size ∧ KeyRow wx wv.heap.size Ap 2 xs np)
                  case atStart => exact ⟨0, by omega, rfl, HKP.out.1, HKP.out.2.1, HKP.out.2.2.1⟩
                  case round =>
                    obtain ⟨p, hp, rfl, hkp, hsp, hkr⟩ := hrel
                    by_cases hpn : p < np
                    · obtain ⟨R, o1, hAp, hR, hcells, hkeys⟩ := hkr.2 (by omega)
                      obtain ⟨K, nk, ck, e0, hn96, hbyt, hne⟩ := hkeys p hpn
                      obtain ⟨K2, k2, d2, e1⟩ := HKP.out.2.2.2 p hpn
                      have c0 : wr.cell? ⟨R, o1 + p * 2, none⟩ = some (.slice K nk ck) := by have h := hcells _ _ e0; rwa [show o1 + 2 * p = o1 + p * 2 by omega] at h
                      have c1 : wr.cell? ⟨R, o1 + p * 2 + 1, none⟩ = some (.slice K2 k2 d2) := by have h := hcells _ _ e1; rwa [show o1 + (2 * p + 1) = o1 + p * 2 + 1 by omega] at h
                      have HI0 := Lib.hid (And.intro hkp (And.intro hsp (And.intro hkr hbyt)))
                      have hnb : ∀ b q, K = some ⟨b, q, none⟩ → 0 < nk → b < wr.heap.size ∧ ∀ R o, Ap = some ⟨R, o, none⟩ → b ≠ R := fun b q e h0 => by
                        obtain ⟨b', q', e', _, h2, _⟩ := hbyt h0
                        rw [e] at e'
                        injection e' with e'
                        injection e' with e1 _
                        subst e1
                        refine ⟨h2, fun R' o' e3 => ?_⟩
                        rw [hAp] at e3
                        injection e3 with e3
                        injection e3 with e3 _
                        subst e3
                        exact hne b q e h0
                      have HNB := Lib.hid hnb
                      subst hAp
                      clear hkp hsp hkr hbyt hkeys hcells hne hnb
                      have hz44 := zero44
                      go_upto_region 27 with (fail)
                      refine wp_region_lit ?_
                      iterate 9 go_step
                      clear hz44 c0 c1
                      have hw2 := Whole.made wr 42 #[.slice none 0 0, .slice none 0 0]
                      refine wpList_store_mid rfl 42 (.tmp 17) (.tmp 109) rfl wr.heap.size 0 #[.slice K nk ck, .slice K2 k2 d2] rfl rfl ?_ ?_ (by simp [Value.oneCell']) ?_
                      · exact hw2.there_
                      · exact info42s
                      have hwp2 := hw2.setAll (vs := #[.slice K nk ck, .slice K2 k2 d2]) rfl
                      have hbp2 : Below wr.heap.size wr ((wr.alloc (.cells #[.slice none 0 0, .slice none 0 0] 42)).setCells wr.heap.size 0 #[.slice K nk ck, .slice K2 k2 d2].toList) := below_setCells wr wr.heap.size _ 0 ((Below.refl _ _).alloc (Nat.le_refl _) _) (Nat.le_refl _)
                      generalize (wr.alloc (.cells #[.slice none 0 0, .slice none 0 0] 42)).setCells wr.heap.size 0 #[.slice K nk ck, .slice K2 k2 d2].toList = w20 at *
                      clear hw2
                      have HI := Lib.hid (And.intro (HI0.out.1.on hbp2) (And.intro (Nat.le_trans HI0.out.2.1 hbp2.size) (And.intro (HI0.out.2.2.1.on hbp2) (And.intro hwp2 (HI0.out.2.2.2.on hbp2)))))
                      obtain ⟨gp, hgp⟩ : ∃ g, wr.heap.size = g := ⟨_, rfl⟩
                      rw [hgp] at HI HNB ⊢
                      have kp0 := HI.out.2.2.2.1.at_ (i := 0) rfl
                      clear hwp2 hbp2 HI0 hgp
                      go_wp2_with fail
                      clear kp0
                      go_loopg [113, 18] nk (fun gk s5 s6 wx => ∃ j, j + gk = nk ∧ s5 = .int .i64 (j : Nat) ∧ Kp G wz wx ∧ wv.heap.size ≤ wx.heap.size ∧ KeyRow wx wv.heap.size (some ⟨R, o1, none⟩) 2 xs np ∧ Whole wx gp 42 #[.slice K nk ck, .slice K2 k2 d2] ∧ Byt wx wv.heap.size K nk)
                      case atStart => exact ⟨0, by omega, rfl, HI.out⟩
                      case round =>
                        obtain ⟨j, hj, rfl, hkp, hsj, hkr, hW, hby⟩ := hrel
                        have kp0 := hW.at_ (i := 0) rfl
                        by_cases hjn : j < nk
                        · have HH := Lib.hid (And.intro hkp (And.intro hsj (And.intro hkr (And.intro hW hby))))
                          obtain ⟨b1, q, hq, hge, hlt, hcs, hfree⟩ := hby (by omega)
                          obtain ⟨x, c1⟩ := hcs j hjn
                          have f1 := hfree (q + j)
                          obtain ⟨x', hx'⟩ := xor_255 x
                          have HC1 := Lib.hid c1
                          have HNE := Lib.hid (HNB.out b1 q hq (by omega))
                          subst hq
                          clear hkp hsj hby hcs hfree hkr hW
                          go_wp2_with fail
                          go_roundg (nk - (j + 1))
                          case measure => omega
                          case rel =>
                            obtain ⟨hkp, hsj, hkr, hW, hby⟩ := HH.out
                            obtain ⟨hn1, hn2⟩ := HNE.out
                            exact ⟨j + 1, by omega, by go_num, hkp.turn _ (.inl (by omega)), by rw [World.size_setCell]; exact hsj, hkr.turn x' ⟨x, HC1.out⟩ hn2, (Below.heap_setCell wr ⟨b1, q + j, none⟩ _ gp (by show gp ≠ b1; omega)).trans hW, hby.turn x' ⟨x, HC1.out⟩⟩
                        · have HH := Lib.hid (And.intro hkp (And.intro hsj hkr))
                          clear hkp hsj hby hkr hW
                          go_wp2_with fail
                          go_roundg (np - (p + 1))
                          case measure => omega
                          case rel => exact ⟨p + 1, by omega, by go_num, HH.out⟩
                    · have HH := Lib.hid hkp
                      clear hkp hkr
                      go_wp2_with fail
                      go_meet
                      case rel => exact HH.out
                case rest =>
                  generalize wc = wq at *
                  have HKQ := Lib.hid hcut
                  clear hcut HKP HTV HK2
                  have HTQ := Lib.hid (HKQ.out.tree HTZ.out)
                  have hsq : wz.heap.size ≤ wq.heap.size := HKQ.out.size
                  have HNL := Lib.hid (nodes_any (G := G) ov gv wq HTQ.out (by have := HF9.out.2; omega))
                  rw [ptr_some] at HNL
                  go_wp2_with fail
                  refine HNL.out.mono ?_
                  rintro e wn hpo
                  obtain ⟨vn, rfl, hO, hbn⟩ := hpo
                  obtain ⟨nn, hnn⟩ : ∃ x, (oall ov).length = x := ⟨_, rfl⟩
                  have hnn2 : nn ≤ 2000 := by
                    have h2 := HF9.out.2
                    rw [← hnn]
                    cases ov with
                    | none => simp [oall]
                    | some t =>
                      have h1 := all_len t
                      have h3 : oln (some t) = t.n := rfl
                      show t.all.length ≤ _
                      omega
                  rw [hnn] at hO
                  obtain ⟨An, cn, rfl, hcn, _⟩ := hO.pown.form
                  obtain ⟨ys, hkr, hone⟩ := hO.keys (tin_all HTQ.out)
                  have HKN := Lib.hid (And.intro (HKQ.out.on hbn) (And.intro hbn.size (And.intro hkr hone)))
                  clear hkr hone hO hbn HNL hnn
                  go_upto_block 10 with fail
                  go_cut [20] (fun _ wx => Kp G wz wx)
                  case first =>
                    go_wp2_with fail
                    go_loopg [128, 20] nn (fun gk s5 s6 wx => ∃ p, p + gk = nn ∧ s5 = .int .i64 (p : Nat) ∧ Kp G wz wx ∧ wq.heap.size ≤ wx.heap.size ∧ KeyRow wx wq.heap.size An 68 ys nn)
                    case atStart => exact ⟨0, by omega, rfl, HKN.out.1, HKN.out.2.1, HKN.out.2.2.1⟩
                    case round =>
                      obtain ⟨p, hp, rfl, hkp, hsp, hkr⟩ := hrel
                      by_cases hpn : p < nn
                      · obtain ⟨R, o1, hAp, hR, hcells, hkeys⟩ := hkr.2 (by omega)
                        obtain ⟨K, nk, ck, e0, hn96, hbyt, hne⟩ := hkeys p hpn
                        obtain ⟨vs, hvs⟩ : ∃ vs, (ys.drop (68 * p)).take 68 = vs := ⟨_, rfl⟩
                        have hvl : vs.length = 68 := by rw [← hvs, List.length_take, List.length_drop, hkr.1]; omega
                        have hv0 : vs.toArray[0]? = some (.slice K nk ck) := by rw [List.getElem?_toArray, ← hvs, List.getElem?_take, if_pos (by omega), List.getElem?_drop, Nat.add_zero]; exact e0
                        have hvo : vs.toArray.all (·.oneCell') = true := all_oneCell_toArray fun u hu => HKN.out.2.2.2 u (List.mem_of_mem_drop (List.mem_of_mem_take (by rw [hvs]; exact hu)))
                        have hvr : wr.rangeAt R (o1 + p * 68) vs := fun j u hu => by
                          rw [← hvs, List.getElem?_take] at hu
                          split at hu
                          · rw [List.getElem?_drop] at hu
                            have h := hcells _ _ hu
                            rwa [show o1 + (68 * p + j) = o1 + p * 68 + j by omega] at h
                          · cases hu
                        have hva : vs.toArray.size = z64.size := by rw [List.size_toArray, hvl, z64_size]
                        have HI0 := Lib.hid (And.intro hkp (And.intro hsp (And.intro hkr hbyt)))
                        have hnb : ∀ b q, K = some ⟨b, q, none⟩ → 0 < nk → b < wr.heap.size ∧ ∀ R o, An = some ⟨R, o, none⟩ → b ≠ R := fun b q e h0 => by
                          obtain ⟨b', q', e', _, h2, _⟩ := hbyt h0
                          rw [e] at e'
                          injection e' with e'
                          injection e' with e1 _
                          subst e1
                          refine ⟨h2, fun R' o' e3 => ?_⟩
                          rw [hAp] at e3
                          injection e3 with e3
                          injection e3 with e3 _
                          subst e3
                          exact hne b q e h0
                        have HNB := Lib.hid hnb
                        subst hAp
                        clear hkp hsp hkr hbyt hkeys hcells hne hnb
                        have hz64 := zero64
                        clear hvs e0
                        go_upto_region 36 with (fail)
                        refine wp_region_lit ?_
                        iterate 3 go_step
                        refine wpList_load_mid rfl 47 (.tmp 130) rfl R (o1 + p * 68) rfl vs _ hvr Tryd.underlying47 rfl (by rw [hvl]; exact info64) ?_
                        simp only [Act.put, List.setIfInBounds_toArray, List.set_cons_zero, List.set_cons_succ]
                        iterate 3 go_step
                        clear hz64 hvr
                        have hw2 := Whole.made wr 47 z64
                        refine wpList_store_mid rfl 47 (.tmp 20) (.tmp 131) rfl wr.heap.size 0 vs.toArray rfl rfl ?_ ?_ hvo ?_
                        · rw [hva]; exact hw2.there_
                        · rw [hva]; exact info64
                        have hwp2 := hw2.setAll (vs := vs.toArray) hva.symm
                        have hbp2 : Below wr.heap.size wr ((wr.alloc (.cells z64 47)).setCells wr.heap.size 0 vs.toArray.toList) := below_setCells wr wr.heap.size _ 0 ((Below.refl _ _).alloc (Nat.le_refl _) _) (Nat.le_refl _)
                        generalize (wr.alloc (.cells z64 47)).setCells wr.heap.size 0 vs.toArray.toList = w20 at *
                        clear hw2 hvo hva hvl
                        have HI := Lib.hid (And.intro (HI0.out.1.on hbp2) (And.intro (Nat.le_trans HI0.out.2.1 hbp2.size) (And.intro (HI0.out.2.2.1.on hbp2) (And.intro hwp2 (HI0.out.2.2.2.on hbp2)))))
                        obtain ⟨gp, hgp⟩ : ∃ g, wr.heap.size = g := ⟨_, rfl⟩
                        rw [hgp] at HI HNB ⊢
                        have kp0 := HI.out.2.2.2.1.at_ (i := 0) hv0
                        clear hwp2 hbp2 HI0 hgp
                        go_wp2_with fail
                        clear kp0
                        go_loopg [135, 21] nk (fun gk s5 s6 wx => ∃ j, j + gk = nk ∧ s5 = .int .i64 (j : Nat) ∧ Kp G wz wx ∧ wq.heap.size ≤ wx.heap.size ∧ KeyRow wx wq.heap.size (some ⟨R, o1, none⟩) 68 ys nn ∧ Whole wx gp 47 vs.toArray ∧ Byt wx wq.heap.size K nk)
                        case atStart => exact ⟨0, by omega, rfl, HI.out⟩
                        case round =>
                          obtain ⟨j, hj, rfl, hkp, hsj, hkr, hW, hby⟩ := hrel
                          have kp0 := hW.at_ (i := 0) hv0
                          by_cases hjn : j < nk
                          · have HH := Lib.hid (And.intro hkp (And.intro hsj (And.intro hkr (And.intro hW hby))))
                            obtain ⟨b1, q, hq, hge, hlt, hcs, hfree⟩ := hby (by omega)
                            obtain ⟨x, c1⟩ := hcs j hjn
                            have f1 := hfree (q + j)
                            obtain ⟨x', hx'⟩ := xor_255 x
                            have HC1 := Lib.hid c1
                            have HNE := Lib.hid (HNB.out b1 q hq (by omega))
                            subst hq
                            clear hkp hsj hby hcs hfree hkr hW
                            go_wp2_with fail
                            go_roundg (nk - (j + 1))
                            case measure => omega
                            case rel =>
                              obtain ⟨hkp, hsj, hkr, hW, hby⟩ := HH.out
                              obtain ⟨hn1, hn2⟩ := HNE.out
                              exact ⟨j + 1, by omega, by go_num, hkp.turn _ (.inl (by omega)), by rw [World.size_setCell]; exact hsj, hkr.turn x' ⟨x, HC1.out⟩ hn2, (Below.heap_setCell wr ⟨b1, q + j, none⟩ _ gp (by show gp ≠ b1; omega)).trans hW, hby.turn x' ⟨x, HC1.out⟩⟩
                          · have HH := Lib.hid (And.intro hkp (And.intro hsj hkr))
                            clear hkp hsj hby hkr hW
                            go_wp2_with fail
                            go_roundg (nn - (p + 1))
                            case measure => omega
                            case rel => exact ⟨p + 1, by omega, by go_num, HH.out⟩
                      · have HH := Lib.hid hkp
                        clear hkp hkr
                        go_wp2_with fail
                        go_meet
                        case rel => exact HH.out
                  case rest =>
                    generalize wc = wf at *
                    have HKF := Lib.hid hcut
                    clear hcut HKN HTQ HKQ hsq
                    have hsf : wz.heap.size ≤ wf.heap.size := HKF.out.size
                    have HTF := Lib.hid (HKF.out.tree HTZ.out)
                    have HBF := Lib.hid (HKF.out.below (B := w4.heap.size) (by omega) (fun b hb => HGG.out.1 b (by omega)))
                    have HBW := Lib.hid (HBZ.out.trans HBF.out)
                    have HTBF := Lib.hid (Sh.tab_below HT.out (HB4.out.trans (HBW.out.mono hw4)) hw)
                    have heq : ∀ u : World, (Op.equalIn 10000 29 (.agg (Sh.bcells (osum ov))) (.agg ((osum ov).map V8).toArray)).run Tryd.prog u = .ok true u := fun u => by
                      have := run_eq49 (osum ov) (osum ov) hlv hlv u
                      rw [beq_self_eq_true] at this
                      exact this
                    have hi29 : (Tryd.prog.info? 29).map (·.size) = some ((osum ov).map V8).length := by rw [List.length_map, hlv]; exact info49
                    have hrf : wf.rangeAt gw 0 ((osum ov).map V8) := fun j v hv => (World.cell?_of_block (HKF.out.block gw hgwz hGw)).trans (HRZ.out j v hv)
                    go_upto_region 43 with (fail)
                    have hS0 : wf.drew.rangeAt gw 0 ((osum ov).map V8) := hrf
                    refine wp_region_held_drew (S := fun u => u.rangeAt gw 0 ((osum ov).map V8)) (by kernel_rfl) hS0 (fun hHeld => ?_)
                    clear hS0
                    refine wpAnyH_take (i := 0) (oi := { dst := some 147, op := Op.move (Operand.tmp 8), type := 24, pos := "law.go:219", after := #[], guard := none }) (v := ?_) rfl (by kernel_rfl) (by kernel_rfl) (by kernel_rfl) (fun _ _ _ h => h) (Or.inl ⟨by rfl, ?_⟩) (by assumption) ?_
                    rotate_left
                    · first | (intro w hSw; (try dsimp only at hSw); go_simp; done) | (intro w hSw; (try dsimp only at hSw); go_simp; with_reducible rfl)
                    simp only [Act.put, List.setIfInBounds_toArray, List.set_cons_zero, List.set_cons_succ]
                    refine wpAnyH_take (i := 2) (oi := { dst := some 149, op := Op.load 29 (Operand.tmp 13), type := 29, pos := "law.go:219", after := #[], guard := none }) (v := .agg ((osum ov).map V8).toArray) rfl (by kernel_rfl) (by kernel_rfl) (by kernel_rfl) (fun _ _ _ h => h) (yieldsIf_load_mid (by rfl) 29 (.tmp 13) rfl gw 0 rfl ((osum ov).map V8) _ (fun _ h => h) Tryd.underlying29 rfl hi29) (by assumption) ?_
                    simp only [Act.put, List.setIfInBounds_toArray, List.set_cons_zero, List.set_cons_succ]
                    have HTd : Hid (TIn G wf.drew wf.drew.heap.size ov gv) := Lib.hid (HTF.out.on (Below.refl _ _).drew)
                    have HTBd : Hid (Sh.Tab wf.drew 1) := Lib.hid HTBF.out
                    have HBd : Hid (Below w4.heap.size w4 wf.drew) := Lib.hid HBW.out.drew
                    have hrd : wf.drew.rangeAt gw 0 ((osum ov).map V8) := hrf
                    have hsd : wz.heap.size ≤ wf.drew.heap.size := hsf
                    clear hHeld hrf HTF HTBF HBF HBW HKF
                    generalize wf.drew = wg at *
                    have HRT := Lib.hid (root_any (G := G) (some ov) (some gv) wg ⟨gv, rfl, HTd.out⟩ HTBd.out (by omega))
                    rw [ptr_some] at HRT
                    refine wpAnyH_ready (rs := [1]) (by kernel_rfl) (by simp) ?_
                    refine AllReadyH.cons (o := { dst := some 148, op := Op.call { callee := Callee.value (Operand.func 8), args := #[Operand.tmp 147], argTypes := #[24] }, type := 29, pos := "law.go:219", after := #[{ on := 0, ground := Ground.data }], guard := none }) rfl (fun K hK => ?_) AllReadyH.nil
                    go_simp
                    refine HRT.out.mono ?_
                    rintro e wh ⟨rfl, hbh⟩
                    rw [show topOf (some ov) = ov from rfl]
                    have hrh := range_on hrd hbh (by omega)
                    have HTh := Lib.hid ((HTd.out.on hbh).regood (G' := All) (fun _ _ _ => trivial))
                    have HBh := Lib.hid (HBd.out.trans (hbh.mono HBd.out.size))
                    refine hK.out _ _ hrh (fun hHeld => ?_)
                    clear hK K HRT hbh hrd HTd HBd HTBd
                    refine wpAnyH_take (i := 3) (oi := { dst := some 150, op := Op.binOp BinOp.neq 29 (Operand.tmp 148) (Operand.tmp 149) 29, type := 4, pos := "law.go:219", after := #[{ on := 1, ground := Ground.data }, { on := 2, ground := Ground.data }], guard := none }) (v := ?_) rfl (by kernel_rfl) (by kernel_rfl) (by kernel_rfl) (fun _ _ _ h => h) (Or.inl ⟨by rfl, ?_⟩) (by assumption) ?_
                    rotate_left
                    · first | (intro w hSw; (try dsimp only at hSw); go_simp; done) | (intro w hSw; (try dsimp only at hSw); go_simp; with_reducible rfl)
                    simp only [Act.put, List.setIfInBounds_toArray, List.set_cons_zero, List.set_cons_succ]
                    refine wpAnyH_done (by kernel_rfl) ?_ _
                    clear hHeld hrh heq
                    go_wp2_with fail
                    go_roundg gn
                    case measure => omega
                    case rel => exact ⟨i + 1, ov, gv, by omega, by omega, by go_num, rfl, ⟨HTh.out, HF9.out.1, HF9.out.2, HBh.out⟩⟩
end Go.Proofs.YtolkpjbbfopmnaaDoor

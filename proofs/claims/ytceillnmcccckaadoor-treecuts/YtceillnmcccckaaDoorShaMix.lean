/-
  What sha.mix returns for eight words and a block of 64 bytes: the eight words behind the block, as the chapter says; conditions: the block's length, and that the package's table holds its 64 words. It only makes memory of its own.
-/
import Derived.Test.YtceillnmcccckaaDoorShaSched
namespace Go.Proofs.YtceillnmcccckaaDoor.Sh
open Go.RowKit
def Sha.St.list (s : Sha.St) : List UInt32 := [s.a, s.b, s.c, s.d, s.e, s.f, s.g, s.h]
def Tab (w : World) (g : Nat) : Prop := ∀ i, i < 64 → w.cell? ⟨g, i, none⟩ = some (.int .u32 (Sha.kk.getD i 0).toNat)
theorem turned_es (x : UInt32) (w : World) : Calls Tryd.prog 75 #[.int .u32 x.toNat, .int .i64 6, .int .i64 11, .int .i64 25] w fun e w' => e = .returned (.int .u32 (Sha.big1 x).toNat) ∧ w' = w :=
  (turned_e x w).mono fun _ _ ⟨h1, h2⟩ => ⟨h1, h2.symm⟩

/-- What the memory holds while sha.mix runs: the words so far (l), the result's place, the schedule, the table. -/
structure MRel (bs : List UInt8) (w : World) (M : Nat) (l : List UInt32) (wx : World) : Prop where
  words : Whole wx w.heap.size 105 (wcells l)
  out : Whole wx (w.heap.size + 1 + 1) 105 (wcells (List.replicate 8 0))
  sch : Whole wx M 100 (wcells (Sha.sched bs))
  low : w.heap.size + 3 ≤ M
  bel : Below w.heap.size w wx
  tab : Tab wx 1

theorem MRel.drew {bs : List UInt8} {w : World} {M : Nat} {l : List UInt32} {wx : World} (h : MRel bs w M l wx) : MRel bs w M l wx.drew :=
  ⟨h.words, h.out, h.sch, h.low, h.bel.drew, h.tab⟩
theorem mrel_start (bs : List UInt8) (w w1 : World) (l : List UInt32) (Z : Array Value) (hZ : Z = wcells (List.replicate 8 0)) (ht : Tab w 1) (hw : 1 < w.heap.size)
    (hb : Below (((w.alloc (.cells (wcells l) 105)).alloc (.cells (bcells bs) 106)).alloc (.cells Z 105)).heap.size (((w.alloc (.cells (wcells l) 105)).alloc (.cells (bcells bs) 106)).alloc (.cells Z 105)) w1) :
    MRel bs w w1.heap.size l (w1.alloc (.cells (wcells (Sha.sched bs)) 100)) := by
  have hsz : (((w.alloc (.cells (wcells l) 105)).alloc (.cells (bcells bs) 106)).alloc (.cells Z 105)).heap.size = w.heap.size + 3 := by simp
  have hlow : w.heap.size + 3 ≤ w1.heap.size := by have := hb.size; omega
  have hbel : Below w.heap.size w w1 := ((((Below.refl _ _).alloc (by simp) _).alloc (by simp) _).alloc (by simp; omega) _).trans (hb.mono (by omega))
  have hbel2 : Below w.heap.size w (w1.alloc (.cells (wcells (Sha.sched bs)) 100)) := hbel.alloc (by omega) _
  refine ⟨?_, ?_, Whole.made _ _ _, hlow, hbel2, ?_⟩
  · exact ((((Whole.made w 105 (wcells l)).alloc _).alloc _).below hb (by omega)).alloc _
  · have h0 := Whole.made ((w.alloc (.cells (wcells l) 105)).alloc (.cells (bcells bs) 106)) 105 Z
    have h1 : Whole (((w.alloc (.cells (wcells l) 105)).alloc (.cells (bcells bs) 106)).alloc (.cells Z 105)) (w.heap.size + 1 + 1) 105 Z := by simpa using h0
    rw [← hZ]
    exact (h1.below hb (by omega)).alloc _
  · intro i hi
    rw [hbel2.cell (p := ⟨1, i, none⟩) hw]
    exact ht i hi

def Sha.acc (l r : List UInt32) : Nat → List UInt32
  | 0 => l
  | k + 1 => (Sha.acc l r k).set k ((Sha.acc l r k).getD k 0 + r.getD k 0)
theorem Sha.acc_length (l r : List UInt32) (k : Nat) : (Sha.acc l r k).length = l.length := by
  induction k with
  | zero => rfl
  | succ k ih => simp [Sha.acc, ih]
theorem mrel_step (bs : List UInt8) (w wx : World) (M : Nat) (l r : List UInt32) (k : Nat) (hw : 1 < w.heap.size) (h : MRel bs w M (Sha.acc l r k) wx) :
    MRel bs w M (Sha.acc l r (k + 1)) (wx.setCell ⟨w.heap.size, k, none⟩ (.int .u32 ((Sha.acc l r k).getD k 0 + r.getD k 0).toNat)) := by
  have hne : w.heap.size + 1 + 1 ≠ w.heap.size := by omega
  have hM := h.low
  refine ⟨?_, h.out.other (by show _ ≠ w.heap.size; omega) _, h.sch.other (by show _ ≠ w.heap.size; omega) _, h.low, h.bel.setCell (by show _ ≤ w.heap.size; omega) _, ?_⟩
  · have := h.words.set k (.int .u32 ((Sha.acc l r k).getD k 0 + r.getD k 0).toNat)
    rw [wcells_set] at this
    exact this
  · intro i hi
    rw [World.cell?_setCell_other _ _ _ _ (fun e => by injection e with e; omega)]
    exact h.tab i hi

theorem run_index35 (R : Array Value) (k : Nat) (n : Int) (hk : k < 8) (hx : R[k]? = some (.int .u32 n)) (w : World) :
    (Instr.index 105 (.agg R) (.int .i64 k)).run Tryd.prog w = .ok (.int .u32 n) w := by
  have h1 : (k : Int) < 8 := by omega
  simp [Instr.index, run_underlying Tryd.underlying105, asIntOf, go_sem, part, hx]
  intro h
  omega
theorem range_second (w : World) (c1 c2 : Array Value) (t1 t2 : TypeId) (o : Obj) : (((w.alloc (.cells c1 t1)).alloc (.cells c2 t2)).alloc o).rangeAt (w.heap.size + 1) 0 c2.toList := by
  have h := ((Whole.made (w.alloc (.cells c1 t1)) t2 c2).alloc o).range
  simpa using h
theorem whole8 {w : World} {g : Nat} {s : Sha.St} (h : Whole w g 105 (wcells s.list)) :
    w.cell? ⟨g, 0, none⟩ = some (.int .u32 s.a.toNat) ∧ w.cell? ⟨g, 1, none⟩ = some (.int .u32 s.b.toNat) ∧ w.cell? ⟨g, 2, none⟩ = some (.int .u32 s.c.toNat) ∧ w.cell? ⟨g, 3, none⟩ = some (.int .u32 s.d.toNat) ∧
    w.cell? ⟨g, 4, none⟩ = some (.int .u32 s.e.toNat) ∧ w.cell? ⟨g, 5, none⟩ = some (.int .u32 s.f.toNat) ∧ w.cell? ⟨g, 6, none⟩ = some (.int .u32 s.g.toNat) ∧ w.cell? ⟨g, 7, none⟩ = some (.int .u32 s.h.toNat) :=
  ⟨h.at_ rfl, h.at_ rfl, h.at_ rfl, h.at_ rfl, h.at_ rfl, h.at_ rfl, h.at_ rfl, h.at_ rfl⟩

set_option maxRecDepth 100000 in
set_option maxHeartbeats 1000000 in
theorem mix_any (s : Sha.St) (bs : List UInt8) (hl : bs.length = 64) (w : World) (ht : Tab w 1) (hw : 1 < w.heap.size) :
    Calls Tryd.prog 71 #[.agg (wcells s.list), .agg (bcells bs)] w fun e w' => e = .returned (.agg (wcells (Sha.mix s bs).list)) ∧ Below w.heap.size w w' := by
  have Hl : Hid (bs.length = 64) := hl
  have Ht := Lib.hid ht
  clear hl ht
  go_enter Tryd.func71, Tryd.ntmps71
  go_upto_region 1 with (fail)
  refine wp_region_lit ?_
  refine wpList_load_mid rfl 106 (.tmp 3) rfl (w.heap.size + 1) 0 ?_ (bcells bs).toList (.array 64 5) ?_ Tryd.underlying106 rfl ?_ ?_
  · rfl
  · exact range_second _ _ _ _ _ _
  · rw [Array.length_toList, bcells_size, Hl.out]; exact info36
  rw [Array.toArray_toList]
  go_wp2_with fail
  refine (sched_any bs Hl.out _).mono ?_
  rintro e w1 ⟨rfl, hb1⟩
  have hrel := mrel_start bs w w1 s.list _ rfl Ht.out hw hb1
  clear hb1
  simp only []
  go_step
  go_step
  go_step
  go_step
  refine wpList_store_made rfl 100 (.tmp 5) (.tmp 20) rfl _ (wcells (Sha.sched bs)) ?_ ?_ ?_ ?_ (wcells_one _) ?_
  · rfl
  · rfl
  · rw [wcells_size, Sha.sched, Sha.fill_length]; exact info46
  · rw [wcells_size, Sha.sched, Sha.fill_length]; rfl
  generalize w1.alloc (.cells (wcells (Sha.sched bs)) 100) = w2 at *
  generalize w1.heap.size = M at *
  obtain ⟨c0, c1, c2, c3, c4, c5, c6, c7⟩ := whole8 hrel.words
  have H := Lib.hid hrel
  clear hrel
  go_upto_region 2 with (fail)
  go_still (by kernel_rfl)
  change Exit.then _ _ _ _ w2.drew
  have H3 := Lib.hid H.out.drew
  clear H c0 c1 c2 c3 c4 c5 c6 c7
  generalize w2.drew = w3 at *
  obtain ⟨c0, c1, c2, c3, c4, c5, c6, c7⟩ := whole8 H3.out.words
  go_upto_region 3 with (fail)
  go_still (by kernel_rfl)
  change Exit.then _ _ _ _ w3.drew
  have H := Lib.hid H3.out.drew
  clear H3 c0 c1 c2 c3 c4 c5 c6 c7
  generalize w3.drew = w4 at *
  go_wp2_with fail
  go_loopw [6, 7, 8, 9, 10, 11, 12, 13, 37] (fun a b c d e f g h i wx => ∃ k : Nat, k ≤ 64 ∧ i = .int .i64 k ∧ MRel bs w M s.list wx ∧
      a = .int .u32 (Sha.rounds (Sha.sched bs) s k).a.toNat ∧ b = .int .u32 (Sha.rounds (Sha.sched bs) s k).b.toNat ∧ c = .int .u32 (Sha.rounds (Sha.sched bs) s k).c.toNat ∧ d = .int .u32 (Sha.rounds (Sha.sched bs) s k).d.toNat ∧
      e = .int .u32 (Sha.rounds (Sha.sched bs) s k).e.toNat ∧ f = .int .u32 (Sha.rounds (Sha.sched bs) s k).f.toNat ∧ g = .int .u32 (Sha.rounds (Sha.sched bs) s k).g.toNat ∧ h = .int .u32 (Sha.rounds (Sha.sched bs) s k).h.toNat)
    (fun _ _ _ _ _ _ _ _ i _ => 64 - (intOf i).toNat)
  case atStart => exact ⟨0, by omega, rfl, H.out, rfl, rfl, rfl, rfl, rfl, rfl, rfl, rfl⟩
  case round =>
    obtain ⟨k, hk, rfl, hrel, rfl, rfl, rfl, rfl, rfl, rfl, rfl, rfl⟩ := hrel
    clear H
    by_cases hlt : k < 64
    · have ck := hrel.tab k hlt
      have cw := hrel.sch.at_ (wcells_at (Sha.sched bs) k (by rw [Sha.sched, Sha.fill_length]; omega))
      have hst : Sha.step (Sha.rounds (Sha.sched bs) s k) (Sha.kk.getD k 0) ((Sha.sched bs).getD k 0) = Sha.rounds (Sha.sched bs) s (k + 1) := rfl
      have H := Lib.hid hrel.drew
      clear hrel
      generalize Sha.rounds (Sha.sched bs) s k = r at *
      generalize Sha.kk.getD k 0 = kv at *
      generalize (Sha.sched bs).getD k 0 = wv at *
      have HST := Lib.hid hst
      clear hst
      have k64 : (k : Int) < 64 := by omega
      go_upto_region 7 with (fail)
      refine wp_region_still_lit (by kernel_rfl) (by kernel_rfl) ?_
      repeat still_step
      still_call (turned_es _ _)
      repeat still_step
      refine wpStill_nil ?_
      change Exit.then _ _ _ _ wr.drew
      simp only [Sha.notif_u32, Sha.and_u32, Sha.or_u32, Sha.wadd_u32]
      clear ck cw
      rw [show r.h + Sha.big1 r.e + (r.e &&& r.f ||| ~~~r.e &&& r.g) + kv + wv = Sha.tt r kv wv from rfl]
      obtain ⟨T, hT⟩ : ∃ T, Sha.tt r kv wv = T := ⟨_, rfl⟩
      rw [hT]
      have HT := Lib.hid hT
      clear hT
      go_wp2_with (go_at_call 75; refine (turned_a _ _).mono ?_; rintro e w' ⟨rfl, rfl⟩)
      go_roundw
      case rel =>
        refine ⟨k + 1, by omega, by go_num, H.out, ?_⟩
        rw [← HST.out]
        simp only [Sha.and_u32, Sha.or_u32, Sha.add_u32]
        rw [← HT.out]
        exact ⟨rfl, rfl, rfl, rfl, rfl, rfl, rfl, rfl⟩
      case measure => simp [intOf]; omega
    · obtain rfl : k = 64 := by omega
      obtain ⟨r, hr⟩ : ∃ r, Sha.rounds (Sha.sched bs) s 64 = r := ⟨_, rfl⟩
      rw [hr]
      have HR := Lib.hid hr
      have H := Lib.hid hrel
      clear hr hrel hlt hk
      rw [show ((64 : Nat) : Int) = (64 : Int) from rfl]
      go_wp2_with fail
      rw [show (#[Value.int .u32 (r.a.toNat : Int), .int .u32 (r.b.toNat : Int), .int .u32 (r.c.toNat : Int), .int .u32 (r.d.toNat : Int), .int .u32 (r.e.toNat : Int), .int .u32 (r.f.toNat : Int), .int .u32 (r.g.toNat : Int), .int .u32 (r.h.toNat : Int)] : Array Value) = wcells r.list from rfl]
      go_loopw [97] (fun i wx => ∃ k : Nat, k ≤ 8 ∧ i = .int .i64 k ∧ MRel bs w M (Sha.acc s.list r.list k) wx) (fun i _ => 8 - (intOf i).toNat)
      case atStart => exact ⟨0, by omega, rfl, H.out⟩
      case round =>
        obtain ⟨k, hk, rfl, hrel⟩ := hrel
        clear H
        by_cases hlt : k < 8
        · have c0 := hrel.words.at_ (wcells_at _ k (by rw [Sha.acc_length]; exact hlt))
          have f0 := hrel.words.free k
          have hix : (wcells r.list)[k]? = some (.int .u32 (r.list.getD k 0).toNat) := wcells_at _ k hlt
          have H := Lib.hid (mrel_step bs w wr M s.list r.list k hw hrel)
          clear hrel
          generalize r.list.getD k 0 = y at *
          generalize (Sha.acc s.list r.list k).getD k 0 = x at *
          generalize wcells r.list = R at *
          have hrun := run_index35 R k y.toNat hlt hix
          clear hix
          have k8 : (k : Int) < 8 := by omega
          go_wp2_with fail
          go_roundw
          case rel =>
            refine ⟨k + 1, by omega, by go_num, ?_⟩
            simp only [Sha.add_u32]
            exact H.out
          case measure => simp [intOf]; omega
        · obtain rfl : k = 8 := by omega
          have hfin : Sha.acc s.list r.list 8 = (Sha.mix s bs).list := by
            unfold Sha.mix
            rw [HR.out]
            rfl
          rw [hfin] at hrel
          have hlen : (wcells (Sha.mix s bs).list).size = 8 := by rw [wcells_size]; rfl
          have hi : (Tryd.prog.info? 105).map (·.size) = some (wcells (Sha.mix s bs).list).toList.length := by rw [Array.length_toList, hlen]; exact info35
          have hth : wr.there (w.heap.size + 1 + 1) 0 (wcells (Sha.mix s bs).list).size := by
            have := hrel.out.there_
            rwa [wcells_size, List.length_replicate, ← hlen] at this
          have hone := wcells_one (Sha.mix s bs).list
          have hlo := hrel.words.range
          have hbel := hrel.bel
          clear hrel hfin
          generalize hS : wcells (Sha.mix s bs).list = W at *
          have HS := Lib.hid hS
          clear hS
          have HI := Lib.hid hi
          have HLO := Lib.hid hlo
          have HTH := Lib.hid hth
          have HONE := Lib.hid hone
          clear hi hlen hth hlo hone
          go_upto_region 16 with (fail)
          refine wp_region_lit ?_
          refine wpList_load_mid rfl 105 (.tmp 2) rfl w.heap.size 0 ?_ W.toList (.array 8 96) HLO.out Tryd.underlying105 rfl HI.out ?_
          · rfl
          rw [Array.toArray_toList]
          refine wpList_store_mid rfl 105 (.tmp 4) (.tmp 108) rfl (w.heap.size + 1 + 1) 0 W ?_ ?_ HTH.out ?_ HONE.out ?_
          · rfl
          · rfl
          · rw [HI.out, Array.length_toList]
          go_wp2_with fail
          refine bodyPost_ret (v := .agg W) ?_ rfl ⟨by rw [HS.out], below_setCells _ _ _ _ hbel (by omega)⟩
          rw [results_cell1 (p := 4) (ty := 105) Tryd.results71]
          have hr : (loadVar 105 ⟨w.heap.size + 1 + 1, 0, none⟩).run Tryd.prog (wr.setCells (w.heap.size + 1 + 1) 0 W.toList) = .ok (.agg W.toList.toArray) _ :=
            run_loadVar_mid _ (w.heap.size + 1 + 1) 0 105 W.toList (.array 8 96) (World.rangeAt_setCells_same _ _ _ _ (by rw [Array.length_toList]; exact HTH.out)) Tryd.underlying105 rfl HI.out
          rw [Array.toArray_toList] at hr
          exact hr
end Go.Proofs.YtceillnmcccckaaDoor.Sh

/-
  What the document's answer Sum returns for bytes: their sum, as the chapter says; conditions: the bytes are read, there are no more than 100000 of them, and the document's table holds its words. It only makes memory of its own.
-/
import Derived.Test.YtolkpjbbfopmnaaDoorCY06
namespace Go.Proofs.YtolkpjbbfopmnaaDoor.Sh
open Go.RowKit

set_option maxRecDepth 100000 in
set_option maxHeartbeats 8000000 in
theorem ref_any (A : Option Addr) (n c : Nat) (bs : List UInt8) (w : World) (hr : Reads w A n bs) (hn : n ≤ 100000) (ht : Tab w 0) (hw : 1 < w.heap.size) :
    Calls Tryd.prog 73 #[.slice A n c] w fun e w' => e = .returned (.agg (bcells (Sha.sum bs))) ∧ Below w.heap.size w w' := by
  have HR := Lib.hid hr
  have HT := Lib.hid ht
  have HN1 := Lib.hid hr.1
  clear hr ht
  go_enter Tryd.func73, Tryd.ntmps73
  go_upto_region 1 with (fail)
  refine wp_region_lit ?_
  iterate 6 go_step
  refine wpList_append_reads rfl (.tmp 29) (.tmp 30) rfl w.heap.size _ 0 [] rfl (own_empty w _) A n c bs rfl (HR.out.below (((Below.refl _ _).alloc (Nat.le_refl _) _).alloc (by simp) _)) (by omega) (by simp; omega) ?_
  intro v1 w1 hown1 hg1 hat1
  have H1 := Lib.hid (rpad_first _ rfl n HN1.out hown1 hg1 hat1)
  clear hown1 hg1 hat1
  go_simp
  go_upto_region 2 with (fail)
  refine wp_region_lit ?_
  iterate 6 go_step
  refine wpList_append_reads rfl (.tmp 32) (.tmp 33) rfl w.heap.size v1 bs.length _ rfl (H1.out.own.alloc _) (some ⟨w1.heap.size, 0, none⟩) 1 1 [128] rfl (reads_new w1 5 [128] 1 rfl) (by rw [HN1.out]; omega) (by have := H1.out.bel.size; simp; omega) ?_
  intro v2 w2 hown2 hg2 hat2
  have H2 := Lib.hid (rpad_step (b := 128) H1.out 5 hown2 hg2 hat2)
  clear hown2 hg2 hat2 H1
  go_simp
  have hlb : bs.length = n := HN1.out
  go_wp2_with fail
  go_loopg [3] (Sha.zeros n) (fun gk v wx => ∃ j, j + gk = Sha.zeros n ∧ RPad w v (bs ++ [128] ++ List.replicate j 0) wx)
  case atStart => exact ⟨0, by omega, by rw [List.replicate_zero, List.append_nil]; exact H2.out⟩
  case round =>
    clear H2
    obtain ⟨j, hj, hrel⟩ := hrel
    have hL : (bs ++ [128] ++ List.replicate j 0).length = n + 1 + j := by simp [hlb]; omega
    have hz : Sha.zeros n = (119 - n % 64) % 64 := rfl
    obtain ⟨g, cap, hv, hgb, hgl⟩ := hrel.own.form (by rw [hL]; omega)
    rw [hL] at hv
    subst hv
    have hsz : j ≤ 64 := by omega
    cases gk with
    | zero =>
      obtain rfl : j = Sha.zeros n := by omega
      have q56 : (((n : Int) + 1 + (Sha.zeros n : Int)) % 64 != 56) = false := by rw [bne_eq_false_iff_eq]; omega
      have hs : RPad w (.slice (some ⟨g, 0, none⟩) (n + 1 + Sha.zeros n) cap) (bs ++ [128] ++ List.replicate (Sha.zeros n) 0 ++ (Sha.be8 (UInt64.ofNat n * 8)).take 0) wr := by
        rw [List.take_zero, List.append_nil]; exact hrel
      have HS := Lib.hid hs
      have HLB := Lib.hid hlb
      obtain ⟨Lw, hLw⟩ : ∃ Lw, UInt64.ofNat n * 8 = Lw := ⟨_, rfl⟩
      have hmul : IntKind.u64.wrap ((n : Int) * 8) = (Lw.toNat : Int) := by
        rw [← hLw, UInt64.toNat_mul, UInt64.toNat_ofNat_of_lt' (show n < UInt64.size from Nat.lt_of_le_of_lt hn (by decide)), IntKind.wrap_u64]
        show _ = (((n * 8) % 18446744073709551616 : Nat) : Int)
        omega
      rw [hLw] at HS
      have HLW := Lib.hid hLw
      clear hs hrel hL hlb hj hz hLw
      go_wp2_with fail
      clear hmul q56
      go_loopg [3, 5] 8 (fun gk v s5 wx => ∃ i, i + gk = 8 ∧ s5 = .int .i64 (i : Nat) ∧ RPad w v (bs ++ [128] ++ List.replicate (Sha.zeros n) 0 ++ (Sha.be8 Lw).take i) wx)
      case atStart => exact ⟨0, by omega, rfl, HS.out⟩
      case round =>
        clear HS
        obtain ⟨i, hi, rfl, hrel⟩ := hrel
        have hL : (bs ++ [128] ++ List.replicate (Sha.zeros n) 0 ++ (Sha.be8 Lw).take i).length = n + 1 + Sha.zeros n + i := by
          simp only [List.length_append, List.length_replicate, List.length_take, Sha.be8_length, HLB.out, List.length_cons, List.length_nil]; omega
        have hz64 : Sha.zeros n < 64 := by unfold Sha.zeros; omega
        obtain ⟨g2, cap2, hv, hgb2, hgl2⟩ := hrel.own.form (by rw [hL]; omega)
        rw [hL] at hv
        subst hv
        cases gk with
        | zero =>
          obtain rfl : i = 8 := by omega
          have hmsg : bs ++ [128] ++ List.replicate (Sha.zeros n) 0 ++ (Sha.be8 Lw).take 8 = Sha.padded bs := by
            rw [List.take_of_length_le (by rw [Sha.be8_length]; exact Nat.le_refl _), ← HLW.out]
            unfold Sha.padded Sha.padding
            rw [HLB.out]
            simp [List.append_assoc]
          rw [hmsg] at hrel hL
          obtain ⟨cur, hgq, hcurt⟩ : ∃ cur, wr.heap[g2]? = some (.cells cur 5 (0, 0)) ∧ cur.toList.take ((Sha.padded bs).length * 1) = (Sha.padded bs).map V8 := by
            rcases hrel.own.2 with ⟨h0, _⟩ | ⟨g', cap', cur', hv', _, h2, _, _, _, h6⟩
            · cases h0
            · injection hv' with e1 e2 e3
              injection e1 with e1
              injection e1 with e1
              subst e1
              exact ⟨cur', h2, h6⟩
          have hrow := row_of_take hgq hcurt
          have HROW := Lib.hid hrow
          have HRES := Lib.hid hrel.res
          have HBEL := Lib.hid hrel.bel
          have hgap := hrel.apart g2 rfl
          obtain ⟨K, hK⟩ : ∃ K, (Sha.padded bs).length = 64 * K := ⟨_, Sha.padded_blocks bs⟩
          have hK2 : n + 1 + Sha.zeros n + 8 = 64 * K := by omega
          rw [hK2]
          have HKL := Lib.hid hK
          have hKb : K ≤ 2000 := by omega
          clear hmsg hrel hL hgq hcurt hrow hK hgb2
          go_wp2_with fail
          have hs := brel_start _ rfl HROW.out HRES.out HBEL.out HT.out hgap hw
          rw [show wcells Sha.init.list = #[Value.int .u32 1779033703, .int .u32 3144134277, .int .u32 1013904242, .int .u32 2773480762, .int .u32 1359893119, .int .u32 2600822924, .int .u32 528734635, .int .u32 1541459225] from rfl] at hs
          generalize wr.heap.size = gh at *
          generalize wr.alloc (.cells _ 140) = w3 at *
          have HS := Lib.hid hs
          clear hs
          go_loopg [7] K (fun gk s7 wx => ∃ k, k + gk = K ∧ s7 = .int .i64 (64 * (k : Int)) ∧ BRel w (Sha.padded bs) g2 gh (Sha.run (Sha.padded bs) k) wx)
          case atStart => exact ⟨0, by omega, rfl, HS.out⟩
          case round =>
            clear HS HROW HRES HBEL
            obtain ⟨k, hk, rfl, hrel⟩ := hrel
            cases gk with
            | zero =>
              obtain rfl : k = K := by omega
              obtain ⟨s0, hs0⟩ : ∃ s0, Sha.run (Sha.padded bs) k = s0 := ⟨_, rfl⟩
              rw [hs0] at hrel
              have hsum : Sha.sum bs = Sha.out s0 := by
                rw [Sha.sum_run, ← hs0]
                rw [show (Sha.padded bs).length / 64 = k by rw [HKL.out]; omega]
              have HSUM := Lib.hid hsum
              have HW := Lib.hid hrel
              clear hrel hs0 hsum
              go_wp2_with fail
              have hs8 := orel_start HW.out hw
              rw [show bcells (List.replicate 32 0) = #[Value.int .u8 0, .int .u8 0, .int .u8 0, .int .u8 0, .int .u8 0, .int .u8 0, .int .u8 0, .int .u8 0, .int .u8 0, .int .u8 0, .int .u8 0, .int .u8 0, .int .u8 0, .int .u8 0, .int .u8 0, .int .u8 0, .int .u8 0, .int .u8 0, .int .u8 0, .int .u8 0, .int .u8 0, .int .u8 0, .int .u8 0, .int .u8 0, .int .u8 0, .int .u8 0, .int .u8 0, .int .u8 0, .int .u8 0, .int .u8 0, .int .u8 0, .int .u8 0] from rfl] at hs8
              generalize wr.heap.size = go at *
              generalize wr.alloc (.cells _ 29) = w8 at *
              have HS8 := Lib.hid hs8
              clear hs8 HW
              go_loopg [28] 32 (fun gk s28 wx => ∃ j, j + gk = 32 ∧ s28 = .int .i64 (j : Nat) ∧ ORel w gh go s0.list j wx)
              case atStart => exact ⟨0, by omega, rfl, HS8.out⟩
              case round =>
                clear HS8
                obtain ⟨j, hj, rfl, hrel⟩ := hrel
                cases gk with
                | zero =>
                  obtain rfl : j = 32 := by omega
                  have hout := hrel.out
                  rw [Sha.outR_eq, ← HSUM.out] at hout
                  have hlen : (bcells (Sha.sum bs)).size = 32 := by rw [bcells_size, sum_length]
                  have hi : (Tryd.prog.info? 29).map (·.size) = some (bcells (Sha.sum bs)).toList.length := by rw [Array.length_toList, hlen]; exact info25
                  have hth : wr.there w.heap.size 0 (bcells (Sha.sum bs)).size := by
                    have := hrel.res.there_
                    rwa [bcells_size, List.length_replicate, ← hlen] at this
                  have hone := bcells_one (Sha.sum bs)
                  have hlo := hout.range
                  have hbel := hrel.bel
                  clear hrel hout
                  generalize hS : bcells (Sha.sum bs) = W at *
                  have HS := Lib.hid hS
                  have HI := Lib.hid hi
                  have HLO := Lib.hid hlo
                  have HTH := Lib.hid hth
                  have HONE := Lib.hid hone
                  clear hS hi hlen hth hlo hone
                  go_upto_region 43 with (fail)
                  refine wp_region_lit ?_
                  refine wpList_load_mid rfl 29 (.tmp 27) rfl go 0 ?_ W.toList (.array 32 5) HLO.out Tryd.underlying29 rfl HI.out ?_
                  · rfl
                  rw [Array.toArray_toList]
                  refine wpList_store_mid rfl 29 (.tmp 2) (.tmp 299) rfl w.heap.size 0 W ?_ ?_ HTH.out ?_ HONE.out ?_
                  · rfl
                  · rfl
                  · rw [HI.out, Array.length_toList]
                  go_wp2_with fail
                  refine bodyPost_ret (v := .agg W) ?_ rfl ⟨by rw [HS.out], below_setCells _ _ _ _ hbel (Nat.le_refl _)⟩
                  rw [results_cell1 (p := 2) (ty := 29) Tryd.results73]
                  have hr : (loadVar 29 ⟨w.heap.size, 0, none⟩).run Tryd.prog (wr.setCells w.heap.size 0 W.toList) = .ok (.agg W.toList.toArray) _ :=
                    run_loadVar_mid _ w.heap.size 0 29 W.toList (.array 32 5) (World.rangeAt_setCells_same _ _ _ _ (by rw [Array.length_toList]; exact HTH.out)) Tryd.underlying29 rfl HI.out
                  rw [Array.toArray_toList] at hr
                  exact hr
                | succ gn8 =>
                  as_aux_lemma =>
                    have hj32 : j < 32 := by omega
                    have c0 := hrel.words.at_ (wcells_at s0.list (j / 4) (by show j / 4 < 8; omega))
                    have c1 := hrel.out.at_ (bcells_at _ j (by rw [Sha.outR_length]; exact hj32))
                    have f1 := hrel.out.free j
                    have H := Lib.hid (orel_step j hrel)
                    clear hrel
                    obtain ⟨b, hb⟩ : ∃ b, Sha.byteAt (s0.list.getD (j / 4) 0) (j % 4) = b := ⟨_, rfl⟩
                    have hbv := Sha.byteAt_spell (s0.list.getD (j / 4) 0) (j % 4) (by omega)
                    rw [hb] at H hbv
                    generalize s0.list.getD (j / 4) 0 = y at *
                    clear hb
                    have d1 : ((j : Int) / 4).toNat = j / 4 := by omega
                    have d2 : (j : Int) / 4 < 8 := by omega
                    have d3 : (0 : Int) ≤ (j : Int) / 4 := by omega
                    have e1 : (24 - 8 * ((j : Int) % 4)).toNat = 24 - 8 * (j % 4) := by omega
                    have e2 : 0 ≤ 24 - 8 * ((j : Int) % 4) := by omega
                    have e3 : 24 - 8 * ((j : Int) % 4) ≤ 32 := by omega
                    have k32 : (j : Int) < 32 := by omega
                    have q32 : decide ((j : Int) < 32) = true := by simp; omega
                    go_wp2_with fail
                    go_roundg gn8
                    case measure => omega
                    case rel => exact ⟨j + 1, by omega, by go_num, H.out⟩
            | succ gn =>
              have hkK : k < K := by omega
              have hws := wrel_start hrel z64 hw
              have HW := Lib.hid hws
              have hmk := run_make64
              clear hrel hws
              go_wp2_with fail
              generalize wr.heap.size = gw at *
              generalize wr.alloc (.cells (wcells z64) 140) = w4 at *
              clear hmk
              go_loopg [9] 16 (fun gk s9 wx => ∃ i, i + gk = 16 ∧ s9 = .int .i64 (i : Nat) ∧ WRel w (Sha.padded bs) g2 gh (Sha.run (Sha.padded bs) k) gw (Sha.fill (((Sha.padded bs).drop (64 * k)).take 64) i) wx)
              case atStart => exact ⟨0, by omega, rfl, HW.out⟩
              case round =>
                clear HW
                obtain ⟨i, hi, rfl, hrel⟩ := hrel
                cases gk with
                | zero =>
                  obtain rfl : i = 16 := by omega
                  rw [show ((16 : Nat) : Int) = (16 : Int) from rfl]
                  have HW := Lib.hid hrel
                  clear hrel hi
                  go_wp2_with fail
                  go_loopg [11] 48 (fun gk s11 wx => ∃ i, i + gk = 64 ∧ 16 ≤ i ∧ s11 = .int .i64 (i : Nat) ∧ WRel w (Sha.padded bs) g2 gh (Sha.run (Sha.padded bs) k) gw (Sha.fill (((Sha.padded bs).drop (64 * k)).take 64) i) wx)
                  case atStart => exact ⟨16, by omega, by omega, rfl, HW.out⟩
                  case round =>
                    clear HW
                    obtain ⟨i, hi, hi1, rfl, hrel⟩ := hrel
                    cases gk with
                    | zero =>
                      obtain rfl : i = 64 := by omega
                      rw [show ((64 : Nat) : Int) = (64 : Int) from rfl]
                      rw [show Sha.fill (((Sha.padded bs).drop (64 * k)).take 64) 64 = Sha.sched (((Sha.padded bs).drop (64 * k)).take 64) from rfl] at hrel
                      obtain ⟨blk, hblk⟩ : ∃ blk, ((Sha.padded bs).drop (64 * k)).take 64 = blk := ⟨_, rfl⟩
                      obtain ⟨s0, hs0⟩ : ∃ s0, Sha.run (Sha.padded bs) k = s0 := ⟨_, rfl⟩
                      rw [hblk, hs0] at hrel
                      have hrunk : Sha.run (Sha.padded bs) (k + 1) = Sha.mix s0 blk := by rw [← hs0, ← hblk]; rfl
                      have HRUN := Lib.hid hrunk
                      have HW := Lib.hid hrel
                      clear hrel hi hi1 hblk hs0 hrunk
                      obtain ⟨c0, c1, c2, c3, c4, c5, c6, c7⟩ := whole8g HW.out.base.words
                      go_upto_region 26 with (fail)
                      go_still (by kernel_rfl)
                      change Exit.then _ _ _ _ wr.drew
                      have HW2 := Lib.hid HW.out.drew
                      clear HW c0 c1 c2 c3 c4 c5 c6 c7
                      generalize wr.drew = wr2 at *
                      go_wp2_with fail
                      go_loopg [14, 15, 16, 17, 18, 19, 20, 21, 22] 64 (fun gk a b c d e f g h i wx => ∃ j : Nat, j + gk = 64 ∧ i = .int .i64 j ∧ WRel w (Sha.padded bs) g2 gh s0 gw (Sha.sched blk) wx ∧
                          a = .int .u32 (Sha.rounds (Sha.sched blk) s0 j).a.toNat ∧ b = .int .u32 (Sha.rounds (Sha.sched blk) s0 j).b.toNat ∧ c = .int .u32 (Sha.rounds (Sha.sched blk) s0 j).c.toNat ∧ d = .int .u32 (Sha.rounds (Sha.sched blk) s0 j).d.toNat ∧
                          e = .int .u32 (Sha.rounds (Sha.sched blk) s0 j).e.toNat ∧ f = .int .u32 (Sha.rounds (Sha.sched blk) s0 j).f.toNat ∧ g = .int .u32 (Sha.rounds (Sha.sched blk) s0 j).g.toNat ∧ h = .int .u32 (Sha.rounds (Sha.sched blk) s0 j).h.toNat)
                      case atStart => exact ⟨0, by omega, rfl, HW2.out, rfl, rfl, rfl, rfl, rfl, rfl, rfl, rfl⟩
                      case round =>
                        clear HW2
                        obtain ⟨j, hj, rfl, hrel, rfl, rfl, rfl, rfl, rfl, rfl, rfl, rfl⟩ := hrel
                        cases gk with
                        | zero =>
                          obtain rfl : j = 64 := by omega
                          rw [show ((64 : Nat) : Int) = (64 : Int) from rfl]
                          obtain ⟨r, hr⟩ : ∃ r, Sha.rounds (Sha.sched blk) s0 64 = r := ⟨_, rfl⟩
                          rw [hr]
                          have hmix : Sha.mix s0 blk = Sha.addSt s0 r := by rw [← hr]; rfl
                          have HMIX := Lib.hid hmix
                          have HW := Lib.hid hrel
                          clear hrel hr hmix hj
                          go_wp2_with fail
                          have hs7 := srel_start7 HW.out r.list hw
                          rw [show wcells r.list = #[Value.int .u32 (r.a.toNat : Int), .int .u32 (r.b.toNat : Int), .int .u32 (r.c.toNat : Int), .int .u32 (r.d.toNat : Int), .int .u32 (r.e.toNat : Int), .int .u32 (r.f.toNat : Int), .int .u32 (r.g.toNat : Int), .int .u32 (r.h.toNat : Int)] from rfl] at hs7
                          generalize wr.heap.size = gl at *
                          generalize wr.alloc (.cells _ 140) = w7 at *
                          have HS7 := Lib.hid hs7
                          clear hs7 HW
                          go_loopg [26] 8 (fun gk s26 wx => ∃ i, i + gk = 8 ∧ s26 = .int .i64 (i : Nat) ∧ SRel7 w (Sha.padded bs) g2 gh gl (Sha.acc s0.list r.list i) r.list wx)
                          case atStart => exact ⟨0, by omega, rfl, HS7.out⟩
                          case round =>
                            clear HS7
                            obtain ⟨i, hi, rfl, hrel⟩ := hrel
                            cases gk with
                            | zero =>
                              obtain rfl : i = 8 := by omega
                              have hfin := srel_end7 hrel
                              rw [← HMIX.out, ← HRUN.out] at hfin
                              have HF := Lib.hid hfin
                              clear hrel hfin
                              go_wp2_with fail
                              go_roundg gn
                              case measure => omega
                              case rel => exact ⟨k + 1, by omega, congrArg (Value.int .i64) (by omega), HF.out⟩
                            | succ gn7 =>
                              as_aux_lemma =>
                                have hi8 : i < 8 := by omega
                                have c0 := hrel.words.at_ (wcells_at _ i (by rw [Sha.acc_length]; exact hi8))
                                have c1 := hrel.add.at_ (wcells_at r.list i hi8)
                                have f0 := hrel.words.free i
                                have H := Lib.hid (srel_step7 i hrel.drew)
                                clear hrel
                                generalize r.list.getD i 0 = y at *
                                generalize (Sha.acc s0.list r.list i).getD i 0 = x at *
                                have k8 : (i : Int) < 8 := by omega
                                have q8 : decide ((i : Int) < 8) = true := by simp; omega
                                go_upto_region 37 with (fail)
                                go_still_tail 12, (by kernel_rfl)
                                change wpList _ _ _ _ _ wr.drew
                                simp only [Sha.wadd_u32]
                                clear c1
                                obtain ⟨xy, hxy⟩ : ∃ xy, x + y = xy := ⟨_, rfl⟩
                                rw [hxy] at H ⊢
                                clear hxy
                                go_wp2_with fail
                                go_roundg gn7
                                case measure => omega
                                case rel => exact ⟨i + 1, by omega, by go_num, H.out⟩
                        | succ gn6 =>
                          as_aux_lemma =>
                            have hj64 : j < 64 := by omega
                            have ck := hrel.base.tab j hj64
                            have cw := hrel.sch.at_ (wcells_at (Sha.sched blk) j (by rw [Sha.sched, Sha.fill_length]; omega))
                            have hst : Sha.step (Sha.rounds (Sha.sched blk) s0 j) (Sha.kk.getD j 0) ((Sha.sched blk).getD j 0) = Sha.rounds (Sha.sched blk) s0 (j + 1) := rfl
                            have HREL := Lib.hid hrel
                            clear hrel
                            generalize Sha.rounds (Sha.sched blk) s0 j = r at *
                            generalize Sha.kk.getD j 0 = kv at *
                            generalize (Sha.sched blk).getD j 0 = wv at *
                            have HST := Lib.hid hst
                            clear hst
                            have k64 : (j : Int) < 64 := by omega
                            have q64 : decide ((j : Int) < 64) = true := by simp; omega
                            go_upto_region 30 with (fail)
                            go_quiet (first | (go_at_call 88; exact Calls.quiet_of (turn_q _ _ (by decide) _)))
                            simp only [Sha.notif_u32, Sha.and_u32, Sha.or_u32, Sha.xor_u32]
                            rw [show Sha.rotr r.e 6 ^^^ Sha.rotr r.e 11 ^^^ Sha.rotr r.e 25 = Sha.big1 r.e from rfl]
                            rw [Sha.sum5, show r.h + Sha.big1 r.e + (r.e &&& r.f ||| ~~~r.e &&& r.g) + kv + wv = Sha.tt r kv wv from rfl]
                            obtain ⟨T, hT⟩ : ∃ T, Sha.tt r kv wv = T := ⟨_, rfl⟩
                            rw [hT]
                            have HT6 := Lib.hid hT
                            have HR2 := Lib.hid (HREL.out.drewN nq)
                            clear hT HREL ck cw
                            generalize wr.drewN nq = wr3 at *
                            go_wp2_with fail
                            refine (turn_any r.a 2 2 rfl (by decide) (by decide) _).mono ?_
                            rintro e w' ⟨rfl, rfl⟩
                            go_wp2_with fail
                            refine (turn_any r.a 13 13 rfl (by decide) (by decide) _).mono ?_
                            rintro e w' ⟨rfl, rfl⟩
                            go_wp2_with fail
                            refine (turn_any r.a 22 22 rfl (by decide) (by decide) _).mono ?_
                            rintro e w' ⟨rfl, rfl⟩
                            go_wp2_with fail
                            go_roundg gn6
                            case measure => omega
                            case rel =>
                              refine ⟨j + 1, by omega, by go_num, HR2.out.drew.drew.drew, ?_⟩
                              rw [← HST.out]
                              simp only [Sha.and_u32, Sha.or_u32, Sha.xor_u32, Sha.add_u32]
                              rw [← HT6.out]
                              exact ⟨rfl, rfl, rfl, rfl, rfl, rfl, rfl, rfl⟩
                    | succ gn5 =>
                      as_aux_lemma =>
                        have hi64 : i < 64 := by omega
                        have c0 := hrel.sch.at_ (wcells_at _ (i - 16) (by rw [Sha.fill_length]; omega))
                        have c1 := hrel.sch.at_ (wcells_at _ (i - 15) (by rw [Sha.fill_length]; omega))
                        have c2 := hrel.sch.at_ (wcells_at _ (i - 7) (by rw [Sha.fill_length]; omega))
                        have c3 := hrel.sch.at_ (wcells_at _ (i - 2) (by rw [Sha.fill_length]; omega))
                        have f0 := hrel.sch.free i
                        have f1 := hrel.sch.at_ (wcells_at _ i (by rw [Sha.fill_length]; omega))
                        have hwd : (Sha.fill (((Sha.padded bs).drop (64 * k)).take 64) i).getD (i - 16) 0 + Sha.sml0 ((Sha.fill (((Sha.padded bs).drop (64 * k)).take 64) i).getD (i - 15) 0) + (Sha.fill (((Sha.padded bs).drop (64 * k)).take 64) i).getD (i - 7) 0 + Sha.sml1 ((Sha.fill (((Sha.padded bs).drop (64 * k)).take 64) i).getD (i - 2) 0) = Sha.nextW (Sha.fill (((Sha.padded bs).drop (64 * k)).take 64) i) i := rfl
                        generalize (Sha.fill (((Sha.padded bs).drop (64 * k)).take 64) i).getD (i - 16) 0 = x0 at c0 hwd
                        generalize (Sha.fill (((Sha.padded bs).drop (64 * k)).take 64) i).getD (i - 15) 0 = x1 at c1 hwd
                        generalize (Sha.fill (((Sha.padded bs).drop (64 * k)).take 64) i).getD (i - 7) 0 = x2 at c2 hwd
                        generalize (Sha.fill (((Sha.padded bs).drop (64 * k)).take 64) i).getD (i - 2) 0 = x3 at c3 hwd
                        generalize (Sha.fill (((Sha.padded bs).drop (64 * k)).take 64) i).getD i 0 = x4 at f1
                        have HWD := Lib.hid hwd
                        have HREL := Lib.hid hrel
                        clear hwd hrel
                        have q64 : decide ((i : Int) < 64) = true := by simp; omega
                        have q0 : IntKind.i64.wrap ((i : Int) - 16) = (i : Int) - 16 := IntWalk.i64_in _ (by omega)
                        have q1 : IntKind.i64.wrap ((i : Int) - 15) = (i : Int) - 15 := IntWalk.i64_in _ (by omega)
                        have q2 : IntKind.i64.wrap ((i : Int) - 7) = (i : Int) - 7 := IntWalk.i64_in _ (by omega)
                        have q3 : IntKind.i64.wrap ((i : Int) - 2) = (i : Int) - 2 := IntWalk.i64_in _ (by omega)
                        have z0 : 0 ≤ (i : Int) - 16 ∧ (i : Int) - 16 < 64 ∧ (16 : Int) ≤ i ∧ (i : Int) < 80 := by omega
                        have z1 : 0 ≤ (i : Int) - 15 ∧ (i : Int) - 15 < 64 ∧ (15 : Int) ≤ i ∧ (i : Int) < 79 := by omega
                        have z2 : 0 ≤ (i : Int) - 7 ∧ (i : Int) - 7 < 64 ∧ (7 : Int) ≤ i ∧ (i : Int) < 71 := by omega
                        have z3 : 0 ≤ (i : Int) - 2 ∧ (i : Int) - 2 < 64 ∧ (2 : Int) ≤ i ∧ (i : Int) < 66 := by omega
                        have t0 : ((i : Int) - 16).toNat = i - 16 := by omega
                        have t1 : ((i : Int) - 15).toNat = i - 15 := by omega
                        have t2 : ((i : Int) - 7).toNat = i - 7 := by omega
                        have t3 : ((i : Int) - 2).toNat = i - 2 := by omega
                        have k64 : (i : Int) < 64 := by omega
                        obtain ⟨z00, z01, z02, z03⟩ := z0
                        obtain ⟨z10, z11, z12, z13⟩ := z1
                        obtain ⟨z20, z21, z22, z23⟩ := z2
                        obtain ⟨z30, z31, z32, z33⟩ := z3
                        go_upto_region 23 with (fail)
                        go_quiet (first | (go_at_call 88; exact Calls.quiet_of (turn_q _ _ (by decide) _)))
                        simp only [Sha.xor_u32, Sha.shr3]
                        rw [show Sha.rotr x1 7 ^^^ Sha.rotr x1 18 ^^^ x1 >>> 3 = Sha.sml0 x1 from rfl]
                        generalize Sha.sml0 x1 = y1 at *
                        have HR2 := Lib.hid (HREL.out.drewN nq)
                        have d0 : (wr.drewN nq).cell? _ = _ := c0
                        have d2 : (wr.drewN nq).cell? _ = _ := c2
                        have d3 : (wr.drewN nq).cell? _ = _ := c3
                        have e0 : (wr.drewN nq).frozen? _ = _ := f0
                        have e1 : (wr.drewN nq).cell? _ = _ := f1
                        clear HREL c0 c1 c2 c3 f0 f1
                        generalize wr.drewN nq = wr2 at *
                        go_upto_region 24 with (fail)
                        go_quiet (first | (go_at_call 88; exact Calls.quiet_of (turn_q _ _ (by decide) _)))
                        simp only [Sha.xor_u32, Sha.shr10]
                        rw [show Sha.rotr x3 17 ^^^ Sha.rotr x3 19 ^^^ x3 >>> 10 = Sha.sml1 x3 from rfl]
                        generalize Sha.sml1 x3 = y3 at *
                        have HR3 := Lib.hid (HR2.out.drewN nq)
                        have c0 : (wr2.drewN nq).cell? _ = _ := d0
                        have c2 : (wr2.drewN nq).cell? _ = _ := d2
                        have f0 : (wr2.drewN nq).frozen? _ = _ := e0
                        have f1 : (wr2.drewN nq).cell? _ = _ := e1
                        clear HR2 d0 d2 d3 e0 e1
                        generalize wr2.drewN nq = wr3 at *
                        have hst := wrel_step HR3.out.drew i (Sha.nextW (Sha.fill (((Sha.padded bs).drop (64 * k)).take 64) i) i)
                        rw [fill_step _ _ _ (by rw [if_neg (by omega)])] at hst
                        have H := Lib.hid hst
                        clear hst HR3
                        go_upto_region 25 with (fail)
                        go_still_tail 18, (by kernel_rfl)
                        change wpList _ _ _ _ _ wr3.drew
                        simp only [Sha.wadd_u32]
                        rw [HWD.out]
                        clear q0 q1 q2 q3 t0 t1 t2 t3 z00 z01 z10 z11 z20 z21 z30 z31 z02 z03 z12 z13 z22 z23 z32 z33 c0 c2
                        go_wp2_with fail
                        go_roundg gn5
                        case measure => omega
                        case rel => exact ⟨i + 1, by omega, by omega, by go_num, H.out⟩
                | succ gn4 =>
                  as_aux_lemma =>
                    have hi16 : i < 16 := by omega
                    have hkl : 64 * k + 64 ≤ (Sha.padded bs).length := by rw [HKL.out]; omega
                    have c0 := row_byte hrel.base.text k (4 * i) hkl (by omega)
                    have c1 := row_byte hrel.base.text k (4 * i + 1) hkl (by omega)
                    have c2 := row_byte hrel.base.text k (4 * i + 2) hkl (by omega)
                    have c3 := row_byte hrel.base.text k (4 * i + 3) hkl (by omega)
                    have f0 := hrel.sch.free i
                    have f1 := hrel.sch.at_ (wcells_at _ i (by rw [Sha.fill_length]; omega))
                    have hwd : Sha.mkWord ((((Sha.padded bs).drop (64 * k)).take 64).getD (4 * i) 0) ((((Sha.padded bs).drop (64 * k)).take 64).getD (4 * i + 1) 0) ((((Sha.padded bs).drop (64 * k)).take 64).getD (4 * i + 2) 0) ((((Sha.padded bs).drop (64 * k)).take 64).getD (4 * i + 3) 0) = Sha.word (((Sha.padded bs).drop (64 * k)).take 64) i := rfl
                    have hst := wrel_step hrel.drew i (Sha.word (((Sha.padded bs).drop (64 * k)).take 64) i)
                    rw [fill_step _ _ _ (by rw [if_pos hi16])] at hst
                    have H := Lib.hid hst
                    clear hrel hst
                    generalize (((Sha.padded bs).drop (64 * k)).take 64).getD (4 * i) 0 = b0 at c0 hwd
                    generalize (((Sha.padded bs).drop (64 * k)).take 64).getD (4 * i + 1) 0 = b1 at c1 hwd
                    generalize (((Sha.padded bs).drop (64 * k)).take 64).getD (4 * i + 2) 0 = b2 at c2 hwd
                    generalize (((Sha.padded bs).drop (64 * k)).take 64).getD (4 * i + 3) 0 = b3 at c3 hwd
                    rw [← Nat.add_assoc] at c1 c2 c3
                    have HWD := Lib.hid hwd
                    clear hwd
                    have hpk : 64 * k + 4 * i + 3 < 64 * K := by omega
                    have q16 : decide ((i : Int) < 16) = true := by simp; omega
                    go_upto_region 19 with (fail)
                    rw [show (64 * (k : Int) + 4 * (i : Int)) = ((64 * k + 4 * i : Nat) : Int) by omega]
                    generalize 64 * k + 4 * i = P at *
                    have q1 : IntKind.i64.wrap ((P : Int) + 1) = (P : Int) + 1 := IntWalk.i64_in _ (by omega)
                    have q2 : IntKind.i64.wrap ((P : Int) + 2) = (P : Int) + 2 := IntWalk.i64_in _ (by omega)
                    have q3 : IntKind.i64.wrap ((P : Int) + 3) = (P : Int) + 3 := IntWalk.i64_in _ (by omega)
                    have z0 : (P : Int) < 64 * (K : Int) := by omega
                    have z1 : 0 ≤ (P : Int) + 1 ∧ (P : Int) + 1 < 64 * (K : Int) := by omega
                    have z2 : 0 ≤ (P : Int) + 2 ∧ (P : Int) + 2 < 64 * (K : Int) := by omega
                    have z3 : 0 ≤ (P : Int) + 3 ∧ (P : Int) + 3 < 64 * (K : Int) := by omega
                    have n0 : P < 64 * K := by omega
                    have i64 : (i : Int) < 64 := by omega
                    have t1 : ((P : Int) + 1).toNat = P + 1 := by omega
                    have t2 : ((P : Int) + 2).toNat = P + 2 := by omega
                    have t3 : ((P : Int) + 3).toNat = P + 3 := by omega
                    obtain ⟨z10, z11⟩ := z1
                    obtain ⟨z20, z21⟩ := z2
                    obtain ⟨z30, z31⟩ := z3
                    go_still_tail 32, (by kernel_rfl)
                    change wpList _ _ _ _ _ wr.drew
                    rw [Sha.word_plus, HWD.out]
                    clear q1 q2 q3 z0 z10 z11 z20 z21 z30 z31 n0 t1 t2 t3 c0 c1 c2 c3
                    go_wp2_with fail
                    go_roundg gn4
                    case measure => omega
                    case rel => exact ⟨i + 1, by omega, by go_num, H.out⟩
        | succ gn =>
          have hi8 : i < 8 := by omega
          obtain ⟨b, hb⟩ : ∃ b, (Lw >>> UInt64.ofNat (56 - 8 * i)).toUInt8 = b := ⟨_, rfl⟩
          have hbyte := Sha.be8_byte Lw i hi8
          rw [hb] at hbyte
          have hsh : (56 - 8 * (i : Int)).toNat = 56 - 8 * i := by omega
          have z0 : 0 ≤ 56 - 8 * (i : Int) := by omega
          have z1 : 56 - 8 * (i : Int) ≤ 64 := by omega
          have HB := Lib.hid hb
          have HREL := Lib.hid hrel
          have HL := Lib.hid hL
          clear hb hrel hL
          go_upto_region 9 with (fail)
          refine wp_region_lit ?_
          iterate 24 go_step
          refine wpList_append_reads rfl (.tmp 50) (.tmp 57) rfl w.heap.size _ (bs ++ [128] ++ List.replicate (Sha.zeros n) 0 ++ (Sha.be8 Lw).take i).length _ rfl (HREL.out.own.alloc _) (some ⟨wr.heap.size, 0, none⟩) 1 1 [b] rfl (reads_new wr 5 [b] 1 rfl) (by rw [HL.out]; omega) (by have := HREL.out.bel.size; simp; omega) ?_
          intro v3 w3 hown3 hg3 hat3
          have H3 := Lib.hid (rpad_step (b := b) HREL.out 5 hown3 hg3 hat3)
          clear hown3 hg3 hat3 hbyte
          go_simp
          go_wp2_with fail
          go_roundg gn
          case measure => omega
          case rel =>
            refine ⟨i + 1, by omega, by go_num, ?_⟩
            rw [Sha.be8_take Lw i hi8, HB.out, ← List.append_assoc]
            exact H3.out
    | succ gn =>
      have q56 : (((n : Int) + 1 + (j : Int)) % 64 != 56) = true := by rw [bne_iff_ne]; omega
      have hj' : j + (gn + 1) = Sha.zeros n := hj
      have HJ := Lib.hid hj'
      have HREL := Lib.hid hrel
      have HL := Lib.hid hL
      have HLB := Lib.hid hlb
      clear hj hj' hrel hL hlb hz
      go_upto_region 4 with (fail)
      refine wp_region_lit ?_
      iterate 6 go_step
      refine wpList_append_reads rfl (.tmp 39) (.tmp 40) rfl w.heap.size _ (bs ++ [128] ++ List.replicate j 0).length _ rfl (HREL.out.own.alloc _) (some ⟨wr.heap.size, 0, none⟩) 1 1 [0] rfl (reads_new wr 5 [0] 1 rfl) (by rw [HL.out]; omega) (by have := HREL.out.bel.size; simp; omega) ?_
      intro v3 w3 hown3 hg3 hat3
      have H3 := Lib.hid (rpad_step (b := 0) HREL.out 5 hown3 hg3 hat3)
      clear hown3 hg3 hat3
      go_simp
      go_wp2_with fail
      go_roundg gn
      case measure => omega
      case rel =>
        refine ⟨j + 1, by have := HJ.out; omega, ?_⟩
        rw [List.replicate_succ', ← List.append_assoc]
        exact H3.out
end Go.Proofs.YtolkpjbbfopmnaaDoor.Sh

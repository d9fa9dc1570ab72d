/-
  Get of a cache: a key's value, on the way from a node of the trees down to a leaf; conditions: the cache and its base lie in memory, the base holds the trees' nodes, no two of them have one sum. It turns the cache, its map and its row, and makes memory of its own.
  Awake of layer 8's laws returns true: chapter 8's example; condition: sha's table holds its words. It only makes memory of its own.
  CacheYoung: what was read last is the youngest in a cache, what is cached is all unlike, no more than there is room for, or two unlike texts of the tree's nodes have one sum; conditions: the calls and the places lie in memory, both tables hold their words.
-/
import Derived.Test.YtolkpjbbfopmnaaDoorCY12
import Derived.Test.YtolkpjbbfopmnaaDoorCY14
import Derived.Test.YtolkpjbbfopmnaaDoorCY16
import Derived.Test.YtolkpjbbfopmnaaDoorCY17
namespace Go.Proofs.YtolkpjbbfopmnaaDoor
open Go.RowKit
open Tr

/-- The leaf that the way to a key leads to. -/
def leafOf (key : List UInt8) : T → T
  | .leaf k v => .leaf k v
  | .node l r => if lt key (T.node l r).key = true then leafOf key l else leafOf key r
theorem results_tmp3 {fn : Func} {t u v : Tmp} (h : fn.results = #[.tmp t, .tmp u, .tmp v]) (tmps : Array Value) (P : Program) (w : World) :
    (results fn tmps).run P w = .ok (.tuple #[tmps.getD t undef, tmps.getD u undef, tmps.getD v undef]) w := by
  simp [results, h]
def CGetPost (w : World) (B cb pb H room : Nat) (ts : List T) (r : Option Nat) (s : T) (key : List UInt8) (e : Ending) (w' : World) : Prop :=
  ∃ A n c hs' v' os', e = .returned (.tuple #[.slice A n c, .bool (s.key == key), .int .i64 0]) ∧ BF w' cb H v'.ownBlock A n (if s.key = key then s.val else []) ∧ n ≤ c ∧ CAt w' B cb pb H room ts hs' v' os' ∧ 1 ≤ os'.length ∧ Fc cb H r w w' ∧ RNew w r v'.ownBlock
/-- How memory stands in Get's loop: block g9 holds the node of s. -/
def GS (w wx : World) (B cb pb H room : Nat) (ts : List T) (r : Option Nat) (g9 : Nat) (s : T) : Prop :=
  ∃ (X : Array Value) (hs' : List (List UInt8 × Value)) (v' : Value) (os' : List (List UInt8)), Whole wx g9 47 X ∧ HV wx cb H v'.ownBlock s (.agg X) ∧ CAt wx B cb pb H room ts hs' v' os' ∧ 1 ≤ os'.length ∧ Fc cb H r w wx ∧ RNew w r v'.ownBlock ∧ (∀ p ∈ hs', Off g9 p.2) ∧ Off g9 (.agg X) ∧ w.heap.size ≤ g9 ∧ g9 ≠ cb ∧ g9 ≠ H ∧ v'.ownBlock ≠ some g9
theorem HV.off_g {w : World} {cb H : Nat} {r : Option Nat} {s : T} {u : Value} (h : HV w cb H r s u) : Off w.heap.size u := h.off (Nat.le_refl _)
set_option maxRecDepth 100000 in
set_option maxHeartbeats 1000000 in
theorem cache_get (B cb pb H room : Nat) (ts : List T) (hs : List (List UInt8 × Value)) (v : Value) (os : List (List UInt8)) (t : T) (hts : ∀ s ∈ t.all, s ∈ ts) (M : Nat) (ms : List (List UInt8 × Value)) (A : Option Addr) (n c : Nat) (key : List UInt8) (w : World) (hc : CAt w B cb pb H room ts hs v os) (hroom : room ≤ 4096) (hr1 : 1 ≤ room)
    (hinj : ∀ a ∈ ts, ∀ b ∈ ts, a.sum = b.sum → a = b) (wb : World) (hB : BAt wb pb M ms) (hwb : wb.heap.size = B) (hbw : Below B wb w) (hV : NVals ms) (hbase : ∀ s ∈ ts, ∃ v0, MAt.look ms s.sum = some v0 ∧ NodeV wb 0 s v0 ∧ s.n ≤ 64 ∧ 1 ≤ s.key.length)
    (hkey : BF w cb H v.ownBlock A n key) (hkv : ∀ s1 ∈ ts, s1.key.length ≤ 96 ∧ s1.val.length ≤ 256) (hne : t.sum ≠ Sh.Sha.sum []) (ht : Sh.Tab w 1) (hw : 1 < w.heap.size) :
    Calls Tryd.prog 56 #[.pointer (some ⟨cb, 0, none⟩), .agg (Sh.bcells t.sum), .slice A n c] w (CGetPost w B cb pb H room ts v.ownBlock (leafOf key t) key) := by
  obtain ⟨h, hh⟩ : ∃ h, h = t.sum := ⟨_, rfl⟩
  have hl : h.length = 32 := by rw [hh]; exact sum32 t
  rw [← hh] at hne ⊢
  have hb0 : Below w.heap.size w (w.alloc (.cells (Sh.bcells h) 29)) := (Below.refl _ _).alloc (Nat.le_refl _) _
  have hw0 := Whole.made w 29 (Sh.bcells h)
  have heq : ∀ u : World, (Op.equalIn 10000 29 (.agg (h.map V8).toArray) (.agg (Sh.bcells (Sh.Sha.sum [])))).run Tryd.prog u = .ok false u := fun u => by
    have := run_eq49 h (Sh.Sha.sum []) hl (Sh.sum_length _) u
    rw [show (h == Sh.Sha.sum []) = false by rw [beq_eq_false_iff_ne]; exact hne] at this
    exact this
  have HI : Hid ((Tryd.prog.info? 29).map (·.size) = some (h.map V8).length) := Lib.hid (by rw [List.length_map, hl]; exact info49)
  have HC := Lib.hid hc
  have HBA := Lib.hid (And.intro hB (And.intro hV (And.intro hbase (And.intro hwb hbw))))
  have HIN := Lib.hid (And.intro hinj hts)
  have HKY := Lib.hid hkey
  have HKV := Lib.hid hkv
  have HH := Lib.hid hh
  have HB0 := Lib.hid hb0
  have HW0 := Lib.hid hw0
  have HTB := Lib.hid ht
  clear hc hB hV hbase hwb hbw hinj hts hkey hkv hh hb0 hw0 hne ht
  go_enter Tryd.func56, Tryd.ntmps56
  go_upto_region 3 with (fail)
  generalize w.alloc (.cells (Sh.bcells h) 29) = w0 at *
  have hS0 : w0.drew.rangeAt w.heap.size 0 (h.map V8) := HW0.out.range
  refine wp_region_held_drew (S := fun u => u.rangeAt w.heap.size 0 (h.map V8)) (by kernel_rfl) hS0 (fun hHeld => ?_)
  refine wpAnyH_take (i := 0) (oi := { dst := some 13, op := Op.load 29 (Operand.tmp 4), type := 29, pos := "cache.go:64", after := #[], guard := none }) (v := .agg (h.map V8).toArray) rfl (by kernel_rfl) (by kernel_rfl) (by kernel_rfl) (fun _ _ _ h => h) (yieldsIf_load_mid (by rfl) 29 (.tmp 4) rfl w.heap.size 0 rfl (h.map V8) _ (fun _ h => h) Tryd.underlying29 rfl HI.out) (by assumption) ?_
  simp only [Act.put, List.setIfInBounds_toArray, List.set_cons_zero, List.set_cons_succ]
  have hE := empty_any w0.drew (Sh.tab_below HTB.out HB0.out.drew hw) (by have := HB0.out.size; show 1 < w0.heap.size; omega)
  have HE := Lib.hid hE
  clear hE
  refine wpAnyH_ready (rs := [1]) (by kernel_rfl) (by simp) ?_
  refine AllReadyH.cons rfl (fun K hK => ?_) AllReadyH.nil
  go_simp
  refine HE.out.mono ?_
  rintro e w1 ⟨rfl, hb1⟩
  have HW1 := Lib.hid ((show Whole w0.drew w.heap.size 29 (Sh.bcells h) from HW0.out).below hb1 HW0.out.lt)
  have hS1 : w1.rangeAt w.heap.size 0 (h.map V8) := HW1.out.range
  refine hK.out _ _ hS1 (fun _ => ?_)
  have HB1 := Lib.hid (HB0.out.drew.trans (hb1.mono HB0.out.size))
  have hHeld := hS1
  clear hK K hb1 HE HW0 HB0 hS0
  refine wpAnyH_take (i := 2) (oi := { dst := some 15, op := Op.binOp BinOp.eql 29 (Operand.tmp 13) (Operand.tmp 14) 29, type := 4, pos := "cache.go:64", after := #[{ on := 0, ground := Ground.data }, { on := 1, ground := Ground.data }], guard := none }) (v := ?_) rfl (by kernel_rfl) (by kernel_rfl) (by kernel_rfl) (fun _ _ _ h => h) (Or.inl ⟨by rfl, ?_⟩) (by assumption) ?_
  rotate_left
  · first | (intro w hSw; (try dsimp only at hSw); go_simp; done) | (intro w hSw; (try dsimp only at hSw); go_simp; with_reducible rfl)
  simp only [Act.put, List.setIfInBounds_toArray, List.set_cons_zero, List.set_cons_succ]
  refine wpAnyH_done (by kernel_rfl) ?_ _
  clear hHeld heq
  have hbb := HB1.out
  have HC1 := Lib.hid (HC.out.below hbb)
  obtain ⟨hB, hV, hbase, hwb, hbw⟩ := HBA.out
  have hbq : Below wb.heap.size wb w1 := by rw [hwb]; exact hbw.trans (hbb.mono (by have := hbw.size; omega))
  obtain ⟨v0, q1, q2, q3, q4⟩ := hbase t (HIN.out.2 t (self_all t))
  have hrd := cache_read B cb pb H room ts hs v os t (HIN.out.2 t (self_all t)) M ms v0 w1 HC1.out hroom hr1 (hB.below hbq) hV (fun _ => ⟨q1, node_below q2 hbq⟩) q3 q4
  rw [← HH.out] at hrd
  have HRD : Hid (Calls Tryd.prog 59 #[.pointer (some ⟨cb, 0, none⟩), .agg (h.map V8).toArray] w1 (ReadPost w1 B cb pb H room ts hs v.ownBlock h)) := Lib.hid hrd
  clear hbb hbq hB hV hbase hwb hbw v0 q1 q2 q3 q4 hrd
  go_upto_region 5 with (fail)
  refine wp_region_lit ?_
  iterate 3 go_step
  refine wpList_load_mid rfl 29 (.tmp 4) rfl w.heap.size 0 rfl (h.map V8) _ hS1 Tryd.underlying29 rfl HI.out ?_
  simp only [Act.put, List.setIfInBounds_toArray, List.set_cons_zero, List.set_cons_succ]
  go_wp2_with fail
  refine HRD.out.mono ?_
  rintro e w2 ⟨s1, m1, e1, u2, hs2, v2, os2, rfl, hC2, hV2, hF2, hN2, hO2⟩
  have hs1t : s1 = t := HIN.out.1 s1 m1 t (HIN.out.2 t (self_all t)) (e1.trans HH.out)
  subst hs1t
  obtain ⟨X, rfl, hx1, hx2⟩ := hV2.arr
  have hz64 := zero64
  simp only []
  have HX := Lib.hid (And.intro hx1 hx2)
  have HS2 := Lib.hid (And.intro hC2 (And.intro hV2 (And.intro hF2 hN2)))
  clear hC2 hV2 hF2 hN2 hO2 hx1 hx2 m1 e1 HRD hS1
  iterate 13 go_step
  clear hz64
  have hXi : (Tryd.prog.info? 47).map (·.size) = some X.size := by rw [HX.out.1]; exact info64
  refine Tl.wpList_store_made rfl 47 (.tmp 9) (.tmp 20) rfl z64 X rfl rfl hXi (by rw [HX.out.1]; rfl) HX.out.2 ?_
  clear hXi
  have HGS : Hid (GS w (w2.alloc (.cells X 47)) B cb pb H room ts v.ownBlock w2.heap.size s1) := Lib.hid (by
    obtain ⟨hC2, hV2, hF2, hN2⟩ := HS2.out
    have hb3 : Below w2.heap.size w2 (w2.alloc (.cells X 47)) := (Below.refl _ _).alloc (Nat.le_refl _) _
    have f3 := (Fc.of_below (cb := cb) (H := H) (r := v.ownBlock) HB1.out).trans hF2 (.inl rfl)
    have hsz := HB1.out.size
    have hn3 : RNew w v.ownBlock v2.ownBlock := by
      rcases hN2 with h | ⟨g, h1, h2⟩
      · exact .inl h
      · exact .inr ⟨g, h1, by omega⟩
    have l1 := hC2.whole.lt
    have l2 := hC2.mat.lt
    have l3 := hC2.rB w2.heap.size
    exact ⟨X, hs2, v2, os2 ++ [s1.sum], Whole.made w2 47 X, hV2.keep (Fc.of_below hb3) (.inl rfl), hC2.below hb3, by simp, f3.trans (Fc.of_below (r := v2.ownBlock) hb3) hn3, hn3, fun p hp => by
      obtain ⟨s', _, _, h3⟩ := hC2.vals p hp
      exact h3.off_g, hV2.off_g, f3.size, by omega, by omega, fun e => by have := (l3 e).2; omega⟩)
  clear HS2 HX HC1 HB1 HW1
  generalize w2.alloc (.cells X 47) = w3 at *
  generalize w2.heap.size = g9 at *
  go_wp2_with fail
  go_loopg [10] s1.h (fun gk e10 wx => ∃ s, e10 = .int .i64 0 ∧ s ∈ s1.all ∧ s.h ≤ gk ∧ leafOf key s = leafOf key s1 ∧ GS w wx B cb pb H room ts v.ownBlock g9 s)
  case atStart => exact ⟨s1, rfl, self_all s1, Nat.le_refl _, rfl, HGS.out⟩
  case round =>
    obtain ⟨s, rfl, hsm, hsh, hlf, hGS⟩ := hrel
    clear HGS
    cases s with
    | leaf kk vv =>
      obtain ⟨X, hs', v', os', gW, gV, gC, gl, gF, gN, gO, gX, g1, g2, g3, g4⟩ := hGS
      obtain ⟨A1, n1, c1, A2, n2, c2, hXe, hk1, hnc1, hk2, hnc2⟩ := gV
      injection hXe with hXe
      have gW1 := gW
      rw [hXe] at gW1
      have c0 : wr.cell? ⟨g9, 0, none⟩ = some (.slice A1 n1 c1) := gW1.at_ rfl
      have c1' : wr.cell? ⟨g9, 1, none⟩ = some (.slice A2 n2 c2) := gW1.at_ rfl
      have c2' : wr.cell? ⟨g9, 2, none⟩ = some (.int .i64 0) := gW1.at_ rfl
      have hkw : Rd wr wr.heap.size A n key := (HKY.out.keep gF gN).1
      have HQ := Lib.hid (equal_any A1 A n1 c1 n c wr.heap.size wr.heap.size (T.leaf kk vv).key key wr hk1.1 hkw)
      have hvl : n2 ≤ 256 := by have h1 := hk2.1.len; have h2 := (HKV.out _ (HIN.out.2 _ (hsm))).2; change vv.length = n2 at h1; change vv.length ≤ 256 at h2; omega
      have HCL := Lib.hid (clone_new A2 n2 c2 (T.leaf kk vv).val wr hk2.1 (by omega))
      have HST := Lib.hid (And.intro gC (And.intro gl (And.intro gF gN)))
      have HLF := Lib.hid hlf
      clear gW gW1 gC gl gF gN gO gX g1 g2 g3 g4 hXe hk1 hk2 hkw hlf hsm hsh hvl
      go_wp2_with fail
      refine HQ.out.mono ?_
      rintro e wq ⟨rfl, rfl⟩
      obtain ⟨bq, hbq⟩ : ∃ b, ((T.leaf kk vv).key == key) = b := ⟨_, rfl⟩
      rw [hbq]
      have HBQ := Lib.hid hbq
      clear hbq HQ
      cases bq with
      | true =>
        go_wp2_with fail
        refine HCL.out.mono ?_
        rintro e w4 ⟨A3, n3, c3, rfl, hr3, hn3, hf3, hb3⟩
        have HR3 := Lib.hid (And.intro hr3 (And.intro hn3 (And.intro hf3 hb3)))
        clear hr3 hn3 hf3 hb3 HCL
        go_wp2_with fail
        (try simp only [Exit.inBlock, Exit.then])
        refine bodyPost_ret (results_tmp3 rfl _ _ _) rfl ?_
        obtain ⟨gC, gl, gF, gN⟩ := HST.out
        obtain ⟨hr3, hn3, hf3, hb3⟩ := HR3.out
        have hkk : (T.leaf kk vv).key = key := by have := HBQ.out; simpa using this
        show CGetPost w B cb pb H room ts v.ownBlock (leafOf key s1) key _ _
        rw [← HLF.out]
        refine ⟨A3, n3, c3, hs', v', os', ?_, ?_, hn3, gC.below hb3, gl, gF.trans (Fc.of_below hb3) gN, gN⟩
        · have h1 : ((leafOf key (T.leaf kk vv)).key == key) = true := HBQ.out
          rw [h1]
          rfl
        · have h1 : (leafOf key (T.leaf kk vv)).key = key := hkk
          rw [if_pos h1]
          refine ⟨hr3, fun _ b o e => ?_⟩
          have h2 := (hf3 b o e).1
          have h3 := gC.whole.lt
          have h4 := gC.mat.lt
          refine ⟨by omega, by omega, fun e => ?_⟩
          have := (gC.rB b e).2
          omega
      | false =>
        go_wp2_with fail
        (try simp only [Exit.inBlock, Exit.then])
        refine bodyPost_ret (results_tmp3 rfl _ _ _) rfl ?_
        obtain ⟨gC, gl, gF, gN⟩ := HST.out
        have hkk : ¬ (T.leaf kk vv).key = key := by have := HBQ.out; simpa using this
        show CGetPost w B cb pb H room ts v.ownBlock (leafOf key s1) key _ _
        rw [← HLF.out]
        refine ⟨none, 0, 0, hs', v', os', ?_, ?_, Nat.le_refl _, gC, gl, gF, gN⟩
        · have h1 : ((leafOf key (T.leaf kk vv)).key == key) = false := HBQ.out
          rw [h1]
          rfl
        · have h1 : ¬ (leafOf key (T.leaf kk vv)).key = key := hkk
          rw [if_neg h1]
          exact ⟨Rd.nil, fun h => absurd h (by omega)⟩
    | node l r =>
      obtain ⟨X, hs', v', os', gW, gV, gC, gl, gF, gN, gO, gX, g1, g2, g3, g4⟩ := hGS
      obtain ⟨A1, n1, c1, A2, n2, c2, hXe, hk1, hnc1, hk2, hnc2⟩ := gV
      injection hXe with hXe
      obtain ⟨m, rfl⟩ : ∃ m, gk = m + 1 := ⟨gk - 1, by rw [h_node] at hsh; omega⟩
      obtain ⟨zh, hzh⟩ : ∃ z : Nat, (T.node l r).h = z := ⟨_, rfl⟩
      have hzp : 0 < zh := by rw [← hzh, h_node]; omega
      have gW1 := gW
      rw [hXe, hzh] at gW1
      have c2' : wr.cell? ⟨g9, 2, none⟩ = some (.int .i64 zh) := gW1.at_ rfl
      have hzi : ((0 : Int) < (zh : Int)) := by omega
      have hkw : Rd wr wr.heap.size A n key := (HKY.out.keep gF gN).1
      have HBE := Lib.hid (beneath_any A1 n1 c1 (.slice A2 n2 c2) (zh : Int) (T.node l r).n (T.node l r).lsum (T.node l r).rsum (T.node l r).key key A n c wr hk1.1 hkw (lsum32 _) (rsum32 _))
      obtain ⟨cs, hcs⟩ : ∃ s, s = (if lt key (T.node l r).key = true then l else r) := ⟨_, rfl⟩
      have hsel : (if lt key (T.node l r).key = true then (T.node l r).lsum else (T.node l r).rsum) = cs.sum := by rw [hcs]; split <;> rfl
      have hcm : cs ∈ (T.node l r).all := by rw [hcs]; split; exact left_all l r; exact right_all l r
      have hch : cs.h ≤ m := by
        have h1 : cs.h ≤ max l.h r.h := by rw [hcs]; split <;> omega
        rw [h_node] at hsh; omega
      have hclf : leafOf key cs = leafOf key s1 := by
        rw [← hlf, hcs]
        show _ = (if lt key (T.node l r).key = true then leafOf key l else leafOf key r)
        split <;> rfl
      have hct : cs ∈ s1.all := all_sub hsm hcm
      rw [hsel] at HBE
      have HLX : ∃ L, (acells (.slice A1 n1 c1) (.slice A2 n2 c2) (zh : Int) (T.node l r).n (T.node l r).lsum (T.node l r).rsum) = L := ⟨_, rfl⟩
      obtain ⟨L, hL⟩ := HLX
      rw [hL] at HBE gW1
      have hLs : L.length = 68 := by rw [← hL]; exact acells_len _ _ _ _ _ _ (lsum32 _) (rsum32 _)
      have HLI : Hid ((Tryd.prog.info? 47).map (·.size) = some L.length) := Lib.hid (by rw [hLs]; exact info64)
      have HRG : Hid (wr.rangeAt g9 0 L) := Lib.hid gW1.range
      have HW := Lib.hid gW1
      have HST := Lib.hid (And.intro gC (And.intro gl (And.intro gF (And.intro gN (And.intro gO (And.intro g1 (And.intro g2 (And.intro g3 g4))))))))
      have HCS := Lib.hid (And.intro hch (And.intro hclf hct))
      have HLS := Lib.hid hLs
      clear gW gW1 gC gl gF gN gO gX g1 g2 g3 g4 hXe hk1 hk2 hnc1 hnc2 hkw hlf hsm hsh hcs hsel hcm hch hclf hct hL hLs hzh
      go_upto_region 7 with (fail)
      refine wp_region_lit ?_
      iterate 3 go_step
      refine wpList_load_mid rfl 47 (.tmp 9) rfl g9 0 rfl L _ HRG.out Tryd.underlying47 rfl HLI.out ?_
      simp only [Act.put, List.setIfInBounds_toArray, List.set_cons_zero, List.set_cons_succ]
      go_wp2_with fail
      refine HBE.out.mono ?_
      rintro e w4 ⟨rfl, hb4⟩
      obtain ⟨gC, gl, gF, gN, gO, g1, g2, g3, g4⟩ := HST.out
      obtain ⟨hch, hclf, hct⟩ := HCS.out
      have gC4 := gC.below hb4
      obtain ⟨hB, hV, hbase, hwb, hbw⟩ := HBA.out
      have hcts : cs ∈ ts := HIN.out.2 cs hct
      obtain ⟨v0, q1, q2, q3, q4⟩ := hbase cs hcts
      have hq : Below wb.heap.size wb w4 := by
        rw [hwb]
        have h1 := hbw.size
        have h2 := gF.size
        have h3 : Below B w wr := gF.below HC.out.cb_ge HC.out.h_ge (fun g hg => (HC.out.rB g hg).1) (by omega)
        exact (hbw.trans h3).trans (hb4.mono (by omega))
      have hrd := cache_read B cb pb H room ts hs' v' os' cs hcts M ms v0 w4 gC4 hroom hr1 (hB.below hq) hV (fun _ => ⟨q1, node_below q2 hq⟩) q3 q4
      have HRD : Hid (Calls Tryd.prog 59 #[.pointer (some ⟨cb, 0, none⟩), .agg (Sh.bcells cs.sum)] w4 (ReadPost w4 B cb pb H room ts hs' v'.ownBlock cs.sum)) := Lib.hid hrd
      have HF4 : Hid (Fc cb H v.ownBlock w w4) := Lib.hid (gF.trans (Fc.of_below hb4) gN)
      have HW4 : Hid (Whole w4 g9 47 L.toArray) := Lib.hid (HW.out.below hb4 HW.out.lt)
      have HQ := Lib.hid (And.intro gN (And.intro gO (And.intro g1 (And.intro g2 (And.intro g3 g4)))))
      have HG9 : Hid (g9 < w4.heap.size) := Lib.hid HW4.out.lt
      clear gC gl gF gN gO g1 g2 g3 g4 hch hclf hct gC4 hB hV hbase hwb hbw hcts v0 q1 q2 q3 q4 hq hrd hb4 HW HST HBE HRG
      go_wp2_with fail
      refine HRD.out.mono ?_
      rintro e w5 ⟨s5, m5, e5, u5, hs5, v5, os5, rfl, hC5, hV5, hF5, hN5, hO5⟩
      obtain ⟨hch, hclf, hct⟩ := HCS.out
      have hs5c : s5 = cs := HIN.out.1 s5 m5 cs (HIN.out.2 cs hct) e5
      subst hs5c
      obtain ⟨X5, rfl, hx1, hx2⟩ := hV5.arr
      obtain ⟨gN, gO, g1, g2, g3, g4⟩ := HQ.out
      obtain ⟨o1, o2⟩ := hO5 g9 HG9.out gO
      have hr5 : v5.ownBlock ≠ some g9 := by
        rcases hN5 with h | ⟨g, h1, h2⟩
        · rw [h]; exact g4
        · rw [h1]
          intro e
          injection e with e
          have := HG9.out
          omega
      have HW5 : Hid (Whole w5 g9 47 L.toArray) := Lib.hid ((hF5.block g9 HG9.out g2 g3 g4).trans HW4.out)
      have HX := Lib.hid (And.intro hx1 hx2)
      have hN6 : RNew w v.ownBlock v5.ownBlock := by
        have hsz := HF4.out.size
        exact gN.trans hN5 hsz
      have HC5 := Lib.hid (And.intro hC5 (And.intro hV5 (And.intro (HF4.out.trans hF5 gN) (And.intro hN6 (And.intro o1 (And.intro o2 hr5))))))
      have HGG := Lib.hid (And.intro g1 (And.intro g2 g3))
      clear hC5 hV5 hF5 hN5 hN6 o1 o2 hr5 hx1 hx2 hO5 e5 m5 gN gO g1 g2 g3 g4 HRD HW4 HQ HF4
      simp only []
      iterate 10 go_step
      refine wpList_store_mid rfl 47 (.tmp 9) (.tmp 35) rfl g9 0 X5 rfl rfl ?_ ?_ HX.out.2 ?_
      · have h1 := HW5.out.there_
        rw [List.size_toArray, HLS.out] at h1
        rw [HX.out.1]; exact h1
      · rw [HX.out.1]; exact info64
      have HW6 : Hid (Whole (w5.setCells g9 0 X5.toList) g9 47 X5) := Lib.hid (HW5.out.setAll (by rw [List.size_toArray, HLS.out, HX.out.1]))
      have HK6 : Hid (∀ k, k ≠ g9 → (w5.setCells g9 0 X5.toList).heap[k]? = w5.heap[k]?) := Lib.hid (fun k hk => heap_setCells_other g9 k hk X5.toList 0 w5)
      have HB6 : Hid (Below g9 w5 (w5.setCells g9 0 X5.toList)) := Lib.hid (below_setCells w5 g9 _ 0 (Below.refl _ _) (Nat.le_refl _))
      generalize w5.setCells g9 0 X5.toList = w6 at *
      go_wp2_with fail
      go_roundg m
      case measure => omega
      case rel =>
        obtain ⟨hC5, hV5, hF5, hN6, o1, o2, hr5⟩ := HC5.out
        obtain ⟨g1, g2, g3⟩ := HGG.out
        obtain ⟨hch, hclf, hct⟩ := HCS.out
        have hs6 : w5.heap.size ≤ w6.heap.size := HB6.out.size
        refine ⟨s5, rfl, hct, hch, hclf, X5, hs5, v5, os5 ++ [s5.sum], HW6.out, hV5.other o1 HK6.out hs6, hC5.other g2 g3 hr5 o2 HK6.out hs6, by simp, ?_, hN6, o2, o1, g1, g2, g3, hr5⟩
        exact ⟨HB6.out.os.trans hF5.os, HB6.out.tape.trans hF5.tape, HB6.out.output.trans hF5.output, Nat.le_trans hF5.size hs6, fun k hk h1 h2 h3 => (HK6.out k (by omega)).trans (hF5.block k hk h1 h2 h3)⟩
end Go.Proofs.YtolkpjbbfopmnaaDoor
namespace Go.Proofs.YtolkpjbbfopmnaaDoor
open Go.RowKit
open Tr

/-- A constant row of one byte. -/
def row1 (x : UInt8) : Obj := .cells #[.int .u8 x.toNat] 5 (1, 2)
theorem one_byte (w : World) (x : UInt8) : Rd (w.alloc (row1 x)) (w.alloc (row1 x)).heap.size (some ⟨w.heap.size, 0, none⟩) 1 [x] := by
  refine Rd.mk_ rfl _ _ (by simp) fun j v hv => ?_
  cases j with
  | zero =>
    injection hv with hv
    subst hv
    have h : (w.alloc (row1 x)).heap[w.heap.size]? = some (row1 x) := heap_alloc_last w _
    unfold World.cell?
    rw [h]
    rfl
  | succ j => simp at hv
/-- Two of them. -/
theorem two_bytes (w : World) (x y : UInt8) : ∃ w', w' = (w.alloc (row1 x)).alloc (row1 y) ∧ Rd w' w'.heap.size (some ⟨w.heap.size, 0, none⟩) 1 [x] ∧ Rd w' w'.heap.size (some ⟨w.heap.size + 1, 0, none⟩) 1 [y] ∧ Below w.heap.size w w' ∧ w'.heap.size = w.heap.size + 2 := by
  refine ⟨_, rfl, ?_, ?_, ((Below.refl _ _).alloc (Nat.le_refl _) _).alloc (by simp) _, by simp⟩
  · exact ((one_byte w x).below ((Below.refl _ _).alloc (Nat.le_refl _) _) (Nat.le_refl _)).more (by simp)
  · have h := one_byte (w.alloc (row1 x)) y
    have e : (w.alloc (row1 x)).heap.size = w.heap.size + 1 := size_alloc _ _
    rw [e] at h
    exact h
theorem conv_two (w : World) (C D : Array Value) (m : Nat × Nat) (n c : Nat) :
    (convert 31 31 (.slice (some ⟨w.heap.size + 1, 0, none⟩) n c)).run Tryd.prog ((w.alloc (.cells D 5 m)).alloc (.cells C 5)) = .ok (.slice (some ⟨w.heap.size + 1, 0, none⟩) n c) ((w.alloc (.cells D 5 m)).alloc (.cells C 5 (C.size, C.size + 1))) := by
  have h := Lib.run_convert_bytes_const (P := Tryd.prog) (w.alloc (.cells D 5 m)) 31 5 C n c Tryd.underlying31 Tryd.underlying5
  rwa [size_alloc] at h
theorem awT_small : ∀ s ∈ awT.all, (s.n ≤ 64 ∧ 1 ≤ s.key.length) ∧ s.key.length ≤ 96 ∧ s.val.length ≤ 256 := fun s hs => by
  simp only [awT, T.all, List.mem_cons, List.mem_append, List.not_mem_nil, or_false] at hs
  rcases hs with rfl | rfl | rfl <;> decide
theorem awk_get (w7 wx : World) (cb pb H M : Nat) (ms hs : List (List UInt8 × Value)) (v : Value) (os : List (List UInt8)) (x : UInt8) (hC : CAt wx w7.heap.size cb pb H 1 awT.all hs v os) (hB : BAt w7 pb M ms) (hV : NVals ms)
    (hfull : ∀ s ∈ awT.all, ∃ v0, MAt.look ms s.sum = some v0 ∧ NodeV w7 0 s v0) (hbw : Below w7.heap.size w7 wx) (A : Option Addr) (n c : Nat) (hk : BF wx cb H v.ownBlock A n [x]) (ht : Sh.Tab wx 1) (hw : 1 < wx.heap.size) :
    Calls Tryd.prog 56 #[.pointer (some ⟨cb, 0, none⟩), .agg (Sh.bcells awT.sum), .slice A n c] wx (CGetPost wx w7.heap.size cb pb H 1 awT.all v.ownBlock (leafOf [x] awT) [x]) :=
  cache_get w7.heap.size cb pb H 1 awT.all hs v os awT (fun s hs => hs) M ms A n c [x] wx hC (by omega) (by omega) (fun a ha b hb e => inj_all awT_apart a ha b hb e) w7 hB rfl hbw hV (fun s hs => by
    obtain ⟨v0, h1, h2⟩ := hfull s hs
    exact ⟨v0, h1, h2, (awT_small s hs).1⟩) hk (fun s hs => (awT_small s hs).2) (not_empty awT_apart) ht hw
set_option maxRecDepth 100000 in
set_option maxHeartbeats 1000000 in
theorem cacheAwake_any (w : World) (ht : Sh.Tab w 1) (hw : 1 < w.heap.size) : Calls Tryd.prog 24 #[] w fun e w' => e = .returned (.bool true) ∧ Below w.heap.size w w' := by
  have HT := Lib.hid ht
  clear ht
  have kc := fun (w : World) (C : Array Value) (n c : Nat) => Lib.run_convert_bytes_const (P := Tryd.prog) w 31 5 C n c Tryd.underlying31 Tryd.underlying5
  have kc2 := conv_two
  go_enter Tryd.func24, Tryd.ntmps24
  go_wp2_with fail
  refine (new_any (G := All) w (room hw)).mono ?_
  rintro e w1 ⟨g, rfl, hg, hT, hb1⟩
  have HT1 := Lib.hid hT
  have HB1 := Lib.hid hb1
  have hs1 := hb1.size
  clear hT hb1
  rw [ptr_some]
  go_wp2_with fail
  obtain ⟨w2, e2, ra, rv, hb2, hs2⟩ := two_bytes w1 97 49
  change _ = (w1.alloc (.cells #[.int .u8 97] 5 (1, 2))).alloc (.cells #[.int .u8 49] 5 (1, 2)) at e2
  rw [← e2]
  have HP := Lib.hid (put_any (G := All) none g (some ⟨w1.heap.size, 0, none⟩) (some ⟨w1.heap.size + 1, 0, none⟩) 1 1 1 1 [97] [49] w2 (HT1.out.on hb2) ra rv (by omega) (by omega) (by omega) (by decide) (Sh.tab_below HT.out (HB1.out.trans (hb2.mono hs1)) hw) (room (by omega)))
  rw [ptr_some] at HP
  have HB2 := Lib.hid (HB1.out.trans (hb2.mono hs1))
  have hsw2 : w.heap.size < w2.heap.size := by omega
  clear e2 ra rv hb2 hs2 HB1 HT1 hs1 hg
  refine HP.out.mono ?_
  rintro e w3 ⟨g3, rfl, -, hT3, hb3⟩
  have HT3 := Lib.hid hT3
  have HB3 := Lib.hid (HB2.out.trans (hb3.mono (by omega)))
  have hs3 : w.heap.size < w3.heap.size := by have := hb3.size; omega
  clear hT3 hb3 HP HB2 hsw2
  rw [ptr_some]
  go_wp2_with fail
  obtain ⟨w4, e4, ra, rv, hb4, hs4⟩ := two_bytes w3 98 50
  change _ = (w3.alloc (.cells #[.int .u8 98] 5 (1, 2))).alloc (.cells #[.int .u8 50] 5 (1, 2)) at e4
  rw [← e4]
  have HP := Lib.hid (put_any (G := All) (some (oput none [97] [49])) g3 (some ⟨w3.heap.size, 0, none⟩) (some ⟨w3.heap.size + 1, 0, none⟩) 1 1 1 1 [98] [50] w4 (HT3.out.on hb4) ra rv (by omega) (by omega) (by omega) (by decide) (Sh.tab_below HT.out (HB3.out.trans (hb4.mono (by omega))) hw) (room (by omega)))
  rw [ptr_some, awT_grown] at HP
  have HB4 := Lib.hid (HB3.out.trans (hb4.mono (by omega)))
  have hsw4 : w.heap.size < w4.heap.size := by omega
  clear e4 ra rv hb4 hs4 HB3 HT3 hs3
  refine HP.out.mono ?_
  rintro e w5 ⟨g5, rfl, -, hT5, hb5⟩
  have HT5 := Lib.hid hT5
  have HB5 := Lib.hid (HB4.out.trans (hb5.mono (by omega)))
  have hs5 : w.heap.size < w5.heap.size := by have := hb5.size; omega
  clear hT5 hb5 HP HB4 hsw4
  rw [ptr_some]
  have HBN := Lib.hid (base_new w5)
  go_wp2_with fail
  refine HBN.out.mono ?_
  rintro e w6 ⟨pb, M, rfl, hB6, hpb, hM, hb6⟩
  have hs6 := hb6.size
  have hT6 : TIn (fun b => b ≠ M) w6 w6.heap.size (some awT) g5 := ((HT5.out.regood (fun b hb _ => by omega)).below hb6 (Nat.le_refl _)).more hs6
  have HSV := Lib.hid (save_tree pb M g5 (some awT) [] w6 hB6 (fun p hp => by cases hp) hT6 (fun t e => by injection e with e; subst e; decide) (Sh.tab_below HT.out (HB5.out.trans (hb6.mono (by omega))) hw) (by omega))
  rw [ptr_some, ptr_some] at HSV
  have HB6 := Lib.hid (HB5.out.trans (hb6.mono (by omega)))
  have HT6 := Lib.hid hT6
  have HM : Hid (w.heap.size ≤ pb ∧ w.heap.size ≤ M) := Lib.hid (And.intro (by omega) (by omega))
  have hs6' : w.heap.size < w6.heap.size := by omega
  clear hB6 hpb hM hb6 hT6 HBN HT5 hs6 HB5 hs5
  rw [ptr_some]
  go_wp2_with fail
  refine HSV.out.mono ?_
  rintro e w7 ⟨rfl, ms, hB7, hV7, -, hn7, he7, hf7, hsn7⟩
  have hs7 := hf7.size
  have hMw := HM.out.2
  have hbw7 : Below w.heap.size w w7 := fr_over HB6.out hf7 (by omega) (by omega)
  have HT7 := Lib.hid ((tin_fr HT6.out hf7 (Nat.le_refl _) (fun r hr => by cases hr)).more hs7)
  have HS7 := Lib.hid (And.intro hB7 (And.intro hV7 (full_look (hsn7 awT rfl) awT_apart)))
  have HB7 := Lib.hid hbw7
  have hs7' : w.heap.size < w7.heap.size := by omega
  have HN := Lib.hid (cache_new pb 1 (by omega) (by omega) w7)
  clear hMw hB7 hV7 hn7 he7 hf7 hsn7 HSV hbw7 HT6 HB6 HM hs7 hs6'
  go_wp2_with fail
  refine HN.out.mono ?_
  rintro e w8 ⟨cb, H, rfl, hW8, hH8, hne, hcb, hH, hb8⟩
  have HC8 : Hid (CAt w8 w7.heap.size cb pb H 1 awT.all [] (.slice none 0 0) []) := Lib.hid ⟨hW8, hH8, .inl (World.ownsRow_nil _ _ _ _), hcb, hH, hne, fun e => (by cases e), fun e => (by cases e), fun q hq => (by cases hq), List.nodup_nil, fun x hx => (by cases hx), List.Perm.refl _, Nat.zero_le _, fun p hp => by cases hp⟩
  have HB8 := Lib.hid hb8
  have hs8 : w7.heap.size < w8.heap.size := by have := hW8.lt; have := hH8.lt; omega
  clear hW8 hH8 hne hcb hH hb8 HN
  simp only []
  have HR8 := Lib.hid (root_any (G := fun b => b ≠ M) (some (some awT)) (some g5) w8 ⟨g5, rfl, HT7.out.on HB8.out⟩ (Sh.tab_below HT.out (HB7.out.trans (HB8.out.mono (by omega))) hw) (by omega))
  rw [ptr_some] at HR8
  go_wp2_with fail
  refine HR8.out.mono ?_
  rintro e w9 ⟨rfl, hb9⟩
  have hs9 : w8.heap.size ≤ w9.heap.size := hb9.size
  clear HR8
  rw [show osum (topOf (some (some awT))) = awT.sum from rfl, ptr_some]
  go_wp2_with fail
  have HBX : Hid (Below w7.heap.size w7 w9) := Lib.hid (HB8.out.trans (hb9.mono (by omega)))
  have hCX := HC8.out.below hb9
  have hb10 : Below w9.heap.size w9 (w9.alloc (row1 97)) := (Below.refl _ _).alloc (Nat.le_refl _) _
  have hcbl := hCX.whole.lt
  have hHl := hCX.mat.lt
  have HG := Lib.hid (awk_get w7 (w9.alloc (row1 97)) cb pb H M ms [] (.slice none 0 0) [] 97 (hCX.below hb10) HS7.out.1 HS7.out.2.1 HS7.out.2.2 (HBX.out.trans (hb10.mono (by omega))) (some ⟨w9.heap.size, 0, none⟩) 1 1
    ⟨one_byte w9 97, fun _ b o e => by injection e with e; injection e with e1 e2; exact ⟨by omega, by omega, fun e => by cases e⟩⟩ (Sh.tab_below HT.out ((HB7.out.trans (HBX.out.mono (by omega))).trans (hb10.mono (by omega))) hw) (by simp; omega))
  have HB10 : Hid (Below w7.heap.size w7 (w9.alloc (row1 97))) := Lib.hid (HBX.out.trans (hb10.mono (by omega)))
  have hs10 : (w9.alloc (row1 97)).heap.size = w9.heap.size + 1 := size_alloc _ _
  change Hid (Calls Tryd.prog 56 _ (w9.alloc (.cells #[.int .u8 97] 5 (1, 2))) _) at HG
  clear hCX hcbl hHl hb10 hb9 HBX HC8 HB8
  refine HG.out.mono ?_
  rintro e w11 ⟨A1, n1, c1, hs1, v1, os1, rfl, hR1, hn1, hC1, hl1, hF1, hN1⟩
  rw [show ((leafOf [97] awT).key == [97]) = true from rfl]
  rw [show (if (leafOf [97] awT).key = [97] then (leafOf [97] awT).val else []) = [49] from rfl] at hR1
  have hs11 : w9.heap.size < w11.heap.size := by
    have h1 : (w9.alloc (row1 97)).heap.size ≤ w11.heap.size := hF1.size
    omega
  have HB11 : Hid (Below w7.heap.size w7 w11) := Lib.hid (HB10.out.trans (hF1.below hC1.cb_ge hC1.h_ge (fun g hg => by cases hg) (by have h1 : (w9.alloc (row1 97)).heap.size = w9.heap.size + 1 := size_alloc _ _; show w7.heap.size ≤ (w9.alloc (row1 97)).heap.size; omega)))
  have HC1 := Lib.hid (And.intro hR1 hC1)
  have HHR := Lib.hid (root_any (G := fun b => b ≠ M) (some (some awT)) (some g5) w11 ⟨g5, rfl, HT7.out.on HB11.out⟩ (Sh.tab_below HT.out (HB7.out.trans (HB11.out.mono (by omega))) hw) (by omega))
  rw [ptr_some] at HHR
  clear hR1 hn1 hC1 hl1 hF1 hN1 HG HB10 hs10
  go_wp2_with fail
  refine HHR.out.mono ?_
  rintro e w12 ⟨rfl, hb12⟩
  have hs12 : w11.heap.size ≤ w12.heap.size := hb12.size
  clear HHR
  rw [show osum (topOf (some (some awT))) = awT.sum from rfl]
  go_wp2_with fail
  have HBX : Hid (Below w7.heap.size w7 w12) := Lib.hid (HB11.out.trans (hb12.mono (by omega)))
  obtain ⟨hR1, hC1⟩ := HC1.out
  have hCX := hC1.below hb12
  have hRX := hR1.keep (Fc.of_below hb12) (.inl rfl)
  have hb13 : Below w12.heap.size w12 (w12.alloc (row1 98)) := (Below.refl _ _).alloc (Nat.le_refl _) _
  have hcbl := hCX.whole.lt
  have hHl := hCX.mat.lt
  have hrl := hCX.rB
  have HG := Lib.hid (awk_get w7 (w12.alloc (row1 98)) cb pb H M ms hs1 v1 os1 98 (hCX.below hb13) HS7.out.1 HS7.out.2.1 HS7.out.2.2 (HBX.out.trans (hb13.mono (by omega))) (some ⟨w12.heap.size, 0, none⟩) 1 1
    ⟨one_byte w12 98, fun _ b o e => by injection e with e; injection e with e1 e2; exact ⟨by omega, by omega, fun e => by have := (hrl b e).2; omega⟩⟩ (Sh.tab_below HT.out ((HB7.out.trans (HBX.out.mono (by omega))).trans (hb13.mono (by omega))) hw) (by simp; omega))
  have HB13 : Hid (Below w7.heap.size w7 (w12.alloc (row1 98))) := Lib.hid (HBX.out.trans (hb13.mono (by omega)))
  have HR13 := Lib.hid (hRX.keep (Fc.of_below hb13) (.inl rfl))
  have HRB : Hid (∀ g, v1.ownBlock = some g → w7.heap.size ≤ g) := Lib.hid (fun g hg => (hrl g hg).1)
  change Hid (Calls Tryd.prog 56 _ (w12.alloc (.cells #[.int .u8 98] 5 (1, 2))) _) at HG
  clear hCX hcbl hHl hrl hb13 hb12 HBX hR1 hC1 hRX HC1 HB11
  refine HG.out.mono ?_
  rintro e w14 ⟨A2, n2, c2, hs2, v2, os2, rfl, hR2, hn2, hC2, hl2, hF2, hN2⟩
  rw [show ((leafOf [98] awT).key == [98]) = true from rfl]
  rw [show (if (leafOf [98] awT).key = [98] then (leafOf [98] awT).val else []) = [50] from rfl] at hR2
  have hR1 := HR13.out.keep hF2 hN2
  have q1 := fun j => run_string (w14.drewN j) _ A1 n1 c1 [49] (hR1.1.drewN j)
  have q2 := fun j => run_string (w14.drewN j) _ A2 n2 c2 [50] (hR2.1.drewN j)
  have q10 := run_string w14 _ A1 n1 c1 [49] hR1.1
  have q20 := run_string w14 _ A2 n2 c2 [50] hR2.1
  obtain ⟨A3, c3, e3, hnc3, _⟩ := hC2.row.form
  have hlen : os2.length = 1 := by have := hC2.few; omega
  have hrow := hC2.row
  have hwh := hC2.whole
  rw [e3] at hrow hwh
  have HLI := Lib.hid (cache_list cb (.pointer (some ⟨pb, 0, none⟩)) (.map (some H)) ((1 : Nat) : Int) A3 os2.length c3 os2 w14 hwh hrow.rd rfl (by omega))
  have HBE : Hid (Below w.heap.size w w14) := Lib.hid (by
    have h1 : Below w7.heap.size w7 w14 := HB13.out.trans (hF2.below hC2.cb_ge hC2.h_ge HRB.out (by have h1 : (w12.alloc (row1 98)).heap.size = w12.heap.size + 1 := size_alloc _ _; show w7.heap.size ≤ (w12.alloc (row1 98)).heap.size; omega))
    exact HB7.out.trans (h1.mono (by omega)))
  have HLN := Lib.hid hlen
  clear hR1 hR2 hn2 hC2 hl2 hF2 hN2 HG HB13 HR13 hrow hwh e3 hnc3 hlen
  go_wp2_with fail
  refine HLI.out.mono ?_
  rintro e w15 ⟨A4, n4, c4, rfl, hn4, hr4, hnc4, hb4⟩
  obtain rfl : n4 = 1 := hn4.trans HLN.out
  have HB4 := Lib.hid hb4
  clear hn4 hr4 hnc4 hb4 HLI q1 q2
  go_wp2_with fail
  go_ret
  exact ⟨rfl, HBE.out.trans (HB4.out.mono (by have := HBE.out.size; omega))⟩
end Go.Proofs.YtolkpjbbfopmnaaDoor
namespace Go.Proofs.YtolkpjbbfopmnaaDoor
open Go.RowKit
open Tr

theorem NOwn.keep {w w' : World} {g n : Nat} {v : Value} {ts : List T} (h : NOwn w g v n ts) (hk : ∀ b, g < b → b < w.heap.size → w'.heap[b]? = w.heap[b]?) (hs : w.heap.size ≤ w'.heap.size) : NOwn w' g v n ts := by
  obtain ⟨xs, h1, h2, h3⟩ := h
  have hlt : ∀ b o A n bs, RdG w g v.ownBlock A n bs → A = some ⟨b, o, none⟩ → 0 < n → b < w.heap.size := fun b o A n bs h e hn => by
    obtain ⟨b', o', e', hl, _⟩ := h.1.1.2 hn
    rw [e] at e'
    injection e' with e'
    injection e' with e1 _
    omega
  refine ⟨xs, ⟨h1.1, ?_⟩, h2, h3.mono fun A n bs h => ⟨⟨⟨h.1.1.1, fun hn => ?_⟩, h.1.2⟩, fun b o e hn => ⟨(h.2 b o e hn).1, fun j => ?_⟩⟩⟩
  · rcases h1.2 with h | ⟨b, cap, cur, e1, e2, e3, e4⟩
    · exact .inl h
    · exact .inr ⟨b, cap, cur, e1, e2, by rw [hk b (by omega) (lt_of_block e3)]; exact e3, e4⟩
  · obtain ⟨b, o, e, hl, hc⟩ := h.1.1.2 hn
    exact ⟨b, o, e, Nat.lt_of_lt_of_le hl hs, fun j u hu => (cell_keep (hk b (h.2 b o e hn).1 hl) _).trans (hc j u hu)⟩
  · rw [← (h.2 b o e hn).2 j]
    exact World.frozen?_of_block (hk b (h.2 b o e hn).1 (hlt b o A n bs h e hn))
/-- The sum of a node that is read. -/
theorem hash_node (s : T) (A A' : Option Addr) (n c n' c' : Nat) (w : World) (hk : Rd w w.heap.size A n s.key) (hv : Rd w w.heap.size A' n' s.val) (hnc : n ≤ c) (hnc' : n' ≤ c') (h1 : n ≤ 100000) (h2 : n' ≤ 100000) (hn : s.n ≤ 1000) (ht : Sh.Tab w 1) (hw : 1 < w.heap.size) :
    Calls Tryd.prog 26 #[.agg (acells (.slice A n c) (.slice A' n' c') s.h s.n s.lsum s.rsum).toArray] w fun e w' => e = .returned (.agg (Sh.bcells s.sum)) ∧ Below w.heap.size w w' := by
  cases s with
  | leaf k v => exact hash_leaf A n c A' n' c' _ _ _ k v w hk hv hnc hnc' h1 h2 ht hw
  | node l r =>
    have hz : (UInt64.ofNat (T.node l r).n).toNat = (T.node l r).n := by
      rw [UInt64.toNat_ofNat']
      exact Nat.mod_eq_of_lt (by omega)
    have := hash_inner (.slice A n c) (.slice A' n' c') ((T.node l r).h : Int) (UInt8.ofNat (T.node l r).h) (UInt64.ofNat (T.node l r).n) l.sum r.sum w (by have := h_ne l r; omega) (u8_len _) (sum32 l) (sum32 r) ht hw
    rw [hz] at this
    exact this
theorem nodup_take {l : List (List UInt8)} (h : l.Nodup) {j : Nat} {x : List UInt8} (hj : l[j]? = some x) : x ∉ l.take j := by
  induction l generalizing j with
  | nil => simp at hj
  | cons y l ih =>
    cases j with
    | zero => simp
    | succ j =>
      rw [List.nodup_cons] at h
      rw [List.getElem?_cons_succ] at hj
      rw [List.take_succ_cons]
      intro hm
      rcases List.mem_cons.1 hm with e | e
      · exact h.1 (by rw [← e]; exact List.mem_of_getElem? hj)
      · exact ih h.2 hj e
theorem i64_small (p : Nat) (h : p ≤ 4096) : IntKind.i64.wrap (p : Int) = (p : Int) := by
  exact (IntWalk.i64_left _).trans (IntWalk.wrap64_in _ ⟨by omega, by omega⟩)
set_option maxRecDepth 100000 in
set_option maxHeartbeats 1000000 in
theorem cacheYoung_any (A : Option Addr) (n c : Nat) (cs : List Ac) (a : UInt8) (A' : Option Addr) (n' c' : Nat) (bs : List UInt8) (w : World) (hc : ARd w w.heap.size A n cs) (hn : n ≤ 9223372036854775807) (hr : Rd w w.heap.size A' n' bs) (ht0 : Sh.Tab w 0) (ht : Sh.Tab w 1) (hw : 1 < w.heap.size) :
    Calls Tryd.prog 5 #[.slice A n c, .int .u8 a.toNat, .slice A' n' c'] w fun e w' => e = .returned (.bool true) ∧ Below w.heap.size w w' := by
  obtain ⟨q, hq⟩ : ∃ q : Nat, q = a.toNat % 12 := ⟨_, rfl⟩
  have hq1 : ((a.toNat : Int)).tmod 12 = (q : Int) := by rw [hq, Int.tmod_eq_emod_of_nonneg (by omega)]; omega
  have hq2 : q ≤ 11 := by omega
  have hq3 : IntKind.u8.wrap (q : Int) = (q : Int) := by rw [IntKind.wrap_u8]; omega
  obtain ⟨rm, hrm⟩ : ∃ rm : Nat, rm = 1 + q := ⟨_, rfl⟩
  have hq4 : (1 : Int) + (q : Int) = (rm : Int) := by omega
  have HRM : Hid (1 ≤ rm ∧ rm ≤ 4096) := Lib.hid ⟨by omega, by omega⟩
  have HC := Lib.hid hc
  have HR := Lib.hid hr
  have HT := Lib.hid (And.intro ht0 ht)
  clear hc hr ht0 ht hq hrm
  go_enter Tryd.func5, Tryd.ntmps5
  go_wp2_with fail
  refine (cacheAwake_any w HT.out.2 hw).mono ?_
  rintro e w1 ⟨rfl, hb1⟩
  have HB1 := Lib.hid hb1
  have hs1 : w.heap.size ≤ w1.heap.size := hb1.size
  have HMD := Lib.hid (made_any A n c cs rm w1 ((HC.out.below hb1 (Nat.le_refl _)).more hs1) hn HRM.out.1 HRM.out.2 (Sh.tab_below HT.out.2 hb1 hw) (by omega))
  clear hb1
  go_wp2_with fail
  refine HMD.out.mono ?_
  rintro e w2 ⟨g, pb, M, cb, H, ms, wb, rfl, hT2, hB2, hV2, hwb, hb2, hC2, hfu, hpa, hky, hol, hbl⟩
  have hs2 : w1.heap.size ≤ w2.heap.size := hbl.size
  have hswb : wb.heap.size ≤ w2.heap.size := hb2.size
  have hcbl := hC2.whole.lt
  have hHl := hC2.mat.lt
  have HB2 := Lib.hid (HB1.out.trans (hbl.mono hs1))
  have HND := Lib.hid (nodes_any (grow 50 cs none) g w2 (hT2.on hb2) (by omega))
  have HM2 := Lib.hid (And.intro hT2 (And.intro hB2 (And.intro hV2 (And.intro hwb (And.intro hb2 (And.intro hfu (And.intro hpa (And.intro hky hol))))))))
  have HC2 := Lib.hid hC2
  clear HC HB1 HMD hT2 hB2 hV2 hwb hb2 hC2 hfu hpa hky hol hbl
  generalize grow 50 cs none = o at *
  rw [ptr_some] at HND
  rw [ptr_some, ptr_some, ptr_some]
  go_wp2_with fail
  refine HND.out.mono ?_
  rintro e w4 ⟨v4, rfl, hO4, hb4⟩
  obtain ⟨A4, c4, rfl, hc4, hA4⟩ := hO4.pown.form
  have hs4 : w2.heap.size ≤ w4.heap.size := hb4.size
  obtain ⟨m, hm⟩ : ∃ m, (oall o).length = m := ⟨_, rfl⟩
  rw [hm] at hO4 hc4 ⊢
  have HO4 := Lib.hid hO4
  have HB4 := Lib.hid hb4
  have HMM := Lib.hid hm
  clear hO4 hb4 hm HND
  cases o with
  | none =>
    obtain rfl : m = 0 := by have := HMM.out; simpa [oall] using this.symm
    go_wp2_with fail
    go_ret
    exact ⟨rfl, HB2.out.trans (HB4.out.mono (by omega))⟩
  | some t =>
    have hm0 : 0 < m := by rw [← HMM.out]; exact List.length_pos_of_mem (self_all t)
    have hme : ((m : Int) == 0) = false := by rw [beq_eq_false_iff_ne]; omega
    obtain ⟨hT2, hB2, hV2, hwb, hb2, hfu, hpa, hky, hol⟩ := HM2.out
    have HM := Lib.hid (And.intro hT2 (And.intro hB2 (And.intro hV2 (And.intro hb2 (And.intro (hfu t rfl) (And.intro (hpa t rfl) (And.intro (hky t rfl) (show t.n ≤ 50 from hol))))))))
    have HWB : Hid (w1.heap.size ≤ wb.heap.size) := Lib.hid hwb
    have hC4 := HC2.out.below HB4.out
    change CAt w4 wb.heap.size cb pb H rm t.all [] (.slice none 0 0) [] at hC4
    have HCB : Hid (wb.heap.size ≤ cb ∧ wb.heap.size ≤ H ∧ cb < w2.heap.size ∧ H < w2.heap.size) := Lib.hid ⟨hC4.cb_ge, hC4.h_ge, hcbl, hHl⟩
    have HC4 := Lib.hid hC4
    clear hT2 hB2 hV2 hwb hb2 hfu hpa hky hol HM2 HC2 hcbl hHl hC4
    go_wp2_with fail
    go_loopg [43] n' (fun gk s43 wx => ∃ i, i + gk = n' ∧ s43 = .int .i64 (i : Nat) ∧ ∃ (hs : List (List UInt8 × Value)) (v : Value) (os : List (List UInt8)), CAt wx wb.heap.size cb pb H rm t.all hs v os ∧ Fc cb H none w4 wx ∧ RNew w4 none v.ownBlock)
    case atStart => exact ⟨0, by omega, rfl, _, _, _, HC4.out, Fc.refl _ _ _ _, .inl rfl⟩
    case round =>
      clear HC4
      obtain ⟨i, hi3, rfl, hs, v, os, hCx, hFx, hNx⟩ := hrel
      have hsx : w4.heap.size ≤ wr.heap.size := hFx.size
      have HBX : Hid (Below wb.heap.size wb wr ∧ Below w.heap.size w wr) := Lib.hid (by
        have h4 := HCB.out
        have h5 := HWB.out
        have h6 : Below wb.heap.size w4 wr := hFx.below h4.1 h4.2.1 (fun g hg => by cases hg) (by omega)
        have h7 := HM.out.2.2.2.1
        refine ⟨(h7.trans (HB4.out.mono (by omega))).trans h6, (HB2.out.trans (HB4.out.mono (by omega))).trans (h6.mono (by omega))⟩)
      by_cases hin : i < n'
      · have hbr := (HR.out.below HBX.out.2 (Nat.le_refl _)).more HBX.out.2.size
        obtain ⟨b, q0, rfl, hlt, hcs⟩ := hbr.at_ (by omega)
        obtain ⟨x, hx⟩ : ∃ x, bs[i]? = some x := ⟨bs[i]'(by rw [hbr.len]; exact hin), List.getElem?_eq_getElem _⟩
        have c1 := hcs i x hx
        clear hbr hcs
        by_cases h60 : i ≤ 60
        · have h60' : ¬ ((60 : Int) < (i : Int)) := by omega
          have HCX := Lib.hid (And.intro hCx (And.intro hFx hNx))
          clear hCx hFx hNx
          obtain ⟨hT2, hB2, hV2, hb2, hfu, hpa, hky, htn⟩ := HM.out
          have hFx := HCX.out.2.1
          have hxw : wrap64 ((x.toNat : Int)) = (x.toNat : Int) := by have := x.toNat_lt; exact IntWalk.wrap64_in _ ⟨by omega, by omega⟩
          have hOx := HO4.out.keep (fun b h1 h2 => hFx.block b h2 (by have := HCB.out; omega) (by have := HCB.out; omega) (fun e => by cases e)) hsx
          obtain ⟨k, hk⟩ : ∃ k : Nat, k = x.toNat % m := ⟨_, rfl⟩
          have hkm : k < m := by rw [hk]; exact Nat.mod_lt _ hm0
          have hk1 : ((x.toNat : Int)).tmod (m : Int) = (k : Int) := by rw [hk, Int.tmod_eq_emod_of_nonneg (by omega)]; omega
          obtain ⟨s, hsk⟩ : ∃ s, t.all[k]? = some s := ⟨_, List.getElem?_eq_getElem (by have := HMM.out; change t.all.length = m at this; omega)⟩
          have hst : s ∈ t.all := List.mem_of_getElem? hsk
          obtain ⟨b4, q4, A5, n5, c5, A6, n6, c6, rfl, hb4l, hrg, hnc5, hnc6, hk5, hk6⟩ := hOx.pown.rd.at_ hsk
          have hsn : s.n ≤ 50 := Nat.le_trans (n_all hst) htn
          have hkl : s.key.length ≤ 96 ∧ s.val.length ≤ 256 := by
            obtain ⟨_, _, p, _, bb, _, hN⟩ := hT2
            exact ⟨nin_all hN s hst, nin_vals hN s hst⟩
          have HH := Lib.hid (hash_node s A5 A6 n5 c5 n6 c6 wr hk5 hk6 hnc5 hnc6 (by rw [← hk5.len]; omega) (by rw [← hk6.len]; omega) (by omega) (Sh.tab_below HT.out.2 HBX.out.2 hw) (by omega))
          have HRG := Lib.hid hrg
          have HSS := Lib.hid (And.intro hst hsn)
          obtain ⟨L, hL⟩ : ∃ L, acells (.slice A5 n5 c5) (.slice A6 n6 c6) (s.h : Int) s.n s.lsum s.rsum = L := ⟨_, rfl⟩
          rw [hL] at HH HRG
          have hLs : L.length = 68 := by rw [← hL]; exact acells_len _ _ _ _ _ _ (lsum32 _) (rsum32 _)
          have HLI : Hid ((Tryd.prog.info? 47).map (·.size) = some L.length) := Lib.hid (by rw [hLs]; exact info64)
          have hz49 := zero49
          have hkz : (0 : Int) ≤ (k : Int) := by omega
          clear hFx hOx hk hsk hst hrg hk5 hk6 hnc5 hnc6 hL hLs hkl hsn hT2 hB2 hV2 hb2 hfu hpa hky htn hb4l
          go_upto_region 11 with (fail)
          refine wp_region_lit ?_
          iterate 21 go_step
          refine wpList_load_mid rfl 47 (.tmp 56) rfl b4 (q4 + k * 68) rfl L _ HRG.out Tryd.underlying47 rfl HLI.out ?_
          simp only [Act.put, List.setIfInBounds_toArray, List.set_cons_zero, List.set_cons_succ]
          go_wp2_with fail
          refine HH.out.mono ?_
          rintro e w5 ⟨rfl, hb5⟩
          obtain ⟨h, hh⟩ : ∃ h, h = s.sum := ⟨_, rfl⟩
          rw [← hh]
          have hl : h.length = 32 := by rw [hh]; exact sum32 s
          have HSUM := Lib.hid hh
          have hs5 : wr.heap.size ≤ w5.heap.size := hb5.size
          have HB5 := Lib.hid hb5
          clear hh hb5 HH HRG HLI hk1 hxw hkz c1
          simp only []
          iterate 4 go_step
          clear hz49
          refine Tl.wpList_store_made rfl 29 (.tmp 14) (.tmp 58) rfl (zb 32) (Sh.bcells h) rfl rfl ?_ ?_ (Sh.bcells_one h) ?_
          · rw [Sh.bcells_size, hl]; exact info49
          · rw [Sh.bcells_size, hl]; rfl
          have hb6 : Below w5.heap.size w5 (w5.alloc (.cells (Sh.bcells h) 29)) := (Below.refl _ _).alloc (Nat.le_refl _) _
          have hw6 := Whole.made w5 29 (Sh.bcells h)
          have hs6 : (w5.alloc (.cells (Sh.bcells h) 29)).heap.size = w5.heap.size + 1 := size_alloc _ _
          generalize w5.alloc (.cells (Sh.bcells h) 29) = w6 at *
          obtain ⟨gh, hgh⟩ : ∃ gh, gh = w5.heap.size := ⟨_, rfl⟩
          rw [← hgh] at hw6 ⊢
          have HB6 := Lib.hid (HB5.out.trans (hb6.mono hs5))
          have HW6 := Lib.hid hw6
          have hgl : wr.heap.size ≤ gh ∧ gh < w6.heap.size := ⟨by omega, by omega⟩
          have hI : Hid ((Tryd.prog.info? 29).map (·.size) = some (h.map V8).length) := Lib.hid (by rw [List.length_map, hl]; exact info49)
          have HGL := Lib.hid hgl
          have hs6r : wr.heap.size ≤ w6.heap.size := by omega
          clear hb6 hw6 hs6 hgh hgl HB5 hs5
          have HND : Hid (Calls Tryd.prog 27 #[.pointer (some ⟨cb, 0, none⟩), .agg (h.map V8).toArray] w6 (fun e w' => ∃ X hs7 v7 os7 ec, (Array.size X = 68 ∧ X.all (fun c : Value => c.oneCell') = true) ∧ e = .returned (.tuple #[.agg X, .int .i64 ec]) ∧ CAt w' wb.heap.size cb pb H rm t.all hs7 v7 os7 ∧ Fc cb H v.ownBlock w6 w' ∧ RNew w6 v.ownBlock v7.ownBlock ∧ ((ec = 0 ∧ ∃ os', os7 = os' ++ [h]) ∨ (ec = 11 ∧ MAt.look ms h = none)))) := Lib.hid (by
            obtain ⟨hCx, hFx, hNx⟩ := HCX.out
            obtain ⟨hT2, hB2, hV2, hb2, hfu, hpa, hky, htn⟩ := HM.out
            have hC6 := hCx.below HB6.out
            have hbb : Below wb.heap.size wb w6 := HBX.out.1.trans (HB6.out.mono (by have := HBX.out.1.size; omega))
            have hkv : ∀ s1 ∈ t.all, s1.key.length ≤ 96 ∧ s1.val.length ≤ 256 := fun s1 h1 => by
              obtain ⟨_, _, p, _, bb, _, hN⟩ := hT2
              exact ⟨nin_all hN s1 h1, nin_vals hN s1 h1⟩
            have found : ∀ (s' : T) (v0 : Value), s' ∈ t.all → s'.sum = h → (s'.sum ∉ os → MAt.look ms s'.sum = some v0 ∧ NodeV w6 0 s' v0) → Calls Tryd.prog 27 #[.pointer (some ⟨cb, 0, none⟩), .agg (h.map V8).toArray] w6 (CNodePost w6 wb.heap.size cb pb H rm t.all v.ownBlock h) := fun s' v0 h1 h2 h3 => by
              have := cache_node wb.heap.size cb pb H rm t.all hs v os s' h1 M ms v0 w6 hC6 HRM.out.2 HRM.out.1 (hB2.below hbb) hV2 h3 (Nat.le_trans (n_all h1) (by omega)) (hky s' h1) hkv
              rw [h2] at this
              exact this
            have done : Calls Tryd.prog 27 #[.pointer (some ⟨cb, 0, none⟩), .agg (h.map V8).toArray] w6 (CNodePost w6 wb.heap.size cb pb H rm t.all v.ownBlock h) ∨ (MAt.look ms h = none ∧ h ∉ os) := by
              by_cases ho : h ∈ os
              · exact .inl (found s .nilIface HSS.out.1 HSUM.out.symm (fun h1 => absurd (by rw [← HSUM.out]; exact ho) h1))
              · cases hlk : MAt.look ms h with
                | none => exact .inr ⟨rfl, ho⟩
                | some v0 =>
                  obtain ⟨s', h1, h2, h3⟩ := hpa _ (look_mem hlk)
                  have h2' : s'.sum = h := h2.symm
                  exact .inl (found s' v0 h1 h2' (fun _ => ⟨by rw [h2']; exact hlk, node_below h3 hbb⟩))
            rcases done with hd | ⟨hd, ho⟩
            · refine hd.mono ?_
              rintro e w' ⟨X, hs7, v7, os7, hX, rfl, hC7, hF7, hN7⟩
              exact ⟨X, hs7, v7, os7 ++ [h], 0, hX, rfl, hC7, hF7, hN7, .inl ⟨rfl, os7, rfl⟩⟩
            · have hn := node_none wb.heap.size cb pb H rm t.all hs v os s M ms w6 hC6 (hB2.below hbb) hV2 (by rw [← HSUM.out]; exact hd) (by rw [← HSUM.out]; exact ho)
              rw [← HSUM.out] at hn
              refine Calls.mono hn ?_
              rintro e w' ⟨⟨X, hX, rfl⟩, hb⟩
              exact ⟨X, hs, v, os, 11, hX, rfl, hC6.below hb, Fc.of_below hb, .inl rfl, .inr ⟨rfl, hd⟩⟩)
          have HRG : Hid (w6.rangeAt gh 0 (h.map V8)) := Lib.hid HW6.out.range
          go_upto_region 12 with (fail)
          refine wp_region_lit ?_
          iterate 3 go_step
          refine wpList_load_mid rfl 29 (.tmp 14) rfl gh 0 rfl (h.map V8) _ HRG.out Tryd.underlying29 rfl hI.out ?_
          simp only [Act.put, List.setIfInBounds_toArray, List.set_cons_zero, List.set_cons_succ]
          go_wp2_with fail
          refine HND.out.mono ?_
          rintro e w7 ⟨X, hs7, v7, os7, ec, hX, rfl, hC7, hF7, hN7, hec⟩
          have HC7 := Lib.hid (And.intro hC7 (And.intro hF7 hN7))
          have HEC := Lib.hid hec
          have hz7 : w6.heap.size ≤ w7.heap.size := hF7.size
          have HX := Lib.hid hX
          have HGW : Hid (Whole w7 gh 29 (Sh.bcells h)) := Lib.hid (by
            obtain ⟨hCx, hFx, hNx⟩ := HCX.out
            have h1 := hCx.whole.lt
            have h2 := hCx.mat.lt
            have h3 := hCx.rB gh
            have h4 := HGL.out
            exact (hF7.block gh h4.2 (by omega) (by omega) (fun e => by have := (h3 e).2; omega)).trans HW6.out)
          clear hC7 hF7 hN7 hec hX HND HRG HW6
          have hz64 := zero64
          simp only []
          iterate 13 go_step
          clear hz64
          refine Tl.wpList_store_made rfl 47 (.tmp 15) (.tmp 63) rfl z64 X rfl rfl ?_ ?_ HX.out.2 ?_
          · rw [HX.out.1]; exact info64
          · rw [HX.out.1]; rfl
          have hb8 : Below w7.heap.size w7 (w7.alloc (.cells X 47)) := (Below.refl _ _).alloc (Nat.le_refl _) _
          have hs8 : w7.heap.size ≤ (w7.alloc (.cells X 47)).heap.size := hb8.size
          generalize w7.alloc (.cells X 47) = w8 at *
          have hC8 := HC7.out.1.below hb8
          obtain ⟨A9, c9, e9, hnc9, _⟩ := hC8.row.form
          have hfew := hC8.few
          have h32 := hC8.len32
          have hnd := hC8.nodup
          have hrow := hC8.row
          have hwh := hC8.whole
          rw [e9] at hrow hwh
          have HLI := Lib.hid (cache_list cb (.pointer (some ⟨pb, 0, none⟩)) (.map (some H)) (rm : Int) A9 os7.length c9 os7 w8 hwh hrow.rd rfl (by have := HRM.out.2; omega))
          have HB8 := Lib.hid hb8
          have HOS := Lib.hid (And.intro hfew (And.intro h32 hnd))
          clear hC8 e9 hnc9 hfew h32 hnd hrow hwh hb8 HX hI
          go_wp2_with fail
          refine HLI.out.mono ?_
          rintro e w9 ⟨A9, n9, c9, rfl, hn9, hr9, hnc9, hb9⟩
          have hs9 : w8.heap.size ≤ w9.heap.size := hb9.size
          have HB9 := Lib.hid (HB8.out.trans (hb9.mono hs8))
          have HN9 := Lib.hid hn9
          have HR9 := Lib.hid hr9
          have hn94 : n9 ≤ 4096 := by have h1 := HOS.out.1; have h2 := HRM.out.2; omega
          have hmm := @run_makeMap Tryd.prog
          have hM0 := mat_made w9
          have hb10 : Below w9.heap.size w9 (w9.alloc (.map #[] 0)) := (Below.refl _ _).alloc (Nat.le_refl _) _
          have hs10 : w9.heap.size < (w9.alloc (.map #[] 0)).heap.size := by simp
          have HM0 := Lib.hid (And.intro hM0 (And.intro hb10 hs10))
          clear hn9 hr9 hb9 hM0 hb10 hs10 HB8 HLI
          go_upto_region 15 with (fail)
          generalize w9.alloc (.map #[] 0) = w10 at *
          clear hmm
          go_wp2_with fail
          go_loopg [70] n9 (fun gj s70 wx => ∃ j, j + gj = n9 ∧ s70 = .int .i64 (j : Nat) ∧ MAt wx w9.heap.size ((os7.take j).map fun y => (y, Value.bool true)) ∧ Below w9.heap.size w9 wx ∧ w9.heap.size < wx.heap.size)
          case atStart => exact ⟨0, by omega, rfl, HM0.out.1, HM0.out.2.1, HM0.out.2.2⟩
          case round =>
            obtain ⟨j, hj9, rfl, hMj, hbj, hsj⟩ := hrel
            clear HM0
            by_cases hjn : j < n9
            · have hn0 : 0 < n9 := by omega
              obtain ⟨b9, o9, rfl, hl9, hc9⟩ := (HR9.out.below hbj (Nat.le_refl _)).2 hn0
              obtain ⟨xj, hxj⟩ : ∃ xj, os7[j]? = some xj := ⟨_, List.getElem?_eq_getElem (by have := HN9.out; omega)⟩
              have hlj : xj.length = 32 := HOS.out.2.1 xj (List.mem_of_getElem? hxj)
              have hrj : wr.rangeAt b9 (o9 + j * 32) (xj.map V8) := fun k u hu => by
                rw [List.getElem?_map, Option.map_eq_some_iff] at hu
                obtain ⟨y, hy1, rfl⟩ := hu
                have h1 := scells_range HOS.out.2.1 hxj k y hy1
                have h2 := hc9 _ _ h1
                rw [← Nat.add_assoc] at h2
                exact h2
              have HRJ := Lib.hid hrj
              have HJI : Hid ((Tryd.prog.info? 29).map (·.size) = some (xj.map V8).length) := Lib.hid (by rw [List.length_map, hlj]; exact info49)
              have HXJ := Lib.hid hxj
              have HMJ := Lib.hid (And.intro hMj (And.intro hbj hsj))
              clear hrj hc9 hxj hMj hbj
              have hz49 := zero49
              go_upto_region 17 with (fail)
              refine wp_region_lit ?_
              iterate 3 go_step
              refine wpList_load_mid rfl 29 (.tmp 72) rfl b9 (o9 + j * 32) rfl (xj.map V8) _ HRJ.out Tryd.underlying29 rfl HJI.out ?_
              simp only [Act.put, List.setIfInBounds_toArray, List.set_cons_zero, List.set_cons_succ]
              iterate 3 go_step
              clear hz49
              refine Tl.wpList_store_made rfl 29 (.tmp 20) (.tmp 73) rfl (zb 32) (Sh.bcells xj) rfl rfl ?_ ?_ (Sh.bcells_one xj) ?_
              · rw [Sh.bcells_size, hlj]; exact info49
              · rw [Sh.bcells_size, hlj]; rfl
              have hb11 : Below wr.heap.size wr (wr.alloc (.cells (Sh.bcells xj) 29)) := (Below.refl _ _).alloc (Nat.le_refl _) _
              have hw11 := Whole.made wr 29 (Sh.bcells xj)
              have hs11 : (wr.alloc (.cells (Sh.bcells xj) 29)).heap.size = wr.heap.size + 1 := size_alloc _ _
              generalize wr.alloc (.cells (Sh.bcells xj) 29) = w11 at *
              obtain ⟨hMj, hbj, hsj⟩ := HMJ.out
              have hM11 := hMj.block (hb11.block _ hsj)
              have hno : MAt.look ((os7.take j).map fun y => (y, Value.bool true)) xj = none := by
                have h1 : ((os7.take j).map fun y => (y, Value.bool true)).map (·.1) = os7.take j := by simp [Function.comp_def]
                rw [look_none_iff, h1]
                exact nodup_take HOS.out.2.2 HXJ.out
              obtain ⟨w12, hu, hM12, hk12, hs12, ho12, ht12, hp12⟩ := update_seen hM11 xj hlj hno (.bool true)
              have HR11 : Hid (w11.rangeAt wr.heap.size 0 (xj.map V8)) := Lib.hid hw11.range
              have HREL : Hid (MAt w12 w9.heap.size ((os7.take (j + 1)).map fun y => (y, Value.bool true)) ∧ Below w9.heap.size w9 w12 ∧ w9.heap.size < w12.heap.size) := Lib.hid (by
                refine ⟨?_, ?_, by omega⟩
                · rw [List.take_add_one, HXJ.out, List.map_append]
                  exact hM12
                · have h1 := hbj.trans (hb11.mono (by omega))
                  exact ⟨ho12.trans h1.os, ht12.trans h1.tape, hp12.trans h1.output, Nat.le_trans h1.size (by omega), fun k hk => (hk12 k (by omega)).trans (h1.block k hk)⟩)
              change (Instr.mapUpdate 70 (.map (some w9.heap.size)) (.agg (xj.map V8).toArray) (.bool true)).run Tryd.prog w11 = .ok () w12 at hu
              obtain ⟨gj9, hgj9⟩ : ∃ gj9, gj9 = wr.heap.size := ⟨_, rfl⟩
              rw [← hgj9] at HR11 ⊢
              clear hb11 hw11 hs11 hMj hbj hM11 hno hM12 hk12 hs12 ho12 ht12 hp12 hgj9 HMJ HRJ
              go_upto_region 18 with (fail)
              refine wp_region_lit ?_
              iterate 3 go_step
              refine wpList_load_mid rfl 29 (.tmp 20) rfl gj9 0 rfl (xj.map V8) _ HR11.out Tryd.underlying29 rfl HJI.out ?_
              simp only [Act.put, List.setIfInBounds_toArray, List.set_cons_zero, List.set_cons_succ]
              go_wp2_with fail
              go_roundg (n9 - (j + 1))
              case measure => omega
              case rel => exact ⟨j + 1, by omega, rfl, HREL.out⟩
            · obtain rfl : j = n9 := by omega
              have hMn : MAt wr w9.heap.size (os7.map fun y => (y, Value.bool true)) := by
                have h1 : os7.take j = os7 := List.take_of_length_le (by have := HN9.out; omega)
                rw [h1] at hMj
                exact hMj
              have hb7 : Below w7.heap.size w7 wr := HB9.out.trans (hbj.mono (by omega))
              have HB7 := Lib.hid hb7
              have HMN := Lib.hid hMn
              have HRX := Lib.hid ((HR9.out.below hbj (Nat.le_refl _)).more hbj.size)
              have HGX := Lib.hid (HGW.out.below hb7 HGW.out.lt)
              clear hMj hbj hMn hb7 HR9 HB9 HGW
              rcases HEC.out with ⟨rfl, os', hos⟩ | ⟨rfl, hlk⟩
              · obtain ⟨p, hp⟩ : ∃ p, p = os'.length := ⟨_, rfl⟩
                have hnp : j = p + 1 := by rw [HN9.out, hos, hp]; simp
                have hn0 : ((j : Int) == 0) = false := by rw [beq_eq_false_iff_ne]; omega
                have hpw : IntKind.i64.wrap (p : Int) = (p : Int) := i64_small p (by omega)
                have hqw := i64_small q (by omega)
                have hrw := i64_small rm HRM.out.2
                have hp0 : (0 : Int) ≤ (p : Int) ∧ (p : Int) < (j : Int) := by omega
                have hp1 : (j : Int) - 1 = (p : Int) := by omega
                have hpj : p < j := by omega
                have hfew : decide (rm < j) = false := by have h1 := HOS.out.1; have h2 := HN9.out; rw [decide_eq_false_iff_not]; omega
                obtain ⟨b9, o9, rfl, hl9, hc9⟩ := HRX.out.2 (by omega)
                have hxp : os7[p]? = some h := by rw [hos, hp]; simp
                have hrp : wr.rangeAt b9 (o9 + p * 32) (h.map V8) := fun k u hu => by
                  rw [List.getElem?_map, Option.map_eq_some_iff] at hu
                  obtain ⟨y, hy1, rfl⟩ := hu
                  have h1 := scells_range HOS.out.2.1 hxp k y hy1
                  have h2 := hc9 _ _ h1
                  rw [← Nat.add_assoc] at h2
                  exact h2
                have hI : Hid ((Tryd.prog.info? 29).map (·.size) = some (h.map V8).length) := Lib.hid (by rw [List.length_map, hl]; exact info49)
                have heq : ∀ u : World, (Op.equalIn 10000 29 (.agg (h.map V8).toArray) (.agg (h.map V8).toArray)).run Tryd.prog u = .ok true u := fun u => by
                  have := run_eq49 h h hl hl u
                  rw [beq_self_eq_true] at this
                  exact this
                have HRP := Lib.hid hrp
                clear hrp hc9 hxp hos hp hnp
                go_upto_region 20 with (fail)
                have hS0 : wr.drew.rangeAt b9 (o9 + p * 32) (h.map V8) ∧ wr.drew.rangeAt gh 0 (h.map V8) ∧ (Builtin.len_ #[70] 3 #[.map (some w9.heap.size)]).run Tryd.prog wr.drew = .ok (.int .i64 (j : Nat)) wr.drew := ⟨HRP.out, HGX.out.range, by
                  have h1 := mat_len (w := wr.drew) HMN.out 3
                  rw [List.length_map, ← HN9.out] at h1
                  exact h1⟩
                refine wp_region_held_drew (S := fun u => u.rangeAt b9 (o9 + p * 32) (h.map V8) ∧ u.rangeAt gh 0 (h.map V8) ∧ (Builtin.len_ #[70] 3 #[.map (some w9.heap.size)]).run Tryd.prog u = .ok (.int .i64 (j : Nat)) u) (by kernel_rfl) hS0 (fun hHeld => ?_)
                clear hS0
                refine wpAnyH_take (i := 0) (oi := { dst := some 77, op := Op.move (Operand.tmp 16), type := 35, pos := "law.go:226", after := #[], guard := none }) (v := ?_) rfl (by kernel_rfl) (by kernel_rfl) (by kernel_rfl) (fun _ _ _ h => h) (Or.inl ⟨by rfl, ?_⟩) (by assumption) ?_
                rotate_left
                · first | (intro w hSw; (try dsimp only at hSw); go_simp; done) | (intro w hSw; (try dsimp only at hSw); go_simp; with_reducible rfl)
                simp only [Act.put, List.setIfInBounds_toArray, List.set_cons_zero, List.set_cons_succ]
                refine wpAnyH_take (i := 1) (oi := { dst := some 78, op := Op.binOp BinOp.neq 35 (Operand.tmp 77) (Operand.const (Value.int IntKind.i64 0)) 35, type := 4, pos := "law.go:226", after := #[{ on := 0, ground := Ground.data }], guard := none }) (v := ?_) rfl (by kernel_rfl) (by kernel_rfl) (by kernel_rfl) (fun _ _ _ h => h) (Or.inl ⟨by rfl, ?_⟩) (by assumption) ?_
                rotate_left
                · first | (intro w hSw; (try dsimp only at hSw); go_simp; done) | (intro w hSw; (try dsimp only at hSw); go_simp; with_reducible rfl)
                simp only [Act.put, List.setIfInBounds_toArray, List.set_cons_zero, List.set_cons_succ]
                refine wpAnyH_take (i := 2) (oi := { dst := some 79, op := Op.move (Operand.tmp 78), type := 4, pos := "law.go:226", after := #[{ on := 1, ground := Ground.data }], guard := none }) (v := ?_) rfl (by kernel_rfl) (by kernel_rfl) (by kernel_rfl) (fun _ _ _ h => h) (Or.inl ⟨by rfl, ?_⟩) (by assumption) ?_
                rotate_left
                · first | (intro w hSw; (try dsimp only at hSw); go_simp; done) | (intro w hSw; (try dsimp only at hSw); go_simp; with_reducible rfl)
                simp only [Act.put, List.setIfInBounds_toArray, List.set_cons_zero, List.set_cons_succ]
                refine wpAnyH_take (i := 3) (oi := { dst := some 80, op := Op.move (Operand.tmp 17), type := 61, pos := "law.go:226", after := #[{ on := 2, ground := Ground.guard }], guard := some (2, false) }) (v := ?_) rfl (by kernel_rfl) (by kernel_rfl) (by kernel_rfl) (fun _ _ _ h => h) (Or.inl ⟨by rfl, ?_⟩) (by assumption) ?_
                rotate_left
                · first | (intro w hSw; (try dsimp only at hSw); go_simp; done) | (intro w hSw; (try dsimp only at hSw); go_simp; with_reducible rfl)
                simp only [Act.put, List.setIfInBounds_toArray, List.set_cons_zero, List.set_cons_succ]
                refine wpAnyH_take (i := 4) (oi := { dst := some 81, op := Op.call { callee := Callee.builtin Builtin.len, args := #[Operand.tmp 80], argTypes := #[61] }, type := 3, pos := "law.go:226", after := #[{ on := 3, ground := Ground.data }, { on := 2, ground := Ground.guard }], guard := some (2, false) }) (v := ?_) rfl (by kernel_rfl) (by kernel_rfl) (by kernel_rfl) (fun _ _ _ h => h) (Or.inl ⟨by rfl, ?_⟩) (by assumption) ?_
                rotate_left
                · first | (intro w hSw; (try dsimp only at hSw); go_simp; done) | (intro w hSw; (try dsimp only at hSw); go_simp; with_reducible rfl)
                simp only [Act.put, List.setIfInBounds_toArray, List.set_cons_zero, List.set_cons_succ]
                refine wpAnyH_take (i := 5) (oi := { dst := some 82, op := Op.binOp BinOp.eql 3 (Operand.tmp 81) (Operand.const (Value.int IntKind.i64 0)) 3, type := 4, pos := "law.go:226", after := #[{ on := 4, ground := Ground.data }, { on := 2, ground := Ground.guard }], guard := some (2, false) }) (v := ?_) rfl (by kernel_rfl) (by kernel_rfl) (by kernel_rfl) (fun _ _ _ h => h) (Or.inl ⟨by rfl, ?_⟩) (by assumption) ?_
                rotate_left
                · first | (intro w hSw; (try dsimp only at hSw); go_simp; done) | (intro w hSw; (try dsimp only at hSw); go_simp; with_reducible rfl)
                simp only [Act.put, List.setIfInBounds_toArray, List.set_cons_zero, List.set_cons_succ]
                refine wpAnyH_take (i := 6) (oi := { dst := some 83, op := Op.pick (Operand.tmp 79) (Operand.const (Value.bool true)) (Operand.tmp 82), type := 4, pos := "law.go:226", after := #[{ on := 2, ground := Ground.data }, { on := 5, ground := Ground.data }], guard := none }) (v := ?_) rfl (by kernel_rfl) (by kernel_rfl) (by kernel_rfl) (fun _ _ _ h => h) (Or.inl ⟨by rfl, ?_⟩) (by assumption) ?_
                rotate_left
                · first | (intro w hSw; (try dsimp only at hSw); go_simp; done) | (intro w hSw; (try dsimp only at hSw); go_simp; with_reducible rfl)
                simp only [Act.put, List.setIfInBounds_toArray, List.set_cons_zero, List.set_cons_succ]
                refine wpAnyH_take (i := 7) (oi := { dst := some 84, op := Op.move (Operand.tmp 83), type := 4, pos := "law.go:226", after := #[{ on := 6, ground := Ground.data }, { on := 2, ground := Ground.chain }], guard := none }) (v := ?_) rfl (by kernel_rfl) (by kernel_rfl) (by kernel_rfl) (fun _ _ _ h => h) (Or.inl ⟨by rfl, ?_⟩) (by assumption) ?_
                rotate_left
                · first | (intro w hSw; (try dsimp only at hSw); go_simp; done) | (intro w hSw; (try dsimp only at hSw); go_simp; with_reducible rfl)
                simp only [Act.put, List.setIfInBounds_toArray, List.set_cons_zero, List.set_cons_succ]
                refine wpAnyH_take (i := 8) (oi := { dst := some 85, op := Op.move (Operand.tmp 17), type := 61, pos := "law.go:226", after := #[{ on := 7, ground := Ground.guard }], guard := some (7, false) }) (v := ?_) rfl (by kernel_rfl) (by kernel_rfl) (by kernel_rfl) (fun _ _ _ h => h) (Or.inl ⟨by rfl, ?_⟩) (by assumption) ?_
                rotate_left
                · first | (intro w hSw; (try dsimp only at hSw); go_simp; done) | (intro w hSw; (try dsimp only at hSw); go_simp; with_reducible rfl)
                simp only [Act.put, List.setIfInBounds_toArray, List.set_cons_zero, List.set_cons_succ]
                refine wpAnyH_take (i := 9) (oi := { dst := some 86, op := Op.move (Operand.tmp 17), type := 61, pos := "law.go:226", after := #[{ on := 7, ground := Ground.guard }], guard := some (7, false) }) (v := ?_) rfl (by kernel_rfl) (by kernel_rfl) (by kernel_rfl) (fun _ _ _ h => h) (Or.inl ⟨by rfl, ?_⟩) (by assumption) ?_
                rotate_left
                · first | (intro w hSw; (try dsimp only at hSw); go_simp; done) | (intro w hSw; (try dsimp only at hSw); go_simp; with_reducible rfl)
                simp only [Act.put, List.setIfInBounds_toArray, List.set_cons_zero, List.set_cons_succ]
                refine wpAnyH_take (i := 10) (oi := { dst := some 87, op := Op.call { callee := Callee.builtin Builtin.len, args := #[Operand.tmp 86], argTypes := #[61] }, type := 3, pos := "law.go:226", after := #[{ on := 9, ground := Ground.data }, { on := 7, ground := Ground.guard }], guard := some (7, false) }) (v := ?_) rfl (by kernel_rfl) (by kernel_rfl) (by kernel_rfl) (fun _ _ _ h => h) (Or.inl ⟨by rfl, ?_⟩) (by assumption) ?_
                rotate_left
                · first | (intro w hSw; (try dsimp only at hSw); go_simp; done) | (intro w hSw; (try dsimp only at hSw); go_simp; with_reducible rfl)
                simp only [Act.put, List.setIfInBounds_toArray, List.set_cons_zero, List.set_cons_succ]
                refine wpAnyH_take (i := 11) (oi := { dst := some 88, op := Op.binOp BinOp.sub 3 (Operand.tmp 87) (Operand.const (Value.int IntKind.i64 1)) 3, type := 3, pos := "law.go:226", after := #[{ on := 10, ground := Ground.data }, { on := 7, ground := Ground.guard }], guard := some (7, false) }) (v := ?_) rfl (by kernel_rfl) (by kernel_rfl) (by kernel_rfl) (fun _ _ _ h => h) (Or.inl ⟨by rfl, ?_⟩) (by assumption) ?_
                rotate_left
                · first | (intro w hSw; (try dsimp only at hSw); go_simp; done) | (intro w hSw; (try dsimp only at hSw); go_simp; with_reducible rfl)
                simp only [Act.put, List.setIfInBounds_toArray, List.set_cons_zero, List.set_cons_succ]
                refine wpAnyH_take (i := 12) (oi := { dst := some 89, op := Op.indexAddr 61 (Operand.tmp 85) (Operand.tmp 88), type := 0, pos := "law.go:226", after := #[{ on := 8, ground := Ground.data }, { on := 11, ground := Ground.data }, { on := 7, ground := Ground.guard }], guard := some (7, false) }) (v := ?_) rfl (by kernel_rfl) (by kernel_rfl) (by kernel_rfl) (fun _ _ _ h => h) (Or.inl ⟨by rfl, ?_⟩) (by assumption) ?_
                rotate_left
                · first | (intro w hSw; (try dsimp only at hSw); go_simp; done) | (intro w hSw; (try dsimp only at hSw); go_simp; with_reducible rfl)
                simp only [Act.put, List.setIfInBounds_toArray, List.set_cons_zero, List.set_cons_succ]
                refine wpAnyH_take (i := 13) (oi := { dst := some 90, op := Op.load 29 (Operand.tmp 89), type := 29, pos := "law.go:226", after := #[{ on := 12, ground := Ground.data }, { on := 7, ground := Ground.guard }], guard := some (7, false) }) (v := .agg (h.map V8).toArray) rfl (by kernel_rfl) (by kernel_rfl) (by kernel_rfl) (fun _ _ _ h => h) (yieldsIf_load_mid (by rfl) 29 (.tmp 89) rfl b9 (o9 + p * 32) rfl (h.map V8) _ (fun _ h => h.1) Tryd.underlying29 rfl hI.out) (by assumption) ?_
                simp only [Act.put, List.setIfInBounds_toArray, List.set_cons_zero, List.set_cons_succ]
                refine wpAnyH_take (i := 14) (oi := { dst := some 91, op := Op.load 29 (Operand.tmp 14), type := 29, pos := "law.go:226", after := #[{ on := 7, ground := Ground.guard }], guard := some (7, false) }) (v := .agg (h.map V8).toArray) rfl (by kernel_rfl) (by kernel_rfl) (by kernel_rfl) (fun _ _ _ h => h) (yieldsIf_load_mid (by rfl) 29 (.tmp 14) rfl gh 0 rfl (h.map V8) _ (fun _ h => h.2.1) Tryd.underlying29 rfl hI.out) (by assumption) ?_
                simp only [Act.put, List.setIfInBounds_toArray, List.set_cons_zero, List.set_cons_succ]
                refine wpAnyH_take (i := 15) (oi := { dst := some 92, op := Op.binOp BinOp.neq 29 (Operand.tmp 90) (Operand.tmp 91) 29, type := 4, pos := "law.go:226", after := #[{ on := 13, ground := Ground.data }, { on := 14, ground := Ground.data }, { on := 7, ground := Ground.guard }], guard := some (7, false) }) (v := ?_) rfl (by kernel_rfl) (by kernel_rfl) (by kernel_rfl) (fun _ _ _ h => h) (Or.inl ⟨by rfl, ?_⟩) (by assumption) ?_
                rotate_left
                · first | (intro w hSw; (try dsimp only at hSw); go_simp; done) | (intro w hSw; (try dsimp only at hSw); go_simp; with_reducible rfl)
                simp only [Act.put, List.setIfInBounds_toArray, List.set_cons_zero, List.set_cons_succ]
                refine wpAnyH_take (i := 16) (oi := { dst := some 93, op := Op.pick (Operand.tmp 84) (Operand.const (Value.bool true)) (Operand.tmp 92), type := 4, pos := "law.go:226", after := #[{ on := 7, ground := Ground.data }, { on := 15, ground := Ground.data }], guard := none }) (v := ?_) rfl (by kernel_rfl) (by kernel_rfl) (by kernel_rfl) (fun _ _ _ h => h) (Or.inl ⟨by rfl, ?_⟩) (by assumption) ?_
                rotate_left
                · first | (intro w hSw; (try dsimp only at hSw); go_simp; done) | (intro w hSw; (try dsimp only at hSw); go_simp; with_reducible rfl)
                simp only [Act.put, List.setIfInBounds_toArray, List.set_cons_zero, List.set_cons_succ]
                refine wpAnyH_take (i := 17) (oi := { dst := some 94, op := Op.move (Operand.tmp 93), type := 4, pos := "law.go:226", after := #[{ on := 16, ground := Ground.data }, { on := 7, ground := Ground.chain }], guard := none }) (v := ?_) rfl (by kernel_rfl) (by kernel_rfl) (by kernel_rfl) (fun _ _ _ h => h) (Or.inl ⟨by rfl, ?_⟩) (by assumption) ?_
                rotate_left
                · first | (intro w hSw; (try dsimp only at hSw); go_simp; done) | (intro w hSw; (try dsimp only at hSw); go_simp; with_reducible rfl)
                simp only [Act.put, List.setIfInBounds_toArray, List.set_cons_zero, List.set_cons_succ]
                refine wpAnyH_take (i := 18) (oi := { dst := some 95, op := Op.move (Operand.tmp 18), type := 70, pos := "law.go:226", after := #[{ on := 17, ground := Ground.guard }], guard := some (17, false) }) (v := ?_) rfl (by kernel_rfl) (by kernel_rfl) (by kernel_rfl) (fun _ _ _ h => h) (Or.inl ⟨by rfl, ?_⟩) (by assumption) ?_
                rotate_left
                · first | (intro w hSw; (try dsimp only at hSw); go_simp; done) | (intro w hSw; (try dsimp only at hSw); go_simp; with_reducible rfl)
                simp only [Act.put, List.setIfInBounds_toArray, List.set_cons_zero, List.set_cons_succ]
                refine wpAnyH_take (i := 19) (oi := { dst := some 96, op := Op.call { callee := Callee.builtin Builtin.len, args := #[Operand.tmp 95], argTypes := #[70] }, type := 3, pos := "law.go:226", after := #[{ on := 18, ground := Ground.data }, { on := 17, ground := Ground.chain }, { on := 17, ground := Ground.guard }], guard := some (17, false) }) (v := ?_) rfl (by kernel_rfl) (by kernel_rfl) (by kernel_rfl) (fun _ _ _ h => h) (Or.inl ⟨by rfl, ?_⟩) (by assumption) ?_
                rotate_left
                · first | (intro w hSw; (try dsimp only at hSw); go_simp; done) | (intro w hSw; (try dsimp only at hSw); go_simp; with_reducible rfl)
                simp only [Act.put, List.setIfInBounds_toArray, List.set_cons_zero, List.set_cons_succ]
                refine wpAnyH_take (i := 20) (oi := { dst := some 97, op := Op.move (Operand.tmp 17), type := 61, pos := "law.go:226", after := #[{ on := 17, ground := Ground.guard }], guard := some (17, false) }) (v := ?_) rfl (by kernel_rfl) (by kernel_rfl) (by kernel_rfl) (fun _ _ _ h => h) (Or.inl ⟨by rfl, ?_⟩) (by assumption) ?_
                rotate_left
                · first | (intro w hSw; (try dsimp only at hSw); go_simp; done) | (intro w hSw; (try dsimp only at hSw); go_simp; with_reducible rfl)
                simp only [Act.put, List.setIfInBounds_toArray, List.set_cons_zero, List.set_cons_succ]
                refine wpAnyH_take (i := 21) (oi := { dst := some 98, op := Op.call { callee := Callee.builtin Builtin.len, args := #[Operand.tmp 97], argTypes := #[61] }, type := 3, pos := "law.go:226", after := #[{ on := 20, ground := Ground.data }, { on := 17, ground := Ground.guard }], guard := some (17, false) }) (v := ?_) rfl (by kernel_rfl) (by kernel_rfl) (by kernel_rfl) (fun _ _ _ h => h) (Or.inl ⟨by rfl, ?_⟩) (by assumption) ?_
                rotate_left
                · first | (intro w hSw; (try dsimp only at hSw); go_simp; done) | (intro w hSw; (try dsimp only at hSw); go_simp; with_reducible rfl)
                simp only [Act.put, List.setIfInBounds_toArray, List.set_cons_zero, List.set_cons_succ]
                refine wpAnyH_take (i := 22) (oi := { dst := some 99, op := Op.binOp BinOp.neq 3 (Operand.tmp 96) (Operand.tmp 98) 3, type := 4, pos := "law.go:226", after := #[{ on := 19, ground := Ground.data }, { on := 21, ground := Ground.data }, { on := 17, ground := Ground.guard }], guard := some (17, false) }) (v := ?_) rfl (by kernel_rfl) (by kernel_rfl) (by kernel_rfl) (fun _ _ _ h => h) (Or.inl ⟨by rfl, ?_⟩) (by assumption) ?_
                rotate_left
                · first | (intro w hSw; (try dsimp only at hSw); go_simp; done) | (intro w hSw; (try dsimp only at hSw); go_simp; with_reducible rfl)
                simp only [Act.put, List.setIfInBounds_toArray, List.set_cons_zero, List.set_cons_succ]
                refine wpAnyH_take (i := 23) (oi := { dst := some 100, op := Op.pick (Operand.tmp 94) (Operand.const (Value.bool true)) (Operand.tmp 99), type := 4, pos := "law.go:226", after := #[{ on := 17, ground := Ground.data }, { on := 22, ground := Ground.data }], guard := none }) (v := ?_) rfl (by kernel_rfl) (by kernel_rfl) (by kernel_rfl) (fun _ _ _ h => h) (Or.inl ⟨by rfl, ?_⟩) (by assumption) ?_
                rotate_left
                · first | (intro w hSw; (try dsimp only at hSw); go_simp; done) | (intro w hSw; (try dsimp only at hSw); go_simp; with_reducible rfl)
                simp only [Act.put, List.setIfInBounds_toArray, List.set_cons_zero, List.set_cons_succ]
                refine wpAnyH_take (i := 24) (oi := { dst := some 101, op := Op.move (Operand.tmp 100), type := 4, pos := "law.go:226", after := #[{ on := 23, ground := Ground.data }, { on := 19, ground := Ground.chain }], guard := none }) (v := ?_) rfl (by kernel_rfl) (by kernel_rfl) (by kernel_rfl) (fun _ _ _ h => h) (Or.inl ⟨by rfl, ?_⟩) (by assumption) ?_
                rotate_left
                · first | (intro w hSw; (try dsimp only at hSw); go_simp; done) | (intro w hSw; (try dsimp only at hSw); go_simp; with_reducible rfl)
                simp only [Act.put, List.setIfInBounds_toArray, List.set_cons_zero, List.set_cons_succ]
                refine wpAnyH_take (i := 25) (oi := { dst := some 102, op := Op.move (Operand.tmp 17), type := 61, pos := "law.go:226", after := #[{ on := 24, ground := Ground.guard }], guard := some (24, false) }) (v := ?_) rfl (by kernel_rfl) (by kernel_rfl) (by kernel_rfl) (fun _ _ _ h => h) (Or.inl ⟨by rfl, ?_⟩) (by assumption) ?_
                rotate_left
                · first | (intro w hSw; (try dsimp only at hSw); go_simp; done) | (intro w hSw; (try dsimp only at hSw); go_simp; with_reducible rfl)
                simp only [Act.put, List.setIfInBounds_toArray, List.set_cons_zero, List.set_cons_succ]
                refine wpAnyH_take (i := 26) (oi := { dst := some 103, op := Op.call { callee := Callee.builtin Builtin.len, args := #[Operand.tmp 102], argTypes := #[61] }, type := 3, pos := "law.go:226", after := #[{ on := 25, ground := Ground.data }, { on := 24, ground := Ground.guard }], guard := some (24, false) }) (v := ?_) rfl (by kernel_rfl) (by kernel_rfl) (by kernel_rfl) (fun _ _ _ h => h) (Or.inl ⟨by rfl, ?_⟩) (by assumption) ?_
                rotate_left
                · first | (intro w hSw; (try dsimp only at hSw); go_simp; done) | (intro w hSw; (try dsimp only at hSw); go_simp; with_reducible rfl)
                simp only [Act.put, List.setIfInBounds_toArray, List.set_cons_zero, List.set_cons_succ]
                refine wpAnyH_take (i := 27) (oi := { dst := some 104, op := Op.move (Operand.tmp 1), type := 5, pos := "law.go:226", after := #[{ on := 24, ground := Ground.guard }], guard := some (24, false) }) (v := ?_) rfl (by kernel_rfl) (by kernel_rfl) (by kernel_rfl) (fun _ _ _ h => h) (Or.inl ⟨by rfl, ?_⟩) (by assumption) ?_
                rotate_left
                · first | (intro w hSw; (try dsimp only at hSw); go_simp; done) | (intro w hSw; (try dsimp only at hSw); go_simp; with_reducible rfl)
                simp only [Act.put, List.setIfInBounds_toArray, List.set_cons_zero, List.set_cons_succ]
                refine wpAnyH_take (i := 28) (oi := { dst := some 105, op := Op.binOp BinOp.rem 5 (Operand.tmp 104) (Operand.const (Value.int IntKind.u8 12)) 5, type := 5, pos := "law.go:226", after := #[{ on := 27, ground := Ground.data }, { on := 24, ground := Ground.guard }], guard := some (24, false) }) (v := ?_) rfl (by kernel_rfl) (by kernel_rfl) (by kernel_rfl) (fun _ _ _ h => h) (Or.inl ⟨by rfl, ?_⟩) (by assumption) ?_
                rotate_left
                · first | (intro w hSw; (try dsimp only at hSw); go_simp; done) | (intro w hSw; (try dsimp only at hSw); go_simp; with_reducible rfl)
                simp only [Act.put, List.setIfInBounds_toArray, List.set_cons_zero, List.set_cons_succ]
                refine wpAnyH_take (i := 29) (oi := { dst := some 106, op := Op.convert 5 3 (Operand.tmp 105), type := 3, pos := "law.go:226", after := #[{ on := 28, ground := Ground.data }, { on := 24, ground := Ground.guard }], guard := some (24, false) }) (v := ?_) rfl (by kernel_rfl) (by kernel_rfl) (by kernel_rfl) (fun _ _ _ h => h) (Or.inl ⟨by rfl, ?_⟩) (by assumption) ?_
                rotate_left
                · first | (intro w hSw; (try dsimp only at hSw); go_simp; done) | (intro w hSw; (try dsimp only at hSw); go_simp; with_reducible rfl)
                simp only [Act.put, List.setIfInBounds_toArray, List.set_cons_zero, List.set_cons_succ]
                refine wpAnyH_take (i := 30) (oi := { dst := some 107, op := Op.binOp BinOp.add 3 (Operand.const (Value.int IntKind.i64 1)) (Operand.tmp 106) 3, type := 3, pos := "law.go:226", after := #[{ on := 29, ground := Ground.data }, { on := 24, ground := Ground.guard }], guard := some (24, false) }) (v := ?_) rfl (by kernel_rfl) (by kernel_rfl) (by kernel_rfl) (fun _ _ _ h => h) (Or.inl ⟨by rfl, ?_⟩) (by assumption) ?_
                rotate_left
                · first | (intro w hSw; (try dsimp only at hSw); go_simp; done) | (intro w hSw; (try dsimp only at hSw); go_simp; with_reducible rfl)
                simp only [Act.put, List.setIfInBounds_toArray, List.set_cons_zero, List.set_cons_succ]
                refine wpAnyH_take (i := 31) (oi := { dst := some 108, op := Op.binOp BinOp.gtr 3 (Operand.tmp 103) (Operand.tmp 107) 3, type := 4, pos := "law.go:226", after := #[{ on := 26, ground := Ground.data }, { on := 30, ground := Ground.data }, { on := 24, ground := Ground.guard }], guard := some (24, false) }) (v := ?_) rfl (by kernel_rfl) (by kernel_rfl) (by kernel_rfl) (fun _ _ _ h => h) (Or.inl ⟨by rfl, ?_⟩) (by assumption) ?_
                rotate_left
                · first | (intro w hSw; (try dsimp only at hSw); go_simp; done) | (intro w hSw; (try dsimp only at hSw); go_simp; with_reducible rfl)
                simp only [Act.put, List.setIfInBounds_toArray, List.set_cons_zero, List.set_cons_succ]
                refine wpAnyH_take (i := 32) (oi := { dst := some 109, op := Op.pick (Operand.tmp 101) (Operand.const (Value.bool true)) (Operand.tmp 108), type := 4, pos := "law.go:226", after := #[{ on := 24, ground := Ground.data }, { on := 31, ground := Ground.data }], guard := none }) (v := ?_) rfl (by kernel_rfl) (by kernel_rfl) (by kernel_rfl) (fun _ _ _ h => h) (Or.inl ⟨by rfl, ?_⟩) (by assumption) ?_
                rotate_left
                · first | (intro w hSw; (try dsimp only at hSw); go_simp; done) | (intro w hSw; (try dsimp only at hSw); go_simp; with_reducible rfl)
                simp only [Act.put, List.setIfInBounds_toArray, List.set_cons_zero, List.set_cons_succ]
                refine wpAnyH_done (by kernel_rfl) ?_ _
                clear hHeld
                go_wp2_with fail
                go_roundg (n' - (i + 1))
                case measure => omega
                case rel =>
                  obtain ⟨hCx, hFx, hNx⟩ := HCX.out
                  obtain ⟨hC7, hF7, hN7⟩ := HC7.out
                  have b6 := HB6.out
                  have b7 : Below w7.heap.size w7 wr.drew := HB7.out.drew
                  have hN8 : RNew w4 none v7.ownBlock := hNx.trans hN7 (by omega)
                  exact ⟨i + 1, by omega, rfl, hs7, v7, os7, hC7.below b7, ((hFx.trans (Fc.of_below b6) hNx).trans hF7 hNx).trans (Fc.of_below b7) hN8, hN8⟩
              · go_upto_region 20 with (fail)
                have hS0 : (fun _ : World => True) wr.drew := trivial
                refine wp_region_held_drew (S := fun _ => True) (by kernel_rfl) hS0 (fun hHeld => ?_)
                clear hS0
                refine wpAnyH_take (i := 0) (oi := { dst := some 77, op := Op.move (Operand.tmp 16), type := 35, pos := "law.go:226", after := #[], guard := none }) (v := ?_) rfl (by kernel_rfl) (by kernel_rfl) (by kernel_rfl) (fun _ _ _ h => h) (Or.inl ⟨by rfl, ?_⟩) (by assumption) ?_
                rotate_left
                · first | (intro w hSw; (try dsimp only at hSw); go_simp; done) | (intro w hSw; (try dsimp only at hSw); go_simp; with_reducible rfl)
                simp only [Act.put, List.setIfInBounds_toArray, List.set_cons_zero, List.set_cons_succ]
                refine wpAnyH_take (i := 1) (oi := { dst := some 78, op := Op.binOp BinOp.neq 35 (Operand.tmp 77) (Operand.const (Value.int IntKind.i64 0)) 35, type := 4, pos := "law.go:226", after := #[{ on := 0, ground := Ground.data }], guard := none }) (v := ?_) rfl (by kernel_rfl) (by kernel_rfl) (by kernel_rfl) (fun _ _ _ h => h) (Or.inl ⟨by rfl, ?_⟩) (by assumption) ?_
                rotate_left
                · first | (intro w hSw; (try dsimp only at hSw); go_simp; done) | (intro w hSw; (try dsimp only at hSw); go_simp; with_reducible rfl)
                simp only [Act.put, List.setIfInBounds_toArray, List.set_cons_zero, List.set_cons_succ]
                refine wpAnyH_take (i := 2) (oi := { dst := some 79, op := Op.move (Operand.tmp 78), type := 4, pos := "law.go:226", after := #[{ on := 1, ground := Ground.data }], guard := none }) (v := ?_) rfl (by kernel_rfl) (by kernel_rfl) (by kernel_rfl) (fun _ _ _ h => h) (Or.inl ⟨by rfl, ?_⟩) (by assumption) ?_
                rotate_left
                · first | (intro w hSw; (try dsimp only at hSw); go_simp; done) | (intro w hSw; (try dsimp only at hSw); go_simp; with_reducible rfl)
                simp only [Act.put, List.setIfInBounds_toArray, List.set_cons_zero, List.set_cons_succ]
                refine wpAnyH_take (i := 3) (oi := { dst := some 80, op := Op.move (Operand.tmp 17), type := 61, pos := "law.go:226", after := #[{ on := 2, ground := Ground.guard }], guard := some (2, false) }) (v := undef) rfl (by kernel_rfl) (by kernel_rfl) (by kernel_rfl) (fun _ _ _ h => h) (Or.inr ⟨by rfl, rfl⟩) (by assumption) ?_
                simp only [Act.put, List.setIfInBounds_toArray, List.set_cons_zero, List.set_cons_succ]
                refine wpAnyH_take (i := 4) (oi := { dst := some 81, op := Op.call { callee := Callee.builtin Builtin.len, args := #[Operand.tmp 80], argTypes := #[61] }, type := 3, pos := "law.go:226", after := #[{ on := 3, ground := Ground.data }, { on := 2, ground := Ground.guard }], guard := some (2, false) }) (v := undef) rfl (by kernel_rfl) (by kernel_rfl) (by kernel_rfl) (fun _ _ _ h => h) (Or.inr ⟨by rfl, rfl⟩) (by assumption) ?_
                simp only [Act.put, List.setIfInBounds_toArray, List.set_cons_zero, List.set_cons_succ]
                refine wpAnyH_take (i := 5) (oi := { dst := some 82, op := Op.binOp BinOp.eql 3 (Operand.tmp 81) (Operand.const (Value.int IntKind.i64 0)) 3, type := 4, pos := "law.go:226", after := #[{ on := 4, ground := Ground.data }, { on := 2, ground := Ground.guard }], guard := some (2, false) }) (v := undef) rfl (by kernel_rfl) (by kernel_rfl) (by kernel_rfl) (fun _ _ _ h => h) (Or.inr ⟨by rfl, rfl⟩) (by assumption) ?_
                simp only [Act.put, List.setIfInBounds_toArray, List.set_cons_zero, List.set_cons_succ]
                refine wpAnyH_take (i := 6) (oi := { dst := some 83, op := Op.pick (Operand.tmp 79) (Operand.const (Value.bool true)) (Operand.tmp 82), type := 4, pos := "law.go:226", after := #[{ on := 2, ground := Ground.data }, { on := 5, ground := Ground.data }], guard := none }) (v := ?_) rfl (by kernel_rfl) (by kernel_rfl) (by kernel_rfl) (fun _ _ _ h => h) (Or.inl ⟨by rfl, ?_⟩) (by assumption) ?_
                rotate_left
                · first | (intro w hSw; (try dsimp only at hSw); go_simp; done) | (intro w hSw; (try dsimp only at hSw); go_simp; with_reducible rfl)
                simp only [Act.put, List.setIfInBounds_toArray, List.set_cons_zero, List.set_cons_succ]
                refine wpAnyH_take (i := 7) (oi := { dst := some 84, op := Op.move (Operand.tmp 83), type := 4, pos := "law.go:226", after := #[{ on := 6, ground := Ground.data }, { on := 2, ground := Ground.chain }], guard := none }) (v := ?_) rfl (by kernel_rfl) (by kernel_rfl) (by kernel_rfl) (fun _ _ _ h => h) (Or.inl ⟨by rfl, ?_⟩) (by assumption) ?_
                rotate_left
                · first | (intro w hSw; (try dsimp only at hSw); go_simp; done) | (intro w hSw; (try dsimp only at hSw); go_simp; with_reducible rfl)
                simp only [Act.put, List.setIfInBounds_toArray, List.set_cons_zero, List.set_cons_succ]
                refine wpAnyH_take (i := 8) (oi := { dst := some 85, op := Op.move (Operand.tmp 17), type := 61, pos := "law.go:226", after := #[{ on := 7, ground := Ground.guard }], guard := some (7, false) }) (v := undef) rfl (by kernel_rfl) (by kernel_rfl) (by kernel_rfl) (fun _ _ _ h => h) (Or.inr ⟨by rfl, rfl⟩) (by assumption) ?_
                simp only [Act.put, List.setIfInBounds_toArray, List.set_cons_zero, List.set_cons_succ]
                refine wpAnyH_take (i := 9) (oi := { dst := some 86, op := Op.move (Operand.tmp 17), type := 61, pos := "law.go:226", after := #[{ on := 7, ground := Ground.guard }], guard := some (7, false) }) (v := undef) rfl (by kernel_rfl) (by kernel_rfl) (by kernel_rfl) (fun _ _ _ h => h) (Or.inr ⟨by rfl, rfl⟩) (by assumption) ?_
                simp only [Act.put, List.setIfInBounds_toArray, List.set_cons_zero, List.set_cons_succ]
                refine wpAnyH_take (i := 10) (oi := { dst := some 87, op := Op.call { callee := Callee.builtin Builtin.len, args := #[Operand.tmp 86], argTypes := #[61] }, type := 3, pos := "law.go:226", after := #[{ on := 9, ground := Ground.data }, { on := 7, ground := Ground.guard }], guard := some (7, false) }) (v := undef) rfl (by kernel_rfl) (by kernel_rfl) (by kernel_rfl) (fun _ _ _ h => h) (Or.inr ⟨by rfl, rfl⟩) (by assumption) ?_
                simp only [Act.put, List.setIfInBounds_toArray, List.set_cons_zero, List.set_cons_succ]
                refine wpAnyH_take (i := 11) (oi := { dst := some 88, op := Op.binOp BinOp.sub 3 (Operand.tmp 87) (Operand.const (Value.int IntKind.i64 1)) 3, type := 3, pos := "law.go:226", after := #[{ on := 10, ground := Ground.data }, { on := 7, ground := Ground.guard }], guard := some (7, false) }) (v := undef) rfl (by kernel_rfl) (by kernel_rfl) (by kernel_rfl) (fun _ _ _ h => h) (Or.inr ⟨by rfl, rfl⟩) (by assumption) ?_
                simp only [Act.put, List.setIfInBounds_toArray, List.set_cons_zero, List.set_cons_succ]
                refine wpAnyH_take (i := 12) (oi := { dst := some 89, op := Op.indexAddr 61 (Operand.tmp 85) (Operand.tmp 88), type := 0, pos := "law.go:226", after := #[{ on := 8, ground := Ground.data }, { on := 11, ground := Ground.data }, { on := 7, ground := Ground.guard }], guard := some (7, false) }) (v := undef) rfl (by kernel_rfl) (by kernel_rfl) (by kernel_rfl) (fun _ _ _ h => h) (Or.inr ⟨by rfl, rfl⟩) (by assumption) ?_
                simp only [Act.put, List.setIfInBounds_toArray, List.set_cons_zero, List.set_cons_succ]
                refine wpAnyH_take (i := 13) (oi := { dst := some 90, op := Op.load 29 (Operand.tmp 89), type := 29, pos := "law.go:226", after := #[{ on := 12, ground := Ground.data }, { on := 7, ground := Ground.guard }], guard := some (7, false) }) (v := undef) rfl (by kernel_rfl) (by kernel_rfl) (by kernel_rfl) (fun _ _ _ h => h) (Or.inr ⟨by rfl, rfl⟩) (by assumption) ?_
                simp only [Act.put, List.setIfInBounds_toArray, List.set_cons_zero, List.set_cons_succ]
                refine wpAnyH_take (i := 14) (oi := { dst := some 91, op := Op.load 29 (Operand.tmp 14), type := 29, pos := "law.go:226", after := #[{ on := 7, ground := Ground.guard }], guard := some (7, false) }) (v := undef) rfl (by kernel_rfl) (by kernel_rfl) (by kernel_rfl) (fun _ _ _ h => h) (Or.inr ⟨by rfl, rfl⟩) (by assumption) ?_
                simp only [Act.put, List.setIfInBounds_toArray, List.set_cons_zero, List.set_cons_succ]
                refine wpAnyH_take (i := 15) (oi := { dst := some 92, op := Op.binOp BinOp.neq 29 (Operand.tmp 90) (Operand.tmp 91) 29, type := 4, pos := "law.go:226", after := #[{ on := 13, ground := Ground.data }, { on := 14, ground := Ground.data }, { on := 7, ground := Ground.guard }], guard := some (7, false) }) (v := undef) rfl (by kernel_rfl) (by kernel_rfl) (by kernel_rfl) (fun _ _ _ h => h) (Or.inr ⟨by rfl, rfl⟩) (by assumption) ?_
                simp only [Act.put, List.setIfInBounds_toArray, List.set_cons_zero, List.set_cons_succ]
                refine wpAnyH_take (i := 16) (oi := { dst := some 93, op := Op.pick (Operand.tmp 84) (Operand.const (Value.bool true)) (Operand.tmp 92), type := 4, pos := "law.go:226", after := #[{ on := 7, ground := Ground.data }, { on := 15, ground := Ground.data }], guard := none }) (v := ?_) rfl (by kernel_rfl) (by kernel_rfl) (by kernel_rfl) (fun _ _ _ h => h) (Or.inl ⟨by rfl, ?_⟩) (by assumption) ?_
                rotate_left
                · first | (intro w hSw; (try dsimp only at hSw); go_simp; done) | (intro w hSw; (try dsimp only at hSw); go_simp; with_reducible rfl)
                simp only [Act.put, List.setIfInBounds_toArray, List.set_cons_zero, List.set_cons_succ]
                refine wpAnyH_take (i := 17) (oi := { dst := some 94, op := Op.move (Operand.tmp 93), type := 4, pos := "law.go:226", after := #[{ on := 16, ground := Ground.data }, { on := 7, ground := Ground.chain }], guard := none }) (v := ?_) rfl (by kernel_rfl) (by kernel_rfl) (by kernel_rfl) (fun _ _ _ h => h) (Or.inl ⟨by rfl, ?_⟩) (by assumption) ?_
                rotate_left
                · first | (intro w hSw; (try dsimp only at hSw); go_simp; done) | (intro w hSw; (try dsimp only at hSw); go_simp; with_reducible rfl)
                simp only [Act.put, List.setIfInBounds_toArray, List.set_cons_zero, List.set_cons_succ]
                refine wpAnyH_take (i := 18) (oi := { dst := some 95, op := Op.move (Operand.tmp 18), type := 70, pos := "law.go:226", after := #[{ on := 17, ground := Ground.guard }], guard := some (17, false) }) (v := undef) rfl (by kernel_rfl) (by kernel_rfl) (by kernel_rfl) (fun _ _ _ h => h) (Or.inr ⟨by rfl, rfl⟩) (by assumption) ?_
                simp only [Act.put, List.setIfInBounds_toArray, List.set_cons_zero, List.set_cons_succ]
                refine wpAnyH_take (i := 19) (oi := { dst := some 96, op := Op.call { callee := Callee.builtin Builtin.len, args := #[Operand.tmp 95], argTypes := #[70] }, type := 3, pos := "law.go:226", after := #[{ on := 18, ground := Ground.data }, { on := 17, ground := Ground.chain }, { on := 17, ground := Ground.guard }], guard := some (17, false) }) (v := undef) rfl (by kernel_rfl) (by kernel_rfl) (by kernel_rfl) (fun _ _ _ h => h) (Or.inr ⟨by rfl, rfl⟩) (by assumption) ?_
                simp only [Act.put, List.setIfInBounds_toArray, List.set_cons_zero, List.set_cons_succ]
                refine wpAnyH_take (i := 20) (oi := { dst := some 97, op := Op.move (Operand.tmp 17), type := 61, pos := "law.go:226", after := #[{ on := 17, ground := Ground.guard }], guard := some (17, false) }) (v := undef) rfl (by kernel_rfl) (by kernel_rfl) (by kernel_rfl) (fun _ _ _ h => h) (Or.inr ⟨by rfl, rfl⟩) (by assumption) ?_
                simp only [Act.put, List.setIfInBounds_toArray, List.set_cons_zero, List.set_cons_succ]
                refine wpAnyH_take (i := 21) (oi := { dst := some 98, op := Op.call { callee := Callee.builtin Builtin.len, args := #[Operand.tmp 97], argTypes := #[61] }, type := 3, pos := "law.go:226", after := #[{ on := 20, ground := Ground.data }, { on := 17, ground := Ground.guard }], guard := some (17, false) }) (v := undef) rfl (by kernel_rfl) (by kernel_rfl) (by kernel_rfl) (fun _ _ _ h => h) (Or.inr ⟨by rfl, rfl⟩) (by assumption) ?_
                simp only [Act.put, List.setIfInBounds_toArray, List.set_cons_zero, List.set_cons_succ]
                refine wpAnyH_take (i := 22) (oi := { dst := some 99, op := Op.binOp BinOp.neq 3 (Operand.tmp 96) (Operand.tmp 98) 3, type := 4, pos := "law.go:226", after := #[{ on := 19, ground := Ground.data }, { on := 21, ground := Ground.data }, { on := 17, ground := Ground.guard }], guard := some (17, false) }) (v := undef) rfl (by kernel_rfl) (by kernel_rfl) (by kernel_rfl) (fun _ _ _ h => h) (Or.inr ⟨by rfl, rfl⟩) (by assumption) ?_
                simp only [Act.put, List.setIfInBounds_toArray, List.set_cons_zero, List.set_cons_succ]
                refine wpAnyH_take (i := 23) (oi := { dst := some 100, op := Op.pick (Operand.tmp 94) (Operand.const (Value.bool true)) (Operand.tmp 99), type := 4, pos := "law.go:226", after := #[{ on := 17, ground := Ground.data }, { on := 22, ground := Ground.data }], guard := none }) (v := ?_) rfl (by kernel_rfl) (by kernel_rfl) (by kernel_rfl) (fun _ _ _ h => h) (Or.inl ⟨by rfl, ?_⟩) (by assumption) ?_
                rotate_left
                · first | (intro w hSw; (try dsimp only at hSw); go_simp; done) | (intro w hSw; (try dsimp only at hSw); go_simp; with_reducible rfl)
                simp only [Act.put, List.setIfInBounds_toArray, List.set_cons_zero, List.set_cons_succ]
                refine wpAnyH_take (i := 24) (oi := { dst := some 101, op := Op.move (Operand.tmp 100), type := 4, pos := "law.go:226", after := #[{ on := 23, ground := Ground.data }, { on := 19, ground := Ground.chain }], guard := none }) (v := ?_) rfl (by kernel_rfl) (by kernel_rfl) (by kernel_rfl) (fun _ _ _ h => h) (Or.inl ⟨by rfl, ?_⟩) (by assumption) ?_
                rotate_left
                · first | (intro w hSw; (try dsimp only at hSw); go_simp; done) | (intro w hSw; (try dsimp only at hSw); go_simp; with_reducible rfl)
                simp only [Act.put, List.setIfInBounds_toArray, List.set_cons_zero, List.set_cons_succ]
                refine wpAnyH_take (i := 25) (oi := { dst := some 102, op := Op.move (Operand.tmp 17), type := 61, pos := "law.go:226", after := #[{ on := 24, ground := Ground.guard }], guard := some (24, false) }) (v := undef) rfl (by kernel_rfl) (by kernel_rfl) (by kernel_rfl) (fun _ _ _ h => h) (Or.inr ⟨by rfl, rfl⟩) (by assumption) ?_
                simp only [Act.put, List.setIfInBounds_toArray, List.set_cons_zero, List.set_cons_succ]
                refine wpAnyH_take (i := 26) (oi := { dst := some 103, op := Op.call { callee := Callee.builtin Builtin.len, args := #[Operand.tmp 102], argTypes := #[61] }, type := 3, pos := "law.go:226", after := #[{ on := 25, ground := Ground.data }, { on := 24, ground := Ground.guard }], guard := some (24, false) }) (v := undef) rfl (by kernel_rfl) (by kernel_rfl) (by kernel_rfl) (fun _ _ _ h => h) (Or.inr ⟨by rfl, rfl⟩) (by assumption) ?_
                simp only [Act.put, List.setIfInBounds_toArray, List.set_cons_zero, List.set_cons_succ]
                refine wpAnyH_take (i := 27) (oi := { dst := some 104, op := Op.move (Operand.tmp 1), type := 5, pos := "law.go:226", after := #[{ on := 24, ground := Ground.guard }], guard := some (24, false) }) (v := undef) rfl (by kernel_rfl) (by kernel_rfl) (by kernel_rfl) (fun _ _ _ h => h) (Or.inr ⟨by rfl, rfl⟩) (by assumption) ?_
                simp only [Act.put, List.setIfInBounds_toArray, List.set_cons_zero, List.set_cons_succ]
                refine wpAnyH_take (i := 28) (oi := { dst := some 105, op := Op.binOp BinOp.rem 5 (Operand.tmp 104) (Operand.const (Value.int IntKind.u8 12)) 5, type := 5, pos := "law.go:226", after := #[{ on := 27, ground := Ground.data }, { on := 24, ground := Ground.guard }], guard := some (24, false) }) (v := undef) rfl (by kernel_rfl) (by kernel_rfl) (by kernel_rfl) (fun _ _ _ h => h) (Or.inr ⟨by rfl, rfl⟩) (by assumption) ?_
                simp only [Act.put, List.setIfInBounds_toArray, List.set_cons_zero, List.set_cons_succ]
                refine wpAnyH_take (i := 29) (oi := { dst := some 106, op := Op.convert 5 3 (Operand.tmp 105), type := 3, pos := "law.go:226", after := #[{ on := 28, ground := Ground.data }, { on := 24, ground := Ground.guard }], guard := some (24, false) }) (v := undef) rfl (by kernel_rfl) (by kernel_rfl) (by kernel_rfl) (fun _ _ _ h => h) (Or.inr ⟨by rfl, rfl⟩) (by assumption) ?_
                simp only [Act.put, List.setIfInBounds_toArray, List.set_cons_zero, List.set_cons_succ]
                refine wpAnyH_take (i := 30) (oi := { dst := some 107, op := Op.binOp BinOp.add 3 (Operand.const (Value.int IntKind.i64 1)) (Operand.tmp 106) 3, type := 3, pos := "law.go:226", after := #[{ on := 29, ground := Ground.data }, { on := 24, ground := Ground.guard }], guard := some (24, false) }) (v := undef) rfl (by kernel_rfl) (by kernel_rfl) (by kernel_rfl) (fun _ _ _ h => h) (Or.inr ⟨by rfl, rfl⟩) (by assumption) ?_
                simp only [Act.put, List.setIfInBounds_toArray, List.set_cons_zero, List.set_cons_succ]
                refine wpAnyH_take (i := 31) (oi := { dst := some 108, op := Op.binOp BinOp.gtr 3 (Operand.tmp 103) (Operand.tmp 107) 3, type := 4, pos := "law.go:226", after := #[{ on := 26, ground := Ground.data }, { on := 30, ground := Ground.data }, { on := 24, ground := Ground.guard }], guard := some (24, false) }) (v := undef) rfl (by kernel_rfl) (by kernel_rfl) (by kernel_rfl) (fun _ _ _ h => h) (Or.inr ⟨by rfl, rfl⟩) (by assumption) ?_
                simp only [Act.put, List.setIfInBounds_toArray, List.set_cons_zero, List.set_cons_succ]
                refine wpAnyH_take (i := 32) (oi := { dst := some 109, op := Op.pick (Operand.tmp 101) (Operand.const (Value.bool true)) (Operand.tmp 108), type := 4, pos := "law.go:226", after := #[{ on := 24, ground := Ground.data }, { on := 31, ground := Ground.data }], guard := none }) (v := ?_) rfl (by kernel_rfl) (by kernel_rfl) (by kernel_rfl) (fun _ _ _ h => h) (Or.inl ⟨by rfl, ?_⟩) (by assumption) ?_
                rotate_left
                · first | (intro w hSw; (try dsimp only at hSw); go_simp; done) | (intro w hSw; (try dsimp only at hSw); go_simp; with_reducible rfl)
                simp only [Act.put, List.setIfInBounds_toArray, List.set_cons_zero, List.set_cons_succ]
                refine wpAnyH_done (by kernel_rfl) ?_ _
                clear hHeld
                have hno : ¬ Apart (texts t.all) := fun ha => by
                  obtain ⟨v0, h1, _⟩ := HM.out.2.2.2.2.1 ha s HSS.out.1
                  rw [← HSUM.out, hlk] at h1
                  cases h1
                have hbe : Below wb.heap.size wb wr.drew := by
                  obtain ⟨hCx, hFx, hNx⟩ := HCX.out
                  obtain ⟨hC7, hF7, hN7⟩ := HC7.out
                  have h1 := HBX.out.1.size
                  have h2 : Below wb.heap.size w6 w7 := hF7.below HCB.out.1 HCB.out.2.1 (fun g hg => (hCx.rB g hg).1) (by omega)
                  exact ((HBX.out.1.trans (HB6.out.mono (by omega))).trans h2).trans (HB7.out.drew.mono (by omega))
                have hbw : Below w.heap.size w wr.drew := by
                  obtain ⟨hCx, hFx, hNx⟩ := HCX.out
                  obtain ⟨hC7, hF7, hN7⟩ := HC7.out
                  have h1 := HBX.out.2.size
                  have h3 := HBX.out.1.size
                  have h4 := HWB.out
                  have h2 : Below wb.heap.size w6 w7 := hF7.below HCB.out.1 HCB.out.2.1 (fun g hg => (hCx.rB g hg).1) (by omega)
                  exact ((HBX.out.2.trans (HB6.out.mono (by omega))).trans (h2.mono (by omega))).trans (HB7.out.drew.mono (by omega))
                have HCL := Lib.hid (clashT_any t g (fun b => b ≠ M) wr.drew (HM.out.1.on hbe) (by have := HM.out.2.2.2.2.2.2.2; omega) hno (tab0_below HT.out.1 hbw hw) (by have := hbw.size; omega))
                rw [ptr_some] at HCL
                have HBW := Lib.hid hbw
                clear hno hbe hbw
                go_wp2_with fail
                refine HCL.out.mono ?_
                rintro e wz ⟨rfl, hbz⟩
                go_wp2_with fail
                go_ret
                exact ⟨rfl, HBW.out.trans (hbz.mono HBW.out.size)⟩
        · have h60' : ((60 : Int) < (i : Int)) := by omega
          go_wp2_with fail
          go_ret
          exact ⟨rfl, HBX.out.2⟩
      · obtain rfl : i = n' := by omega
        go_wp2_with fail
        go_ret
        exact ⟨rfl, HBX.out.2⟩

end Go.Proofs.YtolkpjbbfopmnaaDoor

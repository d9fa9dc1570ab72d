/-
  Verify: a proof against a root; conditions: the proof lies in memory, sha's table holds its words. It only makes memory of its own.
  allGo: do all turns go one way; conditions: the turns lie in memory. It only makes memory of its own.
  isBetween of one side; verifySide: a side of a gap against a root; conditions: the side lies in memory, sha's table holds its words. They only make memory of their own.
  VerifyGap of a gap with a side; conditions: the gap lies in memory, sha's table holds its words. It only makes memory of its own.
  The tree of two leaves of the laws' Awake: its proofs, its gap, its root.
  Awake of layer 9's laws returns true: chapter 9's example; conditions: sha's table holds its words, errors is laid. It only makes memory of its own.
  ProofNil: a tree of nothing has no proof and an empty gap; conditions: the key lies in memory, sha's table holds its words, errors is laid. It only makes memory of its own.
-/
import Derived.Test.YtehmkkccnadhoaaDoorPN06
import Derived.Test.YtehmkkccnadhoaaDoorPN13
namespace Go.Proofs.YtehmkkccnadhoaaDoor
open Go.RowKit
open Tr

/-- An answer: no error, or one whose Code is c. -/
def EOut (d : Nat) (c : Int) (w : World) (v : Value) : Prop := (c = 0 ∧ v = .nilIface) ∨ (c ≠ 0 ∧ ∃ e : Fl.Err, v = e.val ∧ e.In w ∧ e.code = c ∧ e.depth ≤ d)
def EPost (d : Nat) (c : Int) (w : World) (e : Ending) (w' : World) : Prop := ∃ v, e = .returned v ∧ EOut d c w' v ∧ Below w.heap.size w w'
theorem eout_none (d : Nat) (w : World) : EOut d 0 w .nilIface := .inl ⟨rfl, rfl⟩
theorem eout_step (w : World) (s : ByteArray) (n c : Int) (hc : c ≠ 0) : EOut 2 c (w.alloc (.cells #[.string s, .int .i64 n, .iface 39 (.int .i64 c)] 90)) (.iface 88 (.pointer (some ⟨w.heap.size, 0, none⟩))) :=
  .inr ⟨hc, .step w.heap.size s n (.num c), rfl, ⟨World.alloc_heap_new w _, Nat.zero_le _, trivial⟩, rfl, by simp [Fl.Err.depth]⟩
theorem tnot {b : Bool} (h : true = !b) : b = false := by cases b <;> first | rfl | exact absurd h (by decide)
theorem fnot {b : Bool} (h : false = !b) : b = true := by cases b <;> first | rfl | exact absurd h (by decide)
/-- A Step around an answer. -/
theorem wrap_any (d : Nat) (c : Int) (v : Value) (s : ByteArray) (n : Int) (w : World) (h : EOut d c w v) : Calls Tryd.prog 21 #[.string s, .int .i64 n, v] w (EPost (d + 1) c w) := by
  rcases h with ⟨rfl, rfl⟩ | ⟨hc, e, rfl, hin, hcode, hd⟩
  · refine (Fl.at_none _ _ _).mono ?_
    rintro e w' ⟨rfl, rfl⟩
    exact ⟨_, rfl, eout_none _ _, Below.refl _ _⟩
  · obtain ⟨tv, xv, hv⟩ := e.val_iface
    have h1 := Fl.at_some s n tv xv w
    rw [← hv] at h1
    refine h1.mono ?_
    rintro e' w' ⟨rfl, rfl⟩
    have hb : Below w.heap.size w (w.alloc (.cells #[.string s, .int .i64 n, e.val] 90)) := (Below.refl _ _).alloc (Nat.le_refl _) _
    refine ⟨_, rfl, .inr ⟨hc, .step w.heap.size s n e, rfl, ⟨World.alloc_heap_new w _, hin.top_le, hin.below hb hin.top_le⟩, hcode, ?_⟩, hb⟩
    simp only [Fl.Err.depth]
    omega
def verifyC (want : List UInt8) (p : Pf) : Int :=
  if 64 < p.turns.length then 3
  else if (decide (1 ≤ p.key.length) && decide (p.key.length ≤ 96)) = false then 10
  else if 256 < p.val.length then 10
  else if okT p.turns = false then 12
  else if (leadP p == want) = false then 21
  else 0
theorem maybe_any (A : Option Addr) (n c : Nat) (w : World) : Calls Tryd.prog 22 #[.slice A n c] w fun e w' => e = .returned (.bool (decide (1 ≤ n) && decide (n ≤ 96))) ∧ w = w' := by
  go_enter Tryd.func22, Tryd.ntmps22
  by_cases h : 1 ≤ n
  · go_wp2_with fail
    go_ret
    refine ⟨?_, rfl⟩
    by_cases h2 : n ≤ 96 <;> simp [h, h2] <;> omega
  · go_wp2_with fail
    go_ret
    refine ⟨?_, rfl⟩
    simp []

set_option maxRecDepth 100000 in
set_option maxHeartbeats 1000000 in
theorem verify_any (X : Array Value) (p : Pf) (want : List UInt8) (w : World) (hP : PfV w w.heap.size X p) (hl : want.length = 32) (ht : Sh.Tab w 2) (hw : 2 < w.heap.size) :
    Calls Tryd.prog 11 #[.agg (Sh.bcells want), .agg X] w (EPost 2 (verifyC want p) w) := by
  obtain ⟨A, n, c, A', n', c', A2, m, k, rfl, k1, k2, k3, k4, k5, k6⟩ := hP
  have hb0 : Below w.heap.size w ((w.alloc (.cells (Sh.bcells want) 44)).alloc (.cells #[.slice A n c, .slice A' n' c', .slice A2 m k] 26)) := ((Below.refl _ _).alloc (Nat.le_refl _) _).alloc (by simp) _
  have hw0 := (Whole.made w 44 (Sh.bcells want)).alloc (.cells #[.slice A n c, .slice A' n' c', .slice A2 m k] 26)
  have hw1 := Whole.made (w.alloc (.cells (Sh.bcells want) 44)) 26 #[.slice A n c, .slice A' n' c', .slice A2 m k]
  rw [size_alloc] at hw1
  have hpv : PfV ((w.alloc (.cells (Sh.bcells want) 44)).alloc (.cells #[.slice A n c, .slice A' n' c', .slice A2 m k] 26)) ((w.alloc (.cells (Sh.bcells want) 44)).alloc (.cells #[.slice A n c, .slice A' n' c', .slice A2 m k] 26)).heap.size #[.slice A n c, .slice A' n' c', .slice A2 m k] p := ⟨A, n, c, A', n', c', A2, m, k, rfl, (k1.below hb0 (Nat.le_refl _)).more hb0.size, k2, (k3.below hb0 (Nat.le_refl _)).more hb0.size, k4, (k5.below hb0 (Nat.le_refl _)).more hb0.size, k6⟩
  have HT1 := Lib.hid (Sh.tab_below ht hb0 hw)
  have HSZ : Hid (2 < ((w.alloc (.cells (Sh.bcells want) 44)).alloc (.cells #[.slice A n c, .slice A' n' c', .slice A2 m k] 26)).heap.size) := Lib.hid (by have := hb0.size; omega)
  have HP := Lib.hid hpv
  have HB0 := Lib.hid hb0
  have HW0 := Lib.hid hw0
  have HW1 := Lib.hid hw1
  have HN := Lib.hid (And.intro k1.len (And.intro k3.len k5.len))
  have HTR := Lib.hid ((k5.below hb0 (Nat.le_refl _)).more hb0.size)
  have HL := Lib.hid hl
  have d0 := hw1.at_ (i := 0) (v := .slice A n c) rfl
  have d1 := hw1.at_ (i := 1) (v := .slice A' n' c') rfl
  have d2 := hw1.at_ (i := 2) (v := .slice A2 m k) rfl
  clear hpv hb0 hw0 hw1 k1 k2 k3 k4 k5 k6 hl ht
  go_enter Tryd.func11, Tryd.ntmps11
  go_upto_region 1 with (fail)
  generalize (w.alloc (.cells (Sh.bcells want) 44)).alloc (.cells #[.slice A n c, .slice A' n' c', .slice A2 m k] 26) = w1 at *
  by_cases h1 : 64 < m
  · have HC : Hid (verifyC want p = 3) := Lib.hid (by
      rw [verifyC, if_pos (by rw [HN.out.2.2]; exact h1)])
    go_wp2_with fail
    refine (Fl.at_some _ _ _ _ _).mono ?_
    rintro e we ⟨rfl, rfl⟩
    go_wp2_with fail
    go_ret
    exact ⟨_, rfl, by rw [HC.out]; exact eout_step _ _ _ _ (by decide), HB0.out.alloc HB0.out.size _⟩
  · have h1b : decide (64 < m) = false := by rw [decide_eq_false_iff_not]; exact h1
    go_wp2_with fail
    refine (maybe_any _ _ _ _).mono ?_
    rintro e wq ⟨rfl, rfl⟩
    obtain ⟨mb, hmb⟩ : ∃ mb, (decide (1 ≤ n) && decide (n ≤ 96)) = mb := ⟨_, rfl⟩
    rw [hmb]
    have HMB := Lib.hid hmb
    clear hmb
    cases mb with
    | false =>
      have HC : Hid (verifyC want p = 10) := Lib.hid (by
        rw [verifyC, if_neg (by rw [HN.out.2.2]; exact h1), if_pos (by rw [HN.out.1]; exact HMB.out)])
      go_wp2_with fail
      refine (Fl.at_some _ _ _ _ _).mono ?_
      rintro e we ⟨rfl, rfl⟩
      go_wp2_with fail
      go_ret
      exact ⟨_, rfl, by rw [HC.out]; exact eout_step _ _ _ _ (by decide), HB0.out.alloc HB0.out.size _⟩
    | true =>
      by_cases h2 : 256 < n'
      · have HC : Hid (verifyC want p = 10) := Lib.hid (by
          rw [verifyC, if_neg (by rw [HN.out.2.2]; exact h1), if_neg (by rw [HN.out.1, HMB.out]; decide), if_pos (by rw [HN.out.2.1]; exact h2)])
        go_wp2_with fail
        refine (Fl.at_some _ _ _ _ _).mono ?_
        rintro e we ⟨rfl, rfl⟩
        go_wp2_with fail
        go_ret
        exact ⟨_, rfl, by rw [HC.out]; exact eout_step _ _ _ _ (by decide), HB0.out.alloc HB0.out.size _⟩
      · have h2b : decide (256 < n') = false := by rw [decide_eq_false_iff_not]; exact h2
        have HR := Lib.hid (wrong_any A2 m k p.turns w1 HTR.out (by omega))
        go_wp2_with fail
        refine HR.out.mono ?_
        rintro e wq ⟨⟨r, rfl, hr⟩, rfl⟩
        by_cases h3 : 0 ≤ r
        · have HC : Hid (verifyC want p = 12) := Lib.hid (by
            have hk : okT p.turns = false := by rw [decide_eq_true h3] at hr; exact tnot hr
            rw [verifyC, if_neg (by rw [HN.out.2.2]; exact h1), if_neg (by rw [HN.out.1, HMB.out]; decide), if_neg (by rw [HN.out.2.1]; exact h2), if_pos hk])
          clear hr
          go_wp2_with fail
          refine (Fl.at_some _ _ _ _ _).mono ?_
          rintro e we ⟨rfl, rfl⟩
          go_wp2_with fail
          go_ret
          exact ⟨_, rfl, by rw [HC.out]; exact eout_step _ _ _ _ (by decide), HB0.out.alloc HB0.out.size _⟩
        · have hok : okT p.turns = true := by rw [decide_eq_false h3] at hr; exact fnot hr
          have h3b : decide (0 ≤ r) = false := by rw [decide_eq_false_iff_not]; exact h3
          have hkl : n ≤ 96 := by have := HMB.out; simp only [Bool.and_eq_true, decide_eq_true_eq] at this; omega
          have hbd : Below w1.heap.size w1 w1.drew := (Below.refl _ _).drew
          have hpd : PfV w1.drew w1.drew.heap.size #[.slice A n c, .slice A' n' c', .slice A2 m k] p := by
            obtain ⟨B1, x1, y1, B2, x2, y2, B3, x3, y3, e, f1, f2, f3, f4, f5, f6⟩ := HP.out
            exact ⟨B1, x1, y1, B2, x2, y2, B3, x3, y3, e, f1.below hbd (Nat.le_refl _), f2, f3.below hbd (Nat.le_refl _), f4, f5.below hbd (Nat.le_refl _), f6⟩
          have HLD := Lib.hid (leads_any _ p w1.drew hpd hok (by rw [HN.out.1]; omega) (by rw [HN.out.2.1]; omega) (by rw [HN.out.2.2]; omega) (Sh.tab_below HT1.out hbd HSZ.out) HSZ.out)
          clear hbd hpd
          have HC : Hid (verifyC want p = if (leadP p == want) = false then 21 else 0) := Lib.hid (by
            rw [verifyC, if_neg (by rw [HN.out.2.2]; exact h1), if_neg (by rw [HN.out.1, HMB.out]; decide), if_neg (by rw [HN.out.2.1]; exact h2), if_neg (by rw [hok]; decide)])
          clear hr hok hkl HR
          obtain ⟨q, hq⟩ : ∃ q, leadP p = q := ⟨_, rfl⟩
          have hql : q.length = 32 := by rw [← hq]; exact lead_len _ (Sh.sum_length _) _
          rw [hq] at HLD HC
          clear hq
          obtain ⟨bq, hbq⟩ : ∃ bq, (q == want) = bq := ⟨_, rfl⟩
          have HEQ : Hid (∀ u, (Op.equalIn 10000 44 (.agg (Sh.bcells q)) (.agg (want.map V8).toArray)).run Tryd.prog u = .ok bq u) := Lib.hid (fun u => by rw [← hbq]; exact run_eq49 q want hql HL.out u)
          rw [hbq] at HC
          clear hbq
          obtain ⟨Y, hY⟩ : ∃ Y, Sh.bcells q = Y := ⟨_, rfl⟩
          obtain ⟨Y2, hY2⟩ : ∃ Y2, (want.map V8).toArray = Y2 := ⟨_, rfl⟩
          rw [hY] at HLD HEQ
          rw [hY2] at HEQ
          have HI : Hid ((Tryd.prog.info? 44).map (·.size) = some (want.map V8).length) := Lib.hid (by rw [List.length_map, HL.out]; exact info49)
          clear hY
          go_upto_region 10 with (fail)
          have hS0 : w1.drew.rangeAt (w.heap.size + 1) 0 [.slice A n c, .slice A' n' c', .slice A2 m k] ∧ w1.drew.rangeAt w.heap.size 0 (want.map V8) := ⟨HW1.out.range, HW0.out.range⟩
          refine wp_region_held_drew (S := fun u => u.rangeAt (w.heap.size + 1) 0 [.slice A n c, .slice A' n' c', .slice A2 m k] ∧ u.rangeAt w.heap.size 0 (want.map V8)) (by kernel_rfl) hS0 (fun hHeld => ?_)
          refine wpAnyH_take (i := 0) (oi := { dst := some 41, op := Op.load 26 (Operand.tmp 3), type := 26, pos := "verify.go:25", after := #[], guard := none }) (v := .agg #[.slice A n c, .slice A' n' c', .slice A2 m k]) rfl (by kernel_rfl) (by kernel_rfl) (by kernel_rfl) (fun _ _ _ h => h) (yieldsIf_load_mid (by rfl) 26 (.tmp 3) rfl (w.heap.size + 1) 0 rfl [.slice A n c, .slice A' n' c', .slice A2 m k] _ (fun _ h => h.1) Tryd.underlying26 rfl info26) (by assumption) ?_
          simp only [Act.put, List.setIfInBounds_toArray, List.set_cons_zero, List.set_cons_succ]
          refine wpAnyH_take (i := 2) (oi := { dst := some 43, op := Op.load 44 (Operand.tmp 2), type := 44, pos := "verify.go:25", after := #[], guard := none }) (v := .agg (want.map V8).toArray) rfl (by kernel_rfl) (by kernel_rfl) (by kernel_rfl) (fun _ _ _ h => h) (yieldsIf_load_mid (by rfl) 44 (.tmp 2) rfl w.heap.size 0 rfl (want.map V8) _ (fun _ h => h.2) Tryd.underlying44 rfl HI.out) (by assumption) ?_
          simp only [Act.put, List.setIfInBounds_toArray, List.set_cons_zero, List.set_cons_succ]
          rw [hY2]
          clear hY2
          have HW0d : Hid (Whole w1.drew w.heap.size 44 (Sh.bcells want)) := Lib.hid HW0.out
          have HW1d : Hid (Whole w1.drew (w.heap.size + 1) 26 #[.slice A n c, .slice A' n' c', .slice A2 m k]) := Lib.hid HW1.out
          have HB0d : Hid (Below w.heap.size w w1.drew) := Lib.hid HB0.out.drew
          clear hHeld HW0 HW1 HB0 HP HTR HT1 d0 d1 d2
          generalize w1.drew = w2 at *
          refine wpAnyH_ready (rs := [1]) (by kernel_rfl) (by simp) ?_
          refine AllReadyH.cons rfl (fun K hK => ?_) AllReadyH.nil
          go_simp
          refine HLD.out.mono ?_
          rintro e w3 ⟨rfl, hb3⟩
          have HB3 := Lib.hid (HB0d.out.trans (hb3.mono HB0d.out.size))
          have hS3 : w3.rangeAt (w.heap.size + 1) 0 [.slice A n c, .slice A' n' c', .slice A2 m k] ∧ w3.rangeAt w.heap.size 0 (want.map V8) := ⟨(HW1d.out.below hb3 HW1d.out.lt).range, (HW0d.out.below hb3 HW0d.out.lt).range⟩
          refine hK.out _ _ hS3 (fun _ => ?_)
          clear hK K hb3 HLD HW0d HW1d HB0d hS0 HI
          have hEQ := HEQ.out
          refine wpAnyH_take (i := 3) (oi := { dst := some 44, op := Op.binOp BinOp.neq 44 (Operand.tmp 42) (Operand.tmp 43) 44, type := 4, pos := "verify.go:25", after := #[{ on := 1, ground := Ground.data }, { on := 2, ground := Ground.data }], guard := none }) (v := ?_) rfl (by kernel_rfl) (by kernel_rfl) (by kernel_rfl) (fun _ _ _ h => h) (Or.inl ⟨by rfl, ?_⟩) (by assumption) ?_
          rotate_left
          · first | (intro w hSw; (try dsimp only at hSw); go_simp; done) | (intro w hSw; (try dsimp only at hSw); go_simp; with_reducible rfl)
          simp only [Act.put, List.setIfInBounds_toArray, List.set_cons_zero, List.set_cons_succ]
          refine wpAnyH_done (by kernel_rfl) ?_ _
          clear hS3 hEQ HEQ
          cases bq with
          | false =>
            go_wp2_with fail
            refine (Fl.at_some _ _ _ _ _).mono ?_
            rintro e we ⟨rfl, rfl⟩
            go_wp2_with fail
            go_ret
            exact ⟨_, rfl, by rw [HC.out]; exact eout_step _ _ _ _ (by decide), HB3.out.alloc HB3.out.size _⟩
          | true =>
            go_wp2_with fail
            go_ret
            exact ⟨_, rfl, by rw [HC.out]; exact eout_none _ _, HB3.out⟩
end Go.Proofs.YtehmkkccnadhoaaDoor
namespace Go.Proofs.YtehmkkccnadhoaaDoor
open Go.RowKit
open Tr

set_option maxRecDepth 100000 in
set_option maxHeartbeats 600000 in
theorem allgo_any (A : Option Addr) (n c : Nat) (ts : List Tn) (b : Bool) (w : World) (hr : TRd w w.heap.size A n ts) (hn : n ≤ 9223372036854775807) :
    Calls Tryd.prog 57 #[.slice A n c, .bool b] w fun e w' => e = .returned (.bool (ts.all fun x => x.r == b)) ∧ Below w.heap.size w w' := by
  have HR := Lib.hid hr
  have HL := Lib.hid hr.len
  clear hr
  go_enter Tryd.func57, Tryd.ntmps57
  go_wp2_with fail
  go_loopg [4, 9] n (fun gk s4 s9 wx => s9 = .int .i64 ((n - gk : Nat) : Int) ∧ gk ≤ n ∧ (ts.all fun x => x.r == b) = ((ts.drop (n - gk)).all fun x => x.r == b) ∧ Below w.heap.size w wx)
  case atStart => exact ⟨by rw [Nat.sub_self]; rfl, Nat.le_refl _, by rw [Nat.sub_self]; rfl, Below.refl _ _⟩
  case round =>
    obtain ⟨rfl, hgn, hall, hb⟩ := hrel
    have HALL := Lib.hid hall
    have HB := Lib.hid hb
    clear hall hb
    cases gk with
    | zero =>
      obtain ⟨z, hz⟩ : ∃ z : Nat, n - 0 = z := ⟨_, rfl⟩
      rw [hz]
      have hzn : ¬ z < n := by omega
      have hall : (ts.all fun x => x.r == b) = true := by
        rw [HALL.out, List.drop_of_length_le (by rw [HL.out]; omega)]
        rfl
      have HA := Lib.hid hall
      clear hz hall HALL
      go_wp2_with fail
      go_ret
      exact ⟨by rw [HA.out]; rfl, HB.out⟩
    | succ k =>
      obtain ⟨i, hi⟩ : ∃ i : Nat, n - (k + 1) = i := ⟨_, rfl⟩
      rw [hi] at HALL ⊢
      have hin : i < n := by omega
      have hk : n - k = i + 1 := by omega
      obtain ⟨x, hx⟩ : ∃ x, ts[i]? = some x := ⟨_, List.getElem?_eq_getElem (by rw [HL.out]; omega)⟩
      obtain ⟨g, o, rfl, hbb, hrg, hxo⟩ := (HR.out.below HB.out (Nat.le_refl _)).at_ hx
      have HX := Lib.hid (And.intro hx (And.intro hxo hk))
      have HRG := Lib.hid hrg
      have hz46 := zero46
      clear hx hrg hxo hk hi
      go_upto_region 3 with (fail)
      refine wp_region_lit ?_
      iterate 3 go_step
      refine wpList_load_mid rfl 46 (.tmp 11) rfl g (o + i * 35) rfl (tcells x) _ HRG.out Tryd.underlying46 rfl (by rw [tcells_len x HX.out.2.1.1]; exact info46) ?_
      simp only [Act.put, List.setIfInBounds_toArray, List.set_cons_zero, List.set_cons_succ]
      obtain ⟨X5, hX5⟩ : ∃ X5, (tcells x).toArray = X5 := ⟨_, rfl⟩
      rw [hX5]
      have HX5 := Lib.hid hX5
      clear hX5
      iterate 3 go_step
      clear hz46
      refine Sh.wpList_store_made rfl 46 (.tmp 6) (.tmp 12) rfl zt X5 rfl rfl ?_ ?_ ?_ ?_
      · rw [← HX5.out, List.size_toArray, tcells_len x HX.out.2.1.1]; exact info46
      · have h1 : X5.size = 35 := by rw [← HX5.out, List.size_toArray, tcells_len x HX.out.2.1.1]
        rw [h1]; rfl
      · rw [← HX5.out]; exact all_oneCell_toArray (tcells_one x)
      have hW5 : Whole (wr.alloc (.cells X5 46)) wr.heap.size 46 (tcells x).toArray := by rw [HX5.out]; exact Whole.made wr 46 X5
      have HB5 : Hid (Below w.heap.size w (wr.alloc (.cells X5 46))) := Lib.hid (HB.out.alloc HB.out.size _)
      have h52 := hW5.at_ (i := 2) (v := .bool x.r) rfl
      obtain ⟨g5, hg5⟩ : ∃ g5, wr.heap.size = g5 := ⟨_, rfl⟩
      rw [hg5] at h52 ⊢
      clear HRG hW5 hg5 HX5 HB
      generalize wr.alloc (.cells X5 46) = w5 at *
      obtain ⟨xr, hxr⟩ : ∃ xr, x.r = xr := ⟨_, rfl⟩
      rw [hxr] at h52
      have HXR := Lib.hid hxr
      clear hxr
      cases xr <;> cases b
      all_goals (first
        | (go_wp2_with fail
           go_ret
           refine ⟨?_, HB5.out⟩
           rw [HALL.out, drop_at HX.out.1, List.all_cons, HXR.out]
           rfl)
        | (go_wp2_with fail
           go_roundg k
           case measure => omega
           case rel =>
             refine ⟨by rw [HX.out.2.2]; rfl, by omega, ?_, HB5.out⟩
             rw [HALL.out, drop_at HX.out.1, List.all_cons, HXR.out, HX.out.2.2]
             rfl))
end Go.Proofs.YtehmkkccnadhoaaDoor
namespace Go.Proofs.YtehmkkccnadhoaaDoor
open Go.RowKit
open Tr

set_option maxRecDepth 100000 in
set_option maxHeartbeats 600000 in
theorem between_left (p : Pf) (g : Nat) (Y : Array Value) (w : World) (hW : Whole w g 26 Y) (hP : PfV w w.heap.size Y p) (hm : p.turns.length ≤ 1000) :
    Calls Tryd.prog 33 #[.agg #[.pointer (some ⟨g, 0, none⟩), .pointer none]] w fun e w' => e = .returned (.bool (p.turns.all fun x => x.r == true)) ∧ Below w.heap.size w w' := by
  obtain ⟨A, n, c, A', n', c', A2, m, k, rfl, k1, k2, k3, k4, k5, k6⟩ := hP
  have hb0 : Below w.heap.size w (w.alloc (.cells #[.pointer (some ⟨g, 0, none⟩), .pointer none] 31)) := (Below.refl _ _).alloc (Nat.le_refl _) _
  have HA := Lib.hid (allgo_any A2 m k p.turns true (w.alloc (.cells #[.pointer (some ⟨g, 0, none⟩), .pointer none] 31)) ((k5.below hb0 (Nat.le_refl _)).more hb0.size) (by have := k5.len; omega))
  have hw0 := Whole.made w 31 #[.pointer (some ⟨g, 0, none⟩), .pointer none]
  have d0 := hw0.at_ (i := 0) (v := .pointer (some ⟨g, 0, none⟩)) rfl
  have d1 := hw0.at_ (i := 1) (v := .pointer none) rfl
  have d2 := (hW.below hb0 hW.lt).at_ (i := 2) (v := .slice A2 m k) rfl
  have HB := Lib.hid hb0
  clear k1 k2 k3 k4 k5 k6 hW hw0 hb0
  go_enter Tryd.func33, Tryd.ntmps33
  go_upto_region 1 with (fail)
  generalize w.alloc (.cells #[.pointer (some ⟨g, 0, none⟩), .pointer none] 31) = w1 at *
  go_wp2_with fail
  refine HA.out.mono ?_
  rintro e w2 ⟨rfl, hb2⟩
  have HB2 := Lib.hid (HB.out.trans (hb2.mono HB.out.size))
  obtain ⟨bt, hbt⟩ : ∃ bt, (p.turns.all fun x => x.r == true) = bt := ⟨_, rfl⟩
  rw [hbt]
  have HBT := Lib.hid hbt
  clear hb2 HA HB hbt d0 d1 d2
  go_wp2_with fail
  go_ret
  exact ⟨by rw [HBT.out]; rfl, HB2.out⟩

def sideC (want key : List UInt8) (o : Option Pf) (order : Int) : Int :=
  match o with
  | none => 0
  | some p => if verifyC want p = 0 then (if Lib.compareBytes p.key key = order then 0 else 20) else verifyC want p
theorem side_none (want _key : List UInt8) (A : Option Addr) (n c : Nat) (order : Int) (w : World) : Calls Tryd.prog 34 #[.agg (Sh.bcells want), .slice A n c, .pointer none, .int .i64 order] w (EPost 2 0 w) := by
  have hb0 : Below w.heap.size w (w.alloc (.cells (Sh.bcells want) 44)) := (Below.refl _ _).alloc (Nat.le_refl _) _
  have HB := Lib.hid hb0
  clear hb0
  go_enter Tryd.func34, Tryd.ntmps34
  go_upto_region 1 with (fail)
  generalize w.alloc (.cells (Sh.bcells want) 44) = w1 at *
  go_wp2_with fail
  go_ret
  exact ⟨_, rfl, eout_none _ _, HB.out⟩

set_option maxRecDepth 100000 in
set_option maxHeartbeats 600000 in
theorem side_some (want key : List UInt8) (p : Pf) (g : Nat) (Y : Array Value) (A0 : Option Addr) (n0 c0 : Nat) (order : Int) (w : World) (hk : Rd w w.heap.size A0 n0 key) (hW : Whole w g 26 Y) (hP : PfV w w.heap.size Y p) (hl : want.length = 32) (ht : Sh.Tab w 2) (hw : 2 < w.heap.size) :
    Calls Tryd.prog 34 #[.agg (Sh.bcells want), .slice A0 n0 c0, .pointer (some ⟨g, 0, none⟩), .int .i64 order] w (EPost 2 (sideC want key (some p) order) w) := by
  have hP0 := hP
  obtain ⟨A, n, c, A', n', c', A2, m, k, rfl, k1, k2, k3, k4, k5, k6⟩ := hP
  have hb0 : Below w.heap.size w (w.alloc (.cells (Sh.bcells want) 44)) := (Below.refl _ _).alloc (Nat.le_refl _) _
  have hw0 := Whole.made w 44 (Sh.bcells want)
  have HB := Lib.hid hb0
  have HW0 := Lib.hid hw0
  have HW := Lib.hid (hW.below hb0 hW.lt)
  have HP := Lib.hid (hP0.on hb0)
  have HK := Lib.hid ((hk.below hb0 (Nat.le_refl _)).more hb0.size)
  have HKA := Lib.hid ((k1.below hb0 (Nat.le_refl _)).more hb0.size)
  have HT := Lib.hid (Sh.tab_below ht hb0 hw)
  have HL := Lib.hid hl
  have HSZ : Hid (2 < (w.alloc (.cells (Sh.bcells want) 44)).heap.size) := Lib.hid (by have := hb0.size; omega)
  clear hP0 k1 k2 k3 k4 k5 k6 hb0 hw0 hW hk ht hl
  go_enter Tryd.func34, Tryd.ntmps34
  go_upto_region 3 with (fail)
  generalize w.alloc (.cells (Sh.bcells want) 44) = w1 at *
  have hbd : Below w1.heap.size w1 w1.drew := (Below.refl _ _).drew
  have HV := Lib.hid (verify_any _ p want w1.drew (HP.out.below hbd (Nat.le_refl _)) HL.out (Sh.tab_below HT.out hbd HSZ.out) HSZ.out)
  have HWd : Hid (Whole w1.drew g 26 #[.slice A n c, .slice A' n' c', .slice A2 m k]) := Lib.hid HW.out
  have HBd : Hid (Below w.heap.size w w1.drew) := Lib.hid HB.out.drew
  have HKd : Hid (Rd w1.drew w1.drew.heap.size A0 n0 key) := Lib.hid (HK.out.below hbd (Nat.le_refl _))
  have HKAd : Hid (Rd w1.drew w1.drew.heap.size A n p.key) := Lib.hid (HKA.out.below hbd (Nat.le_refl _))
  have hS0 : w1.drew.rangeAt w.heap.size 0 (want.map V8) ∧ w1.drew.rangeAt g 0 [.slice A n c, .slice A' n' c', .slice A2 m k] := ⟨HW0.out.range, HW.out.range⟩
  have HI : Hid ((Tryd.prog.info? 44).map (·.size) = some (want.map V8).length) := Lib.hid (by rw [List.length_map, HL.out]; exact info49)
  have HSW : Hid (w.heap.size < w1.drew.heap.size) := Lib.hid HW0.out.lt
  clear hbd HP HT HW HB HK HKA HW0
  refine wp_region_held_drew (S := fun u => u.rangeAt w.heap.size 0 (want.map V8) ∧ u.rangeAt g 0 [.slice A n c, .slice A' n' c', .slice A2 m k]) (by kernel_rfl) hS0 (fun hHeld => ?_)
  refine wpAnyH_take (i := 0) (oi := { dst := some 12, op := Op.load 44 (Operand.tmp 4), type := 44, pos := "verify.go:89", after := #[], guard := none }) (v := .agg (want.map V8).toArray) rfl (by kernel_rfl) (by kernel_rfl) (by kernel_rfl) (fun _ _ _ h => h) (yieldsIf_load_mid (by rfl) 44 (.tmp 4) rfl w.heap.size 0 rfl (want.map V8) _ (fun _ h => h.1) Tryd.underlying44 rfl HI.out) (by assumption) ?_
  simp only [Act.put, List.setIfInBounds_toArray, List.set_cons_zero, List.set_cons_succ]
  refine wpAnyH_take (i := 1) (oi := { dst := some 13, op := Op.move (Operand.tmp 2), type := 29, pos := "verify.go:89", after := #[], guard := none }) (v := ?_) rfl (by kernel_rfl) (by kernel_rfl) (by kernel_rfl) (fun _ _ _ h => h) (Or.inl ⟨by rfl, ?_⟩) (by assumption) ?_
  rotate_left
  · first | (intro w hSw; (try dsimp only at hSw); go_simp; done) | (intro w hSw; (try dsimp only at hSw); go_simp; with_reducible rfl)
  simp only [Act.put, List.setIfInBounds_toArray, List.set_cons_zero, List.set_cons_succ]
  refine wpAnyH_take (i := 2) (oi := { dst := some 14, op := Op.nilCheck (Operand.tmp 13), type := 0, pos := "verify.go:89", after := #[{ on := 1, ground := Ground.data }], guard := none }) (v := ?_) rfl (by kernel_rfl) (by kernel_rfl) (by kernel_rfl) (fun _ _ _ h => h) (Or.inl ⟨by rfl, ?_⟩) (by assumption) ?_
  rotate_left
  · first | (intro w hSw; (try dsimp only at hSw); go_simp; done) | (intro w hSw; (try dsimp only at hSw); go_simp; with_reducible rfl)
  simp only [Act.put, List.setIfInBounds_toArray, List.set_cons_zero, List.set_cons_succ]
  refine wpAnyH_take (i := 3) (oi := { dst := some 15, op := Op.load 26 (Operand.tmp 14), type := 26, pos := "verify.go:89", after := #[{ on := 2, ground := Ground.data }], guard := none }) (v := .agg #[.slice A n c, .slice A' n' c', .slice A2 m k]) rfl (by kernel_rfl) (by kernel_rfl) (by kernel_rfl) (fun _ _ _ h => h) (yieldsIf_load_mid (by rfl) 26 (.tmp 14) rfl g 0 rfl [.slice A n c, .slice A' n' c', .slice A2 m k] _ (fun _ h => h.2) Tryd.underlying26 rfl info26) (by assumption) ?_
  simp only [Act.put, List.setIfInBounds_toArray, List.set_cons_zero, List.set_cons_succ]
  obtain ⟨Y2, hY2⟩ : ∃ Y2, (want.map V8).toArray = Y2 := ⟨_, rfl⟩
  have HV2 : Hid (Calls Tryd.prog 11 #[.agg Y2, .agg #[.slice A n c, .slice A' n' c', .slice A2 m k]] w1.drew (EPost 2 (verifyC want p) w1.drew)) := Lib.hid (by rw [← hY2]; exact HV.out)
  rw [hY2]
  clear hY2 HV hHeld
  generalize w1.drew = w2 at *
  refine wpAnyH_ready (rs := [4]) (by kernel_rfl) (by simp) ?_
  refine AllReadyH.cons rfl (fun K hK => ?_) AllReadyH.nil
  go_simp
  refine HV2.out.mono ?_
  rintro e w3 ⟨v, rfl, hev, hb3⟩
  have HB3 := Lib.hid (HBd.out.trans (hb3.mono HBd.out.size))
  have hS3 : w3.rangeAt w.heap.size 0 (want.map V8) ∧ w3.rangeAt g 0 [.slice A n c, .slice A' n' c', .slice A2 m k] := ⟨range_keep hS0.1 hb3 HSW.out, (HWd.out.below hb3 HWd.out.lt).range⟩
  refine hK.out _ _ hS3 (fun _ => ?_)
  have HW3 := Lib.hid (HWd.out.below hb3 HWd.out.lt)
  have HK3 := Lib.hid ((HKd.out.below hb3 (Nat.le_refl _)).more hb3.size)
  have HKA3 := Lib.hid ((HKAd.out.below hb3 (Nat.le_refl _)).more hb3.size)
  clear hK K hb3 HV2 HWd HBd HKd HKAd hS0 HI
  refine wpAnyH_take (i := 5) (oi := { dst := some 9, op := Op.assign (Operand.tmp 16), type := 48, pos := "verify.go:89", after := #[{ on := 4, ground := Ground.data }, { on := 4, ground := Ground.chain }, { on := 0, ground := Ground.phase }, { on := 1, ground := Ground.phase }, { on := 2, ground := Ground.phase }, { on := 3, ground := Ground.phase }, { on := 4, ground := Ground.phase }], guard := none }) (v := ?_) rfl (by kernel_rfl) (by kernel_rfl) (by kernel_rfl) (fun _ _ _ h => h) (Or.inl ⟨by rfl, ?_⟩) (by assumption) ?_
  rotate_left
  · first | (intro w hSw; (try dsimp only at hSw); go_simp; done) | (intro w hSw; (try dsimp only at hSw); go_simp; with_reducible rfl)
  simp only [Act.put, List.setIfInBounds_toArray, List.set_cons_zero, List.set_cons_succ]
  refine wpAnyH_done (by kernel_rfl) ?_ _
  clear hS3
  have d0 := HW3.out.at_ (i := 0) (v := .slice A n c) rfl
  rcases hev with ⟨hc, rfl⟩ | ⟨hc, er, rfl, hin, hcode, hd⟩
  · have HC : Hid (sideC want key (some p) order = if Lib.compareBytes p.key key = order then 0 else 20) := Lib.hid (by simp only [sideC]; rw [if_pos hc])
    have HQ := Lib.hid (compare_any A A0 n c n0 c0 w3.heap.size w3.heap.size p.key key w3 HKA3.out HK3.out)
    clear hc HW3 HK3 HKA3
    have hn1 := Fl.nilEqN
    go_wp2_with fail
    refine HQ.out.mono ?_
    rintro e wq ⟨rfl, rfl⟩
    clear HQ hn1
    obtain ⟨cb, hcb⟩ : ∃ cb, Lib.compareBytes p.key key = cb := ⟨_, rfl⟩
    rw [hcb] at HC ⊢
    clear hcb
    by_cases ho : cb = order
    · have HC0 : Hid (sideC want key (some p) order = 0) := Lib.hid (by rw [HC.out, if_pos ho])
      subst ho
      go_wp2_with fail
      go_ret
      exact ⟨_, rfl, by rw [HC0.out]; exact eout_none _ _, HB3.out⟩
    · have HC0 : Hid (sideC want key (some p) order = 20) := Lib.hid (by rw [HC.out, if_neg ho])
      have hob : (cb == order) = false := by rw [beq_eq_false_iff_ne]; exact ho
      go_wp2_with fail
      refine (Fl.at_some _ _ _ _ _).mono ?_
      rintro e we ⟨rfl, rfl⟩
      go_wp2_with fail
      go_ret
      exact ⟨_, rfl, by rw [HC0.out]; exact eout_step _ _ _ _ (by decide), HB3.out.alloc HB3.out.size _⟩
  · have HC : Hid (sideC want key (some p) order = verifyC want p) := Lib.hid (by simp only [sideC]; rw [if_neg hc])
    obtain ⟨tv, xv, hv⟩ := er.val_iface
    have HE : Hid (EOut 2 (verifyC want p) w3 (.iface tv xv)) := Lib.hid (by rw [← hv]; exact .inr ⟨hc, er, rfl, hin, hcode, hd⟩)
    rw [hv]
    have hn1 := Fl.nilEq tv xv
    clear hc hin hcode hd hv HW3 HK3 HKA3
    go_wp2_with fail
    go_ret
    exact ⟨_, rfl, by rw [HC.out]; exact HE.out, HB3.out⟩
end Go.Proofs.YtehmkkccnadhoaaDoor
namespace Go.Proofs.YtehmkkccnadhoaaDoor
open Go.RowKit
open Tr

theorem eout_wider {d : Nat} {c : Int} {w : World} {v : Value} (h : EOut d c w v) : EOut (d + 1) c w v := by
  rcases h with h | ⟨hc, e, h1, h2, h3, h4⟩
  · exact .inl h
  · exact .inr ⟨hc, e, h1, h2, h3, by omega⟩
def sidesC (want key : List UInt8) (l r : Option Pf) (bt : Bool) : Int :=
  if bt = false then 20 else if sideC want key l (-1) = 0 then sideC want key r 1 else sideC want key l (-1)
def gapC (want key : List UInt8) (l r : Option Pf) (bt : Bool) : Int :=
  if (decide (1 ≤ key.length) && decide (key.length ≤ 96)) = false then 10
  else match l, r with
  | none, none => if (want == Sh.Sha.sum []) = false then 21 else 0
  | some a, none => sidesC want key (some a) none bt
  | none, some b => sidesC want key none (some b) bt
  | some a, some b => sidesC want key (some a) (some b) bt

set_option maxRecDepth 100000 in
set_option maxHeartbeats 1000000 in
theorem gap_left (want key : List UInt8) (p1 : Pf) (g1 : Nat) (Y1 : Array Value) (A0 : Option Addr) (n0 c0 : Nat) (w : World) (hk : Rd w w.heap.size A0 n0 key) (hW1 : Whole w g1 26 Y1) (hP1 : PfV w w.heap.size Y1 p1) (hl : want.length = 32) (ht : Sh.Tab w 2) (hw : 2 < w.heap.size) (bt : Bool)
    (hbt : ∀ w', Below w.heap.size w w' → Calls Tryd.prog 33 #[.agg #[.pointer (some ⟨g1, 0, none⟩), .pointer none]] w' fun e w'' => e = .returned (.bool bt) ∧ Below w'.heap.size w' w'') :
    Calls Tryd.prog 15 #[.agg (Sh.bcells want), .slice A0 n0 c0, .agg #[.pointer (some ⟨g1, 0, none⟩), .pointer none]] w (EPost 3 (gapC want key (some p1) (none) bt) w) := by
  have hb0 : Below w.heap.size w ((w.alloc (.cells (Sh.bcells want) 44)).alloc (.cells #[.pointer (some ⟨g1, 0, none⟩), .pointer none] 31)) := ((Below.refl _ _).alloc (Nat.le_refl _) _).alloc (by simp) _
  have hw0 := (Whole.made w 44 (Sh.bcells want)).alloc (.cells #[.pointer (some ⟨g1, 0, none⟩), .pointer none] 31)
  have hg0 := Whole.made (w.alloc (.cells (Sh.bcells want) 44)) 31 #[.pointer (some ⟨g1, 0, none⟩), .pointer none]
  rw [size_alloc] at hg0
  have HBT := Lib.hid hbt
  have HL := Lib.hid hl
  have HN := Lib.hid hk.len
  have HK := Lib.hid hk
  have HA := Lib.hid hW1
  have HPA := Lib.hid hP1
  have HT := Lib.hid ht
  have HSZ := Lib.hid hw
  have HB := Lib.hid (Below.refl w.heap.size w)
  have HW0 := Lib.hid hw0
  have HG0 := Lib.hid hg0
  have d0 := hg0.at_ (i := 0) (v := .pointer (some ⟨g1, 0, none⟩)) rfl
  have d1 := hg0.at_ (i := 1) (v := .pointer none) rfl
  have HK0 := Lib.hid ((HK.out.below hb0 (Nat.le_refl _)).more hb0.size)
  have HA0 := Lib.hid (HA.out.below hb0 HA.out.lt)
  have HPA0 := Lib.hid (HPA.out.on hb0)
  have HT0 := Lib.hid (Sh.tab_below HT.out hb0 HSZ.out)
  have HSZ0 := Lib.hid (Nat.lt_of_lt_of_le HSZ.out hb0.size)
  have HB0 := Lib.hid (HB.out.trans (hb0.mono HB.out.size))
  clear HK HT HSZ  HB HA HPA
  clear hb0 hw0 hg0 hbt hl hk hW1 hP1  ht
  go_enter Tryd.func15, Tryd.ntmps15
  go_upto_region 1 with (fail)
  generalize (w.alloc (.cells (Sh.bcells want) 44)).alloc (.cells #[.pointer (some ⟨g1, 0, none⟩), .pointer none] 31) = w1 at *
  go_wp2_with fail
  refine (maybe_any _ _ _ _).mono ?_
  rintro e wq ⟨rfl, rfl⟩
  obtain ⟨mb, hmb⟩ : ∃ mb, (decide (1 ≤ n0) && decide (n0 ≤ 96)) = mb := ⟨_, rfl⟩
  rw [hmb]
  have HMB := Lib.hid hmb
  clear hmb
  cases mb with
  | false =>
    have HC : Hid (gapC want key (some p1) (none) bt = 10) := Lib.hid (by
      rw [gapC, if_pos (by rw [HN.out]; exact HMB.out)])
    go_wp2_with fail
    refine (Fl.at_some _ _ _ _ _).mono ?_
    rintro e we ⟨rfl, rfl⟩
    go_wp2_with fail
    go_ret
    exact ⟨_, rfl, by rw [HC.out]; exact eout_wider (eout_step _ _ _ _ (by decide)), HB0.out.alloc HB0.out.size _⟩
  | true =>
    have HC1 : Hid (gapC want key (some p1) (none) bt = sidesC want key (some p1) (none) bt) := Lib.hid (by
      rw [gapC, if_neg (by rw [HN.out, HMB.out]; decide)])
    go_upto_region 5 with (fail)
    refine wp_region_lit ?_
    refine wpList_load_mid rfl 31 (.tmp 5) rfl (w.heap.size + 1) 0 rfl [.pointer (some ⟨g1, 0, none⟩), .pointer none] _ HG0.out.range Tryd.underlying31 rfl info31 ?_
    simp only [Act.put, List.setIfInBounds_toArray, List.set_cons_zero, List.set_cons_succ]
    go_wp2_with fail
    refine (HBT.out w1 HB0.out).mono ?_
    rintro e w2 ⟨rfl, hb2⟩
    clear d0 d1
    have HK2 := Lib.hid ((HK0.out.below hb2 (Nat.le_refl _)).more hb2.size)
    have HA2 := Lib.hid (HA0.out.below hb2 HA0.out.lt)
    have HPA2 := Lib.hid (HPA0.out.on hb2)
    have HT2 := Lib.hid (Sh.tab_below HT0.out hb2 HSZ0.out)
    have HSZ2 := Lib.hid (Nat.lt_of_lt_of_le HSZ0.out hb2.size)
    have HW2 := Lib.hid (HW0.out.below hb2 HW0.out.lt)
    have HG2 := Lib.hid (HG0.out.below hb2 HG0.out.lt)
    have HB2 := Lib.hid (HB0.out.trans (hb2.mono HB0.out.size))
    clear HK0 HT0 HSZ0 HW0 HG0 HB0 HA0 HPA0
    clear hb2
    cases bt with
    | false =>
      have HC : Hid (gapC want key (some p1) (none) false = 20) := Lib.hid (by rw [HC1.out]; rfl)
      go_wp2_with fail
      refine (Fl.at_some _ _ _ _ _).mono ?_
      rintro e we ⟨rfl, rfl⟩
      go_wp2_with fail
      go_ret
      exact ⟨_, rfl, by rw [HC.out]; exact eout_wider (eout_step _ _ _ _ (by decide)), HB2.out.alloc HB2.out.size _⟩
    | true =>
      have HS2 := Lib.hid (side_some want key p1 g1 Y1 A0 n0 c0 (-1) w2 HK2.out HA2.out HPA2.out HL.out HT2.out HSZ2.out)
      have HI : Hid ((Tryd.prog.info? 44).map (·.size) = some (want.map V8).length) := Lib.hid (by rw [List.length_map, HL.out]; exact info49)
      have d0 := HG2.out.at_ (i := 0) (v := .pointer (some ⟨g1, 0, none⟩)) rfl
      go_upto_region 7 with (fail)
      refine wp_region_lit ?_
      refine wpList_load_mid rfl 44 (.tmp 3) rfl w.heap.size 0 rfl (want.map V8) _ HW2.out.range Tryd.underlying44 rfl HI.out ?_
      simp only [Act.put, List.setIfInBounds_toArray, List.set_cons_zero, List.set_cons_succ]
      change Hid (Calls Tryd.prog 34 #[.agg (want.map V8).toArray, _, _, _] w2 _) at HS2
      obtain ⟨Z, hZ⟩ : ∃ Z, (want.map V8).toArray = Z := ⟨_, rfl⟩
      rw [hZ] at HS2 ⊢
      clear hZ
      go_wp2_with fail
      refine HS2.out.mono ?_
      rintro e w3 ⟨v, rfl, hev, hb3⟩
      have HK3 := Lib.hid ((HK2.out.below hb3 (Nat.le_refl _)).more hb3.size)
      have HA3 := Lib.hid (HA2.out.below hb3 HA2.out.lt)
      have HPA3 := Lib.hid (HPA2.out.on hb3)
      have HT3 := Lib.hid (Sh.tab_below HT2.out hb3 HSZ2.out)
      have HSZ3 := Lib.hid (Nat.lt_of_lt_of_le HSZ2.out hb3.size)
      have HW3 := Lib.hid (HW2.out.below hb3 HW2.out.lt)
      have HG3 := Lib.hid (HG2.out.below hb3 HG2.out.lt)
      have HB3 := Lib.hid (HB2.out.trans (hb3.mono HB2.out.size))
      clear HK2 HT2 HSZ2 HW2 HG2 HB2 HA2 HPA2
      clear hb3 HS2 d0
      rcases hev with ⟨hc, rfl⟩ | ⟨hc, er, rfl, hin, hcode, hd⟩
      · have HC : Hid (gapC want key (some p1) (none) true = sideC want key (none) 1) := Lib.hid (by rw [HC1.out]; simp only [sidesC]; rw [if_pos hc]; rfl)
        clear hc
        have hn1 := Fl.nilEqN
        have HS3 := Lib.hid (side_none want key A0 n0 c0 1 w3)
        have d1 := HG3.out.at_ (i := 1) (v := .pointer none) rfl
        go_upto_region 10 with (fail)
        refine wp_region_lit ?_
        refine wpList_load_mid rfl 44 (.tmp 3) rfl w.heap.size 0 rfl (want.map V8) _ HW3.out.range Tryd.underlying44 rfl HI.out ?_
        simp only [Act.put, List.setIfInBounds_toArray, List.set_cons_zero, List.set_cons_succ]
        change Hid (Calls Tryd.prog 34 #[.agg (want.map V8).toArray, _, _, _] w3 _) at HS3
        obtain ⟨Z, hZ⟩ : ∃ Z, (want.map V8).toArray = Z := ⟨_, rfl⟩
        rw [hZ] at HS3 ⊢
        clear hZ hn1
        go_wp2_with fail
        refine HS3.out.mono ?_
        rintro e w4 ⟨v, rfl, hev, hb4⟩
        have HB4 := Lib.hid (HB3.out.trans (hb4.mono HB3.out.size))
        have HQ := fun s n => Lib.hid (wrap_any 2 _ v s n w4 hev)
        clear hb4 HS3 hev d1
        go_wp2_with fail
        refine (HQ _ _).out.mono ?_
        rintro e w5 ⟨v5, rfl, hev5, hb5⟩
        have HE5 := Lib.hid (And.intro hev5 (HB4.out.trans (hb5.mono HB4.out.size)))
        clear hb5 hev5 HQ
        go_wp2_with fail
        go_ret
        exact ⟨_, rfl, by rw [HC.out]; exact HE5.out.1, HE5.out.2⟩
      · have HC : Hid (gapC want key (some p1) (none) true = sideC want key (some p1) (-1)) := Lib.hid (by rw [HC1.out]; simp only [sidesC]; rw [if_neg hc]; rfl)
        obtain ⟨tv, xv, hv⟩ := er.val_iface
        have hE : EOut 2 (sideC want key (some p1) (-1)) w3 (.iface tv xv) := by rw [← hv]; exact .inr ⟨hc, er, rfl, hin, hcode, hd⟩
        have HQ := fun s n => Lib.hid (wrap_any 2 _ _ s n w3 hE)
        rw [hv]
        have hn1 := Fl.nilEq tv xv
        clear hc hin hcode hd hv hE
        go_wp2_with fail
        refine (HQ _ _).out.mono ?_
        rintro e w5 ⟨v5, rfl, hev5, hb5⟩
        have HE5 := Lib.hid (And.intro hev5 (HB3.out.trans (hb5.mono HB3.out.size)))
        clear hb5 hev5 HQ hn1
        go_wp2_with fail
        go_ret
        exact ⟨_, rfl, by rw [HC.out]; exact HE5.out.1, HE5.out.2⟩

end Go.Proofs.YtehmkkccnadhoaaDoor
namespace Go.Proofs.YtehmkkccnadhoaaDoor
open Go.RowKit
open Tr
def awT : T := .node (.leaf [97] [49]) (.leaf [98] [50])
theorem awT_grown : oput (some (oput none [97] [49])) [98] [50] = awT := by rfl
def pB : Pf := proofTo [98] awT
theorem made_awT : made (some awT) [98] = (pB, true) := by rfl
theorem gap_awT : gapTo (some awT) [99] = ((some pB, none), true) := by rfl
theorem awT_one : pB.turns.length = 1 := by rfl
theorem pB_ok : okT pB.turns = true := by rfl
theorem pB_lead : leadP pB = awT.sum := by rfl
theorem pB_all : (pB.turns.all fun x => x.r == true) = true := by rfl
theorem awT_far : (awT.sum == Sh.Sha.sum []) = false := by kernel_rfl
theorem pB_empty : verifyC (Sh.Sha.sum []) pB = 21 := by
  have h : (leadP pB == Sh.Sha.sum []) = false := by rw [pB_lead]; exact awT_far
  rw [verifyC, if_neg (by rw [awT_one]; decide), if_neg (by decide), if_neg (by decide), if_neg (by rw [pB_ok]; decide), if_pos h]
theorem pB_good : verifyC awT.sum pB = 0 := by
  have h : (leadP pB == awT.sum) = true := by rw [pB_lead]; exact beq_self_eq_true _
  rw [verifyC, if_neg (by rw [awT_one]; decide), if_neg (by decide), if_neg (by decide), if_neg (by rw [pB_ok]; decide), if_neg (by rw [h]; decide)]
theorem gap_good : gapC awT.sum [99] (some pB) none true = 0 := by
  have h : sideC awT.sum [99] (some pB) (-1) = 0 := by
    simp only [sideC]
    rw [if_pos pB_good, if_pos (by rfl)]
  show (if _ then _ else _) = _
  rw [if_neg (by decide)]
  simp only [sidesC]
  rw [if_neg (by decide), if_pos h]
  rfl
end Go.Proofs.YtehmkkccnadhoaaDoor
namespace Go.Proofs.YtehmkkccnadhoaaDoor
open Go.RowKit
open Tr

/-- A constant row of one byte. -/
def row1 (x : UInt8) : Obj := .cells #[.int .u8 x.toNat] 5 (1, 2)
theorem one_byte (w : World) (x : UInt8) : Rd (w.alloc (row1 x)) (w.alloc (row1 x)).heap.size (some ⟨w.heap.size, 0, none⟩) 1 [x] := by
  refine Rd.mk_ rfl _ _ (by simp) fun j v hv => ?_
  cases j with
  | zero =>
    injection hv with hv
    subst hv
    have h : (w.alloc (row1 x)).heap[w.heap.size]? = some (row1 x) := heap_alloc_last w _
    unfold World.cell?
    rw [h]
    rfl
  | succ j => simp at hv
theorem byte_ex (w : World) (x : UInt8) : ∃ w', w' = w.alloc (row1 x) ∧ Rd w' w'.heap.size (some ⟨w.heap.size, 0, none⟩) 1 [x] ∧ Below w.heap.size w w' ∧ w'.heap.size = w.heap.size + 1 :=
  ⟨_, rfl, one_byte w x, (Below.refl _ _).alloc (Nat.le_refl _) _, size_alloc _ _⟩
/-- Two of them. -/
theorem two_bytes (w : World) (x y : UInt8) : ∃ w', w' = (w.alloc (row1 x)).alloc (row1 y) ∧ Rd w' w'.heap.size (some ⟨w.heap.size, 0, none⟩) 1 [x] ∧ Rd w' w'.heap.size (some ⟨w.heap.size + 1, 0, none⟩) 1 [y] ∧ Below w.heap.size w w' ∧ w'.heap.size = w.heap.size + 2 := by
  refine ⟨_, rfl, ?_, ?_, ((Below.refl _ _).alloc (Nat.le_refl _) _).alloc (by simp) _, by simp⟩
  · exact ((one_byte w x).below ((Below.refl _ _).alloc (Nat.le_refl _) _) (Nat.le_refl _)).more (by simp)
  · have h := one_byte (w.alloc (row1 x)) y
    have e : (w.alloc (row1 x)).heap.size = w.heap.size + 1 := size_alloc _ _
    rw [e] at h
    exact h
theorem conv_two (w : World) (C D : Array Value) (m : Nat × Nat) (n c : Nat) :
    (convert 22 22 (.slice (some ⟨w.heap.size + 1, 0, none⟩) n c)).run Tryd.prog ((w.alloc (.cells D 5 m)).alloc (.cells C 5)) = .ok (.slice (some ⟨w.heap.size + 1, 0, none⟩) n c) ((w.alloc (.cells D 5 m)).alloc (.cells C 5 (C.size, C.size + 1))) := by
  have h := Lib.run_convert_bytes_const (P := Tryd.prog) (w.alloc (.cells D 5 m)) 22 5 C n c Tryd.underlying22 Tryd.underlying5
  rwa [size_alloc] at h
/-- The conversion of a constant row that lies anywhere. -/
theorem conv_any (w : World) (g : Nat) (x : UInt8) (n c : Nat) (h : w.heap[g]? = some (.cells #[.int .u8 x.toNat] 5 (0, 0))) :
    ∃ w', (convert 22 22 (.slice (some ⟨g, 0, none⟩) n c)).run Tryd.prog w = .ok (.slice (some ⟨g, 0, none⟩) n c) w' ∧ Below g w w' ∧ w'.heap[g]? = some (row1 x) ∧ w'.heap.size = w.heap.size := by
  have hg : g < w.heap.size := (Array.getElem?_eq_some_iff.1 h).1
  have hsh : w.shape? g = some (5, 1) := by
    unfold World.shape?
    rw [h]
    rfl
  refine ⟨w.freeze ⟨g, 1, none⟩ 1, ?_, ⟨rfl, rfl, rfl, ?_, fun k hk => ?_⟩, ?_, ?_⟩
  · simp [convert, run_underlying Tryd.underlying22, run_underlying Tryd.underlying5, markStringish, hsh]
  · unfold World.freeze
    simp
  · unfold World.freeze
    simp only [Nat.one_ne_zero, if_false]
    rw [Array.getElem?_modify, if_neg (by omega)]
  · unfold World.freeze
    simp only [Nat.one_ne_zero, if_false]
    rw [Array.getElem?_modify, if_pos rfl, h]
    rfl
  · unfold World.freeze
    simp
theorem row_read {w : World} {g : Nat} {x : UInt8} (h : w.heap[g]? = some (row1 x)) : Rd w w.heap.size (some ⟨g, 0, none⟩) 1 [x] := by
  refine Rd.mk_ rfl _ _ (Array.getElem?_eq_some_iff.1 h).1 fun j v hv => ?_
  cases j with
  | zero =>
    injection hv with hv
    subst hv
    unfold World.cell?
    rw [h]
    rfl
  | succ j => simp at hv
theorem tin_on {G : Nat → Prop} {w w' : World} {o : Option T} {g : Nat} (h : TIn G w w.heap.size o g) (hb : Below w.heap.size w w') : TIn G w' w'.heap.size o g := (h.below hb (Nat.le_refl _)).more hb.size
theorem laid_below {w w' : World} (h : Fl.Laid w) (hb : Below w.heap.size w w') (hw : 2 < w.heap.size) : Fl.Laid w' := (hb.cell (p := ⟨0, 0, none⟩) (by show 0 < w.heap.size; omega)).trans h
theorem zero26 : ∀ w, (zeroValue 26).run Tryd.prog w = .ok (.agg #[.slice none 0 0, .slice none 0 0, .slice none 0 0]) w := (zero_of_info (P := Tryd.prog) (t := 26) (v := .agg #[.slice none 0 0, .slice none 0 0, .slice none 0 0]) (n := 3) (by kernel_rfl)).1

set_option maxRecDepth 100000 in
set_option maxHeartbeats 2000000 in
theorem proofAwake_any (w : World) (ht : Sh.Tab w 2) (hg : Fl.Laid w) (hw : 2 < w.heap.size) : Calls Tryd.prog 4 #[] w fun e w' => e = .returned (.bool true) ∧ Below w.heap.size w w' := by
  have HT := Lib.hid ht
  have HLD := Lib.hid hg
  clear ht hg
  have kc := fun (w : World) (C : Array Value) (n c : Nat) => Lib.run_convert_bytes_const (P := Tryd.prog) w 22 5 C n c Tryd.underlying22 Tryd.underlying5
  have kc2 := conv_two
  go_enter Tryd.func4, Tryd.ntmps4
  go_wp2_with fail
  refine (new_any (G := All) w (room hw)).mono ?_
  rintro e w1 ⟨g, rfl, hg, hT, hb1⟩
  have HT1 := Lib.hid hT
  have HB1 := Lib.hid hb1
  have hs1 := hb1.size
  clear hT hb1
  rw [ptr_some]
  go_wp2_with fail
  obtain ⟨w2, e2, ra, rv, hb2, hs2⟩ := two_bytes w1 97 49
  change _ = (w1.alloc (.cells #[.int .u8 97] 5 (1, 2))).alloc (.cells #[.int .u8 49] 5 (1, 2)) at e2
  rw [← e2]
  have HP := Lib.hid (put_any (G := All) none g (some ⟨w1.heap.size, 0, none⟩) (some ⟨w1.heap.size + 1, 0, none⟩) 1 1 1 1 [97] [49] w2 (tin_on HT1.out hb2) ra rv (by omega) (by omega) (by omega) (by decide) (Sh.tab_below HT.out (HB1.out.trans (hb2.mono hs1)) hw) (room (by omega)))
  rw [ptr_some] at HP
  have HB2 := Lib.hid (HB1.out.trans (hb2.mono hs1))
  have hsw2 : w.heap.size < w2.heap.size := by omega
  clear e2 ra rv hb2 hs2 HB1 HT1 hs1 hg
  refine HP.out.mono ?_
  rintro e w3 ⟨g3, rfl, -, hT3, hb3⟩
  have HT3 := Lib.hid hT3
  have HB3 := Lib.hid (HB2.out.trans (hb3.mono (by omega)))
  have hs3 : w.heap.size < w3.heap.size := by have := hb3.size; omega
  clear hT3 hb3 HP HB2 hsw2
  rw [ptr_some]
  go_wp2_with fail
  obtain ⟨w4, e4, ra, rv, hb4, hs4⟩ := two_bytes w3 98 50
  change _ = (w3.alloc (.cells #[.int .u8 98] 5 (1, 2))).alloc (.cells #[.int .u8 50] 5 (1, 2)) at e4
  rw [← e4]
  have HP := Lib.hid (put_any (G := All) (some (oput none [97] [49])) g3 (some ⟨w3.heap.size, 0, none⟩) (some ⟨w3.heap.size + 1, 0, none⟩) 1 1 1 1 [98] [50] w4 (tin_on HT3.out hb4) ra rv (by omega) (by omega) (by omega) (by decide) (Sh.tab_below HT.out (HB3.out.trans (hb4.mono (by omega))) hw) (room (by omega)))
  rw [ptr_some, awT_grown] at HP
  have HB4 := Lib.hid (HB3.out.trans (hb4.mono (by omega)))
  have hsw4 : w.heap.size < w4.heap.size := by omega
  clear e4 ra rv hb4 hs4 HB3 HT3 hs3
  refine HP.out.mono ?_
  rintro e w5 ⟨g5, rfl, -, hT5, hb5⟩
  have HT5 := Lib.hid hT5
  have HB5 := Lib.hid (HB4.out.trans (hb5.mono (by omega)))
  have hs5 : w.heap.size < w5.heap.size := by have := hb5.size; omega
  clear hT5 hb5 HP HB4 hsw4
  rw [ptr_some]
  go_wp2_with fail
  obtain ⟨w6, e6, ra, hb6, hs6⟩ := byte_ex w5 98
  change _ = w5.alloc (.cells #[.int .u8 98] 5 (1, 2)) at e6
  rw [← e6]
  have HM := Lib.hid (make_any (G := All) (some (some awT)) (some g5) (some ⟨w5.heap.size, 0, none⟩) 1 1 [98] w6 ⟨g5, rfl, tin_on HT5.out hb6⟩ ra (fun t e => by injection e with e; subst e; decide))
  rw [ptr_some, show topOf (some (some awT)) = some awT from rfl] at HM
  have HT6 := Lib.hid (tin_on HT5.out hb6)
  have HB6 := Lib.hid (HB5.out.trans (hb6.mono (by omega)))
  have hs6' : w.heap.size < w6.heap.size := by omega
  clear e6 ra hb6 hs6 HT5 HB5 hs5
  refine HM.out.mono ?_
  clear HM
  rintro e w7 ⟨X, rfl, hP7, hb7⟩
  rw [made_awT] at hP7 ⊢
  change PfV w7 w7.heap.size X pB at hP7
  have HX := Lib.hid hP7.size
  have HP7 := Lib.hid hP7
  have HT7 := Lib.hid (tin_on HT6.out hb7)
  have HB7 := Lib.hid (HB6.out.trans (hb7.mono (by omega)))
  have hs7 : w.heap.size < w7.heap.size := by have := hb7.size; omega
  have hz26 := zero26
  clear hP7 hb7 HT6 HB6 hs6'
  simp only []
  iterate 13 go_step
  clear hz26
  refine Sh.wpList_store_made rfl 26 (.tmp 2) (.tmp 30) rfl #[.slice none 0 0, .slice none 0 0, .slice none 0 0] X rfl rfl ?_ ?_ HX.out.2 ?_
  · rw [HX.out.1]; exact info26
  · rw [HX.out.1]; rfl
  have hb8 : Below w7.heap.size w7 (w7.alloc (.cells X 26)) := (Below.refl _ _).alloc (Nat.le_refl _) _
  have HW8 := Lib.hid (Whole.made w7 26 X)
  have HP8 := Lib.hid (HP7.out.on hb8)
  have HT8 := Lib.hid (tin_on HT7.out hb8)
  have HB8 := Lib.hid (HB7.out.trans (hb8.mono (by omega)))
  have hs8 : w.heap.size < (w7.alloc (.cells X 26)).heap.size := by have := hb8.size; omega
  obtain ⟨g2, hg2⟩ : ∃ g2, w7.heap.size = g2 := ⟨_, rfl⟩
  rw [hg2] at HW8 ⊢
  clear hb8 HP7 HT7 HB7 hs7 hg2
  generalize w7.alloc (.cells X 26) = w8 at *
  go_wp2_with fail
  obtain ⟨w9, e9, ra, hb9, hs9⟩ := byte_ex w8 99
  change _ = w8.alloc (.cells #[.int .u8 99] 5 (1, 2)) at e9
  rw [← e9]
  have HM := Lib.hid (none_any (G := All) (some (some awT)) (some g5) (some ⟨w8.heap.size, 0, none⟩) 1 1 [99] w9 ⟨g5, rfl, tin_on HT8.out hb9⟩ ra (fun t e => by injection e with e; subst e; decide))
  rw [ptr_some, show topOf (some (some awT)) = some awT from rfl] at HM
  have HT9 := Lib.hid (tin_on HT8.out hb9)
  have HP9 := Lib.hid (HP8.out.on hb9)
  have HW9 := Lib.hid (HW8.out.below hb9 HW8.out.lt)
  have HB9 := Lib.hid (HB8.out.trans (hb9.mono (by omega)))
  have hs9' : w.heap.size < w9.heap.size := by omega
  clear e9 ra hb9 hs9 HT8 HB8 hs8 HP8 HW8
  refine HM.out.mono ?_
  clear HM
  rintro e w10 ⟨v1, v2, rfl, hp1, hp2, hb10⟩
  rw [gap_awT] at hp1 hp2 ⊢
  obtain ⟨g1, Y, rfl, hW1, hP1⟩ : ∃ g1 Y, v1 = .pointer (some ⟨g1, 0, none⟩) ∧ Whole w10 g1 26 Y ∧ PfV w10 w10.heap.size Y pB := by
    rcases hp1 with ⟨h, _⟩ | ⟨p, g, Y, h1, h2, h3, h4⟩
    · cases h
    · injection h1 with h1
      subst h1
      exact ⟨g, Y, h2, h3, h4⟩
  obtain rfl : v2 = .pointer none := by
    rcases hp2 with ⟨_, h⟩ | ⟨p, g, Y, h1, h2, h3, h4⟩
    · exact h
    · cases h1
  clear hp1 hp2
  have HT10 := Lib.hid (tin_on HT9.out hb10)
  have HP10 := Lib.hid (HP9.out.on hb10)
  have HW10 := Lib.hid (HW9.out.below hb10 HW9.out.lt)
  have HB10 := Lib.hid (HB9.out.trans (hb10.mono (by omega)))
  have HQ10 := Lib.hid (And.intro hW1 hP1)
  have hs10 : w.heap.size < w10.heap.size := by have := hb10.size; omega
  have hz31 := zero31
  clear hb10 HT9 HB9 hs9' HP9 HW9 hW1 hP1
  simp only []
  iterate 13 go_step
  clear hz31
  refine Sh.wpList_store_made rfl 31 (.tmp 4) (.tmp 37) rfl #[.pointer none, .pointer none] #[.pointer (some ⟨g1, 0, none⟩), .pointer none] rfl rfl info31 rfl (gap_one _ _) ?_
  have hb11 : Below w10.heap.size w10 (w10.alloc (.cells #[.pointer (some ⟨g1, 0, none⟩), .pointer none] 31)) := (Below.refl _ _).alloc (Nat.le_refl _) _
  have HG11 := Lib.hid (Whole.made w10 31 #[.pointer (some ⟨g1, 0, none⟩), .pointer none])
  have HT11 := Lib.hid (tin_on HT10.out hb11)
  have HP11 := Lib.hid (HP10.out.on hb11)
  have HW11 := Lib.hid (HW10.out.below hb11 HW10.out.lt)
  have HB11 := Lib.hid (HB10.out.trans (hb11.mono (by omega)))
  have HQ11 := Lib.hid (And.intro (HQ10.out.1.below hb11 HQ10.out.1.lt) (HQ10.out.2.on hb11))
  have hs11 : w.heap.size < (w10.alloc (.cells #[.pointer (some ⟨g1, 0, none⟩), .pointer none] 31)).heap.size := by have := hb11.size; omega
  obtain ⟨g4, hg4⟩ : ∃ g4, w10.heap.size = g4 := ⟨_, rfl⟩
  rw [hg4] at HG11 ⊢
  clear hb11 HT10 HP10 HW10 HB10 HQ10 hs10 hg4
  generalize w10.alloc (.cells #[.pointer (some ⟨g1, 0, none⟩), .pointer none] 31) = w11 at *
  go_upto_region 6 with (fail)
  obtain ⟨A, n, c, A', n', c', A2, m, k, rfl, q1, q2, q3, q4, q5, q6⟩ : ∃ A n c A' n' c' A2 m k, X = #[.slice A n c, .slice A' n' c', .slice A2 m k] ∧ Rd w11 w11.heap.size A n pB.key ∧ n ≤ c ∧ Rd w11 w11.heap.size A' n' pB.val ∧ n' ≤ c' ∧ TRd w11 w11.heap.size A2 m pB.turns ∧ m ≤ k := HP11.out
  obtain rfl : m = 1 := by have := q5.len; rw [awT_one] at this; omega
  obtain ⟨x, hx⟩ : ∃ x, pB.turns[0]? = some x := ⟨_, rfl⟩
  obtain ⟨b, o, rfl, hbb, hrg, hxo⟩ := q5.at_ hx
  have hxr : x.r = true := by
    have h1 := pB_all
    exact (by simpa using List.all_eq_true.1 h1 x (List.mem_of_getElem? hx))
  have hcr : w11.drew.cell? ⟨b, o + 2, none⟩ = some (.bool true) := by
    have h1 := hrg 2 (.bool x.r) rfl
    rw [Nat.zero_mul, Nat.add_zero, hxr] at h1
    exact h1
  have hbd : Below w11.heap.size w11 w11.drew := (Below.refl _ _).drew
  have HTz : Hid (TIn All w11.drew w11.drew.heap.size (some awT) g5) := Lib.hid (tin_on HT11.out hbd)
  have HPz : Hid (PfV w11.drew w11.drew.heap.size #[.slice A n c, .slice A' n' c', .slice (some ⟨b, o, none⟩) 1 k] pB) := Lib.hid (HP11.out.on hbd)
  have HQz : Hid (Whole w11.drew g1 26 Y ∧ PfV w11.drew w11.drew.heap.size Y pB) := Lib.hid (And.intro (HQ11.out.1.below hbd HQ11.out.1.lt) (HQ11.out.2.on hbd))
  have HBz : Hid (Below w.heap.size w w11.drew) := Lib.hid HB11.out.drew
  have HSz : Hid (w.heap.size < w11.drew.heap.size) := Lib.hid hs11
  have hS0 : w11.drew.cell? ⟨g2, 2, none⟩ = some (.slice (some ⟨b, o, none⟩) 1 k) ∧ w11.drew.cell? ⟨b, o + 2, none⟩ = some (.bool true) ∧ w11.drew.cell? ⟨g4, 0, none⟩ = some (.pointer (some ⟨g1, 0, none⟩)) ∧ w11.drew.cell? ⟨g4, 1, none⟩ = some (.pointer none) ∧ w11.drew.rangeAt g2 0 [.slice A n c, .slice A' n' c', .slice (some ⟨b, o, none⟩) 1 k] ∧ w11.drew.rangeAt g4 0 [.pointer (some ⟨g1, 0, none⟩), .pointer none] := ⟨HW11.out.at_ rfl, hcr, HG11.out.at_ rfl, HG11.out.at_ rfl, HW11.out.range, HG11.out.range⟩
  have HKP : Hid (∀ u, Below w11.drew.heap.size w11.drew u → u.cell? ⟨g2, 2, none⟩ = some (.slice (some ⟨b, o, none⟩) 1 k) ∧ u.cell? ⟨b, o + 2, none⟩ = some (.bool true) ∧ u.cell? ⟨g4, 0, none⟩ = some (.pointer (some ⟨g1, 0, none⟩)) ∧ u.cell? ⟨g4, 1, none⟩ = some (.pointer none) ∧ u.rangeAt g2 0 [.slice A n c, .slice A' n' c', .slice (some ⟨b, o, none⟩) 1 k] ∧ u.rangeAt g4 0 [.pointer (some ⟨g1, 0, none⟩), .pointer none]) := Lib.hid (fun u hb => ⟨(hb.cell (p := ⟨g2, 2, none⟩) HW11.out.lt).trans hS0.1, (hb.cell (p := ⟨b, o + 2, none⟩) hbb).trans hS0.2.1, (hb.cell (p := ⟨g4, 0, none⟩) HG11.out.lt).trans hS0.2.2.1, (hb.cell (p := ⟨g4, 1, none⟩) HG11.out.lt).trans hS0.2.2.2.1, range_keep hS0.2.2.2.2.1 hb HW11.out.lt, range_keep hS0.2.2.2.2.2 hb HG11.out.lt⟩)
  clear hx hrg hxo hxr hcr hbd q1 q2 q3 q4 q5 q6 HT11 HP11 HQ11 HB11 hs11 HW11 HG11 HX hbb kc kc2
  refine wp_region_held_drew (S := fun u => u.cell? ⟨g2, 2, none⟩ = some (.slice (some ⟨b, o, none⟩) 1 k) ∧ u.cell? ⟨b, o + 2, none⟩ = some (.bool true) ∧ u.cell? ⟨g4, 0, none⟩ = some (.pointer (some ⟨g1, 0, none⟩)) ∧ u.cell? ⟨g4, 1, none⟩ = some (.pointer none) ∧ u.rangeAt g2 0 [.slice A n c, .slice A' n' c', .slice (some ⟨b, o, none⟩) 1 k] ∧ u.rangeAt g4 0 [.pointer (some ⟨g1, 0, none⟩), .pointer none]) (by kernel_rfl) hS0 (fun hHeld => ?_)
  generalize w11.drew = wz at *
  clear hS0 hHeld
  have HB0 := Lib.hid (Below.refl wz.heap.size wz)
  have hSw := HKP.out wz HB0.out
  obtain ⟨sm, hsm⟩ : ∃ sm, awT.sum = sm := ⟨_, rfl⟩
  have HSM := Lib.hid hsm
  obtain ⟨em, hem⟩ : ∃ em, Sh.Sha.sum [] = em := ⟨_, rfl⟩
  have HEM := Lib.hid hem
  clear hsm hem
  refine wpAnyH_take (i := 0) (oi := { dst := some 39, op := Op.move (Operand.tmp 3), type := 4, pos := "law.go:22", after := #[], guard := none }) (v := ?_) rfl (by kernel_rfl) (by kernel_rfl) (by kernel_rfl) (fun _ _ _ h => h) (Or.inl ⟨by rfl, ?_⟩) (by assumption) ?_
  rotate_left
  · first | (intro w hSw; (try dsimp only at hSw); go_simp; done) | (intro w hSw; (try dsimp only at hSw); go_simp; with_reducible rfl)
  simp only [Act.put, List.setIfInBounds_toArray, List.set_cons_zero, List.set_cons_succ]
  refine wpAnyH_take (i := 1) (oi := { dst := some 40, op := Op.move (Operand.tmp 39), type := 4, pos := "law.go:22", after := #[{ on := 0, ground := Ground.data }], guard := none }) (v := ?_) rfl (by kernel_rfl) (by kernel_rfl) (by kernel_rfl) (fun _ _ _ h => h) (Or.inl ⟨by rfl, ?_⟩) (by assumption) ?_
  rotate_left
  · first | (intro w hSw; (try dsimp only at hSw); go_simp; done) | (intro w hSw; (try dsimp only at hSw); go_simp; with_reducible rfl)
  simp only [Act.put, List.setIfInBounds_toArray, List.set_cons_zero, List.set_cons_succ]
  refine wpAnyH_take (i := 2) (oi := { dst := some 41, op := Op.move (Operand.tmp 5), type := 4, pos := "law.go:22", after := #[{ on := 1, ground := Ground.guard }], guard := some (1, true) }) (v := ?_) rfl (by kernel_rfl) (by kernel_rfl) (by kernel_rfl) (fun _ _ _ h => h) (Or.inl ⟨by rfl, ?_⟩) (by assumption) ?_
  rotate_left
  · first | (intro w hSw; (try dsimp only at hSw); go_simp; done) | (intro w hSw; (try dsimp only at hSw); go_simp; with_reducible rfl)
  simp only [Act.put, List.setIfInBounds_toArray, List.set_cons_zero, List.set_cons_succ]
  refine wpAnyH_take (i := 3) (oi := { dst := some 42, op := Op.pick (Operand.tmp 40) (Operand.tmp 41) (Operand.const (Value.bool false)), type := 4, pos := "law.go:22", after := #[{ on := 1, ground := Ground.data }, { on := 2, ground := Ground.data }], guard := none }) (v := ?_) rfl (by kernel_rfl) (by kernel_rfl) (by kernel_rfl) (fun _ _ _ h => h) (Or.inl ⟨by rfl, ?_⟩) (by assumption) ?_
  rotate_left
  · first | (intro w hSw; (try dsimp only at hSw); go_simp; done) | (intro w hSw; (try dsimp only at hSw); go_simp; with_reducible rfl)
  simp only [Act.put, List.setIfInBounds_toArray, List.set_cons_zero, List.set_cons_succ]
  refine wpAnyH_take (i := 4) (oi := { dst := some 43, op := Op.move (Operand.tmp 42), type := 4, pos := "law.go:22", after := #[{ on := 3, ground := Ground.data }, { on := 1, ground := Ground.chain }], guard := none }) (v := ?_) rfl (by kernel_rfl) (by kernel_rfl) (by kernel_rfl) (fun _ _ _ h => h) (Or.inl ⟨by rfl, ?_⟩) (by assumption) ?_
  rotate_left
  · first | (intro w hSw; (try dsimp only at hSw); go_simp; done) | (intro w hSw; (try dsimp only at hSw); go_simp; with_reducible rfl)
  simp only [Act.put, List.setIfInBounds_toArray, List.set_cons_zero, List.set_cons_succ]
  refine wpAnyH_take (i := 5) (oi := { dst := some 44, op := Op.fieldAddr 26 (Operand.tmp 2) 2, type := 0, pos := "law.go:22", after := #[{ on := 4, ground := Ground.guard }], guard := some (4, true) }) (v := ?_) rfl (by kernel_rfl) (by kernel_rfl) (by kernel_rfl) (fun _ _ _ h => h) (Or.inl ⟨by rfl, ?_⟩) (by assumption) ?_
  rotate_left
  · first | (intro w hSw; (try dsimp only at hSw); go_simp; done) | (intro w hSw; (try dsimp only at hSw); go_simp; with_reducible rfl)
  simp only [Act.put, List.setIfInBounds_toArray, List.set_cons_zero, List.set_cons_succ]
  refine wpAnyH_take (i := 6) (oi := { dst := some 45, op := Op.load 24 (Operand.tmp 44), type := 24, pos := "law.go:22", after := #[{ on := 5, ground := Ground.data }, { on := 4, ground := Ground.guard }], guard := some (4, true) }) (v := ?_) rfl (by kernel_rfl) (by kernel_rfl) (by kernel_rfl) (fun _ _ _ h => h) (Or.inl ⟨by rfl, ?_⟩) (by assumption) ?_
  rotate_left
  · first | (intro w hSw; (try dsimp only at hSw); go_simp; done) | (intro w hSw; (try dsimp only at hSw); go_simp; with_reducible rfl)
  simp only [Act.put, List.setIfInBounds_toArray, List.set_cons_zero, List.set_cons_succ]
  refine wpAnyH_take (i := 7) (oi := { dst := some 46, op := Op.call { callee := Callee.builtin Builtin.len, args := #[Operand.tmp 45], argTypes := #[24] }, type := 3, pos := "law.go:22", after := #[{ on := 6, ground := Ground.data }, { on := 4, ground := Ground.guard }], guard := some (4, true) }) (v := ?_) rfl (by kernel_rfl) (by kernel_rfl) (by kernel_rfl) (fun _ _ _ h => h) (Or.inl ⟨by rfl, ?_⟩) (by assumption) ?_
  rotate_left
  · first | (intro w hSw; (try dsimp only at hSw); go_simp; done) | (intro w hSw; (try dsimp only at hSw); go_simp; with_reducible rfl)
  simp only [Act.put, List.setIfInBounds_toArray, List.set_cons_zero, List.set_cons_succ]
  refine wpAnyH_take (i := 8) (oi := { dst := some 47, op := Op.binOp BinOp.eql 3 (Operand.tmp 46) (Operand.const (Value.int IntKind.i64 1)) 3, type := 4, pos := "law.go:22", after := #[{ on := 7, ground := Ground.data }, { on := 4, ground := Ground.guard }], guard := some (4, true) }) (v := ?_) rfl (by kernel_rfl) (by kernel_rfl) (by kernel_rfl) (fun _ _ _ h => h) (Or.inl ⟨by rfl, ?_⟩) (by assumption) ?_
  rotate_left
  · first | (intro w hSw; (try dsimp only at hSw); go_simp; done) | (intro w hSw; (try dsimp only at hSw); go_simp; with_reducible rfl)
  simp only [Act.put, List.setIfInBounds_toArray, List.set_cons_zero, List.set_cons_succ]
  refine wpAnyH_take (i := 9) (oi := { dst := some 48, op := Op.pick (Operand.tmp 43) (Operand.tmp 47) (Operand.const (Value.bool false)), type := 4, pos := "law.go:22", after := #[{ on := 4, ground := Ground.data }, { on := 8, ground := Ground.data }], guard := none }) (v := ?_) rfl (by kernel_rfl) (by kernel_rfl) (by kernel_rfl) (fun _ _ _ h => h) (Or.inl ⟨by rfl, ?_⟩) (by assumption) ?_
  rotate_left
  · first | (intro w hSw; (try dsimp only at hSw); go_simp; done) | (intro w hSw; (try dsimp only at hSw); go_simp; with_reducible rfl)
  simp only [Act.put, List.setIfInBounds_toArray, List.set_cons_zero, List.set_cons_succ]
  refine wpAnyH_take (i := 10) (oi := { dst := some 49, op := Op.move (Operand.tmp 48), type := 4, pos := "law.go:22", after := #[{ on := 9, ground := Ground.data }, { on := 4, ground := Ground.chain }], guard := none }) (v := ?_) rfl (by kernel_rfl) (by kernel_rfl) (by kernel_rfl) (fun _ _ _ h => h) (Or.inl ⟨by rfl, ?_⟩) (by assumption) ?_
  rotate_left
  · first | (intro w hSw; (try dsimp only at hSw); go_simp; done) | (intro w hSw; (try dsimp only at hSw); go_simp; with_reducible rfl)
  simp only [Act.put, List.setIfInBounds_toArray, List.set_cons_zero, List.set_cons_succ]
  refine wpAnyH_take (i := 11) (oi := { dst := some 50, op := Op.fieldAddr 26 (Operand.tmp 2) 2, type := 0, pos := "law.go:22", after := #[{ on := 10, ground := Ground.guard }], guard := some (10, true) }) (v := ?_) rfl (by kernel_rfl) (by kernel_rfl) (by kernel_rfl) (fun _ _ _ h => h) (Or.inl ⟨by rfl, ?_⟩) (by assumption) ?_
  rotate_left
  · first | (intro w hSw; (try dsimp only at hSw); go_simp; done) | (intro w hSw; (try dsimp only at hSw); go_simp; with_reducible rfl)
  simp only [Act.put, List.setIfInBounds_toArray, List.set_cons_zero, List.set_cons_succ]
  refine wpAnyH_take (i := 12) (oi := { dst := some 51, op := Op.load 24 (Operand.tmp 50), type := 24, pos := "law.go:22", after := #[{ on := 11, ground := Ground.data }, { on := 10, ground := Ground.guard }], guard := some (10, true) }) (v := ?_) rfl (by kernel_rfl) (by kernel_rfl) (by kernel_rfl) (fun _ _ _ h => h) (Or.inl ⟨by rfl, ?_⟩) (by assumption) ?_
  rotate_left
  · first | (intro w hSw; (try dsimp only at hSw); go_simp; done) | (intro w hSw; (try dsimp only at hSw); go_simp; with_reducible rfl)
  simp only [Act.put, List.setIfInBounds_toArray, List.set_cons_zero, List.set_cons_succ]
  refine wpAnyH_take (i := 13) (oi := { dst := some 52, op := Op.indexAddr 24 (Operand.tmp 51) (Operand.const (Value.int IntKind.i64 0)), type := 0, pos := "law.go:22", after := #[{ on := 12, ground := Ground.data }, { on := 10, ground := Ground.guard }], guard := some (10, true) }) (v := ?_) rfl (by kernel_rfl) (by kernel_rfl) (by kernel_rfl) (fun _ _ _ h => h) (Or.inl ⟨by rfl, ?_⟩) (by assumption) ?_
  rotate_left
  · first | (intro w hSw; (try dsimp only at hSw); go_simp; done) | (intro w hSw; (try dsimp only at hSw); go_simp; with_reducible rfl)
  simp only [Act.put, List.setIfInBounds_toArray, List.set_cons_zero, List.set_cons_succ]
  refine wpAnyH_take (i := 14) (oi := { dst := some 53, op := Op.fieldAddr 46 (Operand.tmp 52) 2, type := 0, pos := "law.go:22", after := #[{ on := 13, ground := Ground.data }, { on := 10, ground := Ground.guard }], guard := some (10, true) }) (v := ?_) rfl (by kernel_rfl) (by kernel_rfl) (by kernel_rfl) (fun _ _ _ h => h) (Or.inl ⟨by rfl, ?_⟩) (by assumption) ?_
  rotate_left
  · first | (intro w hSw; (try dsimp only at hSw); go_simp; done) | (intro w hSw; (try dsimp only at hSw); go_simp; with_reducible rfl)
  simp only [Act.put, List.setIfInBounds_toArray, List.set_cons_zero, List.set_cons_succ]
  refine wpAnyH_take (i := 15) (oi := { dst := some 54, op := Op.load 4 (Operand.tmp 53), type := 4, pos := "law.go:22", after := #[{ on := 14, ground := Ground.data }, { on := 10, ground := Ground.guard }], guard := some (10, true) }) (v := ?_) rfl (by kernel_rfl) (by kernel_rfl) (by kernel_rfl) (fun _ _ _ h => h) (Or.inl ⟨by rfl, ?_⟩) (by assumption) ?_
  rotate_left
  · first | (intro w hSw; (try dsimp only at hSw); go_simp; done) | (intro w hSw; (try dsimp only at hSw); go_simp; with_reducible rfl)
  simp only [Act.put, List.setIfInBounds_toArray, List.set_cons_zero, List.set_cons_succ]
  refine wpAnyH_take (i := 16) (oi := { dst := some 55, op := Op.pick (Operand.tmp 49) (Operand.tmp 54) (Operand.const (Value.bool false)), type := 4, pos := "law.go:22", after := #[{ on := 10, ground := Ground.data }, { on := 15, ground := Ground.data }], guard := none }) (v := ?_) rfl (by kernel_rfl) (by kernel_rfl) (by kernel_rfl) (fun _ _ _ h => h) (Or.inl ⟨by rfl, ?_⟩) (by assumption) ?_
  rotate_left
  · first | (intro w hSw; (try dsimp only at hSw); go_simp; done) | (intro w hSw; (try dsimp only at hSw); go_simp; with_reducible rfl)
  simp only [Act.put, List.setIfInBounds_toArray, List.set_cons_zero, List.set_cons_succ]
  refine wpAnyH_take (i := 17) (oi := { dst := some 56, op := Op.move (Operand.tmp 55), type := 4, pos := "law.go:22", after := #[{ on := 16, ground := Ground.data }, { on := 10, ground := Ground.chain }], guard := none }) (v := ?_) rfl (by kernel_rfl) (by kernel_rfl) (by kernel_rfl) (fun _ _ _ h => h) (Or.inl ⟨by rfl, ?_⟩) (by assumption) ?_
  rotate_left
  · first | (intro w hSw; (try dsimp only at hSw); go_simp; done) | (intro w hSw; (try dsimp only at hSw); go_simp; with_reducible rfl)
  simp only [Act.put, List.setIfInBounds_toArray, List.set_cons_zero, List.set_cons_succ]
  refine wpAnyH_take (i := 18) (oi := { dst := some 57, op := Op.move (Operand.tmp 1), type := 34, pos := "law.go:22", after := #[{ on := 17, ground := Ground.guard }], guard := some (17, true) }) (v := ?_) rfl (by kernel_rfl) (by kernel_rfl) (by kernel_rfl) (fun _ _ _ h => h) (Or.inl ⟨by rfl, ?_⟩) (by assumption) ?_
  rotate_left
  · first | (intro w hSw; (try dsimp only at hSw); go_simp; done) | (intro w hSw; (try dsimp only at hSw); go_simp; with_reducible rfl)
  simp only [Act.put, List.setIfInBounds_toArray, List.set_cons_zero, List.set_cons_succ]
  refine wpAnyH_take (i := 20) (oi := { dst := some 59, op := Op.load 26 (Operand.tmp 2), type := 26, pos := "law.go:22", after := #[{ on := 17, ground := Ground.guard }], guard := some (17, true) }) (v := .agg #[.slice A n c, .slice A' n' c', .slice (some ⟨b, o, none⟩) 1 k]) rfl (by kernel_rfl) (by kernel_rfl) (by kernel_rfl) (fun _ _ _ h => h) (yieldsIf_load_mid (by rfl) 26 (.tmp 2) rfl g2 0 rfl [.slice A n c, .slice A' n' c', .slice (some ⟨b, o, none⟩) 1 k] _ (fun _ h => h.2.2.2.2.1) Tryd.underlying26 rfl info26) (by assumption) ?_
  simp only [Act.put, List.setIfInBounds_toArray, List.set_cons_zero, List.set_cons_succ]
  refine wpAnyH_ready (rs := [19]) (by kernel_rfl) (by simp) ?_
  refine AllReadyH.cons rfl (fun K hK => ?_) AllReadyH.nil
  have HR := Lib.hid (root_any (G := All) (some (some awT)) (some g5) wz ⟨g5, rfl, tin_on HTz.out HB0.out⟩ (Sh.tab_below HT.out (HBz.out.trans (HB0.out.mono (Nat.le_of_lt HSz.out))) hw) (by have := HB0.out.size; have := HSz.out; omega))
  rw [ptr_some, show osum (topOf (some (some awT))) = awT.sum from rfl, HSM.out] at HR
  go_simp
  refine HR.out.mono ?_
  rintro e u1 ⟨rfl, hb⟩
  have HB1 := Lib.hid (HB0.out.trans (hb.mono HB0.out.size))
  refine hK.out _ _ (HKP.out u1 HB1.out) (fun _ => ?_)
  clear hK K HR hb hSw
  have hSw := HKP.out u1 HB1.out
  have HV := Lib.hid (verify_any _ pB (awT.sum) u1 (HPz.out.on HB1.out) (sum32 _) (Sh.tab_below HT.out (HBz.out.trans (HB1.out.mono (Nat.le_of_lt HSz.out))) hw) (by have := HB1.out.size; have := HSz.out; omega))
  rw [pB_good] at HV
  rw [HSM.out] at HV
  refine wpAnyH_ready (rs := [21]) (by kernel_rfl) (by simp) ?_
  refine AllReadyH.cons rfl (fun K hK => ?_) AllReadyH.nil
  go_simp
  refine HV.out.mono ?_
  rintro e u2 ⟨ev, rfl, hev, hb⟩
  have HB2 := Lib.hid (HB1.out.trans (hb.mono HB1.out.size))
  refine hK.out _ _ (HKP.out u2 HB2.out) (fun _ => ?_)
  clear hK K HV hb hSw
  have hSw := HKP.out u2 HB2.out
  obtain rfl : ev = .nilIface := by
    rcases hev with ⟨_, h⟩ | ⟨h, _⟩
    · exact h
    · exact absurd rfl h
  have hn1 := Fl.nilEqN
  clear hev
  refine wpAnyH_take (i := 22) (oi := { dst := some 61, op := Op.binOp BinOp.eql 48 (Operand.tmp 60) (Operand.const Value.nilIface) 48, type := 4, pos := "law.go:22", after := #[{ on := 21, ground := Ground.data }, { on := 17, ground := Ground.guard }], guard := some (17, true) }) (v := ?_) rfl (by kernel_rfl) (by kernel_rfl) (by kernel_rfl) (fun _ _ _ h => h) (Or.inl ⟨by rfl, ?_⟩) (by assumption) ?_
  rotate_left
  · first | (intro w hSw; (try dsimp only at hSw); go_simp; done) | (intro w hSw; (try dsimp only at hSw); go_simp; with_reducible rfl)
  simp only [Act.put, List.setIfInBounds_toArray, List.set_cons_zero, List.set_cons_succ]
  refine wpAnyH_take (i := 23) (oi := { dst := some 62, op := Op.pick (Operand.tmp 56) (Operand.tmp 61) (Operand.const (Value.bool false)), type := 4, pos := "law.go:22", after := #[{ on := 17, ground := Ground.data }, { on := 22, ground := Ground.data }], guard := none }) (v := ?_) rfl (by kernel_rfl) (by kernel_rfl) (by kernel_rfl) (fun _ _ _ h => h) (Or.inl ⟨by rfl, ?_⟩) (by assumption) ?_
  rotate_left
  · first | (intro w hSw; (try dsimp only at hSw); go_simp; done) | (intro w hSw; (try dsimp only at hSw); go_simp; with_reducible rfl)
  simp only [Act.put, List.setIfInBounds_toArray, List.set_cons_zero, List.set_cons_succ]
  refine wpAnyH_take (i := 24) (oi := { dst := some 63, op := Op.move (Operand.tmp 62), type := 4, pos := "law.go:22", after := #[{ on := 23, ground := Ground.data }, { on := 21, ground := Ground.chain }], guard := none }) (v := ?_) rfl (by kernel_rfl) (by kernel_rfl) (by kernel_rfl) (fun _ _ _ h => h) (Or.inl ⟨by rfl, ?_⟩) (by assumption) ?_
  rotate_left
  · first | (intro w hSw; (try dsimp only at hSw); go_simp; done) | (intro w hSw; (try dsimp only at hSw); go_simp; with_reducible rfl)
  simp only [Act.put, List.setIfInBounds_toArray, List.set_cons_zero, List.set_cons_succ]
  refine wpAnyH_take (i := 26) (oi := { dst := some 65, op := Op.load 26 (Operand.tmp 2), type := 26, pos := "law.go:22", after := #[{ on := 24, ground := Ground.guard }], guard := some (24, true) }) (v := .agg #[.slice A n c, .slice A' n' c', .slice (some ⟨b, o, none⟩) 1 k]) rfl (by kernel_rfl) (by kernel_rfl) (by kernel_rfl) (fun _ _ _ h => h) (yieldsIf_load_mid (by rfl) 26 (.tmp 2) rfl g2 0 rfl [.slice A n c, .slice A' n' c', .slice (some ⟨b, o, none⟩) 1 k] _ (fun _ h => h.2.2.2.2.1) Tryd.underlying26 rfl info26) (by assumption) ?_
  simp only [Act.put, List.setIfInBounds_toArray, List.set_cons_zero, List.set_cons_succ]
  clear hn1
  have HEY := Lib.hid (empty_any u2 (Sh.tab_below HT.out (HBz.out.trans (HB2.out.mono (Nat.le_of_lt HSz.out))) hw) (by have := HB2.out.size; have := HSz.out; omega))
  rw [HEM.out] at HEY
  refine wpAnyH_ready (rs := [25]) (by kernel_rfl) (by simp) ?_
  refine AllReadyH.cons rfl (fun K hK => ?_) AllReadyH.nil
  go_simp
  refine HEY.out.mono ?_
  rintro e u3 ⟨rfl, hb⟩
  have HB3 := Lib.hid (HB2.out.trans (hb.mono HB2.out.size))
  refine hK.out _ _ (HKP.out u3 HB3.out) (fun _ => ?_)
  clear hK K HEY hb hSw
  have hSw := HKP.out u3 HB3.out
  have HV := Lib.hid (verify_any _ pB (Sh.Sha.sum []) u3 (HPz.out.on HB3.out) (Sh.sum_length _) (Sh.tab_below HT.out (HBz.out.trans (HB3.out.mono (Nat.le_of_lt HSz.out))) hw) (by have := HB3.out.size; have := HSz.out; omega))
  rw [pB_empty] at HV
  rw [HEM.out] at HV
  refine wpAnyH_ready (rs := [27]) (by kernel_rfl) (by simp) ?_
  refine AllReadyH.cons rfl (fun K hK => ?_) AllReadyH.nil
  go_simp
  refine HV.out.mono ?_
  rintro e u4 ⟨ev, rfl, hev, hb⟩
  have HB4 := Lib.hid (HB3.out.trans (hb.mono HB3.out.size))
  refine hK.out _ _ (HKP.out u4 HB4.out) (fun _ => ?_)
  clear hK K HV hb hSw
  have hSw := HKP.out u4 HB4.out
  obtain ⟨er, rfl, hin, hcode, hd⟩ : ∃ er : Fl.Err, ev = er.val ∧ er.In u4 ∧ er.code = 21 ∧ er.depth ≤ 2 := by
    rcases hev with ⟨h, _⟩ | ⟨_, h⟩
    · cases h
    · exact h
  have HCD := Lib.hid (Fl.code_any er u4 (laid_below HLD.out (HBz.out.trans (HB4.out.mono (Nat.le_of_lt HSz.out))) hw) hin (by omega))
  rw [hcode] at HCD
  clear hev hin hcode hd
  refine wpAnyH_ready (rs := [28]) (by kernel_rfl) (by simp) ?_
  refine AllReadyH.cons rfl (fun K hK => ?_) AllReadyH.nil
  go_simp
  refine HCD.out.mono ?_
  rintro e u5 ⟨rfl, hb⟩
  have HB5 := Lib.hid (HB4.out.trans (hb.mono HB4.out.size))
  refine hK.out _ _ (HKP.out u5 HB5.out) (fun _ => ?_)
  clear hK K HCD hb hSw
  have hSw := HKP.out u5 HB5.out
  refine wpAnyH_take (i := 29) (oi := { dst := some 68, op := Op.binOp BinOp.eql 39 (Operand.tmp 67) (Operand.const (Value.int IntKind.i64 21)) 39, type := 4, pos := "law.go:22", after := #[{ on := 28, ground := Ground.data }, { on := 24, ground := Ground.guard }], guard := some (24, true) }) (v := ?_) rfl (by kernel_rfl) (by kernel_rfl) (by kernel_rfl) (fun _ _ _ h => h) (Or.inl ⟨by rfl, ?_⟩) (by assumption) ?_
  rotate_left
  · first | (intro w hSw; (try dsimp only at hSw); go_simp; done) | (intro w hSw; (try dsimp only at hSw); go_simp; with_reducible rfl)
  simp only [Act.put, List.setIfInBounds_toArray, List.set_cons_zero, List.set_cons_succ]
  refine wpAnyH_take (i := 30) (oi := { dst := some 69, op := Op.pick (Operand.tmp 63) (Operand.tmp 68) (Operand.const (Value.bool false)), type := 4, pos := "law.go:22", after := #[{ on := 24, ground := Ground.data }, { on := 29, ground := Ground.data }], guard := none }) (v := ?_) rfl (by kernel_rfl) (by kernel_rfl) (by kernel_rfl) (fun _ _ _ h => h) (Or.inl ⟨by rfl, ?_⟩) (by assumption) ?_
  rotate_left
  · first | (intro w hSw; (try dsimp only at hSw); go_simp; done) | (intro w hSw; (try dsimp only at hSw); go_simp; with_reducible rfl)
  simp only [Act.put, List.setIfInBounds_toArray, List.set_cons_zero, List.set_cons_succ]
  refine wpAnyH_take (i := 31) (oi := { dst := some 70, op := Op.move (Operand.tmp 69), type := 4, pos := "law.go:22", after := #[{ on := 30, ground := Ground.data }, { on := 28, ground := Ground.chain }], guard := none }) (v := ?_) rfl (by kernel_rfl) (by kernel_rfl) (by kernel_rfl) (fun _ _ _ h => h) (Or.inl ⟨by rfl, ?_⟩) (by assumption) ?_
  rotate_left
  · first | (intro w hSw; (try dsimp only at hSw); go_simp; done) | (intro w hSw; (try dsimp only at hSw); go_simp; with_reducible rfl)
  simp only [Act.put, List.setIfInBounds_toArray, List.set_cons_zero, List.set_cons_succ]
  refine wpAnyH_take (i := 32) (oi := { dst := some 71, op := Op.fieldAddr 31 (Operand.tmp 4) 0, type := 0, pos := "law.go:22", after := #[{ on := 31, ground := Ground.guard }], guard := some (31, true) }) (v := ?_) rfl (by kernel_rfl) (by kernel_rfl) (by kernel_rfl) (fun _ _ _ h => h) (Or.inl ⟨by rfl, ?_⟩) (by assumption) ?_
  rotate_left
  · first | (intro w hSw; (try dsimp only at hSw); go_simp; done) | (intro w hSw; (try dsimp only at hSw); go_simp; with_reducible rfl)
  simp only [Act.put, List.setIfInBounds_toArray, List.set_cons_zero, List.set_cons_succ]
  refine wpAnyH_take (i := 33) (oi := { dst := some 72, op := Op.load 29 (Operand.tmp 71), type := 29, pos := "law.go:22", after := #[{ on := 32, ground := Ground.data }, { on := 31, ground := Ground.guard }], guard := some (31, true) }) (v := ?_) rfl (by kernel_rfl) (by kernel_rfl) (by kernel_rfl) (fun _ _ _ h => h) (Or.inl ⟨by rfl, ?_⟩) (by assumption) ?_
  rotate_left
  · first | (intro w hSw; (try dsimp only at hSw); go_simp; done) | (intro w hSw; (try dsimp only at hSw); go_simp; with_reducible rfl)
  simp only [Act.put, List.setIfInBounds_toArray, List.set_cons_zero, List.set_cons_succ]
  refine wpAnyH_take (i := 34) (oi := { dst := some 73, op := Op.binOp BinOp.neq 29 (Operand.tmp 72) (Operand.const (Value.pointer none)) 29, type := 4, pos := "law.go:22", after := #[{ on := 33, ground := Ground.data }, { on := 31, ground := Ground.guard }], guard := some (31, true) }) (v := ?_) rfl (by kernel_rfl) (by kernel_rfl) (by kernel_rfl) (fun _ _ _ h => h) (Or.inl ⟨by rfl, ?_⟩) (by assumption) ?_
  rotate_left
  · first | (intro w hSw; (try dsimp only at hSw); go_simp; done) | (intro w hSw; (try dsimp only at hSw); go_simp; with_reducible rfl)
  simp only [Act.put, List.setIfInBounds_toArray, List.set_cons_zero, List.set_cons_succ]
  refine wpAnyH_take (i := 35) (oi := { dst := some 74, op := Op.pick (Operand.tmp 70) (Operand.tmp 73) (Operand.const (Value.bool false)), type := 4, pos := "law.go:22", after := #[{ on := 31, ground := Ground.data }, { on := 34, ground := Ground.data }], guard := none }) (v := ?_) rfl (by kernel_rfl) (by kernel_rfl) (by kernel_rfl) (fun _ _ _ h => h) (Or.inl ⟨by rfl, ?_⟩) (by assumption) ?_
  rotate_left
  · first | (intro w hSw; (try dsimp only at hSw); go_simp; done) | (intro w hSw; (try dsimp only at hSw); go_simp; with_reducible rfl)
  simp only [Act.put, List.setIfInBounds_toArray, List.set_cons_zero, List.set_cons_succ]
  refine wpAnyH_take (i := 36) (oi := { dst := some 75, op := Op.move (Operand.tmp 74), type := 4, pos := "law.go:22", after := #[{ on := 35, ground := Ground.data }, { on := 31, ground := Ground.chain }], guard := none }) (v := ?_) rfl (by kernel_rfl) (by kernel_rfl) (by kernel_rfl) (fun _ _ _ h => h) (Or.inl ⟨by rfl, ?_⟩) (by assumption) ?_
  rotate_left
  · first | (intro w hSw; (try dsimp only at hSw); go_simp; done) | (intro w hSw; (try dsimp only at hSw); go_simp; with_reducible rfl)
  simp only [Act.put, List.setIfInBounds_toArray, List.set_cons_zero, List.set_cons_succ]
  refine wpAnyH_take (i := 37) (oi := { dst := some 76, op := Op.fieldAddr 31 (Operand.tmp 4) 1, type := 0, pos := "law.go:22", after := #[{ on := 36, ground := Ground.guard }], guard := some (36, true) }) (v := ?_) rfl (by kernel_rfl) (by kernel_rfl) (by kernel_rfl) (fun _ _ _ h => h) (Or.inl ⟨by rfl, ?_⟩) (by assumption) ?_
  rotate_left
  · first | (intro w hSw; (try dsimp only at hSw); go_simp; done) | (intro w hSw; (try dsimp only at hSw); go_simp; with_reducible rfl)
  simp only [Act.put, List.setIfInBounds_toArray, List.set_cons_zero, List.set_cons_succ]
  refine wpAnyH_take (i := 38) (oi := { dst := some 77, op := Op.load 29 (Operand.tmp 76), type := 29, pos := "law.go:22", after := #[{ on := 37, ground := Ground.data }, { on := 36, ground := Ground.guard }], guard := some (36, true) }) (v := ?_) rfl (by kernel_rfl) (by kernel_rfl) (by kernel_rfl) (fun _ _ _ h => h) (Or.inl ⟨by rfl, ?_⟩) (by assumption) ?_
  rotate_left
  · first | (intro w hSw; (try dsimp only at hSw); go_simp; done) | (intro w hSw; (try dsimp only at hSw); go_simp; with_reducible rfl)
  simp only [Act.put, List.setIfInBounds_toArray, List.set_cons_zero, List.set_cons_succ]
  refine wpAnyH_take (i := 39) (oi := { dst := some 78, op := Op.binOp BinOp.eql 29 (Operand.tmp 77) (Operand.const (Value.pointer none)) 29, type := 4, pos := "law.go:22", after := #[{ on := 38, ground := Ground.data }, { on := 36, ground := Ground.guard }], guard := some (36, true) }) (v := ?_) rfl (by kernel_rfl) (by kernel_rfl) (by kernel_rfl) (fun _ _ _ h => h) (Or.inl ⟨by rfl, ?_⟩) (by assumption) ?_
  rotate_left
  · first | (intro w hSw; (try dsimp only at hSw); go_simp; done) | (intro w hSw; (try dsimp only at hSw); go_simp; with_reducible rfl)
  simp only [Act.put, List.setIfInBounds_toArray, List.set_cons_zero, List.set_cons_succ]
  refine wpAnyH_take (i := 40) (oi := { dst := some 79, op := Op.pick (Operand.tmp 75) (Operand.tmp 78) (Operand.const (Value.bool false)), type := 4, pos := "law.go:22", after := #[{ on := 36, ground := Ground.data }, { on := 39, ground := Ground.data }], guard := none }) (v := ?_) rfl (by kernel_rfl) (by kernel_rfl) (by kernel_rfl) (fun _ _ _ h => h) (Or.inl ⟨by rfl, ?_⟩) (by assumption) ?_
  rotate_left
  · first | (intro w hSw; (try dsimp only at hSw); go_simp; done) | (intro w hSw; (try dsimp only at hSw); go_simp; with_reducible rfl)
  simp only [Act.put, List.setIfInBounds_toArray, List.set_cons_zero, List.set_cons_succ]
  refine wpAnyH_take (i := 41) (oi := { dst := some 80, op := Op.move (Operand.tmp 79), type := 4, pos := "law.go:22", after := #[{ on := 40, ground := Ground.data }, { on := 36, ground := Ground.chain }], guard := none }) (v := ?_) rfl (by kernel_rfl) (by kernel_rfl) (by kernel_rfl) (fun _ _ _ h => h) (Or.inl ⟨by rfl, ?_⟩) (by assumption) ?_
  rotate_left
  · first | (intro w hSw; (try dsimp only at hSw); go_simp; done) | (intro w hSw; (try dsimp only at hSw); go_simp; with_reducible rfl)
  simp only [Act.put, List.setIfInBounds_toArray, List.set_cons_zero, List.set_cons_succ]
  refine wpAnyH_take (i := 42) (oi := { dst := some 81, op := Op.move (Operand.tmp 1), type := 34, pos := "law.go:22", after := #[{ on := 41, ground := Ground.guard }], guard := some (41, true) }) (v := ?_) rfl (by kernel_rfl) (by kernel_rfl) (by kernel_rfl) (fun _ _ _ h => h) (Or.inl ⟨by rfl, ?_⟩) (by assumption) ?_
  rotate_left
  · first | (intro w hSw; (try dsimp only at hSw); go_simp; done) | (intro w hSw; (try dsimp only at hSw); go_simp; with_reducible rfl)
  simp only [Act.put, List.setIfInBounds_toArray, List.set_cons_zero, List.set_cons_succ]
  refine wpAnyH_take (i := 46) (oi := { dst := some 85, op := Op.load 31 (Operand.tmp 4), type := 31, pos := "law.go:22", after := #[{ on := 41, ground := Ground.guard }], guard := some (41, true) }) (v := .agg #[.pointer (some ⟨g1, 0, none⟩), .pointer none]) rfl (by kernel_rfl) (by kernel_rfl) (by kernel_rfl) (fun _ _ _ h => h) (yieldsIf_load_mid (by rfl) 31 (.tmp 4) rfl g4 0 rfl [.pointer (some ⟨g1, 0, none⟩), .pointer none] _ (fun _ h => h.2.2.2.2.2) Tryd.underlying31 rfl info31) (by assumption) ?_
  simp only [Act.put, List.setIfInBounds_toArray, List.set_cons_zero, List.set_cons_succ]
  refine wpAnyH_ready (rs := [43, 44]) (by kernel_rfl) (by simp) ?_
  refine AllReadyH.cons rfl (fun K hK => ?_) (AllReadyH.cons rfl (fun K hK => ?_) AllReadyH.nil)
  · skip
    have HR := Lib.hid (root_any (G := All) (some (some awT)) (some g5) u5 ⟨g5, rfl, tin_on HTz.out HB5.out⟩ (Sh.tab_below HT.out (HBz.out.trans (HB5.out.mono (Nat.le_of_lt HSz.out))) hw) (by have := HB5.out.size; have := HSz.out; omega))
    rw [ptr_some, show osum (topOf (some (some awT))) = awT.sum from rfl, HSM.out] at HR
    go_simp
    refine HR.out.mono ?_
    rintro e u6 ⟨rfl, hb⟩
    have HB6 := Lib.hid (HB5.out.trans (hb.mono HB5.out.size))
    refine hK.out _ _ (HKP.out u6 HB6.out) (fun _ => ?_)
    clear hK K HR hb hSw
    have hSw := HKP.out u6 HB6.out
    refine wpAnyH_ready (rs := [44]) (by kernel_rfl) (by simp) ?_
    refine AllReadyH.cons rfl (fun K hK => ?_) AllReadyH.nil
    go_simp
    have HB7 : Hid (Below wz.heap.size wz (u6.alloc (.cells #[.int .u8 99] 5))) := Lib.hid (HB6.out.alloc HB6.out.size _)
    refine hK.out _ _ (HKP.out _ HB7.out) (fun _ => ?_)
    have HRW : Hid ((u6.alloc (.cells #[.int .u8 99] 5)).heap[u6.heap.size]? = some (.cells #[.int .u8 99] 5 (0, 0))) := Lib.hid (heap_alloc_last u6 _)
    have HGR : Hid (wz.heap.size ≤ u6.heap.size) := Lib.hid HB6.out.size
    obtain ⟨gr, hgr⟩ : ∃ gr, u6.heap.size = gr := ⟨_, rfl⟩
    rw [hgr] at HRW HGR ⊢
    clear hK K hSw hgr
    generalize u6.alloc (.cells #[.int .u8 99] 5) = u7 at *
    have hSw := HKP.out u7 HB7.out
    refine wpAnyH_ready (rs := [45]) (by kernel_rfl) (by simp) ?_
    refine AllReadyH.cons rfl (fun K hK => ?_) AllReadyH.nil
    obtain ⟨u8, hrun, hbv, hrow, -⟩ := conv_any u7 gr 99 1 1 HRW.out
    go_simp
    have HB8 := Lib.hid (HB7.out.trans (hbv.mono HGR.out))
    refine hK.out _ _ (HKP.out u8 HB8.out) (fun _ => ?_)
    have HRD := Lib.hid hrow
    clear hK K hrun hbv hrow HRW hSw
    have hSw := HKP.out u8 HB8.out
    have HGP := Lib.hid (gap_left awT.sum [99] pB g1 Y (some ⟨gr, 0, none⟩) 1 1 u8 (row_read HRD.out) (HQz.out.1.below HB8.out HQz.out.1.lt) (HQz.out.2.on HB8.out) (sum32 _) (Sh.tab_below HT.out (HBz.out.trans (HB8.out.mono (Nat.le_of_lt HSz.out))) hw) (by have := HB8.out.size; have := HSz.out; omega) true (fun w' hb' => (between_left pB g1 Y w' ((HQz.out.1.below HB8.out HQz.out.1.lt).below hb' (Nat.lt_of_lt_of_le HQz.out.1.lt HB8.out.size)) ((HQz.out.2.on HB8.out).on hb') (by rw [awT_one]; omega)).mono (fun e w'' h => by rw [pB_all] at h; exact h)))
    rw [gap_good, HSM.out] at HGP
    refine wpAnyH_ready (rs := [47]) (by kernel_rfl) (by simp) ?_
    refine AllReadyH.cons rfl (fun K hK => ?_) AllReadyH.nil
    go_simp
    refine HGP.out.mono ?_
    rintro e wl ⟨v, rfl, hev, hb⟩
    obtain rfl : v = .nilIface := by
      rcases hev with ⟨_, h⟩ | ⟨h, _⟩
      · exact h
      · exact absurd rfl h
    have HBL := Lib.hid (HBz.out.trans ((HB8.out.trans (hb.mono HB8.out.size)).mono (Nat.le_of_lt HSz.out)))
    refine hK.out _ _ (HKP.out wl (HB8.out.trans (hb.mono HB8.out.size))) (fun _ => ?_)
    clear hK K HGP hb hSw hev
    have hn1 := Fl.nilEqN
    refine wpAnyH_take (i := 48) (oi := { dst := some 87, op := Op.binOp BinOp.eql 48 (Operand.tmp 86) (Operand.const Value.nilIface) 48, type := 4, pos := "law.go:22", after := #[{ on := 47, ground := Ground.data }, { on := 41, ground := Ground.guard }], guard := some (41, true) }) (v := ?_) rfl (by kernel_rfl) (by kernel_rfl) (by kernel_rfl) (fun _ _ _ h => h) (Or.inl ⟨by rfl, ?_⟩) (by assumption) ?_
    rotate_left
    · first | (intro w hSw; (try dsimp only at hSw); go_simp; done) | (intro w hSw; (try dsimp only at hSw); go_simp; with_reducible rfl)
    simp only [Act.put, List.setIfInBounds_toArray, List.set_cons_zero, List.set_cons_succ]
    refine wpAnyH_take (i := 49) (oi := { dst := some 88, op := Op.pick (Operand.tmp 80) (Operand.tmp 87) (Operand.const (Value.bool false)), type := 4, pos := "law.go:22", after := #[{ on := 41, ground := Ground.data }, { on := 48, ground := Ground.data }], guard := none }) (v := ?_) rfl (by kernel_rfl) (by kernel_rfl) (by kernel_rfl) (fun _ _ _ h => h) (Or.inl ⟨by rfl, ?_⟩) (by assumption) ?_
    rotate_left
    · first | (intro w hSw; (try dsimp only at hSw); go_simp; done) | (intro w hSw; (try dsimp only at hSw); go_simp; with_reducible rfl)
    simp only [Act.put, List.setIfInBounds_toArray, List.set_cons_zero, List.set_cons_succ]
    refine wpAnyH_take (i := 50) (oi := { dst := some 0, op := Op.assign (Operand.tmp 88), type := 4, pos := "law.go:22", after := #[{ on := 49, ground := Ground.data }, { on := 47, ground := Ground.chain }, { on := 0, ground := Ground.phase }, { on := 1, ground := Ground.phase }, { on := 2, ground := Ground.phase }, { on := 3, ground := Ground.phase }, { on := 4, ground := Ground.phase }, { on := 5, ground := Ground.phase }, { on := 6, ground := Ground.phase }, { on := 7, ground := Ground.phase }, { on := 8, ground := Ground.phase }, { on := 9, ground := Ground.phase }, { on := 10, ground := Ground.phase }, { on := 11, ground := Ground.phase }, { on := 12, ground := Ground.phase }, { on := 13, ground := Ground.phase }, { on := 14, ground := Ground.phase }, { on := 15, ground := Ground.phase }, { on := 16, ground := Ground.phase }, { on := 17, ground := Ground.phase }, { on := 18, ground := Ground.phase }, { on := 19, ground := Ground.phase }, { on := 20, ground := Ground.phase }, { on := 21, ground := Ground.phase }, { on := 22, ground := Ground.phase }, { on := 23, ground := Ground.phase }, { on := 24, ground := Ground.phase }, { on := 25, ground := Ground.phase }, { on := 26, ground := Ground.phase }, { on := 27, ground := Ground.phase }, { on := 28, ground := Ground.phase }, { on := 29, ground := Ground.phase }, { on := 30, ground := Ground.phase }, { on := 31, ground := Ground.phase }, { on := 32, ground := Ground.phase }, { on := 33, ground := Ground.phase }, { on := 34, ground := Ground.phase }, { on := 35, ground := Ground.phase }, { on := 36, ground := Ground.phase }, { on := 37, ground := Ground.phase }, { on := 38, ground := Ground.phase }, { on := 39, ground := Ground.phase }, { on := 40, ground := Ground.phase }, { on := 41, ground := Ground.phase }, { on := 42, ground := Ground.phase }, { on := 43, ground := Ground.phase }, { on := 44, ground := Ground.phase }, { on := 45, ground := Ground.phase }, { on := 46, ground := Ground.phase }, { on := 47, ground := Ground.phase }, { on := 48, ground := Ground.phase }, { on := 49, ground := Ground.phase }], guard := none }) (v := ?_) rfl (by kernel_rfl) (by kernel_rfl) (by kernel_rfl) (fun _ _ _ h => h) (Or.inl ⟨by rfl, ?_⟩) (by assumption) ?_
    rotate_left
    · first | (intro w hSw; (try dsimp only at hSw); go_simp; done) | (intro w hSw; (try dsimp only at hSw); go_simp; with_reducible rfl)
    simp only [Act.put, List.setIfInBounds_toArray, List.set_cons_zero]
    refine wpAnyH_done (by kernel_rfl) ?_ _
    go_wp2_with fail
    go_ret
    exact ⟨rfl, HBL.out⟩
  · skip
    go_simp
    have HB6 : Hid (Below wz.heap.size wz (u5.alloc (.cells #[.int .u8 99] 5))) := Lib.hid (HB5.out.alloc HB5.out.size _)
    refine hK.out _ _ (HKP.out _ HB6.out) (fun _ => ?_)
    have HRW : Hid ((u5.alloc (.cells #[.int .u8 99] 5)).heap[u5.heap.size]? = some (.cells #[.int .u8 99] 5 (0, 0))) := Lib.hid (heap_alloc_last u5 _)
    have HGR : Hid (wz.heap.size ≤ u5.heap.size) := Lib.hid HB5.out.size
    obtain ⟨gr, hgr⟩ : ∃ gr, u5.heap.size = gr := ⟨_, rfl⟩
    rw [hgr] at HRW HGR ⊢
    clear hK K hSw hgr
    generalize u5.alloc (.cells #[.int .u8 99] 5) = u6 at *
    have hSw := HKP.out u6 HB6.out
    refine wpAnyH_ready (rs := [43, 45]) (by kernel_rfl) (by simp) ?_
    refine AllReadyH.cons rfl (fun K hK => ?_) (AllReadyH.cons rfl (fun K hK => ?_) AllReadyH.nil)
    · have HGL := Lib.hid (Array.getElem?_eq_some_iff.1 HRW.out).1
      have HR := Lib.hid (root_any (G := All) (some (some awT)) (some g5) u6 ⟨g5, rfl, tin_on HTz.out HB6.out⟩ (Sh.tab_below HT.out (HBz.out.trans (HB6.out.mono (Nat.le_of_lt HSz.out))) hw) (by have := HB6.out.size; have := HSz.out; omega))
      rw [ptr_some, show osum (topOf (some (some awT))) = awT.sum from rfl, HSM.out] at HR
      go_simp
      refine HR.out.mono ?_
      rintro e u7 ⟨rfl, hb⟩
      have HB7 := Lib.hid (HB6.out.trans (hb.mono HB6.out.size))
      have HRW2 : Hid (u7.heap[gr]? = some (.cells #[.int .u8 99] 5 (0, 0))) := Lib.hid ((hb.block gr HGL.out).trans HRW.out)
      refine hK.out _ _ (HKP.out u7 HB7.out) (fun _ => ?_)
      clear hK K HR hb hSw
      have hSw := HKP.out u7 HB7.out
      have HRW := HRW2
      refine wpAnyH_ready (rs := [45]) (by kernel_rfl) (by simp) ?_
      refine AllReadyH.cons rfl (fun K hK => ?_) AllReadyH.nil
      obtain ⟨u8, hrun, hbv, hrow, -⟩ := conv_any u7 gr 99 1 1 HRW.out
      go_simp
      have HB8 := Lib.hid (HB7.out.trans (hbv.mono HGR.out))
      refine hK.out _ _ (HKP.out u8 HB8.out) (fun _ => ?_)
      have HRD := Lib.hid hrow
      clear hK K hrun hbv hrow HRW hSw
      have hSw := HKP.out u8 HB8.out
      have HGP := Lib.hid (gap_left awT.sum [99] pB g1 Y (some ⟨gr, 0, none⟩) 1 1 u8 (row_read HRD.out) (HQz.out.1.below HB8.out HQz.out.1.lt) (HQz.out.2.on HB8.out) (sum32 _) (Sh.tab_below HT.out (HBz.out.trans (HB8.out.mono (Nat.le_of_lt HSz.out))) hw) (by have := HB8.out.size; have := HSz.out; omega) true (fun w' hb' => (between_left pB g1 Y w' ((HQz.out.1.below HB8.out HQz.out.1.lt).below hb' (Nat.lt_of_lt_of_le HQz.out.1.lt HB8.out.size)) ((HQz.out.2.on HB8.out).on hb') (by rw [awT_one]; omega)).mono (fun e w'' h => by rw [pB_all] at h; exact h)))
      rw [gap_good, HSM.out] at HGP
      refine wpAnyH_ready (rs := [47]) (by kernel_rfl) (by simp) ?_
      refine AllReadyH.cons rfl (fun K hK => ?_) AllReadyH.nil
      go_simp
      refine HGP.out.mono ?_
      rintro e wl ⟨v, rfl, hev, hb⟩
      obtain rfl : v = .nilIface := by
        rcases hev with ⟨_, h⟩ | ⟨h, _⟩
        · exact h
        · exact absurd rfl h
      have HBL := Lib.hid (HBz.out.trans ((HB8.out.trans (hb.mono HB8.out.size)).mono (Nat.le_of_lt HSz.out)))
      refine hK.out _ _ (HKP.out wl (HB8.out.trans (hb.mono HB8.out.size))) (fun _ => ?_)
      clear hK K HGP hb hSw hev
      have hn1 := Fl.nilEqN
      refine wpAnyH_take (i := 48) (oi := { dst := some 87, op := Op.binOp BinOp.eql 48 (Operand.tmp 86) (Operand.const Value.nilIface) 48, type := 4, pos := "law.go:22", after := #[{ on := 47, ground := Ground.data }, { on := 41, ground := Ground.guard }], guard := some (41, true) }) (v := ?_) rfl (by kernel_rfl) (by kernel_rfl) (by kernel_rfl) (fun _ _ _ h => h) (Or.inl ⟨by rfl, ?_⟩) (by assumption) ?_
      rotate_left
      · first | (intro w hSw; (try dsimp only at hSw); go_simp; done) | (intro w hSw; (try dsimp only at hSw); go_simp; with_reducible rfl)
      simp only [Act.put, List.setIfInBounds_toArray, List.set_cons_zero, List.set_cons_succ]
      refine wpAnyH_take (i := 49) (oi := { dst := some 88, op := Op.pick (Operand.tmp 80) (Operand.tmp 87) (Operand.const (Value.bool false)), type := 4, pos := "law.go:22", after := #[{ on := 41, ground := Ground.data }, { on := 48, ground := Ground.data }], guard := none }) (v := ?_) rfl (by kernel_rfl) (by kernel_rfl) (by kernel_rfl) (fun _ _ _ h => h) (Or.inl ⟨by rfl, ?_⟩) (by assumption) ?_
      rotate_left
      · first | (intro w hSw; (try dsimp only at hSw); go_simp; done) | (intro w hSw; (try dsimp only at hSw); go_simp; with_reducible rfl)
      simp only [Act.put, List.setIfInBounds_toArray, List.set_cons_zero, List.set_cons_succ]
      refine wpAnyH_take (i := 50) (oi := { dst := some 0, op := Op.assign (Operand.tmp 88), type := 4, pos := "law.go:22", after := #[{ on := 49, ground := Ground.data }, { on := 47, ground := Ground.chain }, { on := 0, ground := Ground.phase }, { on := 1, ground := Ground.phase }, { on := 2, ground := Ground.phase }, { on := 3, ground := Ground.phase }, { on := 4, ground := Ground.phase }, { on := 5, ground := Ground.phase }, { on := 6, ground := Ground.phase }, { on := 7, ground := Ground.phase }, { on := 8, ground := Ground.phase }, { on := 9, ground := Ground.phase }, { on := 10, ground := Ground.phase }, { on := 11, ground := Ground.phase }, { on := 12, ground := Ground.phase }, { on := 13, ground := Ground.phase }, { on := 14, ground := Ground.phase }, { on := 15, ground := Ground.phase }, { on := 16, ground := Ground.phase }, { on := 17, ground := Ground.phase }, { on := 18, ground := Ground.phase }, { on := 19, ground := Ground.phase }, { on := 20, ground := Ground.phase }, { on := 21, ground := Ground.phase }, { on := 22, ground := Ground.phase }, { on := 23, ground := Ground.phase }, { on := 24, ground := Ground.phase }, { on := 25, ground := Ground.phase }, { on := 26, ground := Ground.phase }, { on := 27, ground := Ground.phase }, { on := 28, ground := Ground.phase }, { on := 29, ground := Ground.phase }, { on := 30, ground := Ground.phase }, { on := 31, ground := Ground.phase }, { on := 32, ground := Ground.phase }, { on := 33, ground := Ground.phase }, { on := 34, ground := Ground.phase }, { on := 35, ground := Ground.phase }, { on := 36, ground := Ground.phase }, { on := 37, ground := Ground.phase }, { on := 38, ground := Ground.phase }, { on := 39, ground := Ground.phase }, { on := 40, ground := Ground.phase }, { on := 41, ground := Ground.phase }, { on := 42, ground := Ground.phase }, { on := 43, ground := Ground.phase }, { on := 44, ground := Ground.phase }, { on := 45, ground := Ground.phase }, { on := 46, ground := Ground.phase }, { on := 47, ground := Ground.phase }, { on := 48, ground := Ground.phase }, { on := 49, ground := Ground.phase }], guard := none }) (v := ?_) rfl (by kernel_rfl) (by kernel_rfl) (by kernel_rfl) (fun _ _ _ h => h) (Or.inl ⟨by rfl, ?_⟩) (by assumption) ?_
      rotate_left
      · first | (intro w hSw; (try dsimp only at hSw); go_simp; done) | (intro w hSw; (try dsimp only at hSw); go_simp; with_reducible rfl)
      simp only [Act.put, List.setIfInBounds_toArray, List.set_cons_zero]
      refine wpAnyH_done (by kernel_rfl) ?_ _
      go_wp2_with fail
      go_ret
      exact ⟨rfl, HBL.out⟩
    · skip
      obtain ⟨u7, hrun, hbv, hrow, -⟩ := conv_any u6 gr 99 1 1 HRW.out
      go_simp
      have HB7 := Lib.hid (HB6.out.trans (hbv.mono HGR.out))
      refine hK.out _ _ (HKP.out u7 HB7.out) (fun _ => ?_)
      have HRD := Lib.hid hrow
      clear hK K hrun hbv hrow HRW hSw
      have hSw := HKP.out u7 HB7.out
      have HGL := Lib.hid (Array.getElem?_eq_some_iff.1 HRD.out).1
      refine wpAnyH_ready (rs := [43]) (by kernel_rfl) (by simp) ?_
      refine AllReadyH.cons rfl (fun K hK => ?_) AllReadyH.nil
      have HR := Lib.hid (root_any (G := All) (some (some awT)) (some g5) u7 ⟨g5, rfl, tin_on HTz.out HB7.out⟩ (Sh.tab_below HT.out (HBz.out.trans (HB7.out.mono (Nat.le_of_lt HSz.out))) hw) (by have := HB7.out.size; have := HSz.out; omega))
      rw [ptr_some, show osum (topOf (some (some awT))) = awT.sum from rfl, HSM.out] at HR
      go_simp
      refine HR.out.mono ?_
      rintro e u8 ⟨rfl, hb⟩
      have HB8 := Lib.hid (HB7.out.trans (hb.mono HB7.out.size))
      have HRD2 : Hid (u8.heap[gr]? = some (row1 99)) := Lib.hid ((hb.block gr HGL.out).trans HRD.out)
      refine hK.out _ _ (HKP.out u8 HB8.out) (fun _ => ?_)
      clear hK K HR hb hSw
      have hSw := HKP.out u8 HB8.out
      have HRD := HRD2
      have HGP := Lib.hid (gap_left awT.sum [99] pB g1 Y (some ⟨gr, 0, none⟩) 1 1 u8 (row_read HRD.out) (HQz.out.1.below HB8.out HQz.out.1.lt) (HQz.out.2.on HB8.out) (sum32 _) (Sh.tab_below HT.out (HBz.out.trans (HB8.out.mono (Nat.le_of_lt HSz.out))) hw) (by have := HB8.out.size; have := HSz.out; omega) true (fun w' hb' => (between_left pB g1 Y w' ((HQz.out.1.below HB8.out HQz.out.1.lt).below hb' (Nat.lt_of_lt_of_le HQz.out.1.lt HB8.out.size)) ((HQz.out.2.on HB8.out).on hb') (by rw [awT_one]; omega)).mono (fun e w'' h => by rw [pB_all] at h; exact h)))
      rw [gap_good, HSM.out] at HGP
      refine wpAnyH_ready (rs := [47]) (by kernel_rfl) (by simp) ?_
      refine AllReadyH.cons rfl (fun K hK => ?_) AllReadyH.nil
      go_simp
      refine HGP.out.mono ?_
      rintro e wl ⟨v, rfl, hev, hb⟩
      obtain rfl : v = .nilIface := by
        rcases hev with ⟨_, h⟩ | ⟨h, _⟩
        · exact h
        · exact absurd rfl h
      have HBL := Lib.hid (HBz.out.trans ((HB8.out.trans (hb.mono HB8.out.size)).mono (Nat.le_of_lt HSz.out)))
      refine hK.out _ _ (HKP.out wl (HB8.out.trans (hb.mono HB8.out.size))) (fun _ => ?_)
      clear hK K HGP hb hSw hev
      have hn1 := Fl.nilEqN
      refine wpAnyH_take (i := 48) (oi := { dst := some 87, op := Op.binOp BinOp.eql 48 (Operand.tmp 86) (Operand.const Value.nilIface) 48, type := 4, pos := "law.go:22", after := #[{ on := 47, ground := Ground.data }, { on := 41, ground := Ground.guard }], guard := some (41, true) }) (v := ?_) rfl (by kernel_rfl) (by kernel_rfl) (by kernel_rfl) (fun _ _ _ h => h) (Or.inl ⟨by rfl, ?_⟩) (by assumption) ?_
      rotate_left
      · first | (intro w hSw; (try dsimp only at hSw); go_simp; done) | (intro w hSw; (try dsimp only at hSw); go_simp; with_reducible rfl)
      simp only [Act.put, List.setIfInBounds_toArray, List.set_cons_zero, List.set_cons_succ]
      refine wpAnyH_take (i := 49) (oi := { dst := some 88, op := Op.pick (Operand.tmp 80) (Operand.tmp 87) (Operand.const (Value.bool false)), type := 4, pos := "law.go:22", after := #[{ on := 41, ground := Ground.data }, { on := 48, ground := Ground.data }], guard := none }) (v := ?_) rfl (by kernel_rfl) (by kernel_rfl) (by kernel_rfl) (fun _ _ _ h => h) (Or.inl ⟨by rfl, ?_⟩) (by assumption) ?_
      rotate_left
      · first | (intro w hSw; (try dsimp only at hSw); go_simp; done) | (intro w hSw; (try dsimp only at hSw); go_simp; with_reducible rfl)
      simp only [Act.put, List.setIfInBounds_toArray, List.set_cons_zero, List.set_cons_succ]
      refine wpAnyH_take (i := 50) (oi := { dst := some 0, op := Op.assign (Operand.tmp 88), type := 4, pos := "law.go:22", after := #[{ on := 49, ground := Ground.data }, { on := 47, ground := Ground.chain }, { on := 0, ground := Ground.phase }, { on := 1, ground := Ground.phase }, { on := 2, ground := Ground.phase }, { on := 3, ground := Ground.phase }, { on := 4, ground := Ground.phase }, { on := 5, ground := Ground.phase }, { on := 6, ground := Ground.phase }, { on := 7, ground := Ground.phase }, { on := 8, ground := Ground.phase }, { on := 9, ground := Ground.phase }, { on := 10, ground := Ground.phase }, { on := 11, ground := Ground.phase }, { on := 12, ground := Ground.phase }, { on := 13, ground := Ground.phase }, { on := 14, ground := Ground.phase }, { on := 15, ground := Ground.phase }, { on := 16, ground := Ground.phase }, { on := 17, ground := Ground.phase }, { on := 18, ground := Ground.phase }, { on := 19, ground := Ground.phase }, { on := 20, ground := Ground.phase }, { on := 21, ground := Ground.phase }, { on := 22, ground := Ground.phase }, { on := 23, ground := Ground.phase }, { on := 24, ground := Ground.phase }, { on := 25, ground := Ground.phase }, { on := 26, ground := Ground.phase }, { on := 27, ground := Ground.phase }, { on := 28, ground := Ground.phase }, { on := 29, ground := Ground.phase }, { on := 30, ground := Ground.phase }, { on := 31, ground := Ground.phase }, { on := 32, ground := Ground.phase }, { on := 33, ground := Ground.phase }, { on := 34, ground := Ground.phase }, { on := 35, ground := Ground.phase }, { on := 36, ground := Ground.phase }, { on := 37, ground := Ground.phase }, { on := 38, ground := Ground.phase }, { on := 39, ground := Ground.phase }, { on := 40, ground := Ground.phase }, { on := 41, ground := Ground.phase }, { on := 42, ground := Ground.phase }, { on := 43, ground := Ground.phase }, { on := 44, ground := Ground.phase }, { on := 45, ground := Ground.phase }, { on := 46, ground := Ground.phase }, { on := 47, ground := Ground.phase }, { on := 48, ground := Ground.phase }, { on := 49, ground := Ground.phase }], guard := none }) (v := ?_) rfl (by kernel_rfl) (by kernel_rfl) (by kernel_rfl) (fun _ _ _ h => h) (Or.inl ⟨by rfl, ?_⟩) (by assumption) ?_
      rotate_left
      · first | (intro w hSw; (try dsimp only at hSw); go_simp; done) | (intro w hSw; (try dsimp only at hSw); go_simp; with_reducible rfl)
      simp only [Act.put, List.setIfInBounds_toArray, List.set_cons_zero]
      refine wpAnyH_done (by kernel_rfl) ?_ _
      go_wp2_with fail
      go_ret
      exact ⟨rfl, HBL.out⟩
end Go.Proofs.YtehmkkccnadhoaaDoor
namespace Go.Proofs.YtehmkkccnadhoaaDoor
open Go.RowKit
open Tr

theorem ptrv_none {w : World} {v : Value} (h : PtrV w v none) : v = .pointer none := by
  rcases h with ⟨_, h⟩ | ⟨p, g, Y, h1, _⟩
  · exact h
  · cases h1

set_option maxRecDepth 100000 in
set_option maxHeartbeats 600000 in
theorem sameproof_none (X Y : Array Value) (w : World) (hX : PfV w w.heap.size X noPf) (hY : PfV w w.heap.size Y noPf) :
    Calls Tryd.prog 8 #[.agg X, .agg Y] w fun e w' => e = .returned (.bool true) ∧ Below w.heap.size w w' := by
  obtain ⟨A, n, c, A', n', c', A2, m, k, rfl, k1, k2, k3, k4, k5, k6⟩ := hX
  obtain ⟨D, u, v, D', u', v', D2, x, y, rfl, j1, j2, j3, j4, j5, j6⟩ := hY
  obtain rfl : m = 0 := k5.len.symm
  obtain rfl : x = 0 := j5.len.symm
  have hb0 : Below w.heap.size w ((w.alloc (.cells #[.slice A n c, .slice A' n' c', .slice A2 0 k] 26)).alloc (.cells #[.slice D u v, .slice D' u' v', .slice D2 0 y] 26)) := ((Below.refl _ _).alloc (Nat.le_refl _) _).alloc (by simp) _
  have hw0 := (Whole.made w 26 #[.slice A n c, .slice A' n' c', .slice A2 0 k]).alloc (.cells #[.slice D u v, .slice D' u' v', .slice D2 0 y] 26)
  have hw1 := Whole.made (w.alloc (.cells #[.slice A n c, .slice A' n' c', .slice A2 0 k] 26)) 26 #[.slice D u v, .slice D' u' v', .slice D2 0 y]
  rw [size_alloc] at hw1
  have s1 := run_string ((w.alloc (.cells #[.slice A n c, .slice A' n' c', .slice A2 0 k] 26)).alloc (.cells #[.slice D u v, .slice D' u' v', .slice D2 0 y] 26)) _ A n c [] (k1.below hb0 (Nat.le_refl _))
  have s2 := run_string ((w.alloc (.cells #[.slice A n c, .slice A' n' c', .slice A2 0 k] 26)).alloc (.cells #[.slice D u v, .slice D' u' v', .slice D2 0 y] 26)) _ A' n' c' [] (k3.below hb0 (Nat.le_refl _))
  have s3 := run_string ((w.alloc (.cells #[.slice A n c, .slice A' n' c', .slice A2 0 k] 26)).alloc (.cells #[.slice D u v, .slice D' u' v', .slice D2 0 y] 26)) _ D u v [] (j1.below hb0 (Nat.le_refl _))
  have s4 := run_string ((w.alloc (.cells #[.slice A n c, .slice A' n' c', .slice A2 0 k] 26)).alloc (.cells #[.slice D u v, .slice D' u' v', .slice D2 0 y] 26)) _ D' u' v' [] (j3.below hb0 (Nat.le_refl _))
  have a0 := hw0.at_ (i := 0) (v := .slice A n c) rfl
  have a1 := hw0.at_ (i := 1) (v := .slice A' n' c') rfl
  have a2 := hw0.at_ (i := 2) (v := .slice A2 0 k) rfl
  have b0 := hw1.at_ (i := 0) (v := .slice D u v) rfl
  have b1 := hw1.at_ (i := 1) (v := .slice D' u' v') rfl
  have b2 := hw1.at_ (i := 2) (v := .slice D2 0 y) rfl
  have HB0 := Lib.hid hb0
  clear k1 k2 k3 k4 k5 k6 j1 j2 j3 j4 j5 j6 hb0 hw0 hw1
  go_enter Tryd.func8, Tryd.ntmps8
  go_upto_region 1 with (fail)
  generalize (w.alloc (.cells #[.slice A n c, .slice A' n' c', .slice A2 0 k] 26)).alloc (.cells #[.slice D u v, .slice D' u' v', .slice D2 0 y] 26) = w1 at *
  go_wp2_with fail
  clear s1 s2 s3 s4 a0 a1 b0 b1
  go_loopg [4, 5] 0 (fun gk s4 s5 wx => s5 = .int .i64 0 ∧ wx = w1)
  case atStart => exact ⟨rfl, rfl⟩
  case round =>
    obtain ⟨rfl, rfl⟩ := hrel
    go_wp2_with fail
    go_ret
    exact ⟨rfl, HB0.out⟩

set_option maxRecDepth 100000 in
set_option maxHeartbeats 600000 in
theorem samegap_none (w : World) :
    Calls Tryd.prog 9 #[.agg #[.pointer none, .pointer none], .agg #[.pointer none, .pointer none]] w fun e w' => e = .returned (.bool true) ∧ Below w.heap.size w w' := by
  have hb0 : Below w.heap.size w ((w.alloc (.cells #[.pointer none, .pointer none] 31)).alloc (.cells #[.pointer none, .pointer none] 31)) := ((Below.refl _ _).alloc (Nat.le_refl _) _).alloc (by simp) _
  have hw0 := (Whole.made w 31 #[.pointer none, .pointer none]).alloc (.cells #[.pointer none, .pointer none] 31)
  have hw1 := Whole.made (w.alloc (.cells #[.pointer none, .pointer none] 31)) 31 #[.pointer none, .pointer none]
  rw [size_alloc] at hw1
  have HB0 := Lib.hid hb0
  have a0 := hw0.at_ (i := 0) (v := .pointer none) rfl
  have a1 := hw0.at_ (i := 1) (v := .pointer none) rfl
  have b0 := hw1.at_ (i := 0) (v := .pointer none) rfl
  have b1 := hw1.at_ (i := 1) (v := .pointer none) rfl
  clear hb0 hw0 hw1
  go_enter Tryd.func9, Tryd.ntmps9
  go_upto_region 1 with (fail)
  generalize (w.alloc (.cells #[.pointer none, .pointer none] 31)).alloc (.cells #[.pointer none, .pointer none] 31) = w1 at *
  go_upto_region 3 with (fail)
  have HB1 : Hid (Below w.heap.size w w1.drew) := Lib.hid HB0.out.drew
  have hS0 : w1.drew.cell? ⟨w.heap.size, 0, none⟩ = some (.pointer none) ∧ w1.drew.cell? ⟨w.heap.size, 1, none⟩ = some (.pointer none) := ⟨a0, a1⟩
  refine wp_region_held_drew (S := fun u => u.cell? ⟨w.heap.size, 0, none⟩ = some (.pointer none) ∧ u.cell? ⟨w.heap.size, 1, none⟩ = some (.pointer none)) (by kernel_rfl) hS0 (fun hHeld => ?_)
  generalize w1.drew = w2 at *
  clear a0 a1 b0 b1 HB0 hHeld
  refine wpAnyH_take (i := 0) (oi := { dst := some 21, op := Op.fieldAddr 31 (Operand.tmp 2) 0, type := 0, pos := "ref.go:301", after := #[], guard := none }) (v := ?_) rfl (by kernel_rfl) (by kernel_rfl) (by kernel_rfl) (fun _ _ _ h => h) (Or.inl ⟨by rfl, ?_⟩) (by assumption) ?_
  rotate_left
  · first | (intro w hSw; (try dsimp only at hSw); go_simp; done) | (intro w hSw; (try dsimp only at hSw); go_simp; with_reducible rfl)
  simp only [Act.put, List.setIfInBounds_toArray, List.set_cons_zero, List.set_cons_succ]
  refine wpAnyH_take (i := 1) (oi := { dst := some 22, op := Op.load 29 (Operand.tmp 21), type := 29, pos := "ref.go:301", after := #[{ on := 0, ground := Ground.data }], guard := none }) (v := ?_) rfl (by kernel_rfl) (by kernel_rfl) (by kernel_rfl) (fun _ _ _ h => h) (Or.inl ⟨by rfl, ?_⟩) (by assumption) ?_
  rotate_left
  · first | (intro w hSw; (try dsimp only at hSw); go_simp; done) | (intro w hSw; (try dsimp only at hSw); go_simp; with_reducible rfl)
  simp only [Act.put, List.setIfInBounds_toArray, List.set_cons_zero, List.set_cons_succ]
  refine wpAnyH_take (i := 2) (oi := { dst := some 23, op := Op.binOp BinOp.eql 29 (Operand.tmp 22) (Operand.const (Value.pointer none)) 29, type := 4, pos := "ref.go:301", after := #[{ on := 1, ground := Ground.data }], guard := none }) (v := ?_) rfl (by kernel_rfl) (by kernel_rfl) (by kernel_rfl) (fun _ _ _ h => h) (Or.inl ⟨by rfl, ?_⟩) (by assumption) ?_
  rotate_left
  · first | (intro w hSw; (try dsimp only at hSw); go_simp; done) | (intro w hSw; (try dsimp only at hSw); go_simp; with_reducible rfl)
  simp only [Act.put, List.setIfInBounds_toArray, List.set_cons_zero, List.set_cons_succ]
  refine wpAnyH_take (i := 3) (oi := { dst := some 24, op := Op.move (Operand.tmp 23), type := 4, pos := "ref.go:301", after := #[{ on := 2, ground := Ground.data }], guard := none }) (v := ?_) rfl (by kernel_rfl) (by kernel_rfl) (by kernel_rfl) (fun _ _ _ h => h) (Or.inl ⟨by rfl, ?_⟩) (by assumption) ?_
  rotate_left
  · first | (intro w hSw; (try dsimp only at hSw); go_simp; done) | (intro w hSw; (try dsimp only at hSw); go_simp; with_reducible rfl)
  simp only [Act.put, List.setIfInBounds_toArray, List.set_cons_zero, List.set_cons_succ]
  refine wpAnyH_take (i := 4) (oi := { dst := some 25, op := Op.fieldAddr 31 (Operand.tmp 2) 0, type := 0, pos := "ref.go:301", after := #[{ on := 3, ground := Ground.guard }], guard := some (3, false) }) (v := undef) rfl (by kernel_rfl) (by kernel_rfl) (by kernel_rfl) (fun _ _ _ h => h) (Or.inr ⟨by rfl, rfl⟩) (by assumption) ?_
  simp only [Act.put, List.setIfInBounds_toArray, List.set_cons_zero, List.set_cons_succ]
  refine wpAnyH_take (i := 5) (oi := { dst := some 26, op := Op.load 29 (Operand.tmp 25), type := 29, pos := "ref.go:301", after := #[{ on := 4, ground := Ground.data }, { on := 3, ground := Ground.guard }], guard := some (3, false) }) (v := undef) rfl (by kernel_rfl) (by kernel_rfl) (by kernel_rfl) (fun _ _ _ h => h) (Or.inr ⟨by rfl, rfl⟩) (by assumption) ?_
  simp only [Act.put, List.setIfInBounds_toArray, List.set_cons_zero, List.set_cons_succ]
  refine wpAnyH_take (i := 6) (oi := { dst := some 27, op := Op.nilCheck (Operand.tmp 26), type := 0, pos := "ref.go:301", after := #[{ on := 5, ground := Ground.data }, { on := 3, ground := Ground.guard }], guard := some (3, false) }) (v := undef) rfl (by kernel_rfl) (by kernel_rfl) (by kernel_rfl) (fun _ _ _ h => h) (Or.inr ⟨by rfl, rfl⟩) (by assumption) ?_
  simp only [Act.put, List.setIfInBounds_toArray, List.set_cons_zero, List.set_cons_succ]
  refine wpAnyH_take (i := 7) (oi := { dst := some 28, op := Op.load 26 (Operand.tmp 27), type := 26, pos := "ref.go:301", after := #[{ on := 6, ground := Ground.data }, { on := 3, ground := Ground.guard }], guard := some (3, false) }) (v := undef) rfl (by kernel_rfl) (by kernel_rfl) (by kernel_rfl) (fun _ _ _ h => h) (Or.inr ⟨by rfl, rfl⟩) (by assumption) ?_
  simp only [Act.put, List.setIfInBounds_toArray, List.set_cons_zero, List.set_cons_succ]
  refine wpAnyH_take (i := 8) (oi := { dst := some 29, op := Op.fieldAddr 31 (Operand.tmp 3) 0, type := 0, pos := "ref.go:301", after := #[{ on := 3, ground := Ground.guard }], guard := some (3, false) }) (v := undef) rfl (by kernel_rfl) (by kernel_rfl) (by kernel_rfl) (fun _ _ _ h => h) (Or.inr ⟨by rfl, rfl⟩) (by assumption) ?_
  simp only [Act.put, List.setIfInBounds_toArray, List.set_cons_zero, List.set_cons_succ]
  refine wpAnyH_take (i := 9) (oi := { dst := some 30, op := Op.load 29 (Operand.tmp 29), type := 29, pos := "ref.go:301", after := #[{ on := 8, ground := Ground.data }, { on := 3, ground := Ground.guard }], guard := some (3, false) }) (v := undef) rfl (by kernel_rfl) (by kernel_rfl) (by kernel_rfl) (fun _ _ _ h => h) (Or.inr ⟨by rfl, rfl⟩) (by assumption) ?_
  simp only [Act.put, List.setIfInBounds_toArray, List.set_cons_zero, List.set_cons_succ]
  refine wpAnyH_take (i := 10) (oi := { dst := some 31, op := Op.nilCheck (Operand.tmp 30), type := 0, pos := "ref.go:301", after := #[{ on := 9, ground := Ground.data }, { on := 3, ground := Ground.guard }], guard := some (3, false) }) (v := undef) rfl (by kernel_rfl) (by kernel_rfl) (by kernel_rfl) (fun _ _ _ h => h) (Or.inr ⟨by rfl, rfl⟩) (by assumption) ?_
  simp only [Act.put, List.setIfInBounds_toArray, List.set_cons_zero, List.set_cons_succ]
  refine wpAnyH_take (i := 11) (oi := { dst := some 32, op := Op.load 26 (Operand.tmp 31), type := 26, pos := "ref.go:301", after := #[{ on := 10, ground := Ground.data }, { on := 3, ground := Ground.guard }], guard := some (3, false) }) (v := undef) rfl (by kernel_rfl) (by kernel_rfl) (by kernel_rfl) (fun _ _ _ h => h) (Or.inr ⟨by rfl, rfl⟩) (by assumption) ?_
  simp only [Act.put, List.setIfInBounds_toArray, List.set_cons_zero, List.set_cons_succ]
  refine wpAnyH_take (i := 12) (oi := { dst := some 33, op := Op.call { callee := Callee.value (Operand.func 8), args := #[Operand.tmp 28, Operand.tmp 32], argTypes := #[26, 26] }, type := 4, pos := "ref.go:301", after := #[{ on := 7, ground := Ground.data }, { on := 11, ground := Ground.data }, { on := 3, ground := Ground.chain }, { on := 3, ground := Ground.guard }], guard := some (3, false) }) (v := undef) rfl (by kernel_rfl) (by kernel_rfl) (by kernel_rfl) (fun _ _ _ h => h) (Or.inr ⟨by rfl, rfl⟩) (by assumption) ?_
  simp only [Act.put, List.setIfInBounds_toArray, List.set_cons_zero, List.set_cons_succ]
  refine wpAnyH_take (i := 13) (oi := { dst := some 34, op := Op.pick (Operand.tmp 24) (Operand.const (Value.bool true)) (Operand.tmp 33), type := 4, pos := "ref.go:301", after := #[{ on := 3, ground := Ground.data }, { on := 12, ground := Ground.data }], guard := none }) (v := ?_) rfl (by kernel_rfl) (by kernel_rfl) (by kernel_rfl) (fun _ _ _ h => h) (Or.inl ⟨by rfl, ?_⟩) (by assumption) ?_
  rotate_left
  · first | (intro w hSw; (try dsimp only at hSw); go_simp; done) | (intro w hSw; (try dsimp only at hSw); go_simp; with_reducible rfl)
  simp only [Act.put, List.setIfInBounds_toArray, List.set_cons_zero, List.set_cons_succ]
  refine wpAnyH_take (i := 14) (oi := { dst := some 35, op := Op.move (Operand.tmp 34), type := 4, pos := "ref.go:301", after := #[{ on := 13, ground := Ground.data }, { on := 12, ground := Ground.chain }], guard := none }) (v := ?_) rfl (by kernel_rfl) (by kernel_rfl) (by kernel_rfl) (fun _ _ _ h => h) (Or.inl ⟨by rfl, ?_⟩) (by assumption) ?_
  rotate_left
  · first | (intro w hSw; (try dsimp only at hSw); go_simp; done) | (intro w hSw; (try dsimp only at hSw); go_simp; with_reducible rfl)
  simp only [Act.put, List.setIfInBounds_toArray, List.set_cons_zero, List.set_cons_succ]
  refine wpAnyH_take (i := 15) (oi := { dst := some 36, op := Op.fieldAddr 31 (Operand.tmp 2) 1, type := 0, pos := "ref.go:301", after := #[{ on := 14, ground := Ground.guard }], guard := some (14, true) }) (v := ?_) rfl (by kernel_rfl) (by kernel_rfl) (by kernel_rfl) (fun _ _ _ h => h) (Or.inl ⟨by rfl, ?_⟩) (by assumption) ?_
  rotate_left
  · first | (intro w hSw; (try dsimp only at hSw); go_simp; done) | (intro w hSw; (try dsimp only at hSw); go_simp; with_reducible rfl)
  simp only [Act.put, List.setIfInBounds_toArray, List.set_cons_zero, List.set_cons_succ]
  refine wpAnyH_take (i := 16) (oi := { dst := some 37, op := Op.load 29 (Operand.tmp 36), type := 29, pos := "ref.go:301", after := #[{ on := 15, ground := Ground.data }, { on := 14, ground := Ground.guard }], guard := some (14, true) }) (v := ?_) rfl (by kernel_rfl) (by kernel_rfl) (by kernel_rfl) (fun _ _ _ h => h) (Or.inl ⟨by rfl, ?_⟩) (by assumption) ?_
  rotate_left
  · first | (intro w hSw; (try dsimp only at hSw); go_simp; done) | (intro w hSw; (try dsimp only at hSw); go_simp; with_reducible rfl)
  simp only [Act.put, List.setIfInBounds_toArray, List.set_cons_zero, List.set_cons_succ]
  refine wpAnyH_take (i := 17) (oi := { dst := some 38, op := Op.binOp BinOp.eql 29 (Operand.tmp 37) (Operand.const (Value.pointer none)) 29, type := 4, pos := "ref.go:301", after := #[{ on := 16, ground := Ground.data }, { on := 14, ground := Ground.guard }], guard := some (14, true) }) (v := ?_) rfl (by kernel_rfl) (by kernel_rfl) (by kernel_rfl) (fun _ _ _ h => h) (Or.inl ⟨by rfl, ?_⟩) (by assumption) ?_
  rotate_left
  · first | (intro w hSw; (try dsimp only at hSw); go_simp; done) | (intro w hSw; (try dsimp only at hSw); go_simp; with_reducible rfl)
  simp only [Act.put, List.setIfInBounds_toArray, List.set_cons_zero, List.set_cons_succ]
  refine wpAnyH_take (i := 18) (oi := { dst := some 39, op := Op.move (Operand.tmp 38), type := 4, pos := "ref.go:301", after := #[{ on := 17, ground := Ground.data }, { on := 14, ground := Ground.chain }, { on := 14, ground := Ground.guard }], guard := some (14, true) }) (v := ?_) rfl (by kernel_rfl) (by kernel_rfl) (by kernel_rfl) (fun _ _ _ h => h) (Or.inl ⟨by rfl, ?_⟩) (by assumption) ?_
  rotate_left
  · first | (intro w hSw; (try dsimp only at hSw); go_simp; done) | (intro w hSw; (try dsimp only at hSw); go_simp; with_reducible rfl)
  simp only [Act.put, List.setIfInBounds_toArray, List.set_cons_zero, List.set_cons_succ]
  refine wpAnyH_take (i := 19) (oi := { dst := some 40, op := Op.fieldAddr 31 (Operand.tmp 2) 1, type := 0, pos := "ref.go:301", after := #[{ on := 18, ground := Ground.guard }], guard := some (18, false) }) (v := undef) rfl (by kernel_rfl) (by kernel_rfl) (by kernel_rfl) (fun _ _ _ h => h) (Or.inr ⟨by rfl, rfl⟩) (by assumption) ?_
  simp only [Act.put, List.setIfInBounds_toArray, List.set_cons_zero, List.set_cons_succ]
  refine wpAnyH_take (i := 20) (oi := { dst := some 41, op := Op.load 29 (Operand.tmp 40), type := 29, pos := "ref.go:301", after := #[{ on := 19, ground := Ground.data }, { on := 18, ground := Ground.guard }], guard := some (18, false) }) (v := undef) rfl (by kernel_rfl) (by kernel_rfl) (by kernel_rfl) (fun _ _ _ h => h) (Or.inr ⟨by rfl, rfl⟩) (by assumption) ?_
  simp only [Act.put, List.setIfInBounds_toArray, List.set_cons_zero, List.set_cons_succ]
  refine wpAnyH_take (i := 21) (oi := { dst := some 42, op := Op.nilCheck (Operand.tmp 41), type := 0, pos := "ref.go:301", after := #[{ on := 20, ground := Ground.data }, { on := 18, ground := Ground.guard }], guard := some (18, false) }) (v := undef) rfl (by kernel_rfl) (by kernel_rfl) (by kernel_rfl) (fun _ _ _ h => h) (Or.inr ⟨by rfl, rfl⟩) (by assumption) ?_
  simp only [Act.put, List.setIfInBounds_toArray, List.set_cons_zero, List.set_cons_succ]
  refine wpAnyH_take (i := 22) (oi := { dst := some 43, op := Op.load 26 (Operand.tmp 42), type := 26, pos := "ref.go:301", after := #[{ on := 21, ground := Ground.data }, { on := 18, ground := Ground.guard }], guard := some (18, false) }) (v := undef) rfl (by kernel_rfl) (by kernel_rfl) (by kernel_rfl) (fun _ _ _ h => h) (Or.inr ⟨by rfl, rfl⟩) (by assumption) ?_
  simp only [Act.put, List.setIfInBounds_toArray, List.set_cons_zero, List.set_cons_succ]
  refine wpAnyH_take (i := 23) (oi := { dst := some 44, op := Op.fieldAddr 31 (Operand.tmp 3) 1, type := 0, pos := "ref.go:301", after := #[{ on := 18, ground := Ground.guard }], guard := some (18, false) }) (v := undef) rfl (by kernel_rfl) (by kernel_rfl) (by kernel_rfl) (fun _ _ _ h => h) (Or.inr ⟨by rfl, rfl⟩) (by assumption) ?_
  simp only [Act.put, List.setIfInBounds_toArray, List.set_cons_zero, List.set_cons_succ]
  refine wpAnyH_take (i := 24) (oi := { dst := some 45, op := Op.load 29 (Operand.tmp 44), type := 29, pos := "ref.go:301", after := #[{ on := 23, ground := Ground.data }, { on := 18, ground := Ground.guard }], guard := some (18, false) }) (v := undef) rfl (by kernel_rfl) (by kernel_rfl) (by kernel_rfl) (fun _ _ _ h => h) (Or.inr ⟨by rfl, rfl⟩) (by assumption) ?_
  simp only [Act.put, List.setIfInBounds_toArray, List.set_cons_zero, List.set_cons_succ]
  refine wpAnyH_take (i := 25) (oi := { dst := some 46, op := Op.nilCheck (Operand.tmp 45), type := 0, pos := "ref.go:301", after := #[{ on := 24, ground := Ground.data }, { on := 18, ground := Ground.guard }], guard := some (18, false) }) (v := undef) rfl (by kernel_rfl) (by kernel_rfl) (by kernel_rfl) (fun _ _ _ h => h) (Or.inr ⟨by rfl, rfl⟩) (by assumption) ?_
  simp only [Act.put, List.setIfInBounds_toArray, List.set_cons_zero, List.set_cons_succ]
  refine wpAnyH_take (i := 26) (oi := { dst := some 47, op := Op.load 26 (Operand.tmp 46), type := 26, pos := "ref.go:301", after := #[{ on := 25, ground := Ground.data }, { on := 18, ground := Ground.guard }], guard := some (18, false) }) (v := undef) rfl (by kernel_rfl) (by kernel_rfl) (by kernel_rfl) (fun _ _ _ h => h) (Or.inr ⟨by rfl, rfl⟩) (by assumption) ?_
  simp only [Act.put, List.setIfInBounds_toArray, List.set_cons_zero, List.set_cons_succ]
  refine wpAnyH_take (i := 27) (oi := { dst := some 48, op := Op.call { callee := Callee.value (Operand.func 8), args := #[Operand.tmp 43, Operand.tmp 47], argTypes := #[26, 26] }, type := 4, pos := "ref.go:301", after := #[{ on := 22, ground := Ground.data }, { on := 26, ground := Ground.data }, { on := 18, ground := Ground.chain }, { on := 18, ground := Ground.guard }], guard := some (18, false) }) (v := undef) rfl (by kernel_rfl) (by kernel_rfl) (by kernel_rfl) (fun _ _ _ h => h) (Or.inr ⟨by rfl, rfl⟩) (by assumption) ?_
  simp only [Act.put, List.setIfInBounds_toArray, List.set_cons_zero, List.set_cons_succ]
  refine wpAnyH_take (i := 28) (oi := { dst := some 49, op := Op.pick (Operand.tmp 39) (Operand.const (Value.bool true)) (Operand.tmp 48), type := 4, pos := "ref.go:301", after := #[{ on := 18, ground := Ground.data }, { on := 27, ground := Ground.data }, { on := 14, ground := Ground.guard }], guard := some (14, true) }) (v := ?_) rfl (by kernel_rfl) (by kernel_rfl) (by kernel_rfl) (fun _ _ _ h => h) (Or.inl ⟨by rfl, ?_⟩) (by assumption) ?_
  rotate_left
  · first | (intro w hSw; (try dsimp only at hSw); go_simp; done) | (intro w hSw; (try dsimp only at hSw); go_simp; with_reducible rfl)
  simp only [Act.put, List.setIfInBounds_toArray, List.set_cons_zero, List.set_cons_succ]
  refine wpAnyH_take (i := 29) (oi := { dst := some 50, op := Op.pick (Operand.tmp 35) (Operand.tmp 49) (Operand.const (Value.bool false)), type := 4, pos := "ref.go:301", after := #[{ on := 14, ground := Ground.data }, { on := 28, ground := Ground.data }], guard := none }) (v := ?_) rfl (by kernel_rfl) (by kernel_rfl) (by kernel_rfl) (fun _ _ _ h => h) (Or.inl ⟨by rfl, ?_⟩) (by assumption) ?_
  rotate_left
  · first | (intro w hSw; (try dsimp only at hSw); go_simp; done) | (intro w hSw; (try dsimp only at hSw); go_simp; with_reducible rfl)
  simp only [Act.put, List.setIfInBounds_toArray, List.set_cons_zero, List.set_cons_succ]
  refine wpAnyH_take (i := 30) (oi := { dst := some 4, op := Op.assign (Operand.tmp 50), type := 4, pos := "ref.go:301", after := #[{ on := 29, ground := Ground.data }, { on := 27, ground := Ground.chain }, { on := 0, ground := Ground.phase }, { on := 1, ground := Ground.phase }, { on := 2, ground := Ground.phase }, { on := 3, ground := Ground.phase }, { on := 4, ground := Ground.phase }, { on := 5, ground := Ground.phase }, { on := 6, ground := Ground.phase }, { on := 7, ground := Ground.phase }, { on := 8, ground := Ground.phase }, { on := 9, ground := Ground.phase }, { on := 10, ground := Ground.phase }, { on := 11, ground := Ground.phase }, { on := 12, ground := Ground.phase }, { on := 13, ground := Ground.phase }, { on := 14, ground := Ground.phase }, { on := 15, ground := Ground.phase }, { on := 16, ground := Ground.phase }, { on := 17, ground := Ground.phase }, { on := 18, ground := Ground.phase }, { on := 19, ground := Ground.phase }, { on := 20, ground := Ground.phase }, { on := 21, ground := Ground.phase }, { on := 22, ground := Ground.phase }, { on := 23, ground := Ground.phase }, { on := 24, ground := Ground.phase }, { on := 25, ground := Ground.phase }, { on := 26, ground := Ground.phase }, { on := 27, ground := Ground.phase }, { on := 28, ground := Ground.phase }, { on := 29, ground := Ground.phase }], guard := none }) (v := ?_) rfl (by kernel_rfl) (by kernel_rfl) (by kernel_rfl) (fun _ _ _ h => h) (Or.inl ⟨by rfl, ?_⟩) (by assumption) ?_
  rotate_left
  · first | (intro w hSw; (try dsimp only at hSw); go_simp; done) | (intro w hSw; (try dsimp only at hSw); go_simp; with_reducible rfl)
  simp only [Act.put, List.setIfInBounds_toArray, List.set_cons_zero, List.set_cons_succ]
  refine wpAnyH_done (by kernel_rfl) ?_ _
  clear hS0
  go_wp2_with fail
  go_ret
  exact ⟨rfl, HB1.out⟩

set_option maxRecDepth 100000 in
set_option maxHeartbeats 1000000 in
theorem proofNil_any (A : Option Addr) (n c : Nat) (key : List UInt8) (w : World) (hk : Rd w w.heap.size A n key) (ht : Sh.Tab w 2) (hg : Fl.Laid w) (hw : 2 < w.heap.size) :
    Calls Tryd.prog 3 #[.slice A n c] w fun e w' => e = .returned (.bool true) ∧ Below w.heap.size w w' := by
  have HT := Lib.hid ht
  have HK := Lib.hid hk
  have HAW := Lib.hid (proofAwake_any w ht hg hw)
  clear ht hk hg
  go_enter Tryd.func3, Tryd.ntmps3
  go_wp2_with fail
  refine HAW.out.mono ?_
  rintro e w1 ⟨rfl, hb1⟩
  have HB1 := Lib.hid hb1
  clear hb1 HAW
  by_cases h300 : 300 < n
  · go_wp2_with fail
    go_ret
    exact ⟨rfl, HB1.out⟩
  · have h3b : decide (300 < n) = false := by rw [decide_eq_false_iff_not]; exact h300
    have HM := Lib.hid (make_any (G := All) none none A n c key w1 rfl ((HK.out.below HB1.out (Nat.le_refl _)).more HB1.out.size) (fun t e => by cases e))
    rw [ptr_none] at HM
    change Hid (Calls Tryd.prog 5 #[.pointer none, .slice A n c] w1 (MakePost none key w1)) at HM
    go_wp2_with fail
    refine HM.out.mono ?_
    rintro e w2 ⟨X, rfl, hP2, hb2⟩
    change PfV w2 w2.heap.size X noPf at hP2
    rw [show (made none key).2 = false from rfl]
    have HX := Lib.hid hP2.size
    have HP2 := Lib.hid hP2
    have HB2 := Lib.hid (HB1.out.trans (hb2.mono HB1.out.size))
    have hz26 := zero26
    clear hP2 hb2 HM HB1 h3b h300
    simp only []
    iterate 13 go_step
    clear hz26
    refine Sh.wpList_store_made rfl 26 (.tmp 3) (.tmp 17) rfl #[.slice none 0 0, .slice none 0 0, .slice none 0 0] X rfl rfl ?_ ?_ HX.out.2 ?_
    · rw [HX.out.1]; exact info26
    · rw [HX.out.1]; rfl
    have hb3 : Below w2.heap.size w2 (w2.alloc (.cells X 26)) := (Below.refl _ _).alloc (Nat.le_refl _) _
    have HW3 := Lib.hid (Whole.made w2 26 X)
    have HP3 := Lib.hid (HP2.out.on hb3)
    have HB3 := Lib.hid (HB2.out.trans (hb3.mono HB2.out.size))
    obtain ⟨g3, hg3⟩ : ∃ g3, w2.heap.size = g3 := ⟨_, rfl⟩
    rw [hg3] at HW3 ⊢
    clear hb3 HP2 HB2 hg3
    generalize w2.alloc (.cells X 26) = w3 at *
    have HN := Lib.hid (none_any (G := All) none none A n c key w3 rfl ((HK.out.below HB3.out (Nat.le_refl _)).more HB3.out.size) (fun t e => by cases e))
    rw [ptr_none] at HN
    change Hid (Calls Tryd.prog 6 #[.pointer none, .slice A n c] w3 (NonePost none key w3)) at HN
    go_wp2_with fail
    refine HN.out.mono ?_
    rintro e w4 ⟨v1, v2, rfl, hp1, hp2, hb4⟩
    obtain rfl := ptrv_none hp1
    obtain rfl := ptrv_none hp2
    rw [show (gapTo none key).2 = true from rfl]
    have HW4 := Lib.hid (HW3.out.below hb4 HW3.out.lt)
    have HP4 := Lib.hid (HP3.out.on hb4)
    have HB4 := Lib.hid (HB3.out.trans (hb4.mono HB3.out.size))
    have hz31 := zero31
    clear hp1 hp2 hb4 HN HW3 HP3 HB3
    simp only []
    iterate 13 go_step
    clear hz31
    refine Sh.wpList_store_made rfl 31 (.tmp 5) (.tmp 22) rfl #[.pointer none, .pointer none] #[.pointer none, .pointer none] rfl rfl info31 rfl (gap_one _ _) ?_
    have hb5 : Below w4.heap.size w4 (w4.alloc (.cells #[.pointer none, .pointer none] 31)) := (Below.refl _ _).alloc (Nat.le_refl _) _
    have HG5 := Lib.hid (Whole.made w4 31 #[.pointer none, .pointer none])
    have HW5 := Lib.hid (HW4.out.below hb5 HW4.out.lt)
    have HP5 := Lib.hid (HP4.out.on hb5)
    have HB5 := Lib.hid (HB4.out.trans (hb5.mono HB4.out.size))
    obtain ⟨g5, hg5⟩ : ∃ g5, w4.heap.size = g5 := ⟨_, rfl⟩
    rw [hg5] at HG5 ⊢
    clear hb5 HW4 HP4 HB4 hg5
    generalize w4.alloc (.cells #[.pointer none, .pointer none] 31) = w5 at *
    go_wp2_with fail
    refine (new_any (G := All) w5 (room (by have := HB5.out.size; omega))).mono ?_
    rintro e w6 ⟨g, rfl, -, hT6, hb6⟩
    have HW6 := Lib.hid (HW5.out.below hb6 HW5.out.lt)
    have HG6 := Lib.hid (HG5.out.below hb6 HG5.out.lt)
    have HP6 := Lib.hid (HP5.out.on hb6)
    have HB6 := Lib.hid (HB5.out.trans (hb6.mono HB5.out.size))
    have HN := Lib.hid (none_any (G := All) (some none) (some g) A n c key w6 ⟨g, rfl, hT6⟩ ((HK.out.below HB6.out (Nat.le_refl _)).more HB6.out.size) (fun t e => by cases e))
    change Hid (Calls Tryd.prog 6 #[ptr (some g), .slice A n c] w6 (NonePost none key w6)) at HN
    clear hT6 hb6 HW5 HG5 HP5 HB5
    rw [ptr_some] at HN ⊢
    go_wp2_with fail
    refine HN.out.mono ?_
    rintro e w7 ⟨v1, v2, rfl, hp1, hp2, hb7⟩
    obtain rfl := ptrv_none hp1
    obtain rfl := ptrv_none hp2
    rw [show (gapTo none key).2 = true from rfl]
    have HW7 := Lib.hid (HW6.out.below hb7 HW6.out.lt)
    have HG7 := Lib.hid (HG6.out.below hb7 HG6.out.lt)
    have HP7 := Lib.hid (HP6.out.on hb7)
    have HB7 := Lib.hid (HB6.out.trans (hb7.mono HB6.out.size))
    have hz31 := zero31
    clear hp1 hp2 hb7 HN HW6 HP6 HB6 HG6
    simp only []
    iterate 13 go_step
    clear hz31
    refine Sh.wpList_store_made rfl 31 (.tmp 7) (.tmp 28) rfl #[.pointer none, .pointer none] #[.pointer none, .pointer none] rfl rfl info31 rfl (gap_one _ _) ?_
    have hb8 : Below w7.heap.size w7 (w7.alloc (.cells #[.pointer none, .pointer none] 31)) := (Below.refl _ _).alloc (Nat.le_refl _) _
    have HH8 := Lib.hid (Whole.made w7 31 #[.pointer none, .pointer none])
    have HG8 := Lib.hid (HG7.out.below hb8 HG7.out.lt)
    have HW8 := Lib.hid (HW7.out.below hb8 HW7.out.lt)
    have HP8 := Lib.hid (HP7.out.on hb8)
    have HB8 := Lib.hid (HB7.out.trans (hb8.mono HB7.out.size))
    obtain ⟨g7, hg7⟩ : ∃ g7, w7.heap.size = g7 := ⟨_, rfl⟩
    rw [hg7] at HH8 ⊢
    clear hb8 HW7 HP7 HB7 HG7 hg7
    generalize w7.alloc (.cells #[.pointer none, .pointer none] 31) = w8 at *
    obtain ⟨s1, s2, s3, rfl⟩ : ∃ s1 s2 s3, X = #[s1, s2, s3] := by
      obtain ⟨A, n, c, A', n', c', A2, m, k, h, _⟩ := HP8.out
      exact ⟨_, _, _, h⟩
    have l0 := HW8.out.at_ (i := 0) (v := s1) rfl
    have l1 := HW8.out.at_ (i := 1) (v := s2) rfl
    have l2 := HW8.out.at_ (i := 2) (v := s3) rfl
    have hbz : ∀ w, (Instr.build 26 #[]).run Tryd.prog w = .ok (.agg #[.slice none 0 0, .slice none 0 0, .slice none 0 0]) w := fun w => run_build w 26 #[] _ (by kernel_rfl)
    have HSP := Lib.hid (sameproof_none #[s1, s2, s3] #[.slice none 0 0, .slice none 0 0, .slice none 0 0] w8 HP8.out (nopf w8))
    go_wp2_with fail
    refine HSP.out.mono ?_
    rintro e w9 ⟨rfl, hb9⟩
    have HB9 := Lib.hid (HB8.out.trans (hb9.mono HB8.out.size))
    have m0 := (HG8.out.below hb9 HG8.out.lt).at_ (i := 0) (v := .pointer none) rfl
    have m1 := (HG8.out.below hb9 HG8.out.lt).at_ (i := 1) (v := .pointer none) rfl
    have n0 := (HH8.out.below hb9 HH8.out.lt).at_ (i := 0) (v := .pointer none) rfl
    have n1 := (HH8.out.below hb9 HH8.out.lt).at_ (i := 1) (v := .pointer none) rfl
    have HSG := Lib.hid (samegap_none w9)
    clear hb9 HSP l0 l1 l2 hbz HG8 HH8 HW8 HP8 HB8
    go_wp2_with fail
    refine HSG.out.mono ?_
    rintro e w10 ⟨rfl, hb10⟩
    have HB10 := Lib.hid (HB9.out.trans (hb10.mono HB9.out.size))
    clear hb10 HSG m0 m1 n0 n1 HB9
    go_wp2_with fail
    go_ret
    exact ⟨rfl, HB10.out⟩
end Go.Proofs.YtehmkkccnadhoaaDoor

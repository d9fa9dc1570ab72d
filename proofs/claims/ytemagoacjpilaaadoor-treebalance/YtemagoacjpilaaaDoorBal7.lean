/-
  The law TreeBalance returns true for any calls; conditions: they are read, the table holds its words.
-/
import Derived.Test.YtemagoacjpilaaaDoorBalA
namespace Go.Proofs.YtemagoacjpilaaaDoor
open Go.RowKit
open Tr

theorem info4b : (Tryd.prog.info? 4).map (fun i => (i.zero, i.size, i.bytes)) = some (some (.bool false), 1, 1) := by kernel_rfl
/-- What is to be looked at. -/
def QOk (w : World) (base : Nat) (t : T) (v : Value) (qs : List (List Bool × T)) : Prop :=
  ∃ xs, QAt w base v qs.length xs ∧ ∀ (j : Nat) (q : List Bool × T), qs[j]? = some q → ∃ u, xs[j]? = some u ∧ WAt w v.ownBlock u q.1 ∧ oat (some t) q.1 = some q.2
theorem QOk.on {w w' : World} {base : Nat} {t : T} {v : Value} {qs : List (List Bool × T)} (h : QOk w base t v qs) (hb : Below w.heap.size w w') : QOk w' base t v qs := by
  obtain ⟨xs, h1, h2⟩ := h
  exact ⟨xs, h1.below hb, fun j q hq => by obtain ⟨u, h3, h4, h5⟩ := h2 j q hq; exact ⟨u, h3, h4.below hb, h5⟩⟩
theorem one_bools (way : List Bool) : ∀ u ∈ way.map Value.bool, u.oneCell' = true := by
  intro u hu
  simp only [List.mem_map] at hu
  obtain ⟨y, _, rfl⟩ := hu
  rfl
theorem wpList_append_q {ops : Array Oper} {rest : List Oper} {o : Oper} {a : Act} {w : World} {Q : Exit → Act → World → Prop} (hgd : o.guard = none) (s x : Operand)
    (ho : o.op = .call { callee := .builtin .append, args := #[s, x], argTypes := #[28, 28] }) (base m : Nat) (v : Value) (xs : List Value) (hs : a.eval s = v) (hQ : QAt w base v m xs) (hbase : base ≤ w.heap.size)
    (ad : Addr) (n c : Nat) (news : List Value) (hx : a.eval x = .slice (some ad) n c) (hl : news.length = n) (hnews : ∀ j u, news[j]? = some u → w.cell? (ad.add j) = some u) (h1 : ∀ u ∈ news, u.oneCell' = true) (hx1 : m + n ≤ 1000000)
    (h : ∀ v' w', QAt w' base v' (m + n) (xs ++ news) → w.grownBy w' v.ownBlock → (v'.ownBlock = v.ownBlock ∨ ∃ b, v'.ownBlock = some b ∧ w.heap.size ≤ b) → wpList Tryd.prog ops Q rest (a.put o.dst v') w') : wpList Tryd.prog ops Q (o :: rest) a w := by
  obtain ⟨v', w', hrun, h2, h3, h4⟩ := hQ.append hbase ad n c news hl hnews h1 hx1 o.type
  refine wpList_plain hgd fun K hK => ?_
  unfold Oper.wp execOp
  simp only [ho, resolve, invoke, builtin, Sem.run_bind, Sem.run_pure, Result.andThen_ok, List.map_toArray, List.map_cons, List.map_nil, hs, hx, hrun]
  exact hK _ _ (h v' w' h2 h3 h4)
theorem oat_avl : ∀ (t : T) (way : List Bool) (s : T), Avl t → oat (some t) way = some s → Avl s := by
  intro t way
  induction way generalizing t with
  | nil => intro s h e; cases t <;> (simp [oat] at e; subst e; exact h)
  | cons b r ih =>
    intro s h e
    cases t with
    | leaf k v => simp [oat] at e
    | node l q =>
      obtain ⟨h1, h2, _, _⟩ := h
      cases b with
      | false => exact ih l s h1 (by simpa [oat] using e)
      | true => exact ih q s h2 (by simpa [oat] using e)
theorem told_cells {w : World} {B : Nat} {s : T} {xs : Array Value} {A A' : Option Addr} {n c n' c' g : Nat} {ty : TypeId} (h : Told w B s xs A n c A' n' c') {w0 : World} (hw : Whole w0 g ty xs) :
    w0.cell? ⟨g, 2, none⟩ = some (.int .i64 s.h) ∧ w0.cell? ⟨g, 3, none⟩ = some (.int .u64 s.n) ∧ w0.rangeAt g 4 (s.lsum.map V8) ∧ w0.rangeAt g 36 (s.rsum.map V8) ∧ w0.rangeAt g 0 xs.toList := by
  have hr := hw.range
  rw [h.eq] at hw
  obtain ⟨_, _, h2, h3⟩ := abox hw
  exact ⟨h2, h3, acells_lrange hw, acells_rrange hw (lsum32 _), hr⟩
theorem range_below {w w' : World} {B b o : Nat} {cs : List Value} (h : w.rangeAt b o cs) (hb : Below B w w') (hB : b < B) : w'.rangeAt b o cs := fun j v hv => (hb.cell (p := ⟨b, o + j, none⟩) hB).trans (h j v hv)
def qsum (f : T → Nat) (qs : List (List Bool × T)) : Nat := (qs.map fun q => f q.2).sum
theorem qsum_app (f : T → Nat) (a b : List (List Bool × T)) : qsum f (a ++ b) = qsum f a + qsum f b := by simp [qsum]
theorem qsum_len (qs : List (List Bool × T)) : qs.length ≤ qsum T.n qs := by
  induction qs with
  | nil => exact Nat.le_refl _
  | cons q qs ih =>
    have h1 : qsum T.n (q :: qs) = q.2.n + qsum T.n qs := rfl
    have h2 := n_pos q.2
    simp only [List.length_cons]
    omega

set_option maxRecDepth 100000 in
set_option maxHeartbeats 1000000 in
theorem treeBalance_any (A : Option Addr) (n c : Nat) (cs : List Ac) (w : World) (hc : ARd w w.heap.size A n cs) (hn : n ≤ 9223372036854775807) (ht : Sh.Tab w 1) (hw : 1 < w.heap.size) :
    Calls Tryd.prog 3 #[.slice A n c] w fun e w' => e = .returned (.bool true) ∧ Below w.heap.size w w' := by
  have HAW := Lib.hid (awake_any w ht hw)
  have HC := Lib.hid hc
  have HT := Lib.hid ht
  clear hc ht
  go_enter Tryd.func3, Tryd.ntmps3
  go_wp2_with fail
  refine HAW.out.mono ?_
  rintro e w1 ⟨rfl, hb1⟩
  have hs1 := hb1.size
  have HB1 := Lib.hid hb1
  have HC1 := Lib.hid (grow_any All A n c cs 80 w1 (ARd.more (HC.out.below hb1 (Nat.le_refl _)) hs1) hn (by omega) (Sh.tab_below HT.out hb1 hw) (room (by omega)))
  clear hb1 HAW
  go_wp2_with fail
  refine HC1.out.mono ?_
  rintro e w2 ⟨g, A2, n2, c2, rfl, hT2, hp2, hnc2, _, hF2, hm2, hb2⟩
  generalize grow 80 cs none = o at *
  have hs2 := hb2.size
  have hn80 : n2 ≤ 80 := by have h1 := hp2.len; have h2 := oln_leaves o; omega
  have HLN : Hid (oln o = n2 ∧ n2 ≤ 80) := Lib.hid ⟨by rw [← oln_leaves]; exact hp2.len, hn80⟩
  have HT2 := Lib.hid hT2
  have HP2 := Lib.hid hp2
  have HF2 := Lib.hid hF2
  have HB2 := Lib.hid (HB1.out.trans (hb2.mono hs1))
  clear hT2 hp2 hF2 hb2 HC1 HB1 hm2
  go_upto_region 5 with (fail)
  have hb3 : Below w2.heap.size w2 (w2.alloc (.cells #[.slice none 0 0] 29)) := (Below.refl _ _).alloc (Nat.le_refl _) _
  have hw3 := Whole.made w2 29 #[.slice none 0 0]
  have hs3 : (w2.alloc (.cells #[.slice none 0 0] 29)).heap.size = w2.heap.size + 1 := size_alloc _ _
  generalize w2.alloc (.cells #[.slice none 0 0] 29) = w3 at *
  have HB3 := Lib.hid hb3
  have HW3 := Lib.hid hw3
  have HS3 := Lib.hid hs3
  clear hb3 hw3 hs3
  cases o with
  | none =>
    obtain rfl : n2 = 0 := by have := HLN.out.1; exact this.symm
    go_wp2_with fail
    go_loopg [5, 6] 0 (fun gk s5 s6 wx => gk = 0 ∧ s5 = .slice (some ⟨w2.heap.size, 0, none⟩) 1 1 ∧ s6 = .int .i64 0 ∧ wx = w3)
    case atStart => exact ⟨rfl, rfl, rfl, rfl⟩
    case round =>
      obtain ⟨rfl, rfl, rfl, rfl⟩ := hrel
      have HAL := Lib.hid (all_any (G := All) none g wr (HT2.out.on HB3.out) (by have := HLN.out; omega))
      rw [ptr_some] at HAL
      simp only [ptr_some]
      go_wp2_with fail
      refine HAL.out.mono ?_
      rintro e w30 hpo
      obtain ⟨A30, n30, c30, rfl, hp30, hc30, _, hb30⟩ := hpo.pairs
      have HSP := Lib.hid (samePairs_yes A30 n30 c30 A2 0 c2 (optLeaves none) w30 hp30 ((HP2.out.on HB3.out).on hb30) (by have h1 := hp30.len; have h2 := oln_leaves none; have := HLN.out; omega))
      have HB30 := Lib.hid ((HB2.out.trans (HB3.out.mono HB2.out.size)).trans (hb30.mono (by have := HB2.out.size; have := HB3.out.size; omega)))
      clear hpo hp30 hb30 HAL
      go_wp2_with fail
      refine HSP.out.mono ?_
      rintro e w31 ⟨rfl, hb31⟩
      have HB31 := Lib.hid (HB30.out.trans (hb31.mono HB30.out.size))
      clear hb31 HSP HB30
      go_wp2_with fail
      go_ret
      exact ⟨rfl, HB31.out⟩
  | some t =>
    have htn : t.n = n2 := HLN.out.1
    have HTN := Lib.hid htn
    obtain ⟨gq0, hgq0⟩ : ∃ gq0, w2.heap.size = gq0 := ⟨_, rfl⟩
    rw [hgq0] at HW3 HS3 ⊢
    have HGQ := Lib.hid hgq0
    have hq0 : QOk w3 gq0 t (.slice (some ⟨gq0, 0, none⟩) 1 1) [([], t)] := by
      refine ⟨[.slice none 0 0], ⟨gq0, 0, 1, rfl, Nat.le_refl _, by have := HS3.out; omega, Nat.le_refl _, by unfold maxLen; omega, rfl, fun j u hu => ?_, fun j hj => ?_, fun j => HW3.out.free j⟩, fun j q hq => ?_⟩
      · match j, hu with
        | 0, hu => simp at hu; subst hu; exact HW3.out.at_ rfl
        | j + 1, hu => simp at hu
      · obtain rfl : j = 0 := by omega
        rw [HW3.out.at_ (i := 0 + 0) (v := .slice none 0 0) rfl]; rfl
      · match j, hq with
        | 0, hq => simp at hq; subst hq; exact ⟨_, rfl, ⟨none, 0, 0, rfl, Nat.le_refl _, RdV.nil, fun _ _ e => by cases e⟩, oat_nil _⟩
        | j + 1, hq => simp at hq
    have HQ0 := Lib.hid hq0
    clear hq0 htn hgq0
    go_wp2_with fail
    go_loopg [5, 6] t.all.length (fun gk s5 s6 wx => ∃ (qs : List (List Bool × T)) (lv : Nat), gk = qsum (·.all.length) qs ∧ s6 = .int .i64 (lv : Nat) ∧ lv + qsum T.n qs = t.n ∧ QOk wx gq0 t s5 qs ∧ Below w2.heap.size w2 wx)
    case atStart => exact ⟨[([], t)], 0, by simp [qsum], rfl, by simp [qsum], HQ0.out, HB3.out⟩
    case round =>
      clear HQ0 HW3
      obtain ⟨qs, lv, hgk, rfl, hlv, hQ, hb⟩ := hrel
      have HBX := Lib.hid hb
      have hsx := hb.size
      clear hb
      cases qs with
      | nil =>
        obtain ⟨xs, ⟨gq, oq, cap, rfl, -⟩, -⟩ := hQ
        obtain rfl : lv = n2 := by have := HTN.out; simp [qsum] at hlv; omega
        clear hgk hlv
        have HAL := Lib.hid (all_any (G := All) (some t) g wr (HT2.out.on HBX.out) (by have := HLN.out; omega))
        rw [ptr_some] at HAL
        simp only [ptr_some]
        go_wp2_with fail
        refine HAL.out.mono ?_
        rintro e w30 hpo
        obtain ⟨A30, n30, c30, rfl, hp30, hc30, _, hb30⟩ := hpo.pairs
        have HSP := Lib.hid (samePairs_yes A30 n30 c30 A2 lv c2 (optLeaves (some t)) w30 hp30 ((HP2.out.on HBX.out).on hb30) (by have h1 := hp30.len; have h2 := oln_leaves (some t); have := HLN.out; omega))
        have HB30 := Lib.hid ((HB2.out.trans (HBX.out.mono HB2.out.size)).trans (hb30.mono (by have := HB2.out.size; have := HBX.out.size; omega)))
        clear hpo hp30 hb30 HAL
        go_wp2_with fail
        refine HSP.out.mono ?_
        rintro e w31 ⟨rfl, hb31⟩
        have HB31 := Lib.hid (HB30.out.trans (hb31.mono HB30.out.size))
        clear hb31 HSP HB30
        go_wp2_with fail
        go_ret
        exact ⟨rfl, HB31.out⟩
      | cons q qs =>
        obtain ⟨xs, hQA, hQW⟩ := hQ
        obtain ⟨u, hu, hWu, hoa⟩ := hQW 0 q rfl
        obtain ⟨xs', rfl⟩ : ∃ xs', xs = u :: xs' := by
          cases xs with
          | nil => simp at hu
          | cons a r => simp at hu; subst hu; exact ⟨r, rfl⟩
        have hQA' := hQA
        obtain ⟨gq, oq, cap, rfl, q2, q3, q4, q5, q6, q7, q8, q9⟩ := hQA'
        obtain ⟨Aw, nw, cw, rfl, hncw, hrw, hne⟩ := hWu
        obtain ⟨m, hm⟩ : ∃ m, qs.length = m := ⟨_, rfl⟩
        rw [List.length_cons, hm] at hQA q4 ⊢
        obtain ⟨A', hA'⟩ : ∃ A', (if cap = 1 then some (⟨gq, oq, none⟩ : Addr) else some ⟨gq, oq + 1, none⟩) = A' := ⟨_, rfl⟩
        have hpop := hQA.pop hA'
        have hcell : wr.cell? ⟨gq, oq, none⟩ = some (.slice Aw nw cw) := q7 0 _ rfl
        have hnw : q.1.length = nw := by have := hrw.1; simpa using this
        have hdeep := oat_deep t q.1 q.2 hoa
        have hblk : (Value.slice A' m (cap - 1)).ownBlock = some gq := by
          rw [← hA']
          split <;> rfl
        have hrest : QOk wr gq0 t (.slice A' m (cap - 1)) qs := by
          refine ⟨xs', by rw [hm]; exact hpop, fun j q' hq' => ?_⟩
          obtain ⟨u', h1, h2, h3⟩ := hQW (j + 1) q' (by simpa using hq')
          exact ⟨u', by simpa using h1, by rw [hblk]; exact h2, h3⟩
        have HQ := Lib.hid (And.intro hrw (And.intro hne hoa))
        have HREST := Lib.hid hrest
        have HIF := Lib.hid hA'
        have hnwl : nw + q.2.n ≤ 80 := by have := HTN.out; have := HLN.out.2; omega
        have hlv80 : lv ≤ 80 := by have := HTN.out; have := HLN.out.2; omega
        have hm80 : m ≤ 80 := by
          have h1 := qsum_len qs
          have h2 : qsum T.n (q :: qs) = q.2.n + qsum T.n qs := rfl
          have := HTN.out
          have := HLN.out.2
          omega
        have hcapl : (1 : Int) ≤ (m : Int) + 1 := by omega
        have HLV := Lib.hid (And.intro hgk (And.intro hlv hm))
        have HQ3 := Lib.hid (And.intro q3 (And.intro q2 hblk))
        clear hQA hQW hu hpop q2 q3 q5 q6 q7 q8 q9 hrw hne hoa hdeep hrest hgk hlv hm hnw hblk
        have hn2p : 0 < n2 := by have := HTN.out; have := n_pos t; omega
        have qn2 : decide (0 < n2) = true := by simp; omega
        obtain ⟨way, sq⟩ := q
        have HWY8 := Lib.hid (way_any (G := All) (some (some t)) (some g) Aw nw cw (way) wr ⟨g, rfl, HT2.out.on HBX.out⟩ HQ.out.1 (by omega))
        rw [ptr_some] at HWY8
        simp only [ptr_some]
        go_wp2_with fail
        refine HWY8.out.mono ?_
        rintro e wa8 hpost8
        rcases hpost8 with ⟨h, _⟩ | ⟨s8, xs8, A8, n8, c8, A8', n8', c8', hs8, rfl, hTo8, hba8⟩
        · exact absurd h (by rw [show oat (topOf (some (some t))) (way) = some sq from HQ.out.2.2]; intro h; cases h)
        obtain rfl : sq = s8 := by rw [show oat (topOf (some (some t))) (way) = some sq from HQ.out.2.2] at hs8; injection hs8
        have hcs8 : xs8.size = 68 := by rw [hTo8.eq, List.size_toArray, acells_len _ _ _ _ _ _ (lsum32 _) (rsum32 _)]
        have hone8 : xs8.all (·.oneCell') = true := by rw [hTo8.eq]; exact acells_one ..
        have HTo8 := Lib.hid hTo8
        clear HWY8 hTo8 hs8
        simp only []
        have hz64 := zero64
        iterate 13 go_step
        clear hz64
        have hwm8 := Whole.made wa8 35 z64
        refine wpList_store_mid rfl 35 (.tmp 8) (.tmp 42) rfl wa8.heap.size 0 xs8 rfl rfl ?_ ?_ hone8 ?_
        · rw [hcs8]; exact hwm8.there_
        · rw [hcs8]; exact info64
        have hws8 := hwm8.setAll (vs := xs8) (by rw [hcs8]; rfl)
        have hbs8 : Below wa8.heap.size wa8 ((wa8.alloc (.cells z64 35)).setCells wa8.heap.size 0 xs8.toList) := below_setCells wa8 wa8.heap.size _ 0 ((Below.refl _ _).alloc (Nat.le_refl _) _) (Nat.le_refl _)
        generalize (wa8.alloc (.cells z64 35)).setCells wa8.heap.size 0 xs8.toList = wb8 at *
        have hbi8 : Below wr.heap.size wr wb8 := hba8.trans (hbs8.mono hba8.size)
        have HBI8 := Lib.hid hbi8
        have HB8 := Lib.hid (HBX.out.trans (hbi8.mono HBX.out.size))
        have HTB8 := Lib.hid (HTo8.out.below hbs8)
        have HWB8 := Lib.hid hws8
        have hlt8 : wa8.heap.size < wb8.heap.size := hws8.lt
        clear hwm8 hws8 hbs8 hba8 hbi8 hone8 HTo8
        generalize wa8.heap.size = g8 at *
        obtain ⟨hk1, hk2, hk3, hk4⟩ : wb8.cell? ⟨g8, 0, none⟩ = some (.slice A8 n8 c8) ∧ wb8.cell? ⟨g8, 1, none⟩ = some (.slice A8' n8' c8') ∧ wb8.cell? ⟨g8, 2, none⟩ = some (.int .i64 sq.h) ∧ wb8.cell? ⟨g8, 3, none⟩ = some (.int .u64 sq.n) := by
          have h := HWB8.out
          rw [HTB8.out.eq] at h
          exact abox h
        cases sq with
        | leaf lk lvv =>
          have hnext : Hid (QOk wb8 gq0 t (.slice A' m (cap - 1)) qs ∧ Below w2.heap.size w2 wb8) := Lib.hid ⟨HREST.out.on HBI8.out, HB8.out⟩
          have hlv1 : lv + 1 + qsum T.n qs = t.n := by have h1 := HLV.out.2.1; have h2 : qsum T.n ((way, T.leaf lk lvv) :: qs) = 1 + qsum T.n qs := rfl; omega
          have hgk1 : gk = 1 + qsum (·.all.length) qs := HLV.out.1
          have HN := Lib.hid (And.intro hlv1 hgk1)
          clear hlv1 hgk1 HREST HBI8 HB8 HTB8 HWB8 hk1 hk2 hk4 hcell
          rw [show ((T.leaf lk lvv).h : Int) = 0 from rfl] at hk3
          go_wp2_with fail
          go_roundg (qsum (·.all.length) qs)
          case measure => have := HN.out.2; omega
          case rel => exact ⟨qs, lv + 1, rfl, congrArg (Value.int .i64) (by omega), HN.out.1, hnext.out⟩
        | node sl sr =>
          have hz0 : (((T.node sl sr).h : Int) == 0) = false := by have := h_ne sl sr; simp; omega
          have hS8 := HBI8.out.size
          have hrw8 := (HQ.out.1.below HBI8.out (Nat.le_refl _)).more hS8
          have HRW := Lib.hid hrw8
          have hcapw : nw ≤ 80 := by omega
          clear hrw8
          go_upto_region 14 with (fail)
          refine wp_region_lit ?_
          clear hk1 hk2 hk3 hk4 hz0 qn2 hcapl hcell
          iterate 6 go_step
          have hb20 : Below wb8.heap.size wb8 (wb8.alloc (.cells #[] 4)) := (Below.refl _ _).alloc (Nat.le_refl _) _
          have ho20 := World.ownsRow_lit (base := wb8.heap.size) (e := 4) (size := 1) wb8 #[] 0 (Nat.le_refl _) (by unfold maxLen; omega) rfl
          have hr20 := HRW.out.below hb20 (Nat.le_refl _)
          generalize wb8.alloc (.cells #[] 4) = w20 at *
          refine wpList_append_rd rfl (.tmp 51) (.tmp 52) 29 4 _ 1 1 rfl Tryd.underlying29 info4b rfl (by omega) wb8.heap.size _ 0 [] rfl ho20 _ Aw nw cw (way.map Value.bool) rfl hr20 (one_bools way) (by unfold maxLen; omega) (by omega) hb20.size ?_
          intro v21 w21 hown21 hb21
          obtain ⟨A21, c21, rfl, hc21, _⟩ := own_form hown21
          rw [Nat.zero_add, List.nil_append] at hown21
          have HO21 := Lib.hid hown21
          have HB21 := Lib.hid (hb20.trans hb21)
          have hs21 := HB21.out.size
          clear hb20 ho20 hr20 hown21 hb21
          iterate 3 go_step
          have hb22 : Below w21.heap.size w21 (w21.alloc (.cells #[.bool false] 4)) := (Below.refl _ _).alloc (Nat.le_refl _) _
          have ho22 := HO21.out.alloc (.cells #[.bool false] 4)
          have hr22 : RdV (w21.alloc (.cells #[.bool false] 4)) (w21.heap.size + 1) 1 (some ⟨w21.heap.size, 0, none⟩) 1 [.bool false] :=
            ⟨rfl, fun _ => ⟨_, _, rfl, by omega, fun j u hu => (Whole.made w21 4 #[.bool false]).at_ (by rw [Nat.zero_add]; simpa using hu)⟩⟩
          have hsz22 : (w21.alloc (.cells #[.bool false] 4)).heap.size = w21.heap.size + 1 := size_alloc _ _
          generalize w21.alloc (.cells #[.bool false] 4) = w22 at *
          refine wpList_append_rd rfl (.tmp 53) (.tmp 54) 29 4 _ 1 1 rfl Tryd.underlying29 info4b rfl (by omega) wb8.heap.size _ nw (way.map Value.bool) rfl ho22 _ _ 1 1 [.bool false] rfl hr22 (by intro u hu; simp at hu; subst hu; rfl) (by unfold maxLen; omega) (by omega) (by omega) ?_
          intro v23 w23 hown23 hb23
          obtain ⟨A23, c23, rfl, hc23, _⟩ := own_form hown23
          have HR23 := Lib.hid (RdV.of_own hown23)
          have hnew23' : ∀ b o, A23 = some ⟨b, o, none⟩ → wb8.heap.size ≤ b := fun b o e => (hown23.lt b (by rw [e]; rfl)).1
          have HB23 := Lib.hid (HB21.out.trans ((hb22.mono hs21).trans hb23))
          have hs23 := HB23.out.size
          clear hb22 ho22 hr22 hown23 hb23 HO21 HB21 hsz22 hs21
          iterate 6 go_step
          have hb24 : Below w23.heap.size w23 (w23.alloc (.cells #[] 4)) := (Below.refl _ _).alloc (Nat.le_refl _) _
          have ho24 := World.ownsRow_lit (base := w23.heap.size) (e := 4) (size := 1) w23 #[] 0 (Nat.le_refl _) (by unfold maxLen; omega) rfl
          have hr24 := ((HRW.out.below HB23.out (Nat.le_refl _)).more hs23).below hb24 (Nat.le_refl _)
          generalize w23.alloc (.cells #[] 4) = w24 at *
          refine wpList_append_rd rfl (.tmp 56) (.tmp 57) 29 4 _ 1 1 rfl Tryd.underlying29 info4b rfl (by omega) w23.heap.size _ 0 [] rfl ho24 _ Aw nw cw (way.map Value.bool) rfl hr24 (one_bools way) (by unfold maxLen; omega) (by omega) hb24.size ?_
          intro v25 w25 hown25 hb25
          obtain ⟨A25, c25, rfl, hc25, _⟩ := own_form hown25
          rw [Nat.zero_add, List.nil_append] at hown25
          have HO25 := Lib.hid hown25
          have HB25 := Lib.hid (hb24.trans hb25)
          have hs25 := HB25.out.size
          clear hb24 ho24 hr24 hown25 hb25
          iterate 3 go_step
          have hb26 : Below w25.heap.size w25 (w25.alloc (.cells #[.bool true] 4)) := (Below.refl _ _).alloc (Nat.le_refl _) _
          have ho26 := HO25.out.alloc (.cells #[.bool true] 4)
          have hr26 : RdV (w25.alloc (.cells #[.bool true] 4)) (w25.heap.size + 1) 1 (some ⟨w25.heap.size, 0, none⟩) 1 [.bool true] :=
            ⟨rfl, fun _ => ⟨_, _, rfl, by omega, fun j u hu => (Whole.made w25 4 #[.bool true]).at_ (by rw [Nat.zero_add]; simpa using hu)⟩⟩
          have hsz26 : (w25.alloc (.cells #[.bool true] 4)).heap.size = w25.heap.size + 1 := size_alloc _ _
          generalize w25.alloc (.cells #[.bool true] 4) = w26 at *
          refine wpList_append_rd rfl (.tmp 58) (.tmp 59) 29 4 _ 1 1 rfl Tryd.underlying29 info4b rfl (by omega) w23.heap.size _ nw (way.map Value.bool) rfl ho26 _ _ 1 1 [.bool true] rfl hr26 (by intro u hu; simp at hu; subst hu; rfl) (by unfold maxLen; omega) (by omega) (by omega) ?_
          intro v27 w27 hown27 hb27
          obtain ⟨A27, c27, rfl, hc27, _⟩ := own_form hown27
          have HNEW := Lib.hid (And.intro hnew23' (fun b o (e : A27 = some ⟨b, o, none⟩) => Nat.le_trans HB23.out.size (hown27.lt b (by rw [e]; rfl)).1))
          clear hnew23'
          have hB2327 : Below w23.heap.size w23 w27 := HB25.out.trans ((hb26.mono hs25).trans hb27)
          have hR27 := RdV.of_own hown27
          have hR23 := (HR23.out.below hB2327 (Nat.le_refl _)).more hB2327.size
          have e23 : way.map Value.bool ++ [Value.bool false] = (way ++ [false]).map Value.bool := by simp
          have e27 : way.map Value.bool ++ [Value.bool true] = (way ++ [true]).map Value.bool := by simp
          rw [e23] at hR23
          rw [e27] at hR27
          have HRA := Lib.hid hR23
          have HRBB := Lib.hid hR27
          have HBI14 := Lib.hid (HB23.out.trans (hB2327.mono hs23))
          have hs27 : wb8.heap.size ≤ w27.heap.size := HBI14.out.size
          clear hb26 ho26 hr26 hown27 hb27 HO25 HB25 hsz26 hs25 hB2327 hR27 hR23 e23 e27 HR23 HB23 hs23 HRW
          have HB27 := Lib.hid (HB8.out.trans (HBI14.out.mono (by have := HB8.out.size; omega)))
          have HOA15 : Hid (oat (some t) (way ++ [false]) = some sl) := Lib.hid (oat_snoc t way sl sr false HQ.out.2.2)
          have HOA16 : Hid (oat (some t) (way ++ [true]) = some sr) := Lib.hid (oat_snoc t way sl sr true HQ.out.2.2)
          have HWY15 := Lib.hid (way_any (G := All) (some (some t)) (some g) A23 (nw + 1) c23 (way ++ [false]) w27 ⟨g, rfl, HT2.out.on HB27.out⟩ HRA.out (by omega))
          rw [ptr_some] at HWY15
          go_wp2_with fail
          refine HWY15.out.mono ?_
          rintro e wa15 hpost15
          rcases hpost15 with ⟨h, _⟩ | ⟨s15, xs15, A15, n15, c15, A15', n15', c15', hs15, rfl, hTo15, hba15⟩
          · exact absurd h (by rw [show oat (topOf (some (some t))) (way ++ [false]) = some sl from HOA15.out]; intro h; cases h)
          obtain rfl : sl = s15 := by rw [show oat (topOf (some (some t))) (way ++ [false]) = some sl from HOA15.out] at hs15; injection hs15
          have hcs15 : xs15.size = 68 := by rw [hTo15.eq, List.size_toArray, acells_len _ _ _ _ _ _ (lsum32 _) (rsum32 _)]
          have hone15 : xs15.all (·.oneCell') = true := by rw [hTo15.eq]; exact acells_one ..
          have HTo15 := Lib.hid hTo15
          clear HWY15 hTo15 hs15
          simp only []
          have hz64 := zero64
          iterate 13 go_step
          clear hz64
          have hwm15 := Whole.made wa15 35 z64
          refine wpList_store_mid rfl 35 (.tmp 12) (.tmp 65) rfl wa15.heap.size 0 xs15 rfl rfl ?_ ?_ hone15 ?_
          · rw [hcs15]; exact hwm15.there_
          · rw [hcs15]; exact info64
          have hws15 := hwm15.setAll (vs := xs15) (by rw [hcs15]; rfl)
          have hbs15 : Below wa15.heap.size wa15 ((wa15.alloc (.cells z64 35)).setCells wa15.heap.size 0 xs15.toList) := below_setCells wa15 wa15.heap.size _ 0 ((Below.refl _ _).alloc (Nat.le_refl _) _) (Nat.le_refl _)
          generalize (wa15.alloc (.cells z64 35)).setCells wa15.heap.size 0 xs15.toList = wb15 at *
          have hbi15 : Below w27.heap.size w27 wb15 := hba15.trans (hbs15.mono hba15.size)
          have HBI15 := Lib.hid hbi15
          have HB15 := Lib.hid (HB27.out.trans (hbi15.mono HB27.out.size))
          have HTB15 := Lib.hid (HTo15.out.below hbs15)
          have HWB15 := Lib.hid hws15
          have hlt15 : wa15.heap.size < wb15.heap.size := hws15.lt
          clear hwm15 hws15 hbs15 hba15 hbi15 hone15 HTo15
          generalize wa15.heap.size = g15 at *
          have HWY16 := Lib.hid (way_any (G := All) (some (some t)) (some g) A27 (nw + 1) c27 (way ++ [true]) wb15 ⟨g, rfl, HT2.out.on HB15.out⟩ ((HRBB.out.below HBI15.out (Nat.le_refl _)).more HBI15.out.size) (by omega))
          rw [ptr_some] at HWY16
          go_wp2_with fail
          refine HWY16.out.mono ?_
          rintro e wa16 hpost16
          rcases hpost16 with ⟨h, _⟩ | ⟨s16, xs16, A16, n16, c16, A16', n16', c16', hs16, rfl, hTo16, hba16⟩
          · exact absurd h (by rw [show oat (topOf (some (some t))) (way ++ [true]) = some sr from HOA16.out]; intro h; cases h)
          obtain rfl : sr = s16 := by rw [show oat (topOf (some (some t))) (way ++ [true]) = some sr from HOA16.out] at hs16; injection hs16
          have hcs16 : xs16.size = 68 := by rw [hTo16.eq, List.size_toArray, acells_len _ _ _ _ _ _ (lsum32 _) (rsum32 _)]
          have hone16 : xs16.all (·.oneCell') = true := by rw [hTo16.eq]; exact acells_one ..
          have HTo16 := Lib.hid hTo16
          clear HWY16 hTo16 hs16
          simp only []
          have hz64 := zero64
          iterate 13 go_step
          clear hz64
          have hwm16 := Whole.made wa16 35 z64
          refine wpList_store_mid rfl 35 (.tmp 14) (.tmp 71) rfl wa16.heap.size 0 xs16 rfl rfl ?_ ?_ hone16 ?_
          · rw [hcs16]; exact hwm16.there_
          · rw [hcs16]; exact info64
          have hws16 := hwm16.setAll (vs := xs16) (by rw [hcs16]; rfl)
          have hbs16 : Below wa16.heap.size wa16 ((wa16.alloc (.cells z64 35)).setCells wa16.heap.size 0 xs16.toList) := below_setCells wa16 wa16.heap.size _ 0 ((Below.refl _ _).alloc (Nat.le_refl _) _) (Nat.le_refl _)
          generalize (wa16.alloc (.cells z64 35)).setCells wa16.heap.size 0 xs16.toList = wb16 at *
          have hbi16 : Below wb15.heap.size wb15 wb16 := hba16.trans (hbs16.mono hba16.size)
          have HBI16 := Lib.hid hbi16
          have HB16 := Lib.hid (HB15.out.trans (hbi16.mono HB15.out.size))
          have HTB16 := Lib.hid (HTo16.out.below hbs16)
          have HWB16 := Lib.hid hws16
          have hlt16 : wa16.heap.size < wb16.heap.size := hws16.lt
          clear hwm16 hws16 hbs16 hba16 hbi16 hone16 HTo16
          generalize wa16.heap.size = g16 at *
          have hW8 := HWB8.out.below (HBI14.out.trans ((HBI15.out.trans (HBI16.out.mono HBI15.out.size)).mono hs27)) hlt8
          have hW15 := HWB15.out.below HBI16.out hlt15
          obtain ⟨p8, r8, l8, m8, -⟩ := told_cells HTB8.out hW8
          obtain ⟨p15, r15, -, -, x15⟩ := told_cells HTB15.out hW15
          obtain ⟨p16, r16, -, -, x16⟩ := told_cells HTB16.out HWB16.out
          have hav : Avl (T.node sl sr) := oat_avl t way _ HF2.out.avl HQ.out.2.2
          obtain ⟨-, -, hv1, hv2⟩ := hav
          obtain ⟨D, hD⟩ : ∃ D : Int, (sl.h : Int) - (sr.h : Int) = D := ⟨_, rfl⟩
          have hDw : wrap64 D = D := by unfold wrap64; omega
          have qd1 : decide (D < -1) = false := by simp; omega
          have qd2 : decide (1 < D) = false := by simp; omega
          have hnsum : sl.n + sr.n ≤ 80 := by have h1 : (T.node sl sr).n = sl.n + sr.n := rfl; omega
          have hmx := i64_node sl sr (by omega)
          have hmu := u64_node sl sr (by omega)
          have HX := Lib.hid (And.intro x15 x16)
          have HPR := Lib.hid (And.intro p8 (And.intro p15 (And.intro p16 (And.intro r8 (And.intro r15 r16)))))
          have G8 : g8 < wb16.heap.size := hW8.lt
          have G15 : g15 < wb16.heap.size := hW15.lt
          have G16 : g16 < wb16.heap.size := hlt16
          clear hlt8 hlt15 hlt16 p8 r8 p15 r15 p16 r16 x15 x16 hW8 hW15 hv1 hv2
          obtain ⟨p8, p15, p16, r8, r15, r16⟩ := HPR.out
          go_upto_region 18 with (fail)
          have ht16 : Sh.Tab wb16 1 := Sh.tab_below HT.out ((HB2.out.trans (HB16.out.mono HB2.out.size))) hw
          have hsz1 : 1 < wb16.heap.size := by have := (HB2.out.trans (HB16.out.mono HB2.out.size)).size; omega
          have hg8 : g8 < wb16.heap.size := G8
          have hg15 : g15 < wb16.heap.size := G15
          have hg16 : g16 < wb16.heap.size := G16
          have e1 := fun w => run_eq49 sl.sum sl.sum (sum32 sl) (sum32 sl) w
          have e2 := fun w => run_eq49 sr.sum sr.sum (sum32 sr) (sum32 sr) w
          have HH15 := Lib.hid (fun (u : World) (hb : Below wb16.heap.size wb16 u) => hash_told sl xs15 A15 A15' n15 c15 n15' c15' _ wb15 u HTB15.out (HBI16.out.trans (hb.mono HBI16.out.size)) (by omega) (Sh.tab_below ht16 hb hsz1) (Nat.lt_of_lt_of_le hsz1 hb.size))
          have HH16 := Lib.hid (fun (u : World) (hb : Below wb16.heap.size wb16 u) => hash_told sr xs16 A16 A16' n16 c16 n16' c16' _ wb16 u HTB16.out hb (by omega) (Sh.tab_below ht16 hb hsz1) (Nat.lt_of_lt_of_le hsz1 hb.size))
          have il : (Tryd.prog.info? 33).map (·.size) = some (sl.sum.map V8).length := by rw [List.length_map, sum32]; exact info49
          have ir : (Tryd.prog.info? 33).map (·.size) = some (sr.sum.map V8).length := by rw [List.length_map, sum32]; exact info49
          have i15 : (Tryd.prog.info? 35).map (·.size) = some xs15.toList.length := by rw [Array.length_toList, hcs15]; exact info64
          have i16 : (Tryd.prog.info? 35).map (·.size) = some xs16.toList.length := by rw [Array.length_toList, hcs16]; exact info64
          change wb16.rangeAt g8 4 (sl.sum.map V8) at l8
          change wb16.rangeAt g8 36 (sr.sum.map V8) at m8
          rw [show (sl.sum == sl.sum) = true by simp] at e1
          rw [show (sr.sum == sr.sum) = true by simp] at e2
          change ∀ w, Sem.run Tryd.prog (Op.equalIn 10000 33 (Value.agg (sl.sum.map V8).toArray) (Value.agg (sl.sum.map V8).toArray)) w = _ at e1
          change ∀ w, Sem.run Tryd.prog (Op.equalIn 10000 33 (Value.agg (sr.sum.map V8).toArray) (Value.agg (sr.sum.map V8).toArray)) w = _ at e2
          obtain ⟨L15, hL15⟩ : ∃ L, sl.sum.map V8 = L := ⟨_, rfl⟩
          obtain ⟨L16, hL16⟩ : ∃ L, sr.sum.map V8 = L := ⟨_, rfl⟩
          have hb15 : ∀ x, Ending.returned (.agg (Sh.bcells sl.sum)) = x → Ending.returned (.agg L15.toArray) = x := fun x h => by rw [← hL15]; exact h
          have hb16 : ∀ x, Ending.returned (.agg (Sh.bcells sr.sum)) = x → Ending.returned (.agg L16.toArray) = x := fun x h => by rw [← hL16]; exact h
          rw [hL15] at e1 l8 il
          rw [hL16] at e2 m8 ir
          have hcb15 : Sh.bcells sl.sum = L15.toArray := by rw [← hL15]; rfl
          have hcb16 : Sh.bcells sr.sum = L16.toArray := by rw [← hL16]; rfl
          obtain ⟨x15, x16⟩ := HX.out
          have HIL := Lib.hid (And.intro il (And.intro ir (And.intro i15 i16)))
          have HCB := Lib.hid (And.intro hcb15 hcb16)
          clear hb15 hb16 hL15 hL16 il ir i15 i16 hcb15 hcb16 hn80
          obtain ⟨H, hH⟩ : ∃ H : Nat, (T.node sl sr).h = H := ⟨_, rfl⟩
          obtain ⟨NN, hNN⟩ : ∃ H : Nat, (T.node sl sr).n = H := ⟨_, rfl⟩
          rw [hH] at hmx p8
          rw [hNN] at hmu r8
          have hS0 : (wb16.drew.cell? ⟨g8, 2, none⟩ = some (.int .i64 H) ∧ wb16.drew.cell? ⟨g15, 2, none⟩ = some (.int .i64 sl.h) ∧ wb16.drew.cell? ⟨g16, 2, none⟩ = some (.int .i64 sr.h) ∧ wb16.drew.cell? ⟨g8, 3, none⟩ = some (.int .u64 NN) ∧ wb16.drew.cell? ⟨g15, 3, none⟩ = some (.int .u64 sl.n) ∧ wb16.drew.cell? ⟨g16, 3, none⟩ = some (.int .u64 sr.n)) ∧ wb16.drew.rangeAt g8 4 L15 ∧ wb16.drew.rangeAt g8 36 L16 ∧ wb16.drew.rangeAt g15 0 xs15.toList ∧ wb16.drew.rangeAt g16 0 xs16.toList := ⟨⟨p8, p15, p16, r8, r15, r16⟩, l8, m8, x15, x16⟩
          have HKEEP : Hid (∀ u, Below wb16.heap.size wb16 u → (u.cell? ⟨g8, 2, none⟩ = some (.int .i64 H) ∧ u.cell? ⟨g15, 2, none⟩ = some (.int .i64 sl.h) ∧ u.cell? ⟨g16, 2, none⟩ = some (.int .i64 sr.h) ∧ u.cell? ⟨g8, 3, none⟩ = some (.int .u64 NN) ∧ u.cell? ⟨g15, 3, none⟩ = some (.int .u64 sl.n) ∧ u.cell? ⟨g16, 3, none⟩ = some (.int .u64 sr.n)) ∧ u.rangeAt g8 4 L15 ∧ u.rangeAt g8 36 L16 ∧ u.rangeAt g15 0 xs15.toList ∧ u.rangeAt g16 0 xs16.toList) := Lib.hid (fun u hb =>
            ⟨⟨(hb.cell (p := ⟨g8, 2, none⟩) hg8).trans p8, (hb.cell (p := ⟨g15, 2, none⟩) hg15).trans p15, (hb.cell (p := ⟨g16, 2, none⟩) hg16).trans p16, (hb.cell (p := ⟨g8, 3, none⟩) hg8).trans r8, (hb.cell (p := ⟨g15, 3, none⟩) hg15).trans r15, (hb.cell (p := ⟨g16, 3, none⟩) hg16).trans r16⟩,
              range_below l8 hb hg8, range_below m8 hb hg8, range_below x15 hb hg15, range_below x16 hb hg16⟩)
          clear p8 p15 p16 r8 r15 r16 l8 m8 x15 x16
          refine wp_region_held_drew (S := fun u => (u.cell? ⟨g8, 2, none⟩ = some (.int .i64 H) ∧ u.cell? ⟨g15, 2, none⟩ = some (.int .i64 sl.h) ∧ u.cell? ⟨g16, 2, none⟩ = some (.int .i64 sr.h) ∧ u.cell? ⟨g8, 3, none⟩ = some (.int .u64 NN) ∧ u.cell? ⟨g15, 3, none⟩ = some (.int .u64 sl.n) ∧ u.cell? ⟨g16, 3, none⟩ = some (.int .u64 sr.n)) ∧ u.rangeAt g8 4 L15 ∧ u.rangeAt g8 36 L16 ∧ u.rangeAt g15 0 xs15.toList ∧ u.rangeAt g16 0 xs16.toList) (by kernel_rfl) hS0 (fun hHeld => ?_)
          refine wpAnyH_take (i := 0) (oi := { dst := some 78, op := Op.move (Operand.tmp 15), type := 4, pos := "law.go:176", after := #[], guard := none }) (v := ?_) rfl (by kernel_rfl) (by kernel_rfl) (by kernel_rfl) (fun _ _ _ h => h) (Or.inl ⟨by rfl, ?_⟩) (by assumption) ?_
          rotate_left
          · first | (intro w hSw; (try dsimp only at hSw); go_simp; done) | (intro w hSw; (try dsimp only at hSw); go_simp; with_reducible rfl)
          simp only [Act.put, List.setIfInBounds_toArray, List.set_cons_zero, List.set_cons_succ]
          refine wpAnyH_take (i := 1) (oi := { dst := some 79, op := Op.unOp UnOp.not 4 (Operand.tmp 78), type := 4, pos := "law.go:176", after := #[{ on := 0, ground := Ground.data }], guard := none }) (v := ?_) rfl (by kernel_rfl) (by kernel_rfl) (by kernel_rfl) (fun _ _ _ h => h) (Or.inl ⟨by rfl, ?_⟩) (by assumption) ?_
          rotate_left
          · first | (intro w hSw; (try dsimp only at hSw); go_simp; done) | (intro w hSw; (try dsimp only at hSw); go_simp; with_reducible rfl)
          simp only [Act.put, List.setIfInBounds_toArray, List.set_cons_zero, List.set_cons_succ]
          refine wpAnyH_take (i := 2) (oi := { dst := some 80, op := Op.move (Operand.tmp 79), type := 4, pos := "law.go:176", after := #[{ on := 1, ground := Ground.data }], guard := none }) (v := ?_) rfl (by kernel_rfl) (by kernel_rfl) (by kernel_rfl) (fun _ _ _ h => h) (Or.inl ⟨by rfl, ?_⟩) (by assumption) ?_
          rotate_left
          · first | (intro w hSw; (try dsimp only at hSw); go_simp; done) | (intro w hSw; (try dsimp only at hSw); go_simp; with_reducible rfl)
          simp only [Act.put, List.setIfInBounds_toArray, List.set_cons_zero, List.set_cons_succ]
          refine wpAnyH_take (i := 3) (oi := { dst := some 81, op := Op.move (Operand.tmp 16), type := 3, pos := "law.go:176", after := #[{ on := 2, ground := Ground.guard }], guard := some (2, false) }) (v := ?_) rfl (by kernel_rfl) (by kernel_rfl) (by kernel_rfl) (fun _ _ _ h => h) (Or.inl ⟨by rfl, ?_⟩) (by assumption) ?_
          rotate_left
          · first | (intro w hSw; (try dsimp only at hSw); go_simp; done) | (intro w hSw; (try dsimp only at hSw); go_simp; with_reducible rfl)
          simp only [Act.put, List.setIfInBounds_toArray, List.set_cons_zero, List.set_cons_succ]
          refine wpAnyH_take (i := 4) (oi := { dst := some 82, op := Op.binOp BinOp.lss 3 (Operand.tmp 81) (Operand.const (Value.int IntKind.i64 (-1))) 3, type := 4, pos := "law.go:176", after := #[{ on := 3, ground := Ground.data }, { on := 2, ground := Ground.guard }], guard := some (2, false) }) (v := ?_) rfl (by kernel_rfl) (by kernel_rfl) (by kernel_rfl) (fun _ _ _ h => h) (Or.inl ⟨by rfl, ?_⟩) (by assumption) ?_
          rotate_left
          · first | (intro w hSw; (try dsimp only at hSw); go_simp; done) | (intro w hSw; (try dsimp only at hSw); go_simp; with_reducible rfl)
          simp only [Act.put, List.setIfInBounds_toArray, List.set_cons_zero, List.set_cons_succ]
          refine wpAnyH_take (i := 5) (oi := { dst := some 83, op := Op.pick (Operand.tmp 80) (Operand.const (Value.bool true)) (Operand.tmp 82), type := 4, pos := "law.go:176", after := #[{ on := 2, ground := Ground.data }, { on := 4, ground := Ground.data }], guard := none }) (v := ?_) rfl (by kernel_rfl) (by kernel_rfl) (by kernel_rfl) (fun _ _ _ h => h) (Or.inl ⟨by rfl, ?_⟩) (by assumption) ?_
          rotate_left
          · first | (intro w hSw; (try dsimp only at hSw); go_simp; done) | (intro w hSw; (try dsimp only at hSw); go_simp; with_reducible rfl)
          simp only [Act.put, List.setIfInBounds_toArray, List.set_cons_zero, List.set_cons_succ]
          refine wpAnyH_take (i := 6) (oi := { dst := some 84, op := Op.move (Operand.tmp 83), type := 4, pos := "law.go:176", after := #[{ on := 5, ground := Ground.data }, { on := 2, ground := Ground.chain }], guard := none }) (v := ?_) rfl (by kernel_rfl) (by kernel_rfl) (by kernel_rfl) (fun _ _ _ h => h) (Or.inl ⟨by rfl, ?_⟩) (by assumption) ?_
          rotate_left
          · first | (intro w hSw; (try dsimp only at hSw); go_simp; done) | (intro w hSw; (try dsimp only at hSw); go_simp; with_reducible rfl)
          simp only [Act.put, List.setIfInBounds_toArray, List.set_cons_zero, List.set_cons_succ]
          refine wpAnyH_take (i := 7) (oi := { dst := some 85, op := Op.move (Operand.tmp 16), type := 3, pos := "law.go:176", after := #[{ on := 6, ground := Ground.guard }], guard := some (6, false) }) (v := ?_) rfl (by kernel_rfl) (by kernel_rfl) (by kernel_rfl) (fun _ _ _ h => h) (Or.inl ⟨by rfl, ?_⟩) (by assumption) ?_
          rotate_left
          · first | (intro w hSw; (try dsimp only at hSw); go_simp; done) | (intro w hSw; (try dsimp only at hSw); go_simp; with_reducible rfl)
          simp only [Act.put, List.setIfInBounds_toArray, List.set_cons_zero, List.set_cons_succ]
          refine wpAnyH_take (i := 8) (oi := { dst := some 86, op := Op.binOp BinOp.gtr 3 (Operand.tmp 85) (Operand.const (Value.int IntKind.i64 1)) 3, type := 4, pos := "law.go:176", after := #[{ on := 7, ground := Ground.data }, { on := 6, ground := Ground.guard }], guard := some (6, false) }) (v := ?_) rfl (by kernel_rfl) (by kernel_rfl) (by kernel_rfl) (fun _ _ _ h => h) (Or.inl ⟨by rfl, ?_⟩) (by assumption) ?_
          rotate_left
          · first | (intro w hSw; (try dsimp only at hSw); go_simp; done) | (intro w hSw; (try dsimp only at hSw); go_simp; with_reducible rfl)
          simp only [Act.put, List.setIfInBounds_toArray, List.set_cons_zero, List.set_cons_succ]
          refine wpAnyH_take (i := 9) (oi := { dst := some 87, op := Op.pick (Operand.tmp 84) (Operand.const (Value.bool true)) (Operand.tmp 86), type := 4, pos := "law.go:176", after := #[{ on := 6, ground := Ground.data }, { on := 8, ground := Ground.data }], guard := none }) (v := ?_) rfl (by kernel_rfl) (by kernel_rfl) (by kernel_rfl) (fun _ _ _ h => h) (Or.inl ⟨by rfl, ?_⟩) (by assumption) ?_
          rotate_left
          · first | (intro w hSw; (try dsimp only at hSw); go_simp; done) | (intro w hSw; (try dsimp only at hSw); go_simp; with_reducible rfl)
          simp only [Act.put, List.setIfInBounds_toArray, List.set_cons_zero, List.set_cons_succ]
          refine wpAnyH_take (i := 10) (oi := { dst := some 88, op := Op.move (Operand.tmp 87), type := 4, pos := "law.go:176", after := #[{ on := 9, ground := Ground.data }, { on := 6, ground := Ground.chain }], guard := none }) (v := ?_) rfl (by kernel_rfl) (by kernel_rfl) (by kernel_rfl) (fun _ _ _ h => h) (Or.inl ⟨by rfl, ?_⟩) (by assumption) ?_
          rotate_left
          · first | (intro w hSw; (try dsimp only at hSw); go_simp; done) | (intro w hSw; (try dsimp only at hSw); go_simp; with_reducible rfl)
          simp only [Act.put, List.setIfInBounds_toArray, List.set_cons_zero, List.set_cons_succ]
          refine wpAnyH_take (i := 11) (oi := { dst := some 89, op := Op.fieldAddr 35 (Operand.tmp 8) 2, type := 0, pos := "law.go:176", after := #[{ on := 10, ground := Ground.guard }], guard := some (10, false) }) (v := ?_) rfl (by kernel_rfl) (by kernel_rfl) (by kernel_rfl) (fun _ _ _ h => h) (Or.inl ⟨by rfl, ?_⟩) (by assumption) ?_
          rotate_left
          · first | (intro w hSw; (try dsimp only at hSw); go_simp; done) | (intro w hSw; (try dsimp only at hSw); go_simp; with_reducible rfl)
          simp only [Act.put, List.setIfInBounds_toArray, List.set_cons_zero, List.set_cons_succ]
          refine wpAnyH_take (i := 12) (oi := { dst := some 90, op := Op.load 3 (Operand.tmp 89), type := 3, pos := "law.go:176", after := #[{ on := 11, ground := Ground.data }, { on := 10, ground := Ground.guard }], guard := some (10, false) }) (v := ?_) rfl (by kernel_rfl) (by kernel_rfl) (by kernel_rfl) (fun _ _ _ h => h) (Or.inl ⟨by rfl, ?_⟩) (by assumption) ?_
          rotate_left
          · first | (intro w hSw; (try dsimp only at hSw); go_simp; done) | (intro w hSw; (try dsimp only at hSw); go_simp; with_reducible rfl)
          simp only [Act.put, List.setIfInBounds_toArray, List.set_cons_zero, List.set_cons_succ]
          refine wpAnyH_take (i := 13) (oi := { dst := some 91, op := Op.fieldAddr 35 (Operand.tmp 12) 2, type := 0, pos := "law.go:176", after := #[{ on := 10, ground := Ground.guard }], guard := some (10, false) }) (v := ?_) rfl (by kernel_rfl) (by kernel_rfl) (by kernel_rfl) (fun _ _ _ h => h) (Or.inl ⟨by rfl, ?_⟩) (by assumption) ?_
          rotate_left
          · first | (intro w hSw; (try dsimp only at hSw); go_simp; done) | (intro w hSw; (try dsimp only at hSw); go_simp; with_reducible rfl)
          simp only [Act.put, List.setIfInBounds_toArray, List.set_cons_zero, List.set_cons_succ]
          refine wpAnyH_take (i := 14) (oi := { dst := some 92, op := Op.load 3 (Operand.tmp 91), type := 3, pos := "law.go:176", after := #[{ on := 13, ground := Ground.data }, { on := 10, ground := Ground.guard }], guard := some (10, false) }) (v := ?_) rfl (by kernel_rfl) (by kernel_rfl) (by kernel_rfl) (fun _ _ _ h => h) (Or.inl ⟨by rfl, ?_⟩) (by assumption) ?_
          rotate_left
          · first | (intro w hSw; (try dsimp only at hSw); go_simp; done) | (intro w hSw; (try dsimp only at hSw); go_simp; with_reducible rfl)
          simp only [Act.put, List.setIfInBounds_toArray, List.set_cons_zero, List.set_cons_succ]
          refine wpAnyH_take (i := 15) (oi := { dst := some 93, op := Op.fieldAddr 35 (Operand.tmp 14) 2, type := 0, pos := "law.go:176", after := #[{ on := 10, ground := Ground.guard }], guard := some (10, false) }) (v := ?_) rfl (by kernel_rfl) (by kernel_rfl) (by kernel_rfl) (fun _ _ _ h => h) (Or.inl ⟨by rfl, ?_⟩) (by assumption) ?_
          rotate_left
          · first | (intro w hSw; (try dsimp only at hSw); go_simp; done) | (intro w hSw; (try dsimp only at hSw); go_simp; with_reducible rfl)
          simp only [Act.put, List.setIfInBounds_toArray, List.set_cons_zero, List.set_cons_succ]
          refine wpAnyH_take (i := 16) (oi := { dst := some 94, op := Op.load 3 (Operand.tmp 93), type := 3, pos := "law.go:176", after := #[{ on := 15, ground := Ground.data }, { on := 10, ground := Ground.guard }], guard := some (10, false) }) (v := ?_) rfl (by kernel_rfl) (by kernel_rfl) (by kernel_rfl) (fun _ _ _ h => h) (Or.inl ⟨by rfl, ?_⟩) (by assumption) ?_
          rotate_left
          · first | (intro w hSw; (try dsimp only at hSw); go_simp; done) | (intro w hSw; (try dsimp only at hSw); go_simp; with_reducible rfl)
          simp only [Act.put, List.setIfInBounds_toArray, List.set_cons_zero, List.set_cons_succ]
          refine wpAnyH_take (i := 17) (oi := { dst := some 95, op := Op.call { callee := Callee.builtin Builtin.max, args := #[Operand.tmp 92, Operand.tmp 94], argTypes := #[3, 3] }, type := 3, pos := "law.go:176", after := #[{ on := 14, ground := Ground.data }, { on := 16, ground := Ground.data }, { on := 10, ground := Ground.guard }], guard := some (10, false) }) (v := ?_) rfl (by kernel_rfl) (by kernel_rfl) (by kernel_rfl) (fun _ _ _ h => h) (Or.inl ⟨by rfl, ?_⟩) (by assumption) ?_
          rotate_left
          · first | (intro w hSw; (try dsimp only at hSw); go_simp; done) | (intro w hSw; (try dsimp only at hSw); go_simp; with_reducible rfl)
          simp only [Act.put, List.setIfInBounds_toArray, List.set_cons_zero, List.set_cons_succ]
          refine wpAnyH_take (i := 18) (oi := { dst := some 96, op := Op.binOp BinOp.add 3 (Operand.const (Value.int IntKind.i64 1)) (Operand.tmp 95) 3, type := 3, pos := "law.go:176", after := #[{ on := 17, ground := Ground.data }, { on := 10, ground := Ground.guard }], guard := some (10, false) }) (v := ?_) rfl (by kernel_rfl) (by kernel_rfl) (by kernel_rfl) (fun _ _ _ h => h) (Or.inl ⟨by rfl, ?_⟩) (by assumption) ?_
          rotate_left
          · first | (intro w hSw; (try dsimp only at hSw); go_simp; done) | (intro w hSw; (try dsimp only at hSw); go_simp; with_reducible rfl)
          simp only [Act.put, List.setIfInBounds_toArray, List.set_cons_zero, List.set_cons_succ]
          refine wpAnyH_take (i := 19) (oi := { dst := some 97, op := Op.binOp BinOp.neq 3 (Operand.tmp 90) (Operand.tmp 96) 3, type := 4, pos := "law.go:176", after := #[{ on := 12, ground := Ground.data }, { on := 18, ground := Ground.data }, { on := 10, ground := Ground.guard }], guard := some (10, false) }) (v := ?_) rfl (by kernel_rfl) (by kernel_rfl) (by kernel_rfl) (fun _ _ _ h => h) (Or.inl ⟨by rfl, ?_⟩) (by assumption) ?_
          rotate_left
          · first | (intro w hSw; (try dsimp only at hSw); go_simp; done) | (intro w hSw; (try dsimp only at hSw); go_simp; with_reducible rfl)
          simp only [Act.put, List.setIfInBounds_toArray, List.set_cons_zero, List.set_cons_succ]
          refine wpAnyH_take (i := 20) (oi := { dst := some 98, op := Op.pick (Operand.tmp 88) (Operand.const (Value.bool true)) (Operand.tmp 97), type := 4, pos := "law.go:176", after := #[{ on := 10, ground := Ground.data }, { on := 19, ground := Ground.data }], guard := none }) (v := ?_) rfl (by kernel_rfl) (by kernel_rfl) (by kernel_rfl) (fun _ _ _ h => h) (Or.inl ⟨by rfl, ?_⟩) (by assumption) ?_
          rotate_left
          · first | (intro w hSw; (try dsimp only at hSw); go_simp; done) | (intro w hSw; (try dsimp only at hSw); go_simp; with_reducible rfl)
          simp only [Act.put, List.setIfInBounds_toArray, List.set_cons_zero, List.set_cons_succ]
          refine wpAnyH_take (i := 21) (oi := { dst := some 99, op := Op.move (Operand.tmp 98), type := 4, pos := "law.go:176", after := #[{ on := 20, ground := Ground.data }, { on := 10, ground := Ground.chain }], guard := none }) (v := ?_) rfl (by kernel_rfl) (by kernel_rfl) (by kernel_rfl) (fun _ _ _ h => h) (Or.inl ⟨by rfl, ?_⟩) (by assumption) ?_
          rotate_left
          · first | (intro w hSw; (try dsimp only at hSw); go_simp; done) | (intro w hSw; (try dsimp only at hSw); go_simp; with_reducible rfl)
          simp only [Act.put, List.setIfInBounds_toArray, List.set_cons_zero, List.set_cons_succ]
          refine wpAnyH_take (i := 22) (oi := { dst := some 100, op := Op.fieldAddr 35 (Operand.tmp 8) 3, type := 0, pos := "law.go:176", after := #[{ on := 21, ground := Ground.guard }], guard := some (21, false) }) (v := ?_) rfl (by kernel_rfl) (by kernel_rfl) (by kernel_rfl) (fun _ _ _ h => h) (Or.inl ⟨by rfl, ?_⟩) (by assumption) ?_
          rotate_left
          · first | (intro w hSw; (try dsimp only at hSw); go_simp; done) | (intro w hSw; (try dsimp only at hSw); go_simp; with_reducible rfl)
          simp only [Act.put, List.setIfInBounds_toArray, List.set_cons_zero, List.set_cons_succ]
          refine wpAnyH_take (i := 23) (oi := { dst := some 101, op := Op.load 31 (Operand.tmp 100), type := 31, pos := "law.go:176", after := #[{ on := 22, ground := Ground.data }, { on := 21, ground := Ground.guard }], guard := some (21, false) }) (v := ?_) rfl (by kernel_rfl) (by kernel_rfl) (by kernel_rfl) (fun _ _ _ h => h) (Or.inl ⟨by rfl, ?_⟩) (by assumption) ?_
          rotate_left
          · first | (intro w hSw; (try dsimp only at hSw); go_simp; done) | (intro w hSw; (try dsimp only at hSw); go_simp; with_reducible rfl)
          simp only [Act.put, List.setIfInBounds_toArray, List.set_cons_zero, List.set_cons_succ]
          refine wpAnyH_take (i := 24) (oi := { dst := some 102, op := Op.fieldAddr 35 (Operand.tmp 12) 3, type := 0, pos := "law.go:176", after := #[{ on := 21, ground := Ground.guard }], guard := some (21, false) }) (v := ?_) rfl (by kernel_rfl) (by kernel_rfl) (by kernel_rfl) (fun _ _ _ h => h) (Or.inl ⟨by rfl, ?_⟩) (by assumption) ?_
          rotate_left
          · first | (intro w hSw; (try dsimp only at hSw); go_simp; done) | (intro w hSw; (try dsimp only at hSw); go_simp; with_reducible rfl)
          simp only [Act.put, List.setIfInBounds_toArray, List.set_cons_zero, List.set_cons_succ]
          refine wpAnyH_take (i := 25) (oi := { dst := some 103, op := Op.load 31 (Operand.tmp 102), type := 31, pos := "law.go:176", after := #[{ on := 24, ground := Ground.data }, { on := 21, ground := Ground.guard }], guard := some (21, false) }) (v := ?_) rfl (by kernel_rfl) (by kernel_rfl) (by kernel_rfl) (fun _ _ _ h => h) (Or.inl ⟨by rfl, ?_⟩) (by assumption) ?_
          rotate_left
          · first | (intro w hSw; (try dsimp only at hSw); go_simp; done) | (intro w hSw; (try dsimp only at hSw); go_simp; with_reducible rfl)
          simp only [Act.put, List.setIfInBounds_toArray, List.set_cons_zero, List.set_cons_succ]
          refine wpAnyH_take (i := 26) (oi := { dst := some 104, op := Op.fieldAddr 35 (Operand.tmp 14) 3, type := 0, pos := "law.go:176", after := #[{ on := 21, ground := Ground.guard }], guard := some (21, false) }) (v := ?_) rfl (by kernel_rfl) (by kernel_rfl) (by kernel_rfl) (fun _ _ _ h => h) (Or.inl ⟨by rfl, ?_⟩) (by assumption) ?_
          rotate_left
          · first | (intro w hSw; (try dsimp only at hSw); go_simp; done) | (intro w hSw; (try dsimp only at hSw); go_simp; with_reducible rfl)
          simp only [Act.put, List.setIfInBounds_toArray, List.set_cons_zero, List.set_cons_succ]
          refine wpAnyH_take (i := 27) (oi := { dst := some 105, op := Op.load 31 (Operand.tmp 104), type := 31, pos := "law.go:176", after := #[{ on := 26, ground := Ground.data }, { on := 21, ground := Ground.guard }], guard := some (21, false) }) (v := ?_) rfl (by kernel_rfl) (by kernel_rfl) (by kernel_rfl) (fun _ _ _ h => h) (Or.inl ⟨by rfl, ?_⟩) (by assumption) ?_
          rotate_left
          · first | (intro w hSw; (try dsimp only at hSw); go_simp; done) | (intro w hSw; (try dsimp only at hSw); go_simp; with_reducible rfl)
          simp only [Act.put, List.setIfInBounds_toArray, List.set_cons_zero, List.set_cons_succ]
          refine wpAnyH_take (i := 28) (oi := { dst := some 106, op := Op.binOp BinOp.add 31 (Operand.tmp 103) (Operand.tmp 105) 31, type := 31, pos := "law.go:176", after := #[{ on := 25, ground := Ground.data }, { on := 27, ground := Ground.data }, { on := 21, ground := Ground.guard }], guard := some (21, false) }) (v := ?_) rfl (by kernel_rfl) (by kernel_rfl) (by kernel_rfl) (fun _ _ _ h => h) (Or.inl ⟨by rfl, ?_⟩) (by assumption) ?_
          rotate_left
          · first | (intro w hSw; (try dsimp only at hSw); go_simp; done) | (intro w hSw; (try dsimp only at hSw); go_simp; with_reducible rfl)
          simp only [Act.put, List.setIfInBounds_toArray, List.set_cons_zero, List.set_cons_succ]
          refine wpAnyH_take (i := 29) (oi := { dst := some 107, op := Op.binOp BinOp.neq 31 (Operand.tmp 101) (Operand.tmp 106) 31, type := 4, pos := "law.go:176", after := #[{ on := 23, ground := Ground.data }, { on := 28, ground := Ground.data }, { on := 21, ground := Ground.guard }], guard := some (21, false) }) (v := ?_) rfl (by kernel_rfl) (by kernel_rfl) (by kernel_rfl) (fun _ _ _ h => h) (Or.inl ⟨by rfl, ?_⟩) (by assumption) ?_
          rotate_left
          · first | (intro w hSw; (try dsimp only at hSw); go_simp; done) | (intro w hSw; (try dsimp only at hSw); go_simp; with_reducible rfl)
          simp only [Act.put, List.setIfInBounds_toArray, List.set_cons_zero, List.set_cons_succ]
          refine wpAnyH_take (i := 30) (oi := { dst := some 108, op := Op.pick (Operand.tmp 99) (Operand.const (Value.bool true)) (Operand.tmp 107), type := 4, pos := "law.go:176", after := #[{ on := 21, ground := Ground.data }, { on := 29, ground := Ground.data }], guard := none }) (v := ?_) rfl (by kernel_rfl) (by kernel_rfl) (by kernel_rfl) (fun _ _ _ h => h) (Or.inl ⟨by rfl, ?_⟩) (by assumption) ?_
          rotate_left
          · first | (intro w hSw; (try dsimp only at hSw); go_simp; done) | (intro w hSw; (try dsimp only at hSw); go_simp; with_reducible rfl)
          simp only [Act.put, List.setIfInBounds_toArray, List.set_cons_zero, List.set_cons_succ]
          refine wpAnyH_take (i := 31) (oi := { dst := some 109, op := Op.move (Operand.tmp 108), type := 4, pos := "law.go:176", after := #[{ on := 30, ground := Ground.data }, { on := 21, ground := Ground.chain }], guard := none }) (v := ?_) rfl (by kernel_rfl) (by kernel_rfl) (by kernel_rfl) (fun _ _ _ h => h) (Or.inl ⟨by rfl, ?_⟩) (by assumption) ?_
          rotate_left
          · first | (intro w hSw; (try dsimp only at hSw); go_simp; done) | (intro w hSw; (try dsimp only at hSw); go_simp; with_reducible rfl)
          simp only [Act.put, List.setIfInBounds_toArray, List.set_cons_zero, List.set_cons_succ]
          refine wpAnyH_take (i := 32) (oi := { dst := some 110, op := Op.fieldAddr 35 (Operand.tmp 8) 4, type := 0, pos := "law.go:176", after := #[{ on := 31, ground := Ground.guard }], guard := some (31, false) }) (v := ?_) rfl (by kernel_rfl) (by kernel_rfl) (by kernel_rfl) (fun _ _ _ h => h) (Or.inl ⟨by rfl, ?_⟩) (by assumption) ?_
          rotate_left
          · first | (intro w hSw; (try dsimp only at hSw); go_simp; done) | (intro w hSw; (try dsimp only at hSw); go_simp; with_reducible rfl)
          simp only [Act.put, List.setIfInBounds_toArray, List.set_cons_zero, List.set_cons_succ]
          refine wpAnyH_take (i := 33) (oi := { dst := some 111, op := Op.load 33 (Operand.tmp 110), type := 33, pos := "law.go:176", after := #[{ on := 32, ground := Ground.data }, { on := 31, ground := Ground.guard }], guard := some (31, false) }) (v := .agg L15.toArray) rfl (by kernel_rfl) (by kernel_rfl) (by kernel_rfl) (fun _ _ _ h => h) (yieldsIf_load_mid (by rfl) 33 (.tmp 110) rfl g8 4 rfl L15 _ (fun _ h => h.2.1) Tryd.underlying33 rfl HIL.out.1) (by assumption) ?_
          simp only [Act.put, List.setIfInBounds_toArray, List.set_cons_zero, List.set_cons_succ]
          refine wpAnyH_take (i := 34) (oi := { dst := some 112, op := Op.load 35 (Operand.tmp 12), type := 35, pos := "law.go:176", after := #[{ on := 31, ground := Ground.guard }], guard := some (31, false) }) (v := .agg xs15) rfl (by kernel_rfl) (by kernel_rfl) (by kernel_rfl) (fun _ _ _ h => h) (yieldsIf_load_mid (by rfl) 35 (.tmp 12) rfl g15 0 rfl xs15.toList _ (fun _ h => h.2.2.2.1) Tryd.underlying35 rfl HIL.out.2.2.1) (by assumption) ?_
          simp only [Act.put, List.setIfInBounds_toArray, List.set_cons_zero, List.set_cons_succ]
          refine wpAnyH_ready (rs := [35]) (by kernel_rfl) (by simp) ?_
          refine AllReadyH.cons (o := { dst := some 113, op := Op.call { callee := Callee.value (Operand.func 10), args := #[Operand.tmp 112], argTypes := #[35] }, type := 33, pos := "law.go:176", after := #[{ on := 34, ground := Ground.data }, { on := 31, ground := Ground.chain }, { on := 31, ground := Ground.guard }], guard := some (31, false) }) rfl (fun K hK => ?_) AllReadyH.nil
          have hbd : Below wb16.heap.size wb16 wb16.drew := (Below.refl _ _).drew
          go_simp
          refine (HH15.out wb16.drew hbd).mono ?_
          rintro e w28 ⟨rfl, hb28⟩
          rw [HCB.out.1]
          have HB28 := Lib.hid (hbd.trans hb28)
          refine hK.out _ _ (HKEEP.out _ HB28.out) (fun _ => ?_)
          clear hK K hHeld hS0 hbd hb28 HH15
          refine wpAnyH_take (i := 36) (oi := { dst := some 114, op := Op.binOp BinOp.neq 33 (Operand.tmp 111) (Operand.tmp 113) 33, type := 4, pos := "law.go:176", after := #[{ on := 33, ground := Ground.data }, { on := 35, ground := Ground.data }, { on := 31, ground := Ground.guard }], guard := some (31, false) }) (v := ?_) rfl (by kernel_rfl) (by kernel_rfl) (by kernel_rfl) (fun _ _ _ h => h) (Or.inl ⟨by rfl, ?_⟩) (by assumption) ?_
          rotate_left
          · first | (intro w hSw; (try dsimp only at hSw); go_simp; done) | (intro w hSw; (try dsimp only at hSw); go_simp; with_reducible rfl)
          simp only [Act.put, List.setIfInBounds_toArray, List.set_cons_zero, List.set_cons_succ]
          refine wpAnyH_take (i := 37) (oi := { dst := some 115, op := Op.pick (Operand.tmp 109) (Operand.const (Value.bool true)) (Operand.tmp 114), type := 4, pos := "law.go:176", after := #[{ on := 31, ground := Ground.data }, { on := 36, ground := Ground.data }], guard := none }) (v := ?_) rfl (by kernel_rfl) (by kernel_rfl) (by kernel_rfl) (fun _ _ _ h => h) (Or.inl ⟨by rfl, ?_⟩) (by assumption) ?_
          rotate_left
          · first | (intro w hSw; (try dsimp only at hSw); go_simp; done) | (intro w hSw; (try dsimp only at hSw); go_simp; with_reducible rfl)
          simp only [Act.put, List.setIfInBounds_toArray, List.set_cons_zero, List.set_cons_succ]
          refine wpAnyH_take (i := 38) (oi := { dst := some 116, op := Op.move (Operand.tmp 115), type := 4, pos := "law.go:176", after := #[{ on := 37, ground := Ground.data }, { on := 35, ground := Ground.chain }], guard := none }) (v := ?_) rfl (by kernel_rfl) (by kernel_rfl) (by kernel_rfl) (fun _ _ _ h => h) (Or.inl ⟨by rfl, ?_⟩) (by assumption) ?_
          rotate_left
          · first | (intro w hSw; (try dsimp only at hSw); go_simp; done) | (intro w hSw; (try dsimp only at hSw); go_simp; with_reducible rfl)
          simp only [Act.put, List.setIfInBounds_toArray, List.set_cons_zero, List.set_cons_succ]
          refine wpAnyH_take (i := 39) (oi := { dst := some 117, op := Op.fieldAddr 35 (Operand.tmp 8) 5, type := 0, pos := "law.go:176", after := #[{ on := 38, ground := Ground.guard }], guard := some (38, false) }) (v := ?_) rfl (by kernel_rfl) (by kernel_rfl) (by kernel_rfl) (fun _ _ _ h => h) (Or.inl ⟨by rfl, ?_⟩) (by assumption) ?_
          rotate_left
          · first | (intro w hSw; (try dsimp only at hSw); go_simp; done) | (intro w hSw; (try dsimp only at hSw); go_simp; with_reducible rfl)
          simp only [Act.put, List.setIfInBounds_toArray, List.set_cons_zero, List.set_cons_succ]
          refine wpAnyH_take (i := 40) (oi := { dst := some 118, op := Op.load 33 (Operand.tmp 117), type := 33, pos := "law.go:176", after := #[{ on := 39, ground := Ground.data }, { on := 38, ground := Ground.guard }], guard := some (38, false) }) (v := .agg L16.toArray) rfl (by kernel_rfl) (by kernel_rfl) (by kernel_rfl) (fun _ _ _ h => h) (yieldsIf_load_mid (by rfl) 33 (.tmp 117) rfl g8 36 rfl L16 _ (fun _ h => h.2.2.1) Tryd.underlying33 rfl HIL.out.2.1) (by assumption) ?_
          simp only [Act.put, List.setIfInBounds_toArray, List.set_cons_zero, List.set_cons_succ]
          refine wpAnyH_take (i := 41) (oi := { dst := some 119, op := Op.load 35 (Operand.tmp 14), type := 35, pos := "law.go:176", after := #[{ on := 38, ground := Ground.guard }], guard := some (38, false) }) (v := .agg xs16) rfl (by kernel_rfl) (by kernel_rfl) (by kernel_rfl) (fun _ _ _ h => h) (yieldsIf_load_mid (by rfl) 35 (.tmp 14) rfl g16 0 rfl xs16.toList _ (fun _ h => h.2.2.2.2) Tryd.underlying35 rfl HIL.out.2.2.2) (by assumption) ?_
          simp only [Act.put, List.setIfInBounds_toArray, List.set_cons_zero, List.set_cons_succ]
          refine wpAnyH_ready (rs := [42]) (by kernel_rfl) (by simp) ?_
          refine AllReadyH.cons (o := { dst := some 120, op := Op.call { callee := Callee.value (Operand.func 10), args := #[Operand.tmp 119], argTypes := #[35] }, type := 33, pos := "law.go:176", after := #[{ on := 41, ground := Ground.data }, { on := 38, ground := Ground.chain }, { on := 38, ground := Ground.guard }], guard := some (38, false) }) rfl (fun K hK => ?_) AllReadyH.nil
          go_simp
          refine (HH16.out w28 HB28.out).mono ?_
          rintro e w29 ⟨rfl, hb29⟩
          rw [HCB.out.2]
          have HB29 := Lib.hid (HB28.out.trans (hb29.mono HB28.out.size))
          refine hK.out _ _ (HKEEP.out _ HB29.out) (fun _ => ?_)
          clear hK K hb29 HH16 HB28 HKEEP
          refine wpAnyH_take (i := 43) (oi := { dst := some 121, op := Op.binOp BinOp.neq 33 (Operand.tmp 118) (Operand.tmp 120) 33, type := 4, pos := "law.go:176", after := #[{ on := 40, ground := Ground.data }, { on := 42, ground := Ground.data }, { on := 38, ground := Ground.guard }], guard := some (38, false) }) (v := ?_) rfl (by kernel_rfl) (by kernel_rfl) (by kernel_rfl) (fun _ _ _ h => h) (Or.inl ⟨by rfl, ?_⟩) (by assumption) ?_
          rotate_left
          · first | (intro w hSw; (try dsimp only at hSw); go_simp; done) | (intro w hSw; (try dsimp only at hSw); go_simp; with_reducible rfl)
          simp only [Act.put, List.setIfInBounds_toArray, List.set_cons_zero, List.set_cons_succ]
          refine wpAnyH_take (i := 44) (oi := { dst := some 122, op := Op.pick (Operand.tmp 116) (Operand.const (Value.bool true)) (Operand.tmp 121), type := 4, pos := "law.go:176", after := #[{ on := 38, ground := Ground.data }, { on := 43, ground := Ground.data }], guard := none }) (v := ?_) rfl (by kernel_rfl) (by kernel_rfl) (by kernel_rfl) (fun _ _ _ h => h) (Or.inl ⟨by rfl, ?_⟩) (by assumption) ?_
          rotate_left
          · first | (intro w hSw; (try dsimp only at hSw); go_simp; done) | (intro w hSw; (try dsimp only at hSw); go_simp; with_reducible rfl)
          simp only [Act.put, List.setIfInBounds_toArray, List.set_cons_zero, List.set_cons_succ]
          refine wpAnyH_done (by kernel_rfl) ?_ _
          have hB829 : Below wr.heap.size wr w29 := HBI8.out.trans (((HBI14.out.trans ((HBI15.out.trans ((HBI16.out.trans (HB29.out.mono HBI16.out.size)).mono HBI15.out.size)).mono hs27)).mono hS8))
          have hB1629 : Below w27.heap.size w27 w29 := HBI15.out.trans ((HBI16.out.trans (HB29.out.mono HBI16.out.size)).mono HBI15.out.size)
          have HQ29 := Lib.hid (HREST.out.on hB829)
          have hRA := (HRA.out.below hB1629 (Nat.le_refl _)).more hB1629.size
          have hRB := (HRBB.out.below hB1629 (Nat.le_refl _)).more hB1629.size
          have HRA2 := Lib.hid (And.intro hRA hRB)
          have HBW := Lib.hid (HB16.out.trans (HB29.out.mono HB16.out.size))
          have hs829 : wr.heap.size ≤ wb8.heap.size := hS8
          clear hB829 hB1629 hRA hRB HRA HRBB HBI14 HBI15 HBI16 HB8 HB15 HB16 HB27 HB29 HREST HWB8 HWB15 HWB16 HTB8 HTB15 HTB16
          go_upto_region 20 with (fail)
          refine wp_region_lit ?_
          iterate 12 go_step
          obtain ⟨xs0, hQA0, hQW0⟩ := HQ29.out
          have hqm := HLV.out.2.2
          rw [hqm] at hQA0
          have hb30 : Below w29.heap.size w29 (w29.alloc (.cells #[.slice A23 (nw + 1) c23, .slice A27 (nw + 1) c27] 29)) := (Below.refl _ _).alloc (Nat.le_refl _) _
          have hrow30 := Whole.made w29 29 #[.slice A23 (nw + 1) c23, .slice A27 (nw + 1) c27]
          have hQA30 := hQA0.below hb30
          have hB30 := HBW.out.trans (hb30.mono HBW.out.size)
          have hgqs : gq0 ≤ (w29.alloc (.cells #[.slice A23 (nw + 1) c23, .slice A27 (nw + 1) c27] 29)).heap.size := by rw [← HGQ.out]; exact hB30.size
          have hWA : WAt (w29.alloc (.cells #[.slice A23 (nw + 1) c23, .slice A27 (nw + 1) c27] 29)) (Value.slice A' m (cap - 1)).ownBlock (.slice A23 (nw + 1) c23) (way ++ [false]) :=
            ⟨A23, nw + 1, c23, rfl, hc23, (HRA2.out.1.below hb30 (Nat.le_refl _)).more hb30.size, fun b o e _ h => by
              rw [HQ3.out.2.2] at h
              injection h with h
              have h1 := HNEW.out.1 b o e
              have h2 := HQ3.out.1
              omega⟩
          have hWB : WAt (w29.alloc (.cells #[.slice A23 (nw + 1) c23, .slice A27 (nw + 1) c27] 29)) (Value.slice A' m (cap - 1)).ownBlock (.slice A27 (nw + 1) c27) (way ++ [true]) :=
            ⟨A27, nw + 1, c27, rfl, hc27, (HRA2.out.2.below hb30 (Nat.le_refl _)).more hb30.size, fun b o e _ h => by
              rw [HQ3.out.2.2] at h
              injection h with h
              have h1 := HNEW.out.2 b o e
              have h2 := HQ3.out.1
              omega⟩
          have HOLD := Lib.hid (fun (j : Nat) (q : List Bool × T) (hq : qs[j]? = some q) => by
            obtain ⟨u, h1, h2, h3⟩ := hQW0 j q hq
            exact (⟨u, h1, h2.below hb30, h3⟩ : ∃ u, xs0[j]? = some u ∧ WAt (w29.alloc (.cells #[.slice A23 (nw + 1) c23, .slice A27 (nw + 1) c27] 29)) (Value.slice A' m (cap - 1)).ownBlock u q.1 ∧ oat (some t) q.1 = some q.2))
          have HNW := Lib.hid (And.intro hWA hWB)
          have hl0 : xs0.length = m := by obtain ⟨_, _, _, _, _, _, _, _, h, _⟩ := hQA0; exact h
          have HB30 := Lib.hid hB30
          clear hQW0 hQA0 hWA hWB HQ29 HRA2 hB30 HBW HNEW
          generalize hw30 : w29.alloc (.cells #[.slice A23 (nw + 1) c23, .slice A27 (nw + 1) c27] 29) = w30 at *
          refine wpList_append_q rfl (.tmp 123) (.tmp 126) rfl gq0 m (.slice A' m (cap - 1)) xs0 rfl hQA30 hgqs ⟨w29.heap.size, 0, none⟩ 2 2 [.slice A23 (nw + 1) c23, .slice A27 (nw + 1) c27] rfl rfl (fun j u hu => by rw [Addr.add_mid, Nat.zero_add]; exact hrow30.at_ (by simpa using hu)) (by intro u hu; simp at hu; rcases hu with rfl | rfl <;> rfl) (by omega) ?_
          intro v31 w31 hQ31 hg31 ho31
          have hqok : QOk w31 gq0 t v31 (qs ++ [(way ++ [false], sl), (way ++ [true], sr)]) := by
            refine ⟨xs0 ++ [.slice A23 (nw + 1) c23, .slice A27 (nw + 1) c27], by rw [List.length_append, hqm]; exact hQ31, fun j q hq => ?_⟩
            by_cases hj : j < qs.length
            · rw [List.getElem?_append_left hj] at hq
              obtain ⟨u, h1, h2, h3⟩ := HOLD.out j q hq
              exact ⟨u, by rw [List.getElem?_append_left (by omega)]; exact h1, h2.grown hg31 ho31, h3⟩
            · rw [List.getElem?_append_right (by omega)] at hq
              have hj2 : j - qs.length < 2 := (List.getElem?_eq_some_iff.1 hq).1
              rcases (show j - qs.length = 0 ∨ j - qs.length = 1 by omega) with e | e
              · rw [e] at hq
                simp at hq
                subst hq
                exact ⟨_, by rw [List.getElem?_append_right (by omega), show j - xs0.length = 0 by omega]; rfl, HNW.out.1.grown hg31 ho31, HOA15.out⟩
              · rw [e] at hq
                simp at hq
                subst hq
                exact ⟨_, by rw [List.getElem?_append_right (by omega), show j - xs0.length = 1 by omega]; rfl, HNW.out.2.grown hg31 ho31, HOA16.out⟩
          have hb31 : Below w2.heap.size w2 w31 := HB30.out.grown hg31 HB30.out.size (fun i hi => by
            rw [HQ3.out.2.2] at hi
            injection hi with hi
            have := HQ3.out.2.1
            have := HGQ.out
            omega)
          have hsum : lv + qsum T.n (qs ++ [(way ++ [false], sl), (way ++ [true], sr)]) = t.n := by
            have h1 := HLV.out.2.1
            have h2 : qsum T.n ((way, T.node sl sr) :: qs) = (sl.n + sr.n) + qsum T.n qs := rfl
            have h3 : qsum T.n [(way ++ [false], sl), (way ++ [true], sr)] = sl.n + (sr.n + 0) := rfl
            rw [qsum_app]
            omega
          have hless : qsum (·.all.length) (qs ++ [(way ++ [false], sl), (way ++ [true], sr)]) < gk := by
            have h1 := HLV.out.1
            have h2 : qsum (·.all.length) ((way, T.node sl sr) :: qs) = (T.node sl sr).all.length + qsum (·.all.length) qs := rfl
            have h3 : qsum (·.all.length) [(way ++ [false], sl), (way ++ [true], sr)] = sl.all.length + (sr.all.length + 0) := rfl
            have h4 : (T.node sl sr).all.length = 1 + (sl.all.length + sr.all.length) := by
              show (T.node sl sr :: (sl.all ++ sr.all)).length = _
              simp
              omega
            rw [qsum_app]
            omega
          have HEND := Lib.hid (And.intro hsum (And.intro hqok hb31))
          clear hqok hb31 hsum hQ31 hg31 ho31 HOLD HNW HB30 HQ3 hrow30 hQA30 hb30
          go_simp
          go_wp2_with fail
          all_goals
            go_roundg (qsum (·.all.length) (qs ++ [(way ++ [false], sl), (way ++ [true], sr)]))
            case measure => exact hless
            case rel => exact ⟨_, lv, rfl, rfl, HEND.out⟩
end Go.Proofs.YtemagoacjpilaaaDoor

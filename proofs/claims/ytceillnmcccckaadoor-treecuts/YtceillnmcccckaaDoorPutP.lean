/-
  What the document's PutPair returns: the pairs in which a key has a value; conditions: pairs, key and value are read, there are no more than 100000 of them. It only makes memory of its own.
-/
import Derived.Test.YtceillnmcccckaaDoorCutP
namespace Go.Proofs.YtceillnmcccckaaDoor
open Go.RowKit
open Tr

theorem putL_drop (k v : List UInt8) (ps : Prs) (i : Nat) (p : List UInt8 × List UInt8) (h : ps[i]? = some p) : putL (ps.drop i) k v = if lt p.1 k then p :: putL (ps.drop (i + 1)) k v else if p.1 = k then (k, v) :: ps.drop (i + 1) else (k, v) :: p :: ps.drop (i + 1) := by
  obtain ⟨hl, rfl⟩ := List.getElem?_eq_some_iff.1 h
  rw [List.drop_eq_getElem_cons hl]
  rfl
theorem take_snoc {α : Type} (ps : List α) (i : Nat) (p : α) (h : ps[i]? = some p) : ps.take (i + 1) = ps.take i ++ [p] := by
  rw [List.take_add_one, h]; rfl

/-- The rest of a row of pairs behind others. -/
theorem wpList_append_rest {ops : Array Oper} {rest : List Oper} {o : Oper} {a : Act} {w : World} {Q : Exit → Act → World → Prop} (hgd : o.guard = none) (s x : Operand)
    (ho : o.op = .call { callee := .builtin .append, args := #[s, x], argTypes := #[32, 32] })
    (base : Nat) (v : Value) (n : Nat) (ps qs : Prs) (hs : a.eval s = v) (hown : POwn w base v n ps) (A : Option Addr) (m c : Nat)
    (hx : a.eval x = .slice A m c) (hr : PRd w base A m qs) (hn : n + m ≤ 1000000) (hbase : base ≤ w.heap.size)
    (h : ∀ v' w', POwn w' base v' (n + m) (ps ++ qs) → Below base w w' → w.heap.size ≤ w'.heap.size → wpList Tryd.prog ops Q rest (a.put o.dst v') w') :
    wpList Tryd.prog ops Q (o :: rest) a w := by
  obtain ⟨xs, h1, h2, h3⟩ := hown
  obtain ⟨ys, g1, g2, g3⟩ := hr
  obtain ⟨v', w', hrun, k2, k3, k4⟩ := run_append_rd w base 32 o.type 44 _ 2 48 Tryd.underlying32 info44 rfl (by omega) v n xs h1 _ A m c ys g1 g3.one (by unfold maxLen; omega) (by omega) hbase
  have hbg : Below base w w' := (Below.refl base w).grown k3 hbase (fun k hk => (h1.lt k hk).1)
  refine wpList_plain hgd fun K hK => ?_
  unfold Oper.wp execOp
  simp only [ho, resolve, invoke, builtin, Sem.run_bind, Sem.run_pure, Result.andThen_ok, List.map_toArray, List.map_cons, List.map_nil, hs, hx, hrun]
  refine hK _ _ (h v' w' ⟨xs ++ ys, k2, by rw [List.length_append, h2, g2], ?_⟩ hbg hbg.size)
  exact (h3.append (g3.mono fun A n bs hq => rdx_old h1 hq hbase)).mono fun A n bs hx => (hx.grown k3 (Nat.le_refl _) k4).more k3.size
theorem PRd.drop {w : World} {B b o n : Nat} {ps : Prs} (h : PRd w B (some ⟨b, o, none⟩) n ps) (i : Nat) (hi : i ≤ n) : PRd w B (some ⟨b, o + i * 2, none⟩) (n - i) (ps.drop i) := by
  obtain ⟨xs, h1, h2, h3⟩ := h
  refine ⟨xs.drop (2 * i), ⟨by rw [List.length_drop, h1.1]; omega, fun hn => ?_⟩, by rw [List.length_drop, h2], h3.drop i⟩
  obtain ⟨b', o', e, hb, hc⟩ := h1.2 (by omega)
  injection e with e
  injection e with e1 e2
  subst e1 e2
  refine ⟨b, o + i * 2, rfl, hb, fun j u hu => ?_⟩
  rw [List.getElem?_drop] at hu
  have := hc _ u hu
  rwa [show o + (2 * i + j) = o + i * 2 + j by omega] at this

set_option maxRecDepth 100000 in
set_option maxHeartbeats 1000000 in
theorem putPair_any (A : Option Addr) (n c : Nat) (D : Option Addr) (m d : Nat) (E : Option Addr) (me ce : Nat) (ps : Prs) (k v : List UInt8) (w : World) (hp : PRd w w.heap.size A n ps) (hnc : n ≤ c) (hA : A = none → c = 0) (hk : Rd w w.heap.size D m k) (hmd : m ≤ d) (hv : Rd w w.heap.size E me v) (hme : me ≤ ce) (hn : n ≤ 100000) :
    Calls Tryd.prog 51 #[.slice A n c, .slice D m d, .slice E me ce] w (PairsPost w (putL ps k v)) := by
  have HP := Lib.hid hp
  have HK := Lib.hid hk
  have HV := Lib.hid hv
  have HLEN := Lib.hid hp.len
  have HA := Lib.hid hA
  clear hp hk hv hA
  go_enter Tryd.func51, Tryd.ntmps51
  go_wp2_with fail
  go_loopg [7, 8] n (fun gk s7 s8 wx => ∃ i, i + gk = n ∧ s8 = .int .i64 (i : Nat) ∧ POwn wx w.heap.size s7 i (ps.take i) ∧ putL ps k v = ps.take i ++ putL (ps.drop i) k v ∧ Below w.heap.size w wx)
  case atStart => exact ⟨0, by omega, rfl, POwn.nil _ _, rfl, Below.refl _ _⟩
  case round =>
    obtain ⟨i, hi, rfl, hO, hput, hb⟩ := hrel
    obtain ⟨Ao, co, rfl, hco, hAo⟩ := hO.form
    clear hAo
    have HO := Lib.hid hO
    have HB := Lib.hid hb
    have HPUT := Lib.hid hput
    have hs := hb.size
    clear hO hb hput
    cases gk with
    | zero =>
      obtain rfl : i = n := by omega
      have HDN : Hid (ps.drop i = []) := Lib.hid (List.drop_eq_nil_of_le (by rw [HLEN.out]; exact Nat.le_refl _))
      go_wp2_with fail
      go_quiet (fail)
      rename Nat => nq
      have HO2 : Hid (POwn (wr.drewN nq) w.heap.size (.slice Ao i co) i (ps.take i)) := Lib.hid HO.out
      have HB2 := Lib.hid (below_drewN HB.out nq)
      have hs2 : w.heap.size ≤ (wr.drewN nq).heap.size := hs
      clear HO HB hs
      generalize wr.drewN nq = w2 at *
      go_upto_region 6 with (fail)
      refine wp_region_lit ?_
      iterate 15 go_step
      refine wpList_append_pair rfl (.tmp 33) (.tmp 37) rfl w.heap.size _ i _ (k, v) rfl HO2.out D m d E me ce rfl hmd hme (by obtain ⟨_, h1, _⟩ := HO2.out; exact rdx_old h1 (HK.out.below HB2.out (Nat.le_refl _)) hs2) (by obtain ⟨_, h1, _⟩ := HO2.out; exact rdx_old h1 (HV.out.below HB2.out (Nat.le_refl _)) hs2) (by omega) hs2 ?_
      intro v3 w3 hO3 hb3 hs3
      obtain ⟨A3, c3, rfl, hc3, _⟩ := hO3.form
      have HO3 := Lib.hid hO3
      have HB3 := Lib.hid (HB2.out.trans hb3)
      clear hO3 hb3 HO2 HB2
      have hs3' : w.heap.size ≤ w3.heap.size := by omega
      clear hs3 hs2
      go_simp
      go_wp2_with fail
      go_quiet (fail)
      rename Nat => nq3
      have HO4 : Hid (POwn (w3.drewN nq3) w.heap.size (.slice A3 (i + 1) c3) (i + 1) (ps.take i ++ [(k, v)])) := Lib.hid HO3.out
      have HB4 := Lib.hid (below_drewN HB3.out nq3)
      have hs4 : w.heap.size ≤ (w3.drewN nq3).heap.size := hs3'
      clear HO3 HB3 hs3'
      generalize w3.drewN nq3 = w4 at *
      go_upto_region 9 with (fail)
      refine wp_region_lit ?_
      iterate 12 go_step
      refine wpList_append_rest rfl (.tmp 56) (.tmp 59) rfl w.heap.size _ (i + 1) _ ([]) rfl HO4.out _ (0) _ rfl ?_ (by omega) hs4 ?_
      · exact PRd.nil
      intro v5 w5 hO5 hb5 hs5
      obtain ⟨A5, c5, rfl, hc5, hA5⟩ := hO5.form
      have HO5 := Lib.hid (And.intro hO5.rd hA5)
      have HB5 := Lib.hid (HB4.out.trans hb5)
      clear hO5 hb5 HO4 HB4 hA5
      go_simp
      go_wp2_with fail
      all_goals
        go_ret
        refine ⟨A5, _, c5, rfl, ?_, hc5, HO5.out.2, HB5.out⟩
        have h5 := HO5.out.1
        rw [HPUT.out, HDN.out, show putL [] k v = [(k, v)] from rfl]
        simpa using h5
    | succ gn =>
      have hin : i < n := by omega
      obtain ⟨p, hpi⟩ : ∃ p, ps[i]? = some p := ⟨_, List.getElem?_eq_getElem (by rw [HLEN.out]; exact hin)⟩
      obtain ⟨b, o, A1, n1, c1, A2, n2, c2, rfl, hbb, kk0, kk1, nc1, nc2, rr1, rr2⟩ := HP.out.at_ hpi
      have HDR := Lib.hid (putL_drop k v ps i p hpi)
      have HTK := Lib.hid (take_snoc ps i p hpi)
      have HDC : Hid (ps.drop i = p :: ps.drop (i + 1)) := Lib.hid (by obtain ⟨hl, rfl⟩ := List.getElem?_eq_some_iff.1 hpi; exact List.drop_eq_getElem_cons hl)
      clear hpi HA
      obtain ⟨p1, p2⟩ := p
      have HF : Hid (∀ u, Below w.heap.size w u → u.cell? ⟨b, o + i * 2, none⟩ = some (.slice A1 n1 c1) ∧ u.cell? ⟨b, o + i * 2 + 1, none⟩ = some (.slice A2 n2 c2) ∧ Rd u w.heap.size A1 n1 p1 ∧ Rd u w.heap.size A2 n2 p2) := Lib.hid (fun u hb => by
        refine ⟨?_, ?_, rr1.below hb (Nat.le_refl _), rr2.below hb (Nat.le_refl _)⟩
        · rw [Nat.mul_comm i 2]; exact (hb.cell (p := ⟨b, o + 2 * i, none⟩) hbb).trans kk0
        · rw [Nat.mul_comm i 2, Nat.add_assoc]; exact (hb.cell (p := ⟨b, o + (2 * i + 1), none⟩) hbb).trans kk1)
      dsimp only at HDR HTK HDC
      clear kk0 kk1 rr1 rr2
      obtain ⟨k0, k1, r1, r2⟩ := HF.out wr HB.out
      have s1 := fun j => run_string (wr.drewN j) _ A1 n1 c1 p1 (r1.drewN j)
      have s2 := fun j => run_string (wr.drewN j) _ D m d k ((HK.out.below HB.out (Nat.le_refl _)).drewN j)
      clear r1 r2
      by_cases hlt : lt p1 k = true
      · have hq : Go.Op.bytesLess p1 k = true := hlt
        go_wp2_with fail
        go_quiet (fail)
        rename Nat => nq
        have HO2 : Hid (POwn (wr.drewN nq) w.heap.size (.slice Ao i co) i (ps.take i)) := Lib.hid HO.out
        have HB2 := Lib.hid (below_drewN HB.out nq)
        have hs2 : w.heap.size ≤ (wr.drewN nq).heap.size := hs
        clear HO HB hs s1 s2 k0 k1
        generalize wr.drewN nq = w2 at *
        obtain ⟨k0, k1, r1, r2⟩ := HF.out w2 HB2.out
        have HR1 := Lib.hid r1
        have HR2 := Lib.hid r2
        clear r1 r2
        go_upto_region 4 with (fail)
        refine wp_region_lit ?_
        iterate 18 go_step
        refine wpList_append_pair rfl (.tmp 24) (.tmp 29) rfl w.heap.size _ i _ (p1, p2) rfl HO2.out A1 n1 c1 A2 n2 c2 rfl nc1 nc2 (by obtain ⟨_, h1, _⟩ := HO2.out; exact rdx_old h1 HR1.out hs2) (by obtain ⟨_, h1, _⟩ := HO2.out; exact rdx_old h1 HR2.out hs2) (by omega) hs2 ?_
        intro v3 w3 hO3 hb3 hs3
        have HO3 := Lib.hid hO3
        have HB3 := Lib.hid (HB2.out.trans hb3)
        clear hO3 hb3 HO2 HB2 HR1 HR2 k0 k1
        go_simp
        go_wp2_with fail
        go_roundg gn
        case measure => omega
        case rel =>
          refine ⟨i + 1, by omega, congrArg (Value.int .i64) (by omega), by rw [HTK.out]; exact HO3.out, ?_, HB3.out⟩
          rw [HPUT.out, HDR.out, if_pos hlt, HTK.out, List.append_assoc]
          rfl
      · have hq : Go.Op.bytesLess p1 k = false := (Bool.not_eq_true _).mp hlt
        go_wp2_with fail
        go_quiet (fail)
        rename Nat => nq
        have HO2 : Hid (POwn (wr.drewN nq) w.heap.size (.slice Ao i co) i (ps.take i)) := Lib.hid HO.out
        have HB2 := Lib.hid (below_drewN HB.out nq)
        have hs2 : w.heap.size ≤ (wr.drewN nq).heap.size := hs
        clear HO HB hs s1 s2 k0 k1
        generalize wr.drewN nq = w2 at *
        go_upto_region 6 with (fail)
        refine wp_region_lit ?_
        iterate 15 go_step
        refine wpList_append_pair rfl (.tmp 33) (.tmp 37) rfl w.heap.size _ i _ (k, v) rfl HO2.out D m d E me ce rfl hmd hme (by obtain ⟨_, h1, _⟩ := HO2.out; exact rdx_old h1 (HK.out.below HB2.out (Nat.le_refl _)) hs2) (by obtain ⟨_, h1, _⟩ := HO2.out; exact rdx_old h1 (HV.out.below HB2.out (Nat.le_refl _)) hs2) (by omega) hs2 ?_
        intro v3 w3 hO3 hb3 hs3
        obtain ⟨A3, c3, rfl, hc3, _⟩ := hO3.form
        have HO3 := Lib.hid hO3
        have HB3 := Lib.hid (HB2.out.trans hb3)
        clear hO3 hb3 HO2 HB2
        have hs3' : w.heap.size ≤ w3.heap.size := by omega
        clear hs3 hs2
        go_simp
        obtain ⟨k0, k1, r1, r2⟩ := HF.out w3 HB3.out
        have s1 := fun j => run_string (w3.drewN j) _ A1 n1 c1 p1 (r1.drewN j)
        have s2 := fun j => run_string (w3.drewN j) _ D m d k ((HK.out.below HB3.out (Nat.le_refl _)).drewN j)
        clear r1 r2
        by_cases hpk : p1 = k
        · have hqk : (p1 == k) = true := by simpa using hpk
          go_wp2_with fail
          go_quiet (fail)
          rename Nat => nq3
          have HO4 : Hid (POwn (w3.drewN nq3) w.heap.size (.slice A3 (i + 1) c3) (i + 1) (ps.take i ++ [(k, v)])) := Lib.hid HO3.out
          have HB4 := Lib.hid (below_drewN HB3.out nq3)
          have hs4 : w.heap.size ≤ (w3.drewN nq3).heap.size := hs3'
          clear HO3 HB3 hs3' s1 s2 k0 k1
          generalize w3.drewN nq3 = w4 at *
          go_upto_region 9 with (fail)
          refine wp_region_lit ?_
          iterate 12 go_step
          refine wpList_append_rest rfl (.tmp 56) (.tmp 59) rfl w.heap.size _ (i + 1) _ (ps.drop (i + 1)) rfl HO4.out _ (n - (i + 1)) _ rfl ?_ (by omega) hs4 ?_
          · by_cases hci : c = i + 1
            · rw [if_pos hci, show n - (i + 1) = 0 by omega, List.drop_eq_nil_of_le (by rw [HLEN.out]; omega)]; exact PRd.nil
            · rw [if_neg hci]
              exact (HP.out.drop (i + 1) (by omega)).below HB4.out (Nat.le_refl _)
          intro v5 w5 hO5 hb5 hs5
          obtain ⟨A5, c5, rfl, hc5, hA5⟩ := hO5.form
          have HO5 := Lib.hid (And.intro hO5.rd hA5)
          have HB5 := Lib.hid (HB4.out.trans hb5)
          clear hO5 hb5 HO4 HB4 hA5
          go_simp
          go_wp2_with fail
          all_goals
            go_ret
            refine ⟨A5, _, c5, rfl, ?_, hc5, HO5.out.2, HB5.out⟩
            have h5 := HO5.out.1
            rw [HPUT.out, HDR.out, if_neg hlt, if_pos hpk]
            simpa using h5
        · have hqk : (p1 == k) = false := by simpa using hpk
          go_wp2_with fail
          go_quiet (fail)
          rename Nat => nq3
          have HO4 : Hid (POwn (w3.drewN nq3) w.heap.size (.slice A3 (i + 1) c3) (i + 1) (ps.take i ++ [(k, v)])) := Lib.hid HO3.out
          have HB4 := Lib.hid (below_drewN HB3.out nq3)
          have hs4 : w.heap.size ≤ (w3.drewN nq3).heap.size := hs3'
          clear HO3 HB3 hs3' s1 s2 k0 k1
          generalize w3.drewN nq3 = w4 at *
          go_upto_region 9 with (fail)
          refine wp_region_lit ?_
          iterate 12 go_step
          refine wpList_append_rest rfl (.tmp 56) (.tmp 59) rfl w.heap.size _ (i + 1) _ (ps.drop i) rfl HO4.out _ (n - i) _ rfl ?_ (by omega) hs4 ?_
          · exact (HP.out.drop i (by omega)).below HB4.out (Nat.le_refl _)
          intro v5 w5 hO5 hb5 hs5
          obtain ⟨A5, c5, rfl, hc5, hA5⟩ := hO5.form
          have HO5 := Lib.hid (And.intro hO5.rd hA5)
          have HB5 := Lib.hid (HB4.out.trans hb5)
          clear hO5 hb5 HO4 HB4 hA5
          go_simp
          go_wp2_with fail
          all_goals
            go_ret
            refine ⟨A5, _, c5, rfl, ?_, hc5, HO5.out.2, HB5.out⟩
            have h5 := HO5.out.1
            rw [HPUT.out, HDR.out, if_neg hlt, if_neg hpk, ← HDC.out]
            simpa using h5
end Go.Proofs.YtceillnmcccckaaDoor

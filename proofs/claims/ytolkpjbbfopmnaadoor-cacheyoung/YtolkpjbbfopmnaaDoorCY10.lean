/-
  What Decode returns: the node of bytes, or an error's number; condition: the bytes can be read, there are no more than 1000000 of them. It only makes memory of its own.
  What layer 7 function Awake returns: true; no condition. It only makes memory of its own.
-/
import Derived.Laws.Tables
import Derived.Lib.BytesEntry
import Derived.Test.YtolkpjbbfopmnaaDoorCY09
namespace Go.Proofs.YtolkpjbbfopmnaaDoor.Tl
open Go.RowKit
open Tlv (Nd)

/-- As DecPost; the bytes lie in new blocks. -/
def DecNew (w : World) (r : Nat × Nd) (e : Ending) (w' : World) : Prop :=
  ∃ A n c A' n' c', e = .returned (.tuple #[.agg (ndc A n c A' n' c' r.2).toArray, .int .i64 r.1]) ∧ NRd w' w'.heap.size A n c A' n' c' r.2 ∧ (BG (fun b => w.heap.size < b) A n ∧ BG (fun b => w.heap.size < b) A' n') ∧ Below w.heap.size w w'
theorem BG.ne {k : Nat} {A : Option Addr} {n : Nat} (h : BG (fun b => k < b) A n) : BG (fun b => b ≠ k) A n := fun hn b o e => by have := h hn b o e; show b ≠ k; omega
def o27 : Array Value := (ndc none 0 0 none 0 0 Nd.one).toArray
theorem z27_one : z27.all (·.oneCell') = true := acells_one _ _ _ _ _ _ _ _ _ _
theorem o27_one : o27.all (·.oneCell') = true := acells_one _ _ _ _ _ _ _ _ _ _
theorem z27_size : z27.size = 68 := by kernel_rfl
theorem o27_size : o27.size = 68 := by kernel_rfl
/-- The zero node, stored into a block and answered. -/
theorem zero_post {w w2 : World} {r0 : Nat} (code : Nat) (hr : w.heap.size ≤ r0) (hw : Whole w2 r0 47 z27) (hb : Below w.heap.size w w2) :
    Whole (w2.setCells r0 0 z27.toList) r0 47 z27 ∧ DecNew w (code, Nd.zero) (.returned (.tuple #[.agg z27, .int .i64 code])) (w2.setCells r0 0 z27.toList) :=
  ⟨hw.setAll rfl, none, 0, 0, none, 0, 0, rfl, ⟨Rd.nil, Nat.le_refl _, Rd.nil, Nat.le_refl _⟩, ⟨fun h => absurd h (by omega), fun h => absurd h (by omega)⟩, below_setCells w r0 _ 0 hb hr⟩
theorem z27_load {w2 : World} {r0 : Nat} (hw : Whole w2 r0 47 z27) : (loadVar 47 ⟨r0, 0, none⟩).run Tryd.prog w2 = .ok (.agg z27) w2 := load_whole hw 47 _ Tryd.underlying47 rfl (by rw [z27_size]; exact info27)

theorem build_one : ∀ w, (Instr.build 47 #[(3, .int .u64 1)]).run Tryd.prog w = .ok (.agg o27) w := fun w => run_build w 47 #[(3, .int .u64 1)] o27 (by kernel_rfl)

theorem wpList_build_one {ops : Array Oper} {rest : List Oper} {o : Oper} {a : Act} {w : World} {Q : Exit → Act → World → Prop} (hgd : o.guard = none) (ho : o.op = .build 47 #[(3, .const (.int .u64 1))])
    (h : wpList Tryd.prog ops Q rest (a.put o.dst (.agg o27)) w) : wpList Tryd.prog ops Q (o :: rest) a w :=
  wpList_plain hgd fun K hK => by
    have e : (#[(3, Operand.const (.int .u64 1))] : Array (Nat × Operand)).map (fun x => (x.1, a.eval x.2)) = #[(3, .int .u64 1)] := by
      simp only [List.map_toArray, List.map_cons, List.map_nil]
      rfl
    unfold Oper.wp execOp
    simp only [ho, Sem.run_bind]
    rw [e, build_one]
    exact hK _ _ h

theorem equal_any (A A' : Option Addr) (n c n' c' B B' : Nat) (a b : List UInt8) (w : World) (hr : Rd w B A n a) (hr' : Rd w B' A' n' b) :
    Calls Tryd.prog 51 #[.slice A n c, .slice A' n' c'] w fun e w' => e = .returned (.bool (a == b)) ∧ w = w' := by
  have h1 := run_string w B A n c a hr
  have h2 := run_string w B' A' n' c' b hr'
  clear hr hr'
  go_enter Tryd.func51, Tryd.ntmps51
  go_wp2_with fail
  go_ret
  by_cases h : a = b
  · subst h; simp
  · simp
theorem heap_setCells_other (b : Nat) : ∀ (vs : List Value) (o : Nat) (w : World) (k : Nat), k ≠ b → (w.setCells b o vs).heap[k]? = w.heap[k]? := by
  intro vs
  induction vs with
  | nil => intro o w k _; rfl
  | cons v r ih =>
    intro o w k hk
    show ((w.setCell ⟨b, o, none⟩ v).setCells b (o + 1) r).heap[k]? = _
    rw [ih (o + 1) _ k hk]
    exact Below.heap_setCell w ⟨b, o, none⟩ v k hk
theorem Rd.cells_far {w : World} {B n g : Nat} {A : Option Addr} {bs : List UInt8} (h : Rd w B A n bs) (hne : BG (fun b => b ≠ g) A n) (vs : List Value) (i : Nat) : Rd (w.setCells g i vs) B A n bs := by
  refine ⟨h.1, fun hn => ?_⟩
  obtain ⟨b, o, e, hb1, hc⟩ := h.2 hn
  refine ⟨b, o, e, hb1, fun j v hv => ?_⟩
  have h1 := heap_setCells_other g vs i w b (hne hn b o e)
  have h2 := hc j v hv
  unfold World.cell? at h2 ⊢
  rw [h1]
  exact h2
theorem body_len (l : List (UInt8 × List UInt8)) : l.length ≤ (Tlv.body l).length := by
  induction l with
  | nil => simp
  | cons f l ih =>
    rw [Tlv.body_cons]
    simp only [List.length_cons, List.length_append]
    omega
theorem parse_few {bs : List UInt8} {fs : List (UInt8 × List UInt8)} (h : (Tlv.parse bs).1 = 0) (hfs : (Tlv.parse bs).2 = fs) : fs.length ≤ bs.length := by
  have := body_len fs
  rw [(Tlv.parse_back bs fs (Prod.ext h hfs)).1] at this
  exact this

set_option maxRecDepth 100000 in
set_option maxHeartbeats 1000000 in
theorem decode_new (A : Option Addr) (n c : Nat) (bs : List UInt8) (w : World) (hr : Rd w w.heap.size A n bs) (hnc : n ≤ c) (hn : n ≤ 1000000) :
    Calls Tryd.prog 20 #[.slice A n c] w (DecNew w (Tlv.dec bs)) := by
  have hz27 := zero27
  have hb0 : Below w.heap.size w (w.alloc (.cells z27 47)) := (Below.refl _ _).alloc (Nat.le_refl _) _
  have hw0 := Whole.made w 47 z27
  have hs0 : (w.alloc (.cells z27 47)).heap.size = w.heap.size + 1 := size_alloc _ _
  have HP := Lib.hid (parse_any (G := fun b => w.heap.size < b) A n c bs (w.alloc (.cells z27 47)) ((hr.below hb0 (Nat.le_refl _)).more hb0.size) hnc hn (fun b hb => by rw [hs0] at hb; omega))
  have HBS := Lib.hid hr
  have HB0 := Lib.hid hb0
  have HW0 := Lib.hid hw0
  clear hb0 hw0 hr
  go_enter Tryd.func20, Tryd.ntmps20
  go_upto_region 1 with (fail)
  generalize w.alloc (.cells z27 47) = w0 at *
  go_wp2_with fail
  refine HP.out.mono ?_
  rintro e w1 ⟨F, k, kc, rfl, hF, hkc, hb1⟩
  obtain ⟨pc, hpc⟩ : ∃ x, (Tlv.parse bs).1 = x := ⟨_, rfl⟩
  obtain ⟨fs, hfs⟩ : ∃ x, (Tlv.parse bs).2 = x := ⟨_, rfl⟩
  have HPC := Lib.hid (And.intro hpc hfs)
  rw [hpc]
  rw [hfs] at hF
  have hs1 : w0.heap.size ≤ w1.heap.size := hb1.size
  have hW1 := HW0.out.below hb1 (by omega)
  have hB1 := HB0.out.trans (hb1.mono (by omega))
  by_cases h0 : pc = 0
  · subst h0
    have HF := Lib.hid hF
    have HW1 := Lib.hid hW1
    have HB1 := Lib.hid hB1
    have hkn : k ≤ 1000000 := by
      have h1 := parse_few hpc hfs
      rw [hF.len, HBS.out.len] at h1
      omega
    clear hpc hfs hF hW1 hB1 hb1 HP HB0 HW0
    go_upto_region 4 with (fail)
    refine wp_region_lit ?_
    refine wpList_build_one rfl rfl ?_
    iterate 3 go_step
    refine wpList_store_made rfl 47 (.tmp 6) (.tmp 20) rfl z27 o27 rfl rfl (by rw [o27_size]; exact info27) (by rw [z27_size, o27_size]) o27_one ?_
    obtain ⟨g, hg⟩ : ∃ g, w1.heap.size = g := ⟨_, rfl⟩
    have hgg : (w1.alloc (.cells o27 47)).heap.size = g + 1 := by rw [size_alloc, hg]
    have hb2 : Below w1.heap.size w1 (w1.alloc (.cells o27 47)) := (Below.refl _ _).alloc (Nat.le_refl _) _
    have hN0 : NdAt (fun b => w.heap.size < b) (w1.alloc (.cells o27 47)) g Nd.one := ⟨none, 0, 0, none, 0, 0, by rw [← hg]; exact Whole.made w1 47 o27, ⟨Rd.nil, Nat.le_refl _, Rd.nil, Nat.le_refl _⟩, fun h => absurd h (by omega), fun h => absurd h (by omega)⟩
    have hF2 : FRd (fun b => w.heap.size < b) (w1.alloc (.cells o27 47)) g F k fs := by rw [← hg]; exact HF.out.below hb2 (Nat.le_refl _)
    have hW2 : Whole (w1.alloc (.cells o27 47)) w.heap.size 47 z27 := HW1.out.below hb2 (by omega)
    have hB2 : Below w.heap.size w (w1.alloc (.cells o27 47)) := HB1.out.trans (hb2.mono (by omega))
    have hR0 : w.heap.size < g := by omega
    clear hb2 HF HW1 HB1
    rw [hg]
    generalize w1.alloc (.cells o27 47) = w2 at *
    obtain ⟨r0, hr0⟩ : ∃ g, w.heap.size = g := ⟨_, rfl⟩
    rw [hr0] at hW2 hB2 hR0 hN0 hF2 ⊢
    have hkl : fs.length = k := hF2.len
    have HN0 := Lib.hid hN0
    have HF2 := Lib.hid hF2
    have HW2 := Lib.hid hW2
    have HB2 := Lib.hid hB2
    have HG := Lib.hid (And.intro hr0 hkl)
    have HFIT : Hid Nd.one.fit := Lib.hid Tlv.fit_one
    clear hN0 hF2 hW2 hB2 hg hs0 hs1 hr0 hkl
    go_wp2_with fail
    go_loopg [23] k (fun gk i wx => ∃ (j : Nat) (nd : Nd), j + gk = k ∧ i = .int .i64 j ∧ nd.fit ∧ NdAt (fun b => r0 < b) wx g nd ∧ Tlv.says nd (fs.drop j) = Tlv.says Nd.one fs ∧ Below g w2 wx)
    case atStart => exact ⟨0, Nd.one, by omega, rfl, HFIT.out, HN0.out, by rw [List.drop_zero], Below.refl _ _⟩
    case round =>
      obtain ⟨j, nd, hj, rfl, hfit, hN, hsays, hbl⟩ := hrel
      have HFI := Lib.hid hfit
      have HN := Lib.hid hN
      have HS := Lib.hid hsays
      have HBL := Lib.hid hbl
      clear hfit hN hsays hbl HN0 HFIT
      cases gk with
      | succ gn =>
        have hjk : j < k := by omega
        obtain ⟨f, hf⟩ : ∃ f, fs[j]? = some f := ⟨_, List.getElem?_eq_getElem (by rw [HG.out.2]; exact hjk)⟩
        obtain ⟨b, o, A1, n1, c1, hFA, hbg, k1, k2, hn1, _, hr1, hgA⟩ := HF2.out.at_ hf
        subst hFA
        have d1 : wr.cell? ⟨b, o + j * 2, none⟩ = some (.int .u8 f.1.toNat) := by rw [Nat.mul_comm]; exact (HBL.out.cell (p := ⟨b, o + 2 * j, none⟩) hbg).trans k1
        have d2 : wr.cell? ⟨b, o + j * 2 + 1, none⟩ = some (.slice A1 n1 c1) := by rw [Nat.mul_comm, Nat.add_assoc]; exact (HBL.out.cell (p := ⟨b, o + (2 * j + 1), none⟩) hbg).trans k2
        have hdrop : fs.drop j = f :: fs.drop (j + 1) := by rw [List.drop_eq_getElem_cons (by rw [HG.out.2]; exact hjk)]; congr 1; rw [List.getElem?_eq_getElem (by rw [HG.out.2]; exact hjk)] at hf; injection hf
        rw [hdrop] at HS
        have hgs : g < wr.heap.size := by obtain ⟨_, _, _, _, _, _, hW, _, _⟩ := HN.out; exact hW.lt
        obtain ⟨T, hT⟩ : ∃ T : Nat, f.1.toNat = T := ⟨_, rfl⟩
        rw [hT] at d1
        have hb1 : Below g wr (wr.alloc (.cells #[.int .u8 T, .slice A1 n1 c1] 102)) := (Below.refl _ _).alloc (Nat.le_of_lt hgs) _
        have hNN : NdAt (fun b => r0 < b) (wr.alloc (.cells #[.int .u8 T, .slice A1 n1 c1] 102)) g nd := by
          obtain ⟨Ax, nx, cx, Ay, ny, cy, hW, hK, hGG⟩ := HN.out
          exact ⟨Ax, nx, cx, Ay, ny, cy, hW.alloc _, hK.below hb1 (Nat.le_refl _), hGG⟩
        have hT2 := take_any g nd f.1 A1 n1 c1 f.2 (wr.alloc (.cells #[.int .u8 T, .slice A1 n1 c1] 102)) hNN HFI.out ((hr1.below HBL.out (Nat.le_refl _)).below hb1 (Nat.le_refl _)) hn1 hgA
        rw [hT] at hT2
        have HT2 := Lib.hid hT2
        have HFT := Lib.hid (Tlv.say_fit HFI.out f.1 f.2)
        have HB3 := Lib.hid (HBL.out.trans hb1)
        have hnew := Whole.made wr 102 #[.int .u8 T, .slice A1 n1 c1]
        have t0 := hnew.at_ (i := 0) rfl
        have t1 := hnew.at_ (i := 1) rfl
        clear hT hf k1 k2 hr1 hdrop hb1 hNN hT2 hnew hn1 hgA
        go_upto_region 8 with (fail)
        generalize wr.alloc (.cells #[.int .u8 T, .slice A1 n1 c1] 102) = w3 at *
        go_wp2_with fail
        refine HT2.out.mono ?_
        rintro e w4 ⟨rfl, hok, hb4⟩
        obtain ⟨code, hcode⟩ : ∃ x, (Tlv.say nd f.1 f.2).1 = x := ⟨_, rfl⟩
        rw [hcode] at hok ⊢
        have HB4 := Lib.hid (HB3.out.trans hb4)
        clear hb4 HT2 HB3 d1 d2 t0 t1
        rcases Nat.eq_zero_or_pos code with hc0 | hc0
        · subst hc0
          have HOK := Lib.hid (hok rfl)
          have HS2 := Lib.hid ((Tlv.says_go hcode).symm.trans HS.out)
          clear hok hcode HS
          go_wp2_with fail
          go_roundg gn
          case measure => omega
          case rel => exact ⟨j + 1, _, by omega, congrArg (Value.int .i64) (by omega), HFT.out, HOK.out, HS2.out, HB4.out⟩
        · have q1 : ((code : Int) != 0) = true := by simp; omega
          have hne : (Tlv.say nd f.1 f.2).1 ≠ 0 := by omega
          have hdec : Tlv.dec bs = (code, Nd.zero) := by
            unfold Tlv.dec
            rw [if_pos HPC.out.1, HPC.out.2, ← HS.out, if_neg (by rw [Tlv.says_stop hne]; exact hne), Tlv.says_stop hne, hcode]
          have hW5 := HW2.out.below HB4.out hR0
          have hB5 := HB2.out.trans (HB4.out.mono (Nat.le_of_lt hR0))
          obtain ⟨hA, hB⟩ := zero_post (w := w) code (Nat.le_of_eq HG.out.1) hW5 (by rw [HG.out.1]; exact hB5)
          rw [← hdec] at hB
          have HFIN := Lib.hid (And.intro hA hB)
          have HTH := Lib.hid hW5.there_
          clear hok hcode hc0 hne hdec hW5 hB5 hA hB HS HFT
          go_upto_region 10 with (fail)
          refine wp_region_lit ?_
          iterate 6 go_step
          refine wpList_store_mid rfl 47 (.tmp 2) (.tmp 31) rfl r0 0 z27 rfl rfl HTH.out (by rw [z27_size]; exact info27) z27_one ?_
          generalize w4.setCells r0 0 z27.toList = w5 at *
          go_wp2_with fail
          refine bodyPost_end (results_cell2 rfl _ _ _ _ _ rfl (z27_load HFIN.out.1)) rfl ?_
          exact HFIN.out.2
      | zero =>
        obtain rfl : j = k := by omega
        have hsay : Tlv.says Nd.one fs = (0, nd) := by rw [← HS.out, List.drop_of_length_le (Nat.le_of_eq HG.out.2)]; rfl
        have hdec : Tlv.dec bs = Tlv.judge nd bs := by unfold Tlv.dec; rw [if_pos HPC.out.1, HPC.out.2, hsay, if_pos rfl]
        obtain ⟨Ax, nx, cx, Ay, ny, cy, hWn, hKn, hgK, hgV⟩ := HN.out
        have HGG := Lib.hid (And.intro hgK hgV)
        clear hgK hgV
        have hgs := hWn.lt
        have HENC := Lib.hid (encode_any Ax nx cx Ay ny cy nd wr (hKn.more (Nat.le_of_lt hgs)) HFI.out)
        have HWN := Lib.hid hWn
        have HKN := Lib.hid hKn
        have HDEC := Lib.hid hdec
        have hsz : (ndc Ax nx cx Ay ny cy nd).toArray.size = 68 := by rw [List.size_toArray, ndc_len HFI.out]
        have hone : (ndc Ax nx cx Ay ny cy nd).toArray.all (·.oneCell') = true := acells_one _ _ _ _ _ _ _ _ _ _
        generalize hX : (ndc Ax nx cx Ay ny cy nd).toArray = X at *
        have HX := Lib.hid hX
        have HI : Hid ((Tryd.prog.info? 47).map (·.size) = some X.size) := Lib.hid (by rw [hsz]; exact info27)
        have HONE := Lib.hid hone
        clear hsay hdec hWn hKn hX HN HS hone
        go_upto_region 12 with (fail)
        refine wp_region_lit ?_
        refine wpList_load_g rfl 47 (.tmp 6) rfl g rfl 47 X _ HWN.out Tryd.underlying47 rfl HI.out ?_
        go_wp2_with fail
        refine HENC.out.mono ?_
        rintro e w4 ⟨Ae, ne, ce, rfl, hre, hce, hbe⟩
        have hW5 := HWN.out.below hbe hgs
        have hK5 := HKN.out.below (hbe.mono (Nat.le_of_lt hgs)) (Nat.le_refl _)
        have hB4 := HBL.out.trans (hbe.mono (Nat.le_of_lt hgs))
        have hW0 := HW2.out.below hB4 hR0
        have hB5 := HB2.out.trans (hB4.mono (Nat.le_of_lt hR0))
        have hr5 := HBS.out.below (HB2.out.trans (HBL.out.mono (Nat.le_of_lt hR0))) (by rw [HG.out.1]; exact Nat.le_refl _)
        have hr6 := (hr5.below (hbe.mono (Nat.le_of_lt (Nat.lt_trans hR0 hgs))) (by rw [HG.out.1]; exact Nat.le_refl _))
        obtain ⟨ecode, hec⟩ : ∃ x, (Tlv.enc nd).1 = x := ⟨_, rfl⟩
        obtain ⟨eb, heb⟩ : ∃ x, (Tlv.enc nd).2 = x := ⟨_, rfl⟩
        rw [hec]
        rw [heb] at hre
        rcases Nat.eq_zero_or_pos ecode with h0 | h0
        · subst h0
          have HEQ := Lib.hid (equal_any Ae A ne ce n c _ _ eb bs w4 hre hr6)
          clear hre hce hr5 hr6 HENC
          go_wp2_with fail
          refine HEQ.out.mono ?_
          rintro e w5 ⟨rfl, rfl⟩
          cases hcmp : (eb == bs) with
          | false =>
            have hdec : Tlv.dec bs = (7, Nd.zero) := by rw [HDEC.out]; unfold Tlv.judge; rw [hec, if_pos rfl, heb, if_neg (by simpa using hcmp)]
            obtain ⟨hA, hB⟩ := zero_post (w := w) 7 (Nat.le_of_eq HG.out.1) hW0 (by rw [HG.out.1]; exact hB5)
            rw [← hdec] at hB
            have HFIN := Lib.hid (And.intro hA hB)
            have HTH := Lib.hid hW0.there_
            clear hbe hW5 hK5 hB4 hW0 hB5 hec heb hdec hA hB HWN HKN HDEC HX HI HONE HBL hcmp HEQ
            go_upto_region 16 with (fail)
            refine wp_region_lit ?_
            iterate 3 go_step
            refine wpList_store_mid rfl 47 (.tmp 2) (.tmp 47) rfl r0 0 z27 rfl rfl HTH.out (by rw [z27_size]; exact info27) z27_one ?_
            generalize w4.setCells r0 0 z27.toList = w5 at *
            go_wp2_with fail
            refine bodyPost_end (results_cell2 rfl _ _ _ _ _ rfl (z27_load HFIN.out.1)) rfl ?_
            exact HFIN.out.2
          | true =>
            have hdec : Tlv.dec bs = (0, nd) := by rw [HDEC.out]; unfold Tlv.judge; rw [hec, if_pos rfl, heb, if_pos (by simpa using hcmp)]
            have hWr := hW0.setAll (vs := X) (by rw [z27_size, hsz])
            have hBr : Below r0 w (w4.setCells r0 0 X.toList) := below_setCells w r0 _ 0 hB5 (Nat.le_refl _)
            have hKr : NRd (w4.setCells r0 0 X.toList) (w4.setCells r0 0 X.toList).heap.size Ax nx cx Ay ny cy nd := by
              rw [size_setCells]
              have hlw : g ≤ w4.heap.size := by have := hbe.size; omega
              exact ⟨(hK5.key.more hlw).cells_far HGG.out.1.ne _ 0, hK5.knc, (hK5.val.more hlw).cells_far HGG.out.2.ne _ 0, hK5.vnc⟩
            have hP : DecNew w (Tlv.dec bs) (.returned (.tuple #[.agg X, .int .i64 0])) (w4.setCells r0 0 X.toList) := by
              rw [hdec, ← HX.out]
              exact ⟨Ax, nx, cx, Ay, ny, cy, rfl, by rw [HX.out]; exact hKr, by rw [HG.out.1]; exact HGG.out, by rw [HX.out, HG.out.1]; exact hBr⟩
            have HFIN := Lib.hid (And.intro hWr hP)
            have HTH : Hid (w4.there r0 0 X.size) := Lib.hid (by rw [hsz]; exact hW0.there_)
            have HW5 := Lib.hid hW5
            clear hbe hW5 hK5 hB4 hW0 hB5 hec heb hdec hWr hBr hKr hP HWN HKN HDEC HX HBL hcmp HEQ
            go_upto_region 17 with (fail)
            refine wp_region_lit ?_
            refine wpList_load_g rfl 47 (.tmp 6) rfl g rfl 47 X _ HW5.out Tryd.underlying47 rfl HI.out ?_
            refine wpList_store_mid rfl 47 (.tmp 2) (.tmp 48) rfl r0 0 X rfl rfl HTH.out HI.out HONE.out ?_
            generalize w4.setCells r0 0 X.toList = w5 at *
            go_wp2_with fail
            refine bodyPost_end (results_cell2 rfl _ _ _ _ _ rfl (load_whole HFIN.out.1 47 _ Tryd.underlying47 rfl HI.out)) rfl ?_
            exact HFIN.out.2
        · have q1 : ((ecode : Int) != 0) = true := by simp; omega
          have hdec : Tlv.dec bs = (ecode, Nd.zero) := by rw [HDEC.out]; unfold Tlv.judge; rw [hec, if_neg (by omega)]
          obtain ⟨hA, hB⟩ := zero_post (w := w) ecode (Nat.le_of_eq HG.out.1) hW0 (by rw [HG.out.1]; exact hB5)
          rw [← hdec] at hB
          have HFIN := Lib.hid (And.intro hA hB)
          have HTH := Lib.hid hW0.there_
          clear hre hce hbe hW5 hK5 hB4 hW0 hB5 hr5 hr6 hec heb h0 hdec hA hB HENC HWN HKN HDEC HX HI HONE HBL
          go_upto_region 14 with (fail)
          refine wp_region_lit ?_
          iterate 6 go_step
          refine wpList_store_mid rfl 47 (.tmp 2) (.tmp 41) rfl r0 0 z27 rfl rfl HTH.out (by rw [z27_size]; exact info27) z27_one ?_
          generalize w4.setCells r0 0 z27.toList = w5 at *
          go_wp2_with fail
          refine bodyPost_end (results_cell2 rfl _ _ _ _ _ rfl (z27_load HFIN.out.1)) rfl ?_
          exact HFIN.out.2
  · have q1 : ((pc : Int) != 0) = true := by simp; omega
    have hdec : Tlv.dec bs = (pc, Nd.zero) := by unfold Tlv.dec; rw [hpc, if_neg h0]
    obtain ⟨hA, hB⟩ := zero_post pc (Nat.le_refl _) hW1 hB1
    rw [← hdec] at hB
    have HFIN := Lib.hid (And.intro hA hB)
    have HTH := Lib.hid hW1.there_
    clear hpc hfs hF hW1 hB1 hb1 HP HB0 HW0 hA hB hdec h0
    go_upto_region 3 with (fail)
    refine wp_region_lit ?_
    iterate 6 go_step
    refine wpList_store_mid rfl 47 (.tmp 2) (.tmp 18) rfl w.heap.size 0 z27 rfl rfl HTH.out (by rw [z27_size]; exact info27) z27_one ?_
    generalize w1.setCells w.heap.size 0 z27.toList = w5 at *
    go_wp2_with fail
    refine bodyPost_end (results_cell2 rfl _ _ _ _ _ rfl (z27_load HFIN.out.1)) rfl ?_
    exact HFIN.out.2
end Go.Proofs.YtolkpjbbfopmnaaDoor.Tl
namespace Go.Proofs.YtolkpjbbfopmnaaDoor.Tl
open Go.RowKit
open Tlv (Nd)

end Go.Proofs.YtolkpjbbfopmnaaDoor.Tl

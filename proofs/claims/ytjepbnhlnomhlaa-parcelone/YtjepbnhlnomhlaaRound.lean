/-
  What is laid as fields is read as it was, and what is read without a fault is the one way to lay it: plain mathematics of packets, answers and headers; no condition but those that each fact names.
-/
import Derived.Test.YtjepbnhlnomhlaaRead
import Derived.Test.YtjepbnhlnomhlaaAck
namespace Go.Proofs.Ytjepbnhlnomhlaa.Tlv

def Pk.bytes (p : Pk) : List UInt8 := pkt p.ch p.seq p.tm p.den p.amt p.frm p.dst
/-- It can be laid. -/
def Pk.ok (p : Pk) : Prop := p.ch < 4 ∧ p.seq < 18446744073709551616 ∧ p.tm < 18446744073709551616 ∧ p.amt < 18446744073709551616 ∧ p.den.length ≤ 65535 ∧ p.frm.length ≤ 65535 ∧ p.dst.length ≤ 65535
def Hd.bytes (h : Hd) : List UInt8 := putSum (putSum (putSum (putSum (put (put [] 1 (num h.ht)) 2 (num h.tm)) 3 h.root) 4 h.vals) 5 h.next) 6 h.sl
def Hd.ok (h : Hd) : Prop := h.ht < 18446744073709551616 ∧ h.tm < 18446744073709551616 ∧ h.root.length = 32 ∧ h.vals.length = 32 ∧ h.next.length = 32 ∧ h.sl.length = 32

theorem readP_back {s : St} {p : Pk} (h : readP s = (0, p)) (hf : full s.1) : s.2 = 0 ∧ p.ok ∧ p.bytes = body s.1 := by
  unfold readP at h
  obtain ⟨⟨n1, s1⟩, e1⟩ : ∃ x, rnum 1 s = x := ⟨_, rfl⟩
  obtain ⟨⟨n2, s2⟩, e2⟩ : ∃ x, rnum 2 (refuse (decide (4 ≤ n1)) 2 s1) = x := ⟨_, rfl⟩
  obtain ⟨⟨n3, s3⟩, e3⟩ : ∃ x, rnum 3 s2 = x := ⟨_, rfl⟩
  obtain ⟨⟨t4, s4⟩, e4⟩ : ∃ x, rtext 4 s3 = x := ⟨_, rfl⟩
  obtain ⟨⟨n5, s5⟩, e5⟩ : ∃ x, rnum 5 s4 = x := ⟨_, rfl⟩
  obtain ⟨⟨t6, s6⟩, e6⟩ : ∃ x, rtext 6 s5 = x := ⟨_, rfl⟩
  obtain ⟨⟨t7, s7⟩, e7⟩ : ∃ x, rtext 7 s6 = x := ⟨_, rfl⟩
  simp only [e1, e2, e3, e4, e5, e6, e7] at h
  injection h with h0 hp
  subst hp
  have z7 := rend_zero h0
  subst z7
  -- the fields all have bytes, from the front on
  have f1 : full s1.1 := by
    have := congrArg (fun x => x.2.1) e1
    simp only [rnum] at this
    rw [← this]
    unfold refuse
    split <;> exact (take_full hf).1
  have f1' : full (refuse (decide (4 ≤ n1)) 2 s1).1 := by
    unfold refuse
    split <;> exact f1
  have f2 : full s2.1 := by
    have := congrArg (fun x => x.2.1) e2
    simp only [rnum] at this
    rw [← this]
    generalize refuse (decide (4 ≤ n1)) 2 s1 = q at f1' ⊢
    unfold refuse
    split <;> exact (take_full f1').1
  have f3 : full s3.1 := by
    have := congrArg (fun x => x.2.1) e3
    simp only [rnum] at this
    rw [← this]
    unfold refuse
    split <;> exact (take_full f2).1
  have f4 : full s4.1 := by
    have := congrArg (fun x => x.2.1) e4
    simp only [rtext] at this
    rw [← this]
    exact (take_full f3).1
  have f5 : full s5.1 := by
    have := congrArg (fun x => x.2.1) e5
    simp only [rnum] at this
    rw [← this]
    unfold refuse
    split <;> exact (take_full f4).1
  have f6 : full s6.1 := by
    have := congrArg (fun x => x.2.1) e6
    simp only [rtext] at this
    rw [← this]
    exact (take_full f5).1
  obtain ⟨c6, _, l7, b7⟩ := rtext_back (put (put (put (put (put (put [] 1 (num n1)) 2 (num n2)) 3 (num n3)) 4 t4) 5 (num n5)) 6 t6) e7 f6 rfl
  obtain ⟨c5, _, l6, b6⟩ := rtext_back (put (put (put (put (put [] 1 (num n1)) 2 (num n2)) 3 (num n3)) 4 t4) 5 (num n5)) e6 f5 c6
  obtain ⟨c4, _, l5, b5⟩ := rnum_back (put (put (put (put [] 1 (num n1)) 2 (num n2)) 3 (num n3)) 4 t4) e5 f4 c5
  obtain ⟨c3, _, l4, b4⟩ := rtext_back (put (put (put [] 1 (num n1)) 2 (num n2)) 3 (num n3)) e4 f3 c4
  obtain ⟨c2, _, l3, b3⟩ := rnum_back (put (put [] 1 (num n1)) 2 (num n2)) e3 f2 c3
  obtain ⟨c1, _, l2, b2⟩ := rnum_back (put [] 1 (num n1)) e2 f1' c2
  obtain ⟨g1, g2⟩ := refuse_zero (by omega) c1
  rw [g2] at c1 b2
  obtain ⟨c0, _, _, b1⟩ := rnum_back [] e1 hf c1
  have hch : n1 < 4 := by
    have := of_decide_eq_false g1
    omega
  refine ⟨c0, ⟨hch, l2, l3, l5, l4, l6, l7⟩, ?_⟩
  rw [body_nil, List.append_nil] at b7
  unfold Pk.bytes pkt
  rw [b7, b6, b5, b4, b3, b2, b1]
  rfl

theorem full_refuse {b : Bool} {e : Nat} {s : St} (h : full s.1) : full (refuse b e s).1 := by
  unfold refuse
  split <;> exact h
theorem full_rnum {t : UInt8} {s s' : St} {n : Nat} (h : rnum t s = (n, s')) (hf : full s.1) : full s'.1 := by
  have : s' = _ := (congrArg Prod.snd h).symm
  rw [this]
  exact full_refuse (take_full hf).1
theorem full_rsum {t : UInt8} {s s' : St} {n : List UInt8} (h : rsum t s = (n, s')) (hf : full s.1) : full s'.1 := by
  have : s' = _ := (congrArg Prod.snd h).symm
  rw [this]
  exact full_refuse (take_full hf).1

theorem readA_back {s : St} {ok : Bool} {k : Nat} (h : readA s = (0, (ok, k))) (hf : full s.1) : s.2 = 0 ∧ k ≤ 2147483648 ∧ (ok = decide (k = 0)) ∧ ackb ok k = body s.1 := by
  unfold readA at h
  obtain ⟨⟨n1, s1⟩, e1⟩ : ∃ x, rnum 1 s = x := ⟨_, rfl⟩
  obtain ⟨⟨n2, s2⟩, e2⟩ : ∃ x, rnum 2 s1 = x := ⟨_, rfl⟩
  simp only [e1, e2] at h
  injection h with h0 hp
  injection hp with hp1 hp2
  subst hp1 hp2
  have z := rend_zero h0
  have f1 := full_rnum e1 hf
  have c2 : (refuse (ackBad n1 n2) 2 s2).2 = 0 := by rw [z]
  obtain ⟨g1, g2⟩ := refuse_zero (by omega) c2
  rw [g2] at z
  subst z
  obtain ⟨c1, _, l2, b2⟩ := rnum_back (put [] 1 (num n1)) e2 f1 rfl
  obtain ⟨c0, _, l1, b1⟩ := rnum_back [] e1 hf c1
  simp only [ackBad, Bool.or_eq_false_iff, decide_eq_false_iff_not, bne_eq_false_iff_eq] at g1
  obtain ⟨⟨g3, g4⟩, g5⟩ := g1
  refine ⟨c0, by omega, g5, ?_⟩
  rw [body_nil, List.append_nil] at b2
  have hb : put (put [] 1 (num n1)) 2 (num n2) = body s.1 := by rw [b2, b1]; rfl
  unfold ackb
  rw [← hb]
  rcases Nat.lt_or_ge 0 n1 with hn | hn
  · obtain rfl : n1 = 1 := by omega
    rfl
  · obtain rfl : n1 = 0 := by omega
    rw [num_zero, put_nil]
    rfl

theorem readH_back {s : St} {p : Hd} (h : readH s = (0, p)) (hf : full s.1) : s.2 = 0 ∧ p.ht < 18446744073709551616 ∧ p.tm < 18446744073709551616 ∧ p.bytes = body s.1 := by
  unfold readH at h
  obtain ⟨⟨n1, s1⟩, e1⟩ : ∃ x, rnum 1 s = x := ⟨_, rfl⟩
  obtain ⟨⟨n2, s2⟩, e2⟩ : ∃ x, rnum 2 s1 = x := ⟨_, rfl⟩
  obtain ⟨⟨h3, s3⟩, e3⟩ : ∃ x, rsum 3 s2 = x := ⟨_, rfl⟩
  obtain ⟨⟨h4, s4⟩, e4⟩ : ∃ x, rsum 4 s3 = x := ⟨_, rfl⟩
  obtain ⟨⟨h5, s5⟩, e5⟩ : ∃ x, rsum 5 s4 = x := ⟨_, rfl⟩
  obtain ⟨⟨h6, s6⟩, e6⟩ : ∃ x, rsum 6 s5 = x := ⟨_, rfl⟩
  simp only [e1, e2, e3, e4, e5, e6] at h
  injection h with h0 hp
  subst hp
  have z := rend_zero h0
  subst z
  have f1 := full_rnum e1 hf
  have f2 := full_rnum e2 f1
  have f3 := full_rsum e3 f2
  have f4 := full_rsum e4 f3
  have f5 := full_rsum e5 f4
  obtain ⟨c5, _, b6⟩ := rsum_back (putSum (putSum (putSum (put (put [] 1 (num n1)) 2 (num n2)) 3 h3) 4 h4) 5 h5) e6 f5 rfl
  obtain ⟨c4, _, b5⟩ := rsum_back (putSum (putSum (put (put [] 1 (num n1)) 2 (num n2)) 3 h3) 4 h4) e5 f4 c5
  obtain ⟨c3, _, b4⟩ := rsum_back (putSum (put (put [] 1 (num n1)) 2 (num n2)) 3 h3) e4 f3 c4
  obtain ⟨c2, _, b3⟩ := rsum_back (put (put [] 1 (num n1)) 2 (num n2)) e3 f2 c3
  obtain ⟨c1, _, l2, b2⟩ := rnum_back (put [] 1 (num n1)) e2 f1 c2
  obtain ⟨c0, _, l1, b1⟩ := rnum_back [] e1 hf c1
  refine ⟨c0, l1, l2, ?_⟩
  rw [body_nil, List.append_nil] at b6
  unfold Hd.bytes
  rw [b6, b5, b4, b3, b2, b1]
  rfl

/-! ## What is laid is read -/
def opt (t : UInt8) (v : List UInt8) : Fs := if v = [] then [] else [(t, v)]
def opts (t : UInt8) (h : List UInt8) : Fs := if h = zeros then [] else [(t, h)]
/-- All tags are above k. -/
def above (k : Nat) (r : Fs) : Prop := ∀ f ∈ r, k < f.1.toNat
theorem above_nil (k : Nat) : above k [] := fun f h => by simp at h
theorem above_one {k : Nat} {t : UInt8} {v : List UInt8} (h : k < t.toNat) : above k [(t, v)] := fun f hf => by
  simp at hf
  subst hf
  exact h
theorem above_app {k : Nat} {a b : Fs} (h : above k a) (h' : above k b) : above k (a ++ b) := fun f hf => by
  rcases List.mem_append.1 hf with hf | hf
  · exact h f hf
  · exact h' f hf
theorem above_opt {k : Nat} {t : UInt8} {v : List UInt8} {r : Fs} (h : k < t.toNat) (hr : above t.toNat r) : above k (opt t v ++ r) := by
  refine above_app ?_ fun f hf => Nat.lt_trans h (hr f hf)
  unfold opt
  split
  · exact above_nil k
  · exact above_one h
theorem above_opts {k : Nat} {t : UInt8} {v : List UInt8} {r : Fs} (h : k < t.toNat) (hr : above t.toNat r) : above k (opts t v ++ r) := by
  refine above_app ?_ fun f hf => Nat.lt_trans h (hr f hf)
  unfold opts
  split
  · exact above_nil k
  · exact above_one h
theorem take_above {t : UInt8} {r : Fs} (h : above t.toNat r) : take t r = ([], r) := by
  cases r with
  | nil => rfl
  | cons f r =>
    refine take_not fun e => ?_
    have := h f (by simp)
    rw [e] at this
    omega
theorem take_opt {t : UInt8} {v : List UInt8} {r : Fs} (h : above t.toNat r) : take t (opt t v ++ r) = (v, r) := by
  unfold opt
  split
  · rename_i e
    rw [e, List.nil_append]
    exact take_above h
  · exact take_here rfl
theorem refuse_false {e : Nat} {s : St} : refuse false e s = s := if_neg (fun h => by cases h.1)
theorem rnum_opt {t : UInt8} {n : Nat} {r : Fs} {c : Nat} (hn : n < 18446744073709551616) (h : above t.toNat r) : rnum t (opt t (num n) ++ r, c) = (n, (r, c)) := by
  have hok := okv_num n hn
  unfold rnum
  rw [take_opt h]
  simp only
  rw [decide_eq_false (fun e => e hok), refuse_false]
  have : numv (num n) = n := by
    unfold numv
    rw [if_pos hok, val_num]
  rw [this]
theorem rtext_opt {t : UInt8} {v : List UInt8} {r : Fs} {c : Nat} (h : above t.toNat r) : rtext t (opt t v ++ r, c) = (v, (r, c)) := by
  unfold rtext
  rw [take_opt h]
theorem rsum_opts {t : UInt8} {v : List UInt8} {r : Fs} {c : Nat} (hv : v.length = 32) (h : above t.toNat r) : rsum t (opts t v ++ r, c) = (v, (r, c)) := by
  unfold rsum opts
  split
  · rename_i e
    rw [List.nil_append]
    simp only
    rw [take_above h]
    simp only
    rw [decide_eq_false (fun e => e.1 rfl), refuse_false]
    rw [e]
    rfl
  · rename_i e
    have e1 : take t ([(t, v)] ++ r) = (v, r) := take_here rfl
    simp only
    rw [e1]
    simp only
    have hne : v ≠ [] := fun e => by rw [e] at hv; simp at hv
    have hs : sumv v = v := by
      unfold sumv
      rw [if_neg hne, List.take_left' hv]
    rw [hs, decide_eq_false (fun h => h.2.elim (fun h => h hv) (fun h => e h)), refuse_false]
theorem put_opt (acc : List UInt8) (t : UInt8) (v : List UInt8) (r : Fs) : put acc t v ++ body r = acc ++ body (opt t v ++ r) := by
  unfold opt
  split
  · rename_i e
    rw [e, put_nil, List.nil_append]
  · rename_i e
    rw [put_some _ _ _ e, List.singleton_append, body_cons]
    simp
theorem putSum_opts (acc : List UInt8) (t : UInt8) (v : List UInt8) (r : Fs) (hv : v.length = 32) : putSum acc t v ++ body r = acc ++ body (opts t v ++ r) := by
  unfold opts putSum
  split
  · rw [List.nil_append]
  · have hne : v ≠ [] := fun e => by rw [e] at hv; simp at hv
    rw [put_some _ _ _ hne, List.singleton_append, body_cons]
    simp
/-- Fields that may stand behind any whose tags are below k. -/
def fineFrom (k : Nat) (r : Fs) : Prop := ∀ acc : Fs, (∀ f, acc.getLast? = some f → f.1.toNat < k) → fine acc r
theorem fineFrom_nil (k : Nat) : fineFrom k [] := fun _ _ => trivial
theorem fineFrom_cons {k : Nat} {t : UInt8} {v : List UInt8} {r : Fs} (hk : k ≤ t.toNat) (hv : v ≠ []) (hl : v.length ≤ 65535) (h : fineFrom (t.toNat + 1) r) : fineFrom k ((t, v) :: r) := fun acc ha => by
  refine ⟨hv, hl, ?_, h _ fun f hf => ?_⟩
  · unfold rises
    split
    · rfl
    · rename_i f hf
      have := ha f hf
      simp only [decide_eq_true_eq]
      omega
  · simp at hf
    subst hf
    exact Nat.lt_succ_self _
theorem fineFrom_less {k k' : Nat} {r : Fs} (h : fineFrom k r) (hk : k' ≤ k) : fineFrom k' r := fun acc ha => h acc fun f hf => Nat.lt_of_lt_of_le (ha f hf) hk
theorem fineFrom_opt {k : Nat} {t : UInt8} {v : List UInt8} {r : Fs} (hk : k ≤ t.toNat) (hl : v.length ≤ 65535) (h : fineFrom (t.toNat + 1) r) : fineFrom k (opt t v ++ r) := by
  unfold opt
  split
  · exact fineFrom_less h (by omega)
  · rename_i e
    exact fineFrom_cons hk e hl h
theorem fineFrom_opts {k : Nat} {t : UInt8} {v : List UInt8} {r : Fs} (hk : k ≤ t.toNat) (hl : v.length = 32) (h : fineFrom (t.toNat + 1) r) : fineFrom k (opts t v ++ r) := by
  unfold opts
  split
  · exact fineFrom_less h (by omega)
  · exact fineFrom_cons hk (fun e => by rw [e] at hl; simp at hl) (by omega) h
theorem parse_fine {r : Fs} (h : fineFrom 0 r) : parse (body r) = (0, r) := parse_body r (h [] fun f hf => by simp at hf)

/-- A packet's fields, ahead of others. -/
def Pk.fields (p : Pk) (E : Fs) : Fs := opt 1 (num p.ch) ++ (opt 2 (num p.seq) ++ (opt 3 (num p.tm) ++ (opt 4 p.den ++ (opt 5 (num p.amt) ++ (opt 6 p.frm ++ (opt 7 p.dst ++ E))))))
theorem Pk.body_fields (p : Pk) (E : Fs) : p.bytes ++ body E = body (p.fields E) := by
  unfold Pk.bytes pkt Pk.fields
  rw [put_opt, put_opt, put_opt, put_opt, put_opt, put_opt, put_opt, List.nil_append]
theorem Pk.parse_fields (p : Pk) (hp : p.ok) (E : Fs) (hE : fineFrom 8 E) : parse (body (p.fields E)) = (0, p.fields E) := by
  obtain ⟨h1, h2, h3, h4, h5, h6, h7⟩ := hp
  exact parse_fine (fineFrom_opt (Nat.zero_le _) (num_len (by omega)) (fineFrom_opt (by decide) (num_len h2) (fineFrom_opt (by decide) (num_len h3) (fineFrom_opt (by decide) h5 (fineFrom_opt (by decide) (num_len h4) (fineFrom_opt (by decide) h6 (fineFrom_opt (by decide) h7 hE)))))))
theorem Pk.read_fields (p : Pk) (hp : p.ok) (E : Fs) (hE : above 7 E) : readP (p.fields E, 0) = (rend (E, 0), p) := by
  obtain ⟨h1, h2, h3, h4, h5, h6, h7⟩ := hp
  have a7 : above 6 (opt 7 p.dst ++ E) := above_opt (by decide) hE
  have a6 : above 5 (opt 6 p.frm ++ (opt 7 p.dst ++ E)) := above_opt (by decide) a7
  have a5 : above 4 (opt 5 (num p.amt) ++ (opt 6 p.frm ++ (opt 7 p.dst ++ E))) := above_opt (by decide) a6
  have a4 : above 3 (opt 4 p.den ++ (opt 5 (num p.amt) ++ (opt 6 p.frm ++ (opt 7 p.dst ++ E)))) := above_opt (by decide) a5
  have a3 : above 2 (opt 3 (num p.tm) ++ (opt 4 p.den ++ (opt 5 (num p.amt) ++ (opt 6 p.frm ++ (opt 7 p.dst ++ E))))) := above_opt (by decide) a4
  have a2 : above 1 (opt 2 (num p.seq) ++ (opt 3 (num p.tm) ++ (opt 4 p.den ++ (opt 5 (num p.amt) ++ (opt 6 p.frm ++ (opt 7 p.dst ++ E)))))) := above_opt (by decide) a3
  unfold readP Pk.fields
  rw [rnum_opt (t := 1) (by omega) a2]
  simp only
  rw [decide_eq_false (by omega : ¬ 4 ≤ p.ch), refuse_false, rnum_opt (t := 2) h2 a3]
  simp only
  rw [rnum_opt (t := 3) h3 a4]
  simp only
  rw [rtext_opt (t := 4) a5]
  simp only
  rw [rnum_opt (t := 5) h4 a6]
  simp only
  rw [rtext_opt (t := 6) a7]
  simp only
  rw [rtext_opt (t := 7) hE]

theorem ack_parse (ok : Bool) (k : Nat) (hk : k ≤ 2147483648) (h : ok = decide (k = 0)) : (∃ fs, parse (ackb ok k) = (0, fs) ∧ readA (fs, 0) = (0, (ok, k))) := by
  have hb : ackb ok k = body (opt 1 (num (if ok = true then 1 else 0)) ++ (opt 2 (num k) ++ [])) := by
    have := put_opt (put [] 1 (num (if ok = true then 1 else 0))) 2 (num k) []
    rw [put_opt [] 1 _ (opt 2 (num k) ++ []), body_nil, List.append_nil, List.nil_append] at this
    rw [← this]
    unfold ackb
    cases ok with
    | true => rfl
    | false => simp [num_zero, put_nil]
  refine ⟨_, by rw [hb]; exact parse_fine (fineFrom_opt (Nat.zero_le _) (num_len (by split <;> omega)) (fineFrom_opt (by decide) (num_len (by omega)) (fineFrom_nil _))), ?_⟩
  unfold readA
  rw [rnum_opt (t := 1) (by split <;> omega) (above_opt (by decide) (above_nil _))]
  simp only
  rw [rnum_opt (t := 2) (by omega) (above_nil _)]
  simp only
  have hbad : ackBad (if ok = true then 1 else 0) k = false := by
    unfold ackBad
    cases ok with
    | true =>
      have h0 : k = 0 := of_decide_eq_true h.symm
      subst h0
      rfl
    | false =>
      have h0 : k ≠ 0 := of_decide_eq_false h.symm
      simp [h0]
      omega
  rw [hbad, refuse_false]
  cases ok <;> rfl

def Hd.fields (h : Hd) (E : Fs) : Fs := opt 1 (num h.ht) ++ (opt 2 (num h.tm) ++ (opts 3 h.root ++ (opts 4 h.vals ++ (opts 5 h.next ++ (opts 6 h.sl ++ E)))))
theorem Hd.body_fields (h : Hd) (hh : h.ok) (E : Fs) : h.bytes ++ body E = body (h.fields E) := by
  obtain ⟨_, _, h3, h4, h5, h6⟩ := hh
  unfold Hd.bytes Hd.fields
  rw [putSum_opts _ _ _ _ h6, putSum_opts _ _ _ _ h5, putSum_opts _ _ _ _ h4, putSum_opts _ _ _ _ h3, put_opt, put_opt, List.nil_append]
theorem Hd.parse_fields (h : Hd) (hh : h.ok) (E : Fs) (hE : fineFrom 7 E) : parse (body (h.fields E)) = (0, h.fields E) := by
  obtain ⟨h1, h2, h3, h4, h5, h6⟩ := hh
  exact parse_fine (fineFrom_opt (Nat.zero_le _) (num_len h1) (fineFrom_opt (by decide) (num_len h2) (fineFrom_opts (by decide) h3 (fineFrom_opts (by decide) h4 (fineFrom_opts (by decide) h5 (fineFrom_opts (by decide) h6 hE))))))
theorem Hd.read_fields (h : Hd) (hh : h.ok) (E : Fs) (hE : above 6 E) : readH (h.fields E, 0) = (rend (E, 0), h) := by
  obtain ⟨h1, h2, h3, h4, h5, h6⟩ := hh
  have a6 : above 5 (opts 6 h.sl ++ E) := above_opts (by decide) hE
  have a5 : above 4 (opts 5 h.next ++ (opts 6 h.sl ++ E)) := above_opts (by decide) a6
  have a4 : above 3 (opts 4 h.vals ++ (opts 5 h.next ++ (opts 6 h.sl ++ E))) := above_opts (by decide) a5
  have a3 : above 2 (opts 3 h.root ++ (opts 4 h.vals ++ (opts 5 h.next ++ (opts 6 h.sl ++ E)))) := above_opts (by decide) a4
  have a2 : above 1 (opt 2 (num h.tm) ++ (opts 3 h.root ++ (opts 4 h.vals ++ (opts 5 h.next ++ (opts 6 h.sl ++ E))))) := above_opt (by decide) a3
  unfold readH Hd.fields
  rw [rnum_opt (t := 1) h1 a2]
  simp only
  rw [rnum_opt (t := 2) h2 a3]
  simp only
  rw [rsum_opts (t := 3) h3 a4]
  simp only
  rw [rsum_opts (t := 4) h4 a5]
  simp only
  rw [rsum_opts (t := 5) h5 a6]
  simp only
  rw [rsum_opts (t := 6) h6 hE]
end Go.Proofs.Ytjepbnhlnomhlaa.Tlv

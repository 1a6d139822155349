/- One task put somewhere alone: into the deque within four steps, or, where it is full, into the pool within ten. -/
import Derived.Test.YtnfbjebhpljikaaGreatAdPure
import Derived.Test.YtnfbjebhpljikaaGreatPkAlone
import Derived.Test.YtnfbjebhpljikaaGreatJ17
namespace Go.Proofs.YtnfbjebhpljikaaGreat
set_option linter.unusedVariables false
set_option linter.unusedSimpArgs false

theorem PA.put1 {n : Nat} {g : Pg} {L : List Int} {i : Int} {l : List (List Int)} {out : List Int} (H : PA n g L i l out) (hi : i + 1 < 100000) {ts : List Int} (h1 : ts ≠ []) (h4 : ts.length ≤ 4) (hlt : l.length + out.length < n) (hone : ts.length = 1) :
    (pruns g 7 L (pPut g ts)).2.pc ≠ 0 ∧ (pruns g 8 L (pPut g ts)).2.pc = 0 ∧ (pruns g 8 L (pPut g ts)).1.length = L.length ∧ ∀ q : Int, 0 ≤ q → ¬ InP n g q → (pruns g 8 L (pPut g ts)).1.getD q.toNat 0 = L.getD q.toNat 0 := by
  obtain ⟨Ts, Qs, Tp, Qp, G, Hs, Hp, t1, t2, p1, hc⟩ := H
  have hpos : 0 < ts.length := List.length_pos_iff.2 h1
  cases Qs with
  | nil =>
    have := p1.length_eq
    have := hc.len
    simp only [List.length_append, List.length_nil, len_En] at *; omega
  | cons p Qs =>
    have hr := Hs.rng p (by simp)
    have hnd : ((p :: Qs) ++ (Qp ++ out)).Nodup := p1.nodup_iff.2 (nd_En n)
    have hnp : p ∉ Qp := fun h => (List.nodup_append.1 hnd).2.2 p (by simp) p (by simp [h]) rfl
    have hnq : p ∉ Qs := (List.nodup_cons.1 Hs.nd).1
    have e0 : pPut g ts = ⟨1, 1, ts, 0, 0, mPop g.sp⟩ := by unfold pPut; rw [if_neg h1, List.take_of_length_le h4]
    obtain ⟨y1, r1⟩ := first_pop (g := g) Hs (by omega) ts 0 0
    have H1 := Hs.pop (by omega)
    obtain ⟨L1, hL1⟩ : ∃ x, x = ptq L g.sp.head ((Ts + 1) * 4294967296 + Qs.headD 0) := ⟨_, rfl⟩
    rw [← hL1] at r1 H1
    have k1 : Kept n g L L1 (fun q => q ≠ p) := by rw [hL1]; exact .sph G
    have len1 : L1.length = L.length := by rw [hL1]; exact pt_len ..
    have Hp1 : Stk n g.po L1 Tp Qp := by
      rw [hL1]
      exact Hp.word G.hne fun q hq e => by
        have b := Hp.rng q hq
        rw [G.links] at e
        exact (G.s.lk q b.1 b.2).2.2 e.symm
    -- the tasks
    have r2 := tasks_run (g := g) p y1 ts ts L1 0 (by simp) h1 (by simp)
    obtain ⟨L2, hL2⟩ : ∃ x, x = tput g p L1 0 ts := ⟨_, rfl⟩
    simp only [Int.natCast_zero] at r2
    rw [← hL2] at r2
    have len2 : L2.length = L.length := by rw [hL2, tput_len]; exact len1
    have oth2 : ∀ q : Int, 0 ≤ q → (∀ i : Int, 0 ≤ i → i < 4 → q ≠ g.tk p i) → L2.getD q.toNat 0 = L1.getD q.toNat 0 := fun q h0 h => by
      rw [hL2]; exact tput_other p h0 ts L1 0 (fun i a b => h i a (by omega))
    have H2 : Stk n g.sp L2 (Ts + 1) Qs := H1.same (by omega) (oth2 _ G.s.hd.1 (fun i a b => (G.t p i hr.1 hr.2 a b).2.2.1.symm))
      (fun q hq => by have b := H1.rng q hq; exact oth2 _ (G.s.lk q b.1 b.2).1 (fun i a c => (G.tl p i q hr.1 hr.2 a c b.1 b.2).symm))
    have Hp2 : Stk n g.po L2 Tp Qp := Hp1.same (by omega) (oth2 _ G.p.hd.1 (fun i a b => (G.t p i hr.1 hr.2 a b).2.2.2.symm))
      (fun q hq => by have b := Hp1.rng q hq; unfold lkw; rw [G.links]; exact oth2 _ (G.s.lk q b.1 b.2).1 (fun i a c => (G.tl p i q hr.1 hr.2 a c b.1 b.2).symm))
    have k2 : Kept n g L1 L2 (fun q => q ≠ p) := fun q h0 h1 hq => ⟨oth2 _ (G.m q h0 h1).1 (fun i a b => (G.tm p i q hr.1 hr.2 a b h0 h1).symm),
      fun j j0 j1 => oth2 _ (G.t q j h0 h1 j0 j1).1 (fun i a b e => hq (G.ti q j p i h0 h1 j0 j1 hr.1 hr.2 a b e).1)⟩
    -- how many
    obtain ⟨L3, hL3⟩ : ∃ x, x = ptq L2 (g.mn p) ts.length := ⟨_, rfl⟩
    have r3 : pruns g 1 L2 ⟨1, 3, ts, ts.length, p, y1⟩ = (L3, ⟨1, 4, ts, ts.length, p, mPush g.po p⟩) := by
      rw [hL3]; simp [pruns, pstp]
    have hm := G.m p hr.1 hr.2
    have len3 : L3.length = L.length := by rw [hL3, pt_len]; exact len2
    have H3 : Stk n g.sp L3 (Ts + 1) Qs := by
      rw [hL3]; exact H2.word hm.2.2.1 (fun q hq => G.ml p q hr.1 hr.2 (H2.rng q hq).1 (H2.rng q hq).2)
    have Hp3 : Stk n g.po L3 Tp Qp := by
      rw [hL3]; exact Hp2.word hm.2.2.2 (fun q hq => by rw [G.links]; exact G.ml p q hr.1 hr.2 (Hp2.rng q hq).1 (Hp2.rng q hq).2)
    have k3 : Kept n g L2 L3 (fun q => q ≠ p) := by
      rw [hL3]; exact .word G fun q h0 h1 hq => ⟨fun e => hq (G.mi q p h0 h1 hr.1 hr.2 e), fun i a b => G.tm q i p h0 h1 a b hr.1 hr.2⟩
    have c3 : Cont g L3 p ts := by
      refine ⟨by rw [hL3]; exact pt_same ⟨hm.1, by rw [len2]; exact hm.2.1⟩, h4, fun i hi => ?_⟩
      have a := G.t p i hr.1 hr.2 (by omega) (by omega)
      rw [hL3, pt_other a.1 (G.tm p i p hr.1 hr.2 (by omega) (by omega) hr.1 hr.2), hL2]
      have := tput_at G hr ts L1 0 len1 (by omega) (by omega) i hi
      rw [show (0 : Int) + (i : Int) = (i : Int) by omega] at this
      exact this
    -- the push
    obtain ⟨y4, r4⟩ := last_push (g := g) Hp3 (by omega) hr.1 hr.2 1 ts ts.length p
    have pt := Hp3.put (v := Qp.headD 0) hr.1 hr.2 hnp
    have Hp4 := pt.1.push (by omega) hr.1 hr.2 hnp pt.2
    obtain ⟨L4, hL4⟩ : ∃ x, x = ptq (ptq L3 (atOf g.po.links p) (Qp.headD 0)) g.po.head ((Tp + 1) * 4294967296 + p) := ⟨_, rfl⟩
    rw [← hL4] at r4 Hp4
    have len4 : L4.length = L.length := by rw [hL4, pt_len, pt_len]; exact len3
    have k4 : Kept n g L3 L4 (fun _ => True) := by
      rw [hL4, G.links]; exact (Kept.lnk G hr).trans (.poh G)
    have H4 : Stk n g.sp L4 (Ts + 1) Qs := by
      rw [hL4, G.links]
      refine (H3.word (fun e => (G.s.lk p hr.1 hr.2).2.2 e) (fun q hq e => hnq ?_)).word G.hne.symm (fun q hq e => ?_)
      · rw [G.s.inj p q hr.1 hr.2 (H3.rng q hq).1 (H3.rng q hq).2 e]; exact hq
      · have := (G.p.lk q (H3.rng q hq).1 (H3.rng q hq).2).2.2
        rw [G.links] at this; exact this e.symm
    have hrun : pruns g 8 L (pPut g ts) = (L4, ⟨1, 0, ts, ts.length, p, y4⟩) := by
      rw [e0, show 8 = 3 + (ts.length + (1 + 3)) by omega, pruns_add, r1]
      simp only
      rw [pruns_add, r2]
      simp only
      rw [pruns_add, r3]
      simp only
      rw [r4]
    have hr7 : (pruns g 7 L (pPut g ts)).2.pc ≠ 0 := by
      rw [e0, show 7 = 3 + (ts.length + (1 + 2)) by omega, pruns_add, r1]
      simp only
      rw [pruns_add, r2]
      simp only
      rw [pruns_add, r3]
      simp only [pruns]
      obtain ⟨a, b, _⟩ := push_run Hp3 (by omega) hr.1 hr.2 0
      have hs := Hp3.g.small
      have e : mPush g.po p = ⟨1, 1, g.po, p, 0, 0, 0⟩ := by unfold mPush; rw [itemOf_is ⟨hr.1, by omega⟩]
      rw [e, last_on a (by simp)]
      simp only
      rw [last_on b (by simp)]
      simp
    refine ⟨hr7, by rw [hrun], by rw [hrun]; exact len4, fun q h0 hq => ?_⟩
    rw [hrun]
    show L4.getD q.toNat 0 = _
    have n1 : q ≠ g.sp.head := fun e => hq (.inl e)
    have n2 : q ≠ g.po.head := fun e => hq (.inr (.inl e))
    have n3 : q ≠ atOf g.po.links p := fun e => hq (.inr (.inr ⟨p, hr, .inl (by rw [e, G.links])⟩))
    have n4 : q ≠ g.mn p := fun e => hq (.inr (.inr ⟨p, hr, .inr (.inl e)⟩))
    have n5 : q ≠ g.tk p 0 := fun e => hq (.inr (.inr ⟨p, hr, .inr (.inr e)⟩))
    rw [hL4, pt_other h0 n2, pt_other h0 n3, hL3, pt_other h0 n4, hL2, tput_other p h0 ts L1 0 (fun i a b => by obtain rfl : i = 0 := (by omega); exact n5), hL1, pt_other h0 n1]
/-- Words that are none of the packets' may change. -/
theorem cts_same {n : Nat} {g : Pg} {L L' : List Int} (hw : ∀ x : Int, 1 ≤ x → x ≤ n → tw g L' x = tw g L x ∧ mw g L' x = mw g L x) : ∀ {Q l : List Int}, Cts g L Q (l.map fun t => [t]) → (∀ q ∈ Q, 1 ≤ q ∧ q ≤ (n : Int)) → Cts g L' Q (l.map fun t => [t])
  | [], [], _, _ => trivial
  | q :: Q, t :: l, h, hr => by
    have a := hw q (hr q (by simp)).1 (hr q (by simp)).2
    refine ⟨⟨a.2.trans h.1.many, h.1.few, fun i hi => ?_⟩, cts_same hw h.2 fun y hy => hr y (by simp [hy])⟩
    obtain rfl : i = 0 := by simpa using hi
    exact a.1.trans (h.1.task 0 (by simp))
  | [], _ :: _, h, _ => h.elim
  | _ :: _, [], h, _ => h.elim
theorem PA.same1 {n : Nat} {g : Pg} {L L' : List Int} {i : Int} {l : List Int} (H : PA n g L i (l.map fun t => [t]) []) (hl : L'.length = L.length) (hf : ∀ q : Int, 0 ≤ q → InP n g q → L'.getD q.toNat 0 = L.getD q.toNat 0) : PA n g L' i (l.map fun t => [t]) [] := by
  obtain ⟨Ts, Qs, Tp, Qp, G, Hs, Hp, t1, t2, p1, hc⟩ := H
  obtain ⟨Hs', Hp', w⟩ := in_stk G Hs Hp hl hf
  exact ⟨Ts, Qs, Tp, Qp, by rw [hl]; exact G, Hs', Hp', t1, t2, p1, cts_same (fun x a b => (w x a b).2) hc fun q hq => Hp.rng q hq⟩
def aruns (g : Pg) : Nat → List Int → Am → List Int × Am
  | 0, L, m => (L, m)
  | k + 1, L, m => aruns g k (astp g L m).1 (astp g L m).2
theorem aruns_add (g : Pg) : ∀ (a b : Nat) (L : List Int) (m : Am), aruns g (a + b) L m = aruns g b (aruns g a L m).1 (aruns g a L m).2
  | 0, b, L, m => by simp [aruns]
  | a + 1, b, L, m => by
    rw [show a + 1 + b = (a + b) + 1 by omega]
    simp only [aruns]
    exact aruns_add g a b _ _
theorem aruns_done {g : Pg} {m : Am} (h : m.pc = 0) (L : List Int) : ∀ k, aruns g k L m = (L, m)
  | 0 => rfl
  | k + 1 => by
    have e : astp g L m = (L, m) := by simp [astp, h]
    simp only [aruns, e]; exact aruns_done h L k
theorem aruns_dq (g : Pg) (t : Int) (p : Pm) (s : Bool) : ∀ (k : Nat) {L : List Int} {d : Dg.Mc}, (Dg.runs k L d).2.pc ≠ 0 → aruns g k L ⟨1, t, d, p, s⟩ = ((Dg.runs k L d).1, ⟨1, t, (Dg.runs k L d).2, p, s⟩)
  | 0, L, d, _ => rfl
  | k + 1, L, d, h => by
    simp only [Dg.runs] at h
    have h1 : (Dg.stp L d).2.pc ≠ 0 := fun e => h (by rw [Dg.runs_done e]; exact e)
    have e : astp g L ⟨1, t, d, p, s⟩ = ((Dg.stp L d).1, ⟨1, t, (Dg.stp L d).2, p, s⟩) := by simp [astp, h1]
    simp only [aruns, e, Dg.runs]
    exact aruns_dq g t p s k h
theorem aruns_pk (g : Pg) (t : Int) (d : Dg.Mc) (s : Bool) : ∀ (k : Nat) {L : List Int} {p : Pm}, (pruns g k L p).2.pc ≠ 0 → aruns g k L ⟨2, t, d, p, s⟩ = ((pruns g k L p).1, ⟨2, t, d, (pruns g k L p).2, s⟩)
  | 0, L, p, _ => rfl
  | k + 1, L, p, h => by
    simp only [pruns] at h
    have h1 : (pstp g L p).2.pc ≠ 0 := fun e => h (by rw [pruns_done e]; exact e)
    have e : astp g L ⟨2, t, d, p, s⟩ = ((pstp g L p).1, ⟨2, t, d, (pstp g L p).2, s⟩) := by simp [astp, h1]
    simp only [aruns, e, pruns]
    exact aruns_pk g t d s k h
theorem dgruns_add : ∀ (a b : Nat) (L : List Int) (m : Dg.Mc), Dg.runs (a + b) L m = Dg.runs b (Dg.runs a L m).1 (Dg.runs a L m).2
  | 0, b, L, m => by simp [Dg.runs]
  | a + 1, b, L, m => by
    rw [show a + 1 + b = (a + b) + 1 by omega]
    simp only [Dg.runs]
    exact dgruns_add a b _ _
/-- A marker's deque holds Q (the last one last), the pool's packets hold l (the last one first), nobody is on the way. -/
structure AA (n r : Nat) (g : Pg) (e : Dg.En) (L : List Int) (i : Int) (l Q : List Int) : Prop where
  pa : PA n g L i (l.map fun t => [t]) []
  dq : ∃ T β, Dg.Dq r e L T β β Q ∧ β ≤ i
  ap : ∀ q, InE r e q → ¬ InP n g q
theorem ite_both {α : Type} {P : α → Prop} {c : Prop} [Decidable c] {a b : α} (ha : P a) (hb : P b) : P (if c then a else b) := by split <;> assumption
theorem dstp_e (L : List Int) (m : Dg.Mc) : (Dg.stp L m).2.e = m.e := by
  unfold Dg.stp Dg.pushS Dg.popS Dg.stealS Dg.fin
  repeat' (first | rfl | refine ite_both (P := fun z : List Int × Dg.Mc => z.2.e = m.e) ?_ ?_)
  show (if m.won = true then _ else _ : Dg.Mc).e = m.e
  split <;> rfl
theorem dgrun_frame {r : Nat} {e : Dg.En} : ∀ (k : Nat) {L : List Int} {m : Dg.Mc}, Dg.Ge r L.length e → m.e = e → (Dg.runs k L m).1.length = L.length ∧ ∀ q : Int, 0 ≤ q → ¬ InE r e q → (Dg.runs k L m).1.getD q.toNat 0 = L.getD q.toNat 0
  | 0, L, m, _, _ => ⟨rfl, fun _ _ _ => rfl⟩
  | k + 1, L, m, g, he => by
    have fr := Dg.stp_frame (m := m) g he
    obtain ⟨a, b⟩ := dgrun_frame k (L := (Dg.stp L m).1) (m := (Dg.stp L m).2) (by rw [fr.1]; exact g) (by rw [dstp_e]; exact he)
    refine ⟨a.trans fr.1, fun q h0 hq => (b q h0 hq).trans ?_⟩
    rcases fr.2 q h0 with x | x | x
    · exact x
    · exact absurd (.inl x.2) hq
    · exact absurd (.inr x.2) hq
section
variable {n r : Nat} {g : Pg} {e : Dg.En} {L : List Int} {i x : Int} {l Q : List Int}
/-- There is room: four steps, no fewer. -/
theorem AA.put4 (H : AA n r g e L i l Q) (hi : i + 1 < 1000) (t : Int) (hf : Q.length < r) :
    (aruns g 3 L (aNew e t)).2.pc ≠ 0 ∧ (aruns g 4 L (aNew e t)).2.pc = 0 ∧ (aruns g 4 L (aNew e t)).2.sp = false ∧ AA n r g e (aruns g 4 L (aNew e t)).1 (i + 1) l (Q ++ [t]) := by
  obtain ⟨T, β, D, hb⟩ := H.dq
  obtain ⟨_, _, h3, h4, h5⟩ := Dg.push_four D (by omega) t (by omega)
  obtain ⟨T', β', Q', D', _, hb', ev⟩ := Dg.push_alone D (by omega) t 4 (by omega)
  have e3 := aruns_dq g t pnone false 3 h3
  have e4 : aruns g 4 L (aNew e t) = ((Dg.runs 4 L (Dg.mPush e t)).1, ⟨0, t, (Dg.runs 4 L (Dg.mPush e t)).2, pnone, false⟩) := by
    rw [show (4 : Nat) = 3 + 1 from rfl, aruns_add, show aNew e t = ⟨1, t, Dg.mPush e t, pnone, false⟩ from rfl, e3, dgruns_add] 
    rw [show (4 : Nat) = 3 + 1 from rfl, dgruns_add] at h4 h5
    simp only [Dg.runs] at h4 h5
    simp [aruns, astp, Dg.runs, h4, h5]
  have fr := dgrun_frame 4 (m := Dg.mPush e t) D.g rfl
  have hQ : Q' = Q ++ [t] := by
    rcases ev with ⟨_, x, _⟩ | ⟨x, _, y⟩
    · exact x
    · omega
  subst hQ
  refine ⟨?_, by rw [e4], by rw [e4], ?_⟩
  · rw [show aNew e t = ⟨1, t, Dg.mPush e t, pnone, false⟩ from rfl, e3]; simp
  · rw [e4]
    exact ⟨(PA.same1 (by obtain ⟨Ts, Qs, Tp, Qp, G, Hs, Hp, t1, t2, p1, hc⟩ := H.pa; exact ⟨Ts, Qs, Tp, Qp, G, Hs, Hp, by omega, by omega, p1, hc⟩) fr.1 fun q h0 hq => fr.2 q h0 fun x => H.ap q x hq), ⟨T', β', D', by omega⟩, H.ap⟩
/-- It is full: ten steps, no fewer. -/
theorem AA.put10 (H : AA n r g e L i l Q) (hi : i + 1 < 1000) (t : Int) (hf : r ≤ Q.length) (hn : l.length < n) :
    (aruns g 9 L (aNew e t)).2.pc ≠ 0 ∧ (aruns g 10 L (aNew e t)).2.pc = 0 ∧ (aruns g 10 L (aNew e t)).2.sp = true ∧ AA n r g e (aruns g 10 L (aNew e t)).1 (i + 1) (t :: l) Q := by
  obtain ⟨T, β, D, hb⟩ := H.dq
  obtain ⟨m, h1, h2, h3, h4⟩ := Dg.push_two D (by omega) t (by omega)
  have hs1 : astp g L (aNew e t) = (L, ⟨1, t, ⟨1, 2, e, β, 0, t, false, 0⟩, pnone, false⟩) := by
    show (if (1 : Nat) = 1 then _ else _) = _
    rw [if_pos rfl]
    show ((Dg.stp L (Dg.mPush e t)).1, if (Dg.stp L (Dg.mPush e t)).2.pc = 0 then _ else _) = _
    rw [h1, if_neg (by simp)]
    simp only [aNew]
    rw [h1]
  have hs2 : astp g L ⟨1, t, ⟨1, 2, e, β, 0, t, false, 0⟩, pnone, false⟩ = (L, ⟨2, t, m, pPut g [t], true⟩) := by
    show (if (1 : Nat) = 1 then _ else _) = _
    rw [if_pos rfl]
    show ((Dg.stp L ⟨1, 2, e, β, 0, t, false, 0⟩).1, if (Dg.stp L ⟨1, 2, e, β, 0, t, false, 0⟩).2.pc = 0 then (if (Dg.stp L ⟨1, 2, e, β, 0, t, false, 0⟩).2.out = 2 then _ else _) else _) = _
    rw [h2, if_pos h3, if_pos h4]
  have e2 : ∀ k, aruns g (2 + k) L (aNew e t) = aruns g k L ⟨2, t, m, pPut g [t], true⟩ := fun k => by
    rw [aruns_add]; simp only [aruns, hs1, hs2]
  obtain ⟨k7, k8, kl, kf⟩ := PA.put1 H.pa (by omega) (ts := [t]) (by simp) (by simp) (by simpa using hn) rfl
  obtain ⟨_, _, kp⟩ := PA.put H.pa (by omega) (ts := [t]) (by simp) (by simp) (by simpa using hn)
  have e14 : pruns g 14 L (pPut g [t]) = pruns g 8 L (pPut g [t]) := by
    rw [show (14 : Nat) = 8 + 6 from rfl, pruns_add, pruns_done k8]
  rw [e14] at kp
  have e7 := aruns_pk g t m true 7 k7
  have e8 : aruns g 8 L ⟨2, t, m, pPut g [t], true⟩ = ((pruns g 8 L (pPut g [t])).1, ⟨0, t, m, (pruns g 8 L (pPut g [t])).2, true⟩) := by
    rw [show (8 : Nat) = 7 + 1 from rfl, aruns_add, e7, pruns_add]
    rw [show (8 : Nat) = 7 + 1 from rfl, pruns_add] at k8
    simp only [pruns] at k8
    simp [aruns, astp, pruns, k8]
  have hAA : AA n r g e (pruns g 8 L (pPut g [t])).1 (i + 1) (t :: l) Q := by
    clear e14 e7 e8 e2 hs1 hs2 h1 h2 k7 k8
    generalize (pruns g 8 L (pPut g [t])).1 = L8 at kp kl kf ⊢
    exact ⟨kp, ⟨T, β, (in_dq D kl fun q h0 hq => kf q h0 (H.ap q hq)).1, by omega⟩, H.ap⟩
  refine ⟨?_, ?_, ?_, ?_⟩
  · rw [show (9 : Nat) = 2 + 7 from rfl, e2, e7]; simp
  · rw [show (10 : Nat) = 2 + 8 from rfl, e2, e8]
  · rw [show (10 : Nat) = 2 + 8 from rfl, e2, e8]
  · rw [show (10 : Nat) = 2 + 8 from rfl, e2, e8]; dsimp only; exact hAA
/-- What is taken from the deque's end is the last one. -/
theorem AA.pop (H : AA n r g e L i l (Q ++ [x])) (hi : i + 1 < 1000) :
    (Dg.runs 6 L (Dg.mPop e)).2.pc = 0 ∧ (Dg.runs 6 L (Dg.mPop e)).2.out = 1 ∧ (Dg.runs 6 L (Dg.mPop e)).2.w = x ∧ AA n r g e (Dg.runs 6 L (Dg.mPop e)).1 (i + 1) l Q := by
  obtain ⟨T, β, D, hb⟩ := H.dq
  obtain ⟨T', β', Q', D', h1, hb', ev⟩ := Dg.pop_alone D (by omega) 6 (by omega)
  have fr := dgrun_frame 6 (m := Dg.mPop e) D.g rfl
  generalize Dg.runs 6 L (Dg.mPop e) = R at D' h1 ev fr ⊢
  rcases ev with ⟨h2, h3⟩ | ⟨_, _, h3, _⟩
  · obtain ⟨e1, e2⟩ := List.append_inj' h3 rfl
    simp only [List.cons.injEq, and_true] at e2
    rw [← e1] at D'
    exact ⟨h1, h2, e2.symm, (PA.same1 (by obtain ⟨Ts, Qs, Tp, Qp, G, Hs, Hp, t1, t2, p1, hc⟩ := H.pa; exact ⟨Ts, Qs, Tp, Qp, G, Hs, Hp, by omega, by omega, p1, hc⟩) fr.1 fun q h0 hq => fr.2 q h0 fun y => H.ap q y hq), ⟨T', β', D', by omega⟩, H.ap⟩
  · simp at h3
theorem AA.begin (G : Gp n L.length g) (Hs : Stk n g.sp L 0 (En n)) (Hp : Stk n g.po L 0 []) (D : Dg.Dq r e L 0 0 0 []) (ap : ∀ q, InE r e q → ¬ InP n g q) : AA n r g e L 0 [] [] :=
  ⟨⟨0, En n, 0, [], G, Hs, Hp, by omega, by omega, by simp, trivial⟩, ⟨0, 0, D, by omega⟩, ap⟩
end
end Go.Proofs.YtnfbjebhpljikaaGreat

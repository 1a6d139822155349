/- A marker that looks for a task: its machine over words, and what it finds alone. -/
import Derived.Test.YtnfbjebhpljikaaGreatAdAl
namespace Go.Proofs.YtnfbjebhpljikaaGreat
set_option linter.unusedVariables false
set_option linter.unusedSimpArgs false

/-- A bag. -/
structure Bg where
  p : Int
  t : Int
  n : Int
def bg0 : Bg := ⟨0, 0, 0⟩
/-- A machine: its part (1 its own deque, 2 the bag's task, 3 a packet that is put back, 4 one that is taken, 5 how many, 6 another one's deque; 0: finished), and what it knows. -/
structure Km where
  pc : Nat
  i : Int
  draw : Int
  bag : Bg
  d : Dg.Mc
  p : Pm
  task : Int
  found : Bool
/-- Behind a number, of so many. -/
def kback (all v : Int) : Int := if v + 1 = all then 0 else v + 1
def kvic (all i draw : Int) : Int := if all < 2 then -1 else if draw % all = i then kback all (draw % all) else draw % all
def kask (g : Pg) (m : Km) : Km := { m with p := pTake g, pc := 4 }
def kbag (n : Nat) (g : Pg) (m : Km) : Km :=
  if m.bag.p = 0 ∧ m.bag.t = 0 ∧ m.bag.n = 0 then kask g m
  else if m.bag.p ≠ 0 ∧ m.bag.t < m.bag.n then { m with pc := 2 }
  else if m.bag.p < 1 ∨ (n : Int) < m.bag.p then kask g { m with bag := bg0 }
  else { m with bag := bg0, p := pBack n g m.bag.p, pc := 3 }
def kfin (m : Km) (x : Int) : Km := { m with pc := 0, task := x, found := true }
def kvict (ev : Int → Dg.En) (all : Int) (m : Km) : Km :=
  if kvic all m.i m.draw < 0 then { m with pc := 0 } else { m with pc := 6, d := Dg.mSteal (ev (kvic all m.i m.draw)) }
def k4 (x : Int) : Int := if x < 4 then x else 4
/-- Behind a step of a deque. -/
def kown (n : Nat) (g : Pg) (m : Km) (d : Dg.Mc) : Km :=
  if d.pc = 0 then (if d.out = 1 then kfin { m with d := d } d.w else if m.pc = 1 then kbag n g { m with d := d } else { m with d := d, pc := 0 })
  else { m with d := d }
/-- Behind a step of a packet. -/
def kpak (g : Pg) (ev : Int → Dg.En) (all : Int) (m : Km) (p : Pm) : Km :=
  if p.pc = 0 then (if m.pc = 3 then kask g { m with p := p } else if p.p = 0 then kvict ev all { m with p := p } else { m with p := p, pc := 5 })
  else { m with p := p }
def kstp (n : Nat) (g : Pg) (ev : Int → Dg.En) (all : Int) (L : List Int) (m : Km) : List Int × Km :=
  if m.pc = 1 ∨ m.pc = 6 then ((Dg.stp L m.d).1, kown n g m (Dg.stp L m.d).2)
  else if m.pc = 2 then (L, kfin { m with bag := ⟨m.bag.p, m.bag.t + 1, m.bag.n⟩ } (ldq L (g.tk m.bag.p m.bag.t)))
  else if m.pc = 3 ∨ m.pc = 4 then ((pstp g L m.p).1, kpak g ev all m (pstp g L m.p).2)
  else if m.pc = 5 then (L, kbag n g { m with bag := ⟨m.p.p, 0, k4 (ldq L (g.mn m.p.p))⟩ })
  else (L, m)
def kbd (x : Int) : Int := if x < 0 then 0 else if x < 4 then x else 4
def kNew (e : Dg.En) (i : Int) (b : Bg) (draw : Int) : Km := ⟨1, i, draw, ⟨b.p, kbd b.t, kbd b.n⟩, Dg.mPop e, pnone, 0, false⟩
/-- For a marker that there isn't. -/
def kNone (i : Int) (b : Bg) (draw : Int) : Km := ⟨0, i, draw, b, Dg.mPop ⟨0, 0, 0, 0⟩, pnone, 0, false⟩

def kruns (n : Nat) (g : Pg) (ev : Int → Dg.En) (all : Int) : Nat → List Int → Km → List Int × Km
  | 0, L, m => (L, m)
  | k + 1, L, m => kruns n g ev all k (kstp n g ev all L m).1 (kstp n g ev all L m).2
section
variable {n : Nat} {g : Pg} {ev : Int → Dg.En} {all : Int}
theorem kruns_add : ∀ (a b : Nat) (L : List Int) (m : Km), kruns n g ev all (a + b) L m = kruns n g ev all b (kruns n g ev all a L m).1 (kruns n g ev all a L m).2
  | 0, b, L, m => by simp [kruns]
  | a + 1, b, L, m => by
    rw [show a + 1 + b = (a + b) + 1 by omega]
    simp only [kruns]
    exact kruns_add a b _ _
theorem kstp_done {m : Km} (h : m.pc = 0) (L : List Int) : kstp n g ev all L m = (L, m) := by simp [kstp, h]
theorem kruns_done {m : Km} (h : m.pc = 0) (L : List Int) : ∀ k, kruns n g ev all k L m = (L, m)
  | 0 => rfl
  | k + 1 => by simp only [kruns, kstp_done h]; exact kruns_done h L k
/-- Its end stays, however many steps more. -/
theorem kruns_end {a b : Nat} {L L' : List Int} {m m' : Km} (h : kruns n g ev all a L m = (L', m')) (h0 : m'.pc = 0) (hab : a ≤ b) : kruns n g ev all b L m = (L', m') := by
  obtain ⟨d, rfl⟩ : ∃ d, b = a + d := ⟨b - a, by omega⟩
  rw [kruns_add, h]; exact kruns_done h0 _ _
/-- While a deque's machine isn't finished. -/
theorem kruns_dq {m : Km} (hp : m.pc = 1 ∨ m.pc = 6) : ∀ (k : Nat) {L : List Int} {d : Dg.Mc}, (Dg.runs k L d).2.pc ≠ 0 → kruns n g ev all k L { m with d := d } = ((Dg.runs k L d).1, { m with d := (Dg.runs k L d).2 })
  | 0, L, d, _ => rfl
  | k + 1, L, d, h => by
    simp only [Dg.runs] at h
    have h1 : (Dg.stp L d).2.pc ≠ 0 := fun e => h (by rw [Dg.runs_done e]; exact e)
    have e : kstp n g ev all L { m with d := d } = ((Dg.stp L d).1, { m with d := (Dg.stp L d).2 }) := by simp [kstp, hp, kown, h1]
    simp only [kruns, e, Dg.runs]
    exact kruns_dq hp k h
theorem kruns_pk {m : Km} (hp : m.pc = 3 ∨ m.pc = 4) : ∀ (k : Nat) {L : List Int} {p : Pm}, (pruns g k L p).2.pc ≠ 0 → kruns n g ev all k L { m with p := p } = ((pruns g k L p).1, { m with p := (pruns g k L p).2 })
  | 0, L, d, _ => rfl
  | k + 1, L, p, h => by
    simp only [pruns] at h
    have h1 : (pstp g L p).2.pc ≠ 0 := fun e => h (by rw [pruns_done e]; exact e)
    have hq : ¬ (m.pc = 1 ∨ m.pc = 6) ∧ m.pc ≠ 2 := by omega
    have e : kstp n g ev all L { m with p := p } = ((pstp g L p).1, { m with p := (pstp g L p).2 }) := by simp [kstp, hp, hq, kpak, h1]
    simp only [kruns, e, pruns]
    exact kruns_pk hp k h
/-- The last one of a machine's steps. -/
theorem dq_last : ∀ (K : Nat) {L : List Int} {d : Dg.Mc}, d.pc ≠ 0 → (Dg.runs K L d).2.pc = 0 → ∃ k, k < K ∧ (Dg.runs k L d).2.pc ≠ 0 ∧ Dg.stp (Dg.runs k L d).1 (Dg.runs k L d).2 = Dg.runs K L d
  | 0, L, d, h, h0 => absurd h0 h
  | K + 1, L, d, h, h0 => by
    by_cases hp : (Dg.stp L d).2.pc = 0
    · exact ⟨0, by omega, h, by simp only [Dg.runs]; rw [Dg.runs_done hp]⟩
    · obtain ⟨k, a, b, c⟩ := dq_last K hp h0
      exact ⟨k + 1, by omega, b, c⟩
theorem pk_last : ∀ (K : Nat) {L : List Int} {d : Pm}, d.pc ≠ 0 → (pruns g K L d).2.pc = 0 → ∃ k, k < K ∧ (pruns g k L d).2.pc ≠ 0 ∧ pstp g (pruns g k L d).1 (pruns g k L d).2 = pruns g K L d
  | 0, L, d, h, h0 => absurd h0 h
  | K + 1, L, d, h, h0 => by
    by_cases hp : (pstp g L d).2.pc = 0
    · exact ⟨0, by omega, h, by simp only [pruns]; rw [pruns_done hp]⟩
    · obtain ⟨k, a, b, c⟩ := pk_last K hp h0
      exact ⟨k + 1, by omega, b, c⟩
/-- A deque's machine as a whole. -/
theorem kruns_own {m : Km} (hp : m.pc = 1 ∨ m.pc = 6) {K : Nat} {L : List Int} {d : Dg.Mc} (h : d.pc ≠ 0) (h0 : (Dg.runs K L d).2.pc = 0) :
    ∃ k, k ≤ K ∧ kruns n g ev all k L { m with d := d } = ((Dg.runs K L d).1, kown n g m (Dg.runs K L d).2) := by
  obtain ⟨k, a, b, c⟩ := dq_last K h h0
  refine ⟨k + 1, a, ?_⟩
  rw [kruns_add, kruns_dq hp k b]
  simp only [kruns]
  have e : kstp n g ev all (Dg.runs k L d).1 { m with d := (Dg.runs k L d).2 } = ((Dg.runs K L d).1, kown n g m (Dg.runs K L d).2) := by
    simp only [kstp, hp, c, if_true, kown]
  rw [e]
theorem kruns_pak {m : Km} (hp : m.pc = 3 ∨ m.pc = 4) {K : Nat} {L : List Int} {p : Pm} (h : p.pc ≠ 0) (h0 : (pruns g K L p).2.pc = 0) :
    ∃ k, k ≤ K ∧ kruns n g ev all k L { m with p := p } = ((pruns g K L p).1, kpak g ev all m (pruns g K L p).2) := by
  obtain ⟨k, a, b, c⟩ := pk_last K h h0
  have hq : ¬ (m.pc = 1 ∨ m.pc = 6) ∧ m.pc ≠ 2 := by omega
  refine ⟨k + 1, a, ?_⟩
  rw [kruns_add, kruns_pk hp k b]
  simp only [kruns]
  have e : kstp n g ev all (pruns g k L p).1 { m with p := (pruns g k L p).2 } = ((pruns g K L p).1, kpak g ev all m (pruns g K L p).2) := by
    simp only [kstp, hp, hq, c, if_true, if_false, kpak]
  rw [e]
end

/-- All words of the packets. -/
def InQ (n : Nat) (g : Pg) (q : Int) : Prop := q = g.sp.head ∨ q = g.po.head ∨ ∃ x : Int, (1 ≤ x ∧ x ≤ n) ∧ (q = atOf g.sp.links x ∨ q = g.mn x ∨ ∃ j : Int, 0 ≤ j ∧ j < 4 ∧ q = g.tk x j)
/-- Memory, as one at a time leaves it; Qp: the pool's packets. -/
def PQ (n : Nat) (g : Pg) (L : List Int) (i : Int) (Qp : List Int) (l : List (List Int)) (out : List Int) : Prop :=
  ∃ Ts Qs Tp, Gp n L.length g ∧ Stk n g.sp L Ts Qs ∧ Stk n g.po L Tp Qp ∧ Ts ≤ i ∧ Tp ≤ i ∧ (Qs ++ (Qp ++ out)).Perm (En n) ∧ Cts g L Qp l
section
variable {n : Nat} {g : Pg}
theorem InP.q {q : Int} (h : InP n g q) : InQ n g q := by
  rcases h with h | h | ⟨x, a, h | h | h⟩
  · exact .inl h
  · exact .inr (.inl h)
  · exact .inr (.inr ⟨x, a, .inl h⟩)
  · exact .inr (.inr ⟨x, a, .inr (.inl h)⟩)
  · exact .inr (.inr ⟨x, a, .inr (.inr ⟨0, by omega, by omega, h⟩)⟩)
theorem kept_q {L L' : List Int} (G : Gp n L.length g) (hf : ∀ q : Int, 0 ≤ q → InQ n g q → L'.getD q.toNat 0 = L.getD q.toNat 0) : Kept n g L L' (fun _ => True) := fun q h0 h1 _ =>
  ⟨hf _ (G.m q h0 h1).1 (.inr (.inr ⟨q, ⟨h0, h1⟩, .inr (.inl rfl)⟩)), fun j j0 j1 => hf _ (G.t q j h0 h1 j0 j1).1 (.inr (.inr ⟨q, ⟨h0, h1⟩, .inr (.inr ⟨j, j0, j1, rfl⟩)⟩))⟩
/-- Words that are none of the packets' may change. -/
theorem PQ.same {L L' : List Int} {i : Int} {Qp : List Int} {l : List (List Int)} {out : List Int} (H : PQ n g L i Qp l out) (hl : L'.length = L.length) (hf : ∀ q : Int, 0 ≤ q → InQ n g q → L'.getD q.toNat 0 = L.getD q.toNat 0) : PQ n g L' i Qp l out := by
  obtain ⟨Ts, Qs, Tp, G, Hs, Hp, t1, t2, p1, hc⟩ := H
  obtain ⟨Hs', Hp', _⟩ := in_stk G Hs Hp hl fun q h0 h => hf q h0 h.q
  exact ⟨Ts, Qs, Tp, by rw [hl]; exact G, Hs', Hp', t1, t2, p1, hc.kept (kept_q G hf) fun x hx => ⟨Hp.rng x hx, trivial⟩⟩
theorem PQ.more {L : List Int} {i j : Int} {Qp : List Int} {l : List (List Int)} {out : List Int} (H : PQ n g L i Qp l out) (h : i ≤ j) : PQ n g L j Qp l out := by
  obtain ⟨Ts, Qs, Tp, G, Hs, Hp, t1, t2, p1, hc⟩ := H
  exact ⟨Ts, Qs, Tp, G, Hs, Hp, by omega, by omega, p1, hc⟩
/-- A packet is put. -/
theorem PQ.put {L : List Int} {i : Int} {Qp : List Int} {l : List (List Int)} {out : List Int} (H : PQ n g L i Qp l out) (hi : i + 1 < 100000) {ts : List Int} (h1 : ts ≠ []) (h4 : ts.length ≤ 4) (hlt : l.length + out.length < n) :
    (pruns g 14 L (pPut g ts)).2.pc = 0 ∧ (1 ≤ (pruns g 14 L (pPut g ts)).2.p ∧ (pruns g 14 L (pPut g ts)).2.p ≤ n) ∧ PQ n g (pruns g 14 L (pPut g ts)).1 (i + 1) ((pruns g 14 L (pPut g ts)).2.p :: Qp) (ts :: l) out ∧
      (pruns g 14 L (pPut g ts)).1.length = L.length ∧ ∀ q : Int, 0 ≤ q → ¬ InQ n g q → (pruns g 14 L (pPut g ts)).1.getD q.toNat 0 = L.getD q.toNat 0 := by
  obtain ⟨Ts, Qs, Tp, G, Hs, Hp, t1, t2, p1, hc⟩ := H
  have hpos : 0 < ts.length := List.length_pos_iff.2 h1
  cases Qs with
  | nil =>
    have := p1.length_eq
    have := hc.len
    simp only [List.length_append, List.length_nil, len_En] at *; omega
  | cons p Qs =>
    have hr := Hs.rng p (by simp)
    have hnd : ((p :: Qs) ++ (Qp ++ out)).Nodup := p1.nodup_iff.2 (nd_En n)
    have hnp : p ∉ Qp := fun h => (List.nodup_append.1 hnd).2.2 p (by simp) p (by simp [h]) rfl
    have hnq : p ∉ Qs := (List.nodup_cons.1 Hs.nd).1
    have e0 : pPut g ts = ⟨1, 1, ts, 0, 0, mPop g.sp⟩ := by unfold pPut; rw [if_neg h1, List.take_of_length_le h4]
    obtain ⟨y1, r1⟩ := first_pop (g := g) Hs (by omega) ts 0 0
    have H1 := Hs.pop (by omega)
    obtain ⟨L1, hL1⟩ : ∃ x, x = ptq L g.sp.head ((Ts + 1) * 4294967296 + Qs.headD 0) := ⟨_, rfl⟩
    rw [← hL1] at r1 H1
    have k1 : Kept n g L L1 (fun q => q ≠ p) := by rw [hL1]; exact .sph G
    have len1 : L1.length = L.length := by rw [hL1]; exact pt_len ..
    have Hp1 : Stk n g.po L1 Tp Qp := by
      rw [hL1]
      exact Hp.word G.hne fun q hq e => by
        have b := Hp.rng q hq
        rw [G.links] at e
        exact (G.s.lk q b.1 b.2).2.2 e.symm
    -- the tasks
    have r2 := tasks_run (g := g) p y1 ts ts L1 0 (by simp) h1 (by simp)
    obtain ⟨L2, hL2⟩ : ∃ x, x = tput g p L1 0 ts := ⟨_, rfl⟩
    simp only [Int.natCast_zero] at r2
    rw [← hL2] at r2
    have len2 : L2.length = L.length := by rw [hL2, tput_len]; exact len1
    have oth2 : ∀ q : Int, 0 ≤ q → (∀ i : Int, 0 ≤ i → i < 4 → q ≠ g.tk p i) → L2.getD q.toNat 0 = L1.getD q.toNat 0 := fun q h0 h => by
      rw [hL2]; exact tput_other p h0 ts L1 0 (fun i a b => h i a (by omega))
    have H2 : Stk n g.sp L2 (Ts + 1) Qs := H1.same (by omega) (oth2 _ G.s.hd.1 (fun i a b => (G.t p i hr.1 hr.2 a b).2.2.1.symm))
      (fun q hq => by have b := H1.rng q hq; exact oth2 _ (G.s.lk q b.1 b.2).1 (fun i a c => (G.tl p i q hr.1 hr.2 a c b.1 b.2).symm))
    have Hp2 : Stk n g.po L2 Tp Qp := Hp1.same (by omega) (oth2 _ G.p.hd.1 (fun i a b => (G.t p i hr.1 hr.2 a b).2.2.2.symm))
      (fun q hq => by have b := Hp1.rng q hq; unfold lkw; rw [G.links]; exact oth2 _ (G.s.lk q b.1 b.2).1 (fun i a c => (G.tl p i q hr.1 hr.2 a c b.1 b.2).symm))
    have k2 : Kept n g L1 L2 (fun q => q ≠ p) := fun q h0 h1 hq => ⟨oth2 _ (G.m q h0 h1).1 (fun i a b => (G.tm p i q hr.1 hr.2 a b h0 h1).symm),
      fun j j0 j1 => oth2 _ (G.t q j h0 h1 j0 j1).1 (fun i a b e => hq (G.ti q j p i h0 h1 j0 j1 hr.1 hr.2 a b e).1)⟩
    -- how many
    obtain ⟨L3, hL3⟩ : ∃ x, x = ptq L2 (g.mn p) ts.length := ⟨_, rfl⟩
    have r3 : pruns g 1 L2 ⟨1, 3, ts, ts.length, p, y1⟩ = (L3, ⟨1, 4, ts, ts.length, p, mPush g.po p⟩) := by
      rw [hL3]; simp [pruns, pstp]
    have hm := G.m p hr.1 hr.2
    have len3 : L3.length = L.length := by rw [hL3, pt_len]; exact len2
    have H3 : Stk n g.sp L3 (Ts + 1) Qs := by
      rw [hL3]; exact H2.word hm.2.2.1 (fun q hq => G.ml p q hr.1 hr.2 (H2.rng q hq).1 (H2.rng q hq).2)
    have Hp3 : Stk n g.po L3 Tp Qp := by
      rw [hL3]; exact Hp2.word hm.2.2.2 (fun q hq => by rw [G.links]; exact G.ml p q hr.1 hr.2 (Hp2.rng q hq).1 (Hp2.rng q hq).2)
    have k3 : Kept n g L2 L3 (fun q => q ≠ p) := by
      rw [hL3]; exact .word G fun q h0 h1 hq => ⟨fun e => hq (G.mi q p h0 h1 hr.1 hr.2 e), fun i a b => G.tm q i p h0 h1 a b hr.1 hr.2⟩
    have c3 : Cont g L3 p ts := by
      refine ⟨by rw [hL3]; exact pt_same ⟨hm.1, by rw [len2]; exact hm.2.1⟩, h4, fun i hi => ?_⟩
      have a := G.t p i hr.1 hr.2 (by omega) (by omega)
      rw [hL3, pt_other a.1 (G.tm p i p hr.1 hr.2 (by omega) (by omega) hr.1 hr.2), hL2]
      have := tput_at G hr ts L1 0 len1 (by omega) (by omega) i hi
      rw [show (0 : Int) + (i : Int) = (i : Int) by omega] at this
      exact this
    -- the push
    obtain ⟨y4, r4⟩ := last_push (g := g) Hp3 (by omega) hr.1 hr.2 1 ts ts.length p
    have pt := Hp3.put (v := Qp.headD 0) hr.1 hr.2 hnp
    have Hp4 := pt.1.push (by omega) hr.1 hr.2 hnp pt.2
    obtain ⟨L4, hL4⟩ : ∃ x, x = ptq (ptq L3 (atOf g.po.links p) (Qp.headD 0)) g.po.head ((Tp + 1) * 4294967296 + p) := ⟨_, rfl⟩
    rw [← hL4] at r4 Hp4
    have len4 : L4.length = L.length := by rw [hL4, pt_len, pt_len]; exact len3
    have k4 : Kept n g L3 L4 (fun _ => True) := by
      rw [hL4, G.links]; exact (Kept.lnk G hr).trans (.poh G)
    have H4 : Stk n g.sp L4 (Ts + 1) Qs := by
      rw [hL4, G.links]
      refine (H3.word (fun e => (G.s.lk p hr.1 hr.2).2.2 e) (fun q hq e => hnq ?_)).word G.hne.symm (fun q hq e => ?_)
      · rw [G.s.inj p q hr.1 hr.2 (H3.rng q hq).1 (H3.rng q hq).2 e]; exact hq
      · have := (G.p.lk q (H3.rng q hq).1 (H3.rng q hq).2).2.2
        rw [G.links] at this; exact this e.symm
    have hrun : pruns g 14 L (pPut g ts) = (L4, ⟨1, 0, ts, ts.length, p, y4⟩) := by
      rw [e0, show 14 = 3 + (ts.length + (1 + (3 + (7 - ts.length)))) by omega, pruns_add, r1]
      simp only
      rw [pruns_add, r2]
      simp only
      rw [pruns_add, r3]
      simp only
      rw [pruns_add, r4]
      exact pruns_done rfl _ _
    rw [hrun]
    have kk : Kept n g L L4 (fun q => q ≠ p) := ((k1.trans k2).trans k3).trans (fun q h0 h1 _ => k4 q h0 h1 trivial)
    refine ⟨rfl, hr, ⟨Ts + 1, Qs, Tp + 1, by rw [len4]; exact G, H4, Hp4, by omega, by omega, ?_, c3.kept k4 hr trivial, hc.kept kk (fun q hq => ⟨Hp.rng q hq, fun e => hnp (e ▸ hq)⟩)⟩, len4, fun q h0 hq => ?_⟩
    · refine List.perm_iff_count.2 fun z => ?_
      have := p1.count_eq z
      simp only [List.count_append, List.count_cons] at this ⊢; omega
    · show L4.getD q.toNat 0 = _
      have n1 : q ≠ g.sp.head := fun e => hq (.inl e)
      have n2 : q ≠ g.po.head := fun e => hq (.inr (.inl e))
      have n3 : q ≠ atOf g.po.links p := fun e => hq (.inr (.inr ⟨p, hr, .inl (by rw [e, G.links])⟩))
      have n4 : q ≠ g.mn p := fun e => hq (.inr (.inr ⟨p, hr, .inr (.inl e)⟩))
      have n5 : ∀ i : Int, 0 ≤ i → i < 4 → q ≠ g.tk p i := fun i a b e => hq (.inr (.inr ⟨p, hr, .inr (.inr ⟨i, a, b, e⟩)⟩))
      rw [hL4, pt_other h0 n2, pt_other h0 n3, hL3, pt_other h0 n4, oth2 q h0 n5, hL1, pt_other h0 n1]
/-- One is taken. -/
theorem PQ.take {L : List Int} {i q : Int} {Qp : List Int} {t : List Int} {l : List (List Int)} {out : List Int} (H : PQ n g L i (q :: Qp) (t :: l) out) (hi : i + 1 < 100000) :
    ∃ L1 y, pruns g 14 L (pTake g) = (L1, ⟨2, 0, [], 0, q, y⟩) ∧ (1 ≤ q ∧ q ≤ n) ∧ Cont g L1 q t ∧ PQ n g L1 (i + 1) Qp l (out ++ [q]) ∧ L1.length = L.length ∧ ∀ x : Int, 0 ≤ x → ¬ InQ n g x → L1.getD x.toNat 0 = L.getD x.toNat 0 := by
  obtain ⟨Ts, Qs, Tp, G, Hs, Hp, t1, t2, p1, hc⟩ := H
  have hr := Hp.rng q (by simp)
  obtain ⟨y, r⟩ := last_pop (g := g) Hp (by omega) 2 [] 0 0
  have Hp1 := Hp.pop (by omega)
  obtain ⟨L1, hL1⟩ : ∃ x, x = ptq L g.po.head ((Tp + 1) * 4294967296 + Qp.headD 0) := ⟨_, rfl⟩
  rw [← hL1] at r Hp1
  have k1 : Kept n g L L1 (fun _ => True) := by rw [hL1]; exact .poh G
  have len1 : L1.length = L.length := by rw [hL1]; exact pt_len ..
  have H1 : Stk n g.sp L1 Ts Qs := by
    rw [hL1]
    exact Hs.word G.hne.symm fun q hq e => by
      have b := Hs.rng q hq
      have := (G.p.lk q b.1 b.2).2.2
      rw [G.links] at this; exact this e.symm
  refine ⟨L1, y, ?_, hr, hc.1.kept k1 hr trivial, ⟨Ts, Qs, Tp + 1, by rw [len1]; exact G, H1, Hp1, by omega, by omega, ?_, hc.2.kept k1 (fun x hx => ⟨Hp.rng x (by simp [hx]), trivial⟩)⟩, len1, fun x h0 hx => ?_⟩
  · rw [show 14 = 3 + 11 from rfl, pruns_add, show pTake g = ⟨2, 4, [], 0, 0, mPop g.po⟩ from rfl, r]
    exact pruns_done rfl _ _
  · refine List.perm_iff_count.2 fun z => ?_
    have := p1.count_eq z
    simp only [List.count_append, List.count_cons, List.count_nil] at this ⊢; omega
  · rw [hL1]; exact pt_other h0 fun e => hx (.inr (.inl e))
end

/-- A marker's deque holds Q, the pool one packet's tasks, or that packet was taken. -/
structure SQ (n r : Nat) (g : Pg) (e : Dg.En) (L : List Int) (i : Int) (Qp : List Int) (l : List (List Int)) (out Q : List Int) : Prop where
  pq : PQ n g L i Qp l out
  dq : ∃ T β, Dg.Dq r e L T β β Q ∧ β ≤ i
  ap : ∀ q, InE r e q → ¬ InQ n g q
section
variable {n r : Nat} {g : Pg} {e : Dg.En} {L : List Int} {i x : Int} {Qp out Q : List Int} {l : List (List Int)} {ev : Int → Dg.En} {all : Int} {me draw : Int}
theorem SQ.begin (G : Gp n L.length g) (Hs : Stk n g.sp L 0 (En n)) (Hp : Stk n g.po L 0 []) (D : Dg.Dq r e L 0 0 0 []) (ap : ∀ q, InE r e q → ¬ InQ n g q) : SQ n r g e L 0 [] [] [] [] :=
  ⟨⟨0, En n, 0, G, Hs, Hp, by omega, by omega, by simp, trivial⟩, ⟨0, 0, D, by omega⟩, ap⟩
/-- What packets do leaves deques. -/
theorem dq_frame {L' : List Int} (H : SQ n r g e L i Qp l out Q) (hl : L'.length = L.length) (hf : ∀ q : Int, 0 ≤ q → ¬ InQ n g q → L'.getD q.toNat 0 = L.getD q.toNat 0) : ∃ T β, Dg.Dq r e L' T β β Q ∧ β ≤ i := by
  obtain ⟨T, β, D, hb⟩ := H.dq
  exact ⟨T, β, (in_dq D hl fun q h0 hq => hf q h0 (H.ap q hq)).1, hb⟩
theorem SQ.put (H : SQ n r g e L i Qp l out Q) (hi : i + 1 < 1000) {ts : List Int} (h1 : ts ≠ []) (h4 : ts.length ≤ 4) (hlt : l.length + out.length < n) :
    (pruns g 14 L (pPut g ts)).2.pc = 0 ∧ (1 ≤ (pruns g 14 L (pPut g ts)).2.p ∧ (pruns g 14 L (pPut g ts)).2.p ≤ n) ∧ SQ n r g e (pruns g 14 L (pPut g ts)).1 (i + 1) ((pruns g 14 L (pPut g ts)).2.p :: Qp) (ts :: l) out Q := by
  obtain ⟨a, b, c, d, f⟩ := H.pq.put (by omega) h1 h4 hlt
  obtain ⟨T, β, D, hb⟩ := dq_frame H d f
  exact ⟨a, b, c, ⟨T, β, D, by omega⟩, H.ap⟩
/-- What deques do leaves packets. -/
theorem SQ.dqRun {L' : List Int} {T' β' : Int} {Q' : List Int} (H : SQ n r g e L i Qp l out Q) (D' : Dg.Dq r e L' T' β' β' Q') (hb : β' ≤ i + 1) (hl : L'.length = L.length) (hf : ∀ q : Int, 0 ≤ q → ¬ InE r e q → L'.getD q.toNat 0 = L.getD q.toNat 0) : SQ n r g e L' (i + 1) Qp l out Q' :=
  ⟨(H.pq.same hl fun q h0 hq => hf q h0 fun x => H.ap q x hq).more (by omega), ⟨T', β', D', hb⟩, H.ap⟩
theorem SQ.kept {L' : List Int} {p : Int} {ts : List Int} (H : SQ n r g e L i Qp l out Q) (c : Cont g L p ts) (hp : 1 ≤ p ∧ p ≤ n) (hf : ∀ q : Int, 0 ≤ q → ¬ InE r e q → L'.getD q.toNat 0 = L.getD q.toNat 0) : Cont g L' p ts := by
  obtain ⟨Ts, Qs, Tp, G, _⟩ := H.pq
  exact c.kept (kept_q G fun q h0 hq => hf q h0 fun x => H.ap q x hq) hp trivial
/-- A pop, as a whole. -/
theorem SQ.pop (H : SQ n r g e L i Qp l out Q) (hi : i + 1 < 1000) :
    (Dg.runs 6 L (Dg.mPop e)).2.pc = 0 ∧ (∀ q : Int, 0 ≤ q → ¬ InE r e q → (Dg.runs 6 L (Dg.mPop e)).1.getD q.toNat 0 = L.getD q.toNat 0) ∧
      ((∃ Q' y, Q = Q' ++ [y] ∧ (Dg.runs 6 L (Dg.mPop e)).2.out = 1 ∧ (Dg.runs 6 L (Dg.mPop e)).2.w = y ∧ SQ n r g e (Dg.runs 6 L (Dg.mPop e)).1 (i + 1) Qp l out Q') ∨
       (Q = [] ∧ (Dg.runs 6 L (Dg.mPop e)).2.out = 3 ∧ SQ n r g e (Dg.runs 6 L (Dg.mPop e)).1 (i + 1) Qp l out [])) := by
  obtain ⟨T, β, D, hb⟩ := H.dq
  obtain ⟨T', β', Q', D', p0, hb', ev⟩ := Dg.pop_alone D (by omega) 6 (by omega)
  have fr := dgrun_frame 6 (m := Dg.mPop e) D.g rfl
  refine ⟨p0, fr.2, ?_⟩
  rcases ev with ⟨ho, hq⟩ | ⟨ho, rfl, hq, _⟩
  · exact .inl ⟨Q', _, hq, ho, rfl, H.dqRun D' (by omega) fr.1 fr.2⟩
  · exact .inr ⟨hq, ho, H.dqRun D' (by omega) fr.1 fr.2⟩
/-- It finds what is in its deque. -/
theorem SQ.own {b : Bg} (H : SQ n r g e L i Qp l out (Q ++ [x])) (hi : i + 1 < 1000) (hb : 0 ≤ b.t ∧ b.t ≤ 4 ∧ 0 ≤ b.n ∧ b.n ≤ 4) :
    ∃ L' d, kruns n g ev all 40 L (kNew e me b draw) = (L', ⟨0, me, draw, b, d, pnone, x, true⟩) ∧ SQ n r g e L' (i + 1) Qp l out Q ∧ ∀ q : Int, 0 ≤ q → ¬ InE r e q → L'.getD q.toNat 0 = L.getD q.toNat 0 := by
  obtain ⟨p0, fr, h | h⟩ := H.pop hi
  · obtain ⟨Q', y, hq, ho, hw, H'⟩ := h
    obtain ⟨rfl, hxy⟩ := List.append_inj' hq rfl
    obtain rfl : x = y := by simpa using hxy
    have eb : kNew e me b draw = ⟨1, me, draw, b, Dg.mPop e, pnone, 0, false⟩ := by
      have e1 : kbd b.t = b.t := by unfold kbd; split <;> (try split) <;> omega
      have e2 : kbd b.n = b.n := by unfold kbd; split <;> (try split) <;> omega
      simp [kNew, e1, e2]
    obtain ⟨k, hk, hr⟩ := kruns_own (n := n) (g := g) (ev := ev) (all := all) (m := ⟨1, me, draw, b, Dg.mPop e, pnone, 0, false⟩) (.inl rfl) (d := Dg.mPop e) (by simp [Dg.mPop]) p0
    have hr : kruns n g ev all k L ⟨1, me, draw, b, Dg.mPop e, pnone, 0, false⟩ = _ := hr
    have ek : kown n g ⟨1, me, draw, b, Dg.mPop e, pnone, 0, false⟩ (Dg.runs 6 L (Dg.mPop e)).2 = ⟨0, me, draw, b, (Dg.runs 6 L (Dg.mPop e)).2, pnone, x, true⟩ := by
      simp [kown, p0, ho, kfin, hw]
    rw [ek] at hr
    rw [eb]
    exact ⟨_, _, kruns_end hr rfl (by omega), H', fr⟩
  · exact absurd h.1 (by simp)
/-- Its deque is empty: it finds what is in its bag. -/
theorem SQ.bag {p : Int} {ts : List Int} {a : Nat} (H : SQ n r g e L i Qp l out []) (c : Cont g L p ts) (hp : 1 ≤ p ∧ p ≤ n) (ha : a < ts.length) (hi : i + 1 < 1000) :
    ∃ L' d, kruns n g ev all 40 L (kNew e me ⟨p, a, ts.length⟩ draw) = (L', ⟨0, me, draw, ⟨p, (a : Int) + 1, ts.length⟩, d, pnone, ts.getD a 0, true⟩) ∧ SQ n r g e L' (i + 1) Qp l out [] ∧ ∀ q : Int, 0 ≤ q → ¬ InE r e q → L'.getD q.toNat 0 = L.getD q.toNat 0 := by
  have h4 := c.few
  obtain ⟨p0, fr, h | h⟩ := H.pop hi
  · obtain ⟨Q', y, hq, _⟩ := h
    exact absurd hq (by simp)
  · obtain ⟨_, ho, H'⟩ := h
    have c' := H.kept c hp fr
    have e1 : kbd (a : Int) = a := by unfold kbd; split <;> (try split) <;> omega
    have e2 : kbd (ts.length : Int) = ts.length := by unfold kbd; split <;> (try split) <;> omega
    obtain ⟨k, hk, hr⟩ := kruns_own (n := n) (g := g) (ev := ev) (all := all) (m := ⟨1, me, draw, ⟨p, a, ts.length⟩, Dg.mPop e, pnone, 0, false⟩) (.inl rfl) (d := Dg.mPop e) (by simp [Dg.mPop]) p0
    have eb : kNew e me ⟨p, a, ts.length⟩ draw = ⟨1, me, draw, ⟨p, a, ts.length⟩, Dg.mPop e, pnone, 0, false⟩ := by simp [kNew, e1, e2]
    have hr : kruns n g ev all k L ⟨1, me, draw, ⟨p, a, ts.length⟩, Dg.mPop e, pnone, 0, false⟩ = _ := hr
    rw [eb]
    clear eb
    generalize hz : Dg.runs 6 L (Dg.mPop e) = z at *
    obtain ⟨L', d⟩ := z
    dsimp only at *
    have ek : kown n g ⟨1, me, draw, ⟨p, a, ts.length⟩, Dg.mPop e, pnone, 0, false⟩ d = ⟨2, me, draw, ⟨p, a, ts.length⟩, d, pnone, 0, false⟩ := by
      simp only [kown, p0, ho, kbag]
      rw [if_pos trivial, if_neg (by decide), if_pos trivial, if_neg (by omega), if_pos (by omega)]
    rw [ek] at hr
    obtain ⟨Ts, Qs, Tp, G, _⟩ := H'.pq
    have ht := G.t p a hp.1 hp.2 (by omega) (by omega)
    have hs : kstp n g ev all L' ⟨2, me, draw, ⟨p, a, ts.length⟩, d, pnone, 0, false⟩ = (L', ⟨0, me, draw, ⟨p, (a : Int) + 1, ts.length⟩, d, pnone, ts.getD a 0, true⟩) := by
      simp only [kstp, kfin]
      rw [if_neg (by omega), if_pos trivial, ld_in ⟨ht.1, ht.2.1⟩, c'.task a ha]
    have hr1 : kruns n g ev all (k + 1) L ⟨1, me, draw, ⟨p, a, ts.length⟩, Dg.mPop e, pnone, 0, false⟩ = (L', ⟨0, me, draw, ⟨p, (a : Int) + 1, ts.length⟩, d, pnone, ts.getD a 0, true⟩) := by
      rw [kruns_add, hr]; simp only [kruns, hs]
    exact ⟨_, _, kruns_end hr1 rfl (by omega), H', fr⟩
/-- Its deque and its bag are empty: it finds what is in the pool. -/
theorem SQ.pool {p : Int} {ts : List Int} (H : SQ n r g e L i [p] [ts] [] []) (h1 : ts ≠ []) (hi : i + 2 < 1000) :
    ∃ L' d y, kruns n g ev all 40 L (kNew e me bg0 draw) = (L', ⟨0, me, draw, ⟨p, 1, ts.length⟩, d, ⟨2, 0, [], 0, p, y⟩, ts.getD 0 0, true⟩) ∧ SQ n r g e L' (i + 2) [] [] [p] [] ∧ Cont g L' p ts ∧ (1 ≤ p ∧ p ≤ n) := by
  have hpos : 0 < ts.length := List.length_pos_iff.2 h1
  obtain ⟨p0, fr, h | h⟩ := H.pop (by omega)
  · obtain ⟨Q', y, hq, _⟩ := h
    exact absurd hq (by simp)
  · obtain ⟨_, ho, H'⟩ := h
    obtain ⟨k, hk, hr⟩ := kruns_own (n := n) (g := g) (ev := ev) (all := all) (m := ⟨1, me, draw, bg0, Dg.mPop e, pnone, 0, false⟩) (.inl rfl) (d := Dg.mPop e) (by simp [Dg.mPop]) p0
    have eb : kNew e me bg0 draw = ⟨1, me, draw, bg0, Dg.mPop e, pnone, 0, false⟩ := by simp [kNew, kbd, bg0]
    have hr : kruns n g ev all k L ⟨1, me, draw, bg0, Dg.mPop e, pnone, 0, false⟩ = _ := hr
    rw [eb]
    clear eb
    generalize hz : Dg.runs 6 L (Dg.mPop e) = z at *
    obtain ⟨L', d⟩ := z
    dsimp only at *
    have ek : kown n g ⟨1, me, draw, bg0, Dg.mPop e, pnone, 0, false⟩ d = { (⟨4, me, draw, bg0, d, pnone, 0, false⟩ : Km) with p := pTake g } := by
      simp [kown, p0, ho, kbag, bg0, kask]
    rw [ek] at hr
    obtain ⟨L1, y, r, hp, c, P, hl, hf⟩ := H'.pq.take (by omega)
    obtain ⟨j, hj, hrj⟩ := kruns_pak (n := n) (g := g) (ev := ev) (all := all) (m := ⟨4, me, draw, bg0, d, pnone, 0, false⟩) (.inr rfl) (K := 14) (L := L') (p := pTake g) (by simp [pTake]) (by rw [r])
    rw [r] at hrj
    dsimp only at hrj
    have e5 : kpak g ev all ⟨4, me, draw, bg0, d, pnone, 0, false⟩ ⟨2, 0, [], 0, p, y⟩ = ⟨5, me, draw, bg0, d, ⟨2, 0, [], 0, p, y⟩, 0, false⟩ := by
      simp only [kpak]
      rw [if_pos trivial, if_neg (by decide), if_neg (by omega)]
    rw [e5] at hrj
    obtain ⟨Ts, Qs, Tp, G, _⟩ := id P
    have hm := G.m p hp.1 hp.2
    have ht := G.t p 0 hp.1 hp.2 (by omega) (by omega)
    have h4 := c.few
    have e6 : k4 (ldq L1 (g.mn p)) = ts.length := by
      have : ldq L1 (g.mn p) = ts.length := by rw [ld_in ⟨hm.1, hm.2.1⟩]; exact c.many
      rw [this]; unfold k4; split <;> omega
    have s5 : kstp n g ev all L1 ⟨5, me, draw, bg0, d, ⟨2, 0, [], 0, p, y⟩, 0, false⟩ = (L1, ⟨2, me, draw, ⟨p, 0, ts.length⟩, d, ⟨2, 0, [], 0, p, y⟩, 0, false⟩) := by
      simp only [kstp, kbag, e6]
      rw [if_neg (by decide), if_neg (by decide), if_neg (by decide), if_pos trivial, if_neg (by omega), if_pos (by omega)]
    have s2 : kstp n g ev all L1 ⟨2, me, draw, ⟨p, 0, ts.length⟩, d, ⟨2, 0, [], 0, p, y⟩, 0, false⟩ = (L1, ⟨0, me, draw, ⟨p, 1, ts.length⟩, d, ⟨2, 0, [], 0, p, y⟩, ts.getD 0 0, true⟩) := by
      have c0 := c.task 0 hpos
      simp only [kstp, kfin]
      rw [if_neg (by omega), if_pos trivial, ld_in ⟨ht.1, ht.2.1⟩]
      simp only [Int.natCast_zero] at c0
      rw [c0]; rfl
    have hr1 : kruns n g ev all (k + (j + 2)) L ⟨1, me, draw, bg0, Dg.mPop e, pnone, 0, false⟩ = (L1, ⟨0, me, draw, ⟨p, 1, ts.length⟩, d, ⟨2, 0, [], 0, p, y⟩, ts.getD 0 0, true⟩) := by
      rw [kruns_add, hr]
      simp only
      rw [kruns_add, hrj]
      simp only [kruns, s5, s2]
    obtain ⟨T, β, D, hb⟩ := dq_frame H' hl hf
    refine ⟨L1, d, y, kruns_end hr1 rfl (by omega), ⟨P.more (by omega), ⟨T, β, D, by omega⟩, H.ap⟩, c, hp⟩
/-- A task is put into the deque, where there is room: four steps, and ten that do nothing. -/
theorem SQ.add (H : SQ n r g e L i Qp l out Q) (hi : i + 1 < 1000) (t : Int) (hf : Q.length < r) :
    SQ n r g e (aruns g 14 L (aNew e t)).1 (i + 1) Qp l out (Q ++ [t]) ∧ ∀ q : Int, 0 ≤ q → ¬ InE r e q → (aruns g 14 L (aNew e t)).1.getD q.toNat 0 = L.getD q.toNat 0 := by
  obtain ⟨T, β, D, hb⟩ := H.dq
  obtain ⟨_, _, h3, h4, h5⟩ := Dg.push_four D (by omega) t (by omega)
  obtain ⟨T', β', Q', D', _, hb', ev⟩ := Dg.push_alone D (by omega) t 4 (by omega)
  have e3 := aruns_dq g t pnone false 3 h3
  have e4 : aruns g 4 L (aNew e t) = ((Dg.runs 4 L (Dg.mPush e t)).1, ⟨0, t, (Dg.runs 4 L (Dg.mPush e t)).2, pnone, false⟩) := by
    rw [show (4 : Nat) = 3 + 1 from rfl, aruns_add, show aNew e t = ⟨1, t, Dg.mPush e t, pnone, false⟩ from rfl, e3, dgruns_add]
    rw [show (4 : Nat) = 3 + 1 from rfl, dgruns_add] at h4 h5
    simp only [Dg.runs] at h4 h5
    simp [aruns, astp, Dg.runs, h4, h5]
  have e14 : aruns g 14 L (aNew e t) = ((Dg.runs 4 L (Dg.mPush e t)).1, ⟨0, t, (Dg.runs 4 L (Dg.mPush e t)).2, pnone, false⟩) := by
    rw [show (14 : Nat) = 4 + 10 from rfl, aruns_add, e4]; exact aruns_done rfl _ _
  have fr := dgrun_frame 4 (m := Dg.mPush e t) D.g rfl
  have hQ : Q' = Q ++ [t] := by
    rcases ev with ⟨_, x, _⟩ | ⟨x, _, y⟩
    · exact x
    · omega
  subst hQ
  rw [e14]
  exact ⟨H.dqRun D' (by omega) fr.1 fr.2, fr.2⟩
end
end Go.Proofs.YtnfbjebhpljikaaGreat

/- Packets that are put, taken and put back one at a time. -/
import Derived.Test.YtbpkcoemehmpbaaGreatPkOnce
namespace Go.Proofs.YtbpkcoemehmpbaaGreat
set_option linter.unusedVariables false
set_option linter.unusedSimpArgs false

def pruns (g : Pg) : Nat → List Int → Pm → List Int × Pm
  | 0, L, m => (L, m)
  | k + 1, L, m => pruns g k (pstp g L m).1 (pstp g L m).2
theorem pruns_done {g : Pg} {m : Pm} (h : m.pc = 0) (L : List Int) : ∀ k, pruns g k L m = (L, m)
  | 0 => rfl
  | k + 1 => by
    have : pstp g L m = (L, m) := by simp [pstp, h]
    simp only [pruns, this]; exact pruns_done h L k
theorem pruns_add (g : Pg) : ∀ (a b : Nat) (L : List Int) (m : Pm), pruns g (a + b) L m = pruns g b (pruns g a L m).1 (pruns g a L m).2
  | 0, b, L, m => by simp [pruns]
  | a + 1, b, L, m => by
    rw [show a + 1 + b = (a + b) + 1 by omega]
    simp only [pruns]; exact pruns_add g a b _ _
section
variable {n : Nat} {g : Pg} {k : Sk} {L : List Int} {T : Int} {Q : List Int}
/-- A stack's machine, alone: its steps. -/
theorem push_run (H : Stk n k L T Q) (h9 : T + 1 < 100000) {x : Int} (h0 : 1 ≤ x) (h1 : x ≤ n) (t : Int) :
    sstp L ⟨1, 1, k, x, 0, 0, t⟩ = (L, ⟨1, 2, k, x, T * 4294967296 + Q.headD 0, Q.headD 0, t + 1⟩) ∧
    sstp L ⟨1, 2, k, x, T * 4294967296 + Q.headD 0, Q.headD 0, t + 1⟩ = (ptq L (atOf k.links x) (Q.headD 0), ⟨1, 3, k, x, T * 4294967296 + Q.headD 0, Q.headD 0, t + 1⟩) ∧
    sstp (ptq L (atOf k.links x) (Q.headD 0)) ⟨1, 3, k, x, T * 4294967296 + Q.headD 0, Q.headD 0, t + 1⟩ = (ptq (ptq L (atOf k.links x) (Q.headD 0)) k.head ((T + 1) * 4294967296 + x), ⟨1, 0, k, x, T * 4294967296 + Q.headD 0, Q.headD 0, t + 1⟩) := by
  have a := H.ld0
  have b := H.low.1
  refine ⟨?_, by simp [sstp], ?_⟩
  · simp only [sstp]
    rw [if_neg (by decide), if_pos trivial, if_pos trivial, a, b]
  · have c := turn_is H h9 x
    have hx := H.g.lk x h0 h1
    have hh : (ptq L (atOf k.links x) (Q.headD 0)).getD k.head.toNat 0 = T * 4294967296 + Q.headD 0 := by
      rw [pt_other H.g.hd.1 (fun e => hx.2.2 e.symm)]; exact H.head
    have d := swap_yes (L := ptq L (atOf k.links x) (Q.headD 0)) (m := ⟨1, 3, k, x, T * 4294967296 + Q.headD 0, Q.headD 0, t + 1⟩) x (by rw [pt_len]; exact H.g.hd) hh
    simp only [c] at d
    exact d
theorem pop_run {q : Int} (H : Stk n k L T (q :: Q)) (h9 : T + 1 < 100000) (t : Int) :
    sstp L ⟨2, 1, k, 0, 0, 0, t⟩ = (L, ⟨2, 2, k, q, T * 4294967296 + q, 0, t + 1⟩) ∧
    sstp L ⟨2, 2, k, q, T * 4294967296 + q, 0, t + 1⟩ = (L, ⟨2, 3, k, q, T * 4294967296 + q, Q.headD 0, t + 1⟩) ∧
    sstp L ⟨2, 3, k, q, T * 4294967296 + q, Q.headD 0, t + 1⟩ = (ptq L k.head ((T + 1) * 4294967296 + Q.headD 0), ⟨2, 0, k, q, T * 4294967296 + q, Q.headD 0, t + 1⟩) := by
  have a := H.ld0
  have b := H.low.1
  have hr := H.rng q (by simp)
  have hrQ : ∀ x ∈ Q, 1 ≤ x ∧ x ≤ (n : Int) := fun x hx => H.rng x (by simp [hx])
  have hd := headD_rng hrQ
  have hs := H.g.small
  simp only [List.headD_cons] at a b
  refine ⟨?_, ?_, ?_⟩
  · rw [pop_first (m := ⟨2, 1, k, 0, 0, 0, t⟩) rfl rfl a, b, if_neg (by omega)]
  · have : low (ldq L (atOf k.links q)) = Q.headD 0 := by rw [H.ldx hr.1 hr.2, H.second]; unfold low; omega
    simp [sstp, this]
  · have c := turn_is H h9 (Q.headD 0)
    simp only [List.headD_cons] at c
    have hh := H.head
    simp only [List.headD_cons] at hh
    have d := swap_yes (m := ⟨2, 3, k, q, T * 4294967296 + q, Q.headD 0, t + 1⟩) (Q.headD 0) H.g.hd hh
    simp only [c] at d
    exact d
theorem none_run (H : Stk n k L T []) (t : Int) : sstp L ⟨2, 1, k, 0, 0, 0, t⟩ = (L, ⟨2, 0, k, 0, T * 4294967296, 0, t + 1⟩) := by
  have a := H.ld0
  simp only [List.headD_nil, Int.add_zero] at a
  rw [pop_first (m := ⟨2, 1, k, 0, 0, 0, t⟩) rfl rfl a, if_pos (by unfold low; omega)]

/-- The last part, and the first one. -/
theorem last_on {kd : Nat} {ts : List Int} {j p : Int} {x x' : Sm} {L L' : List Int} (h : sstp L x = (L', x')) (hp : x'.pc ≠ 0) : pstp g L ⟨kd, 4, ts, j, p, x⟩ = (L', ⟨kd, 4, ts, j, p, x'⟩) := by
  simp [pstp, h, hp]
theorem last_end {kd : Nat} {ts : List Int} {j p : Int} {x x' : Sm} {L L' : List Int} (h : sstp L x = (L', x')) (hp : x'.pc = 0) : pstp g L ⟨kd, 4, ts, j, p, x⟩ = (L', ⟨kd, 0, ts, j, x'.item, x'⟩) := by
  simp [pstp, h, hp]
theorem first_on {ts : List Int} {j p : Int} {x x' : Sm} {L L' : List Int} (h : sstp L x = (L', x')) (hp : x'.pc ≠ 0) : pstp g L ⟨1, 1, ts, j, p, x⟩ = (L', ⟨1, 1, ts, j, p, x'⟩) := by
  simp [pstp, h, hp]
theorem first_end {ts : List Int} {j p : Int} {x x' : Sm} {L L' : List Int} (h : sstp L x = (L', x')) (hp : x'.pc = 0) (hi : x'.item ≠ 0) : pstp g L ⟨1, 1, ts, j, p, x⟩ = (L', ⟨1, 2, ts, j, x'.item, x'⟩) := by
  simp [pstp, h, hp, hi]
/-- A push, a pop as the last part. -/
theorem last_push (H : Stk n k L T Q) (h9 : T + 1 < 100000) {x : Int} (h0 : 1 ≤ x) (h1 : x ≤ n) (kd : Nat) (ts : List Int) (j p : Int) :
    ∃ y, pruns g 3 L ⟨kd, 4, ts, j, p, mPush k x⟩ = (ptq (ptq L (atOf k.links x) (Q.headD 0)) k.head ((T + 1) * 4294967296 + x), ⟨kd, 0, ts, j, x, y⟩) := by
  have hs := H.g.small
  have e : mPush k x = ⟨1, 1, k, x, 0, 0, 0⟩ := by unfold mPush; rw [itemOf_is ⟨h0, by omega⟩]
  obtain ⟨a, b, c⟩ := push_run H h9 h0 h1 0
  rw [e]
  simp only [pruns]
  rw [last_on a (by simp)]
  simp only
  rw [last_on b (by simp)]
  simp only
  rw [last_end c rfl]
  exact ⟨_, rfl⟩
theorem last_pop {q : Int} (H : Stk n k L T (q :: Q)) (h9 : T + 1 < 100000) (kd : Nat) (ts : List Int) (j p : Int) :
    ∃ y, pruns g 3 L ⟨kd, 4, ts, j, p, mPop k⟩ = (ptq L k.head ((T + 1) * 4294967296 + Q.headD 0), ⟨kd, 0, ts, j, q, y⟩) := by
  obtain ⟨a, b, c⟩ := pop_run H h9 0
  simp only [pruns, mPop]
  rw [last_on a (by simp)]
  simp only
  rw [last_on b (by simp)]
  simp only
  rw [last_end c rfl]
  exact ⟨_, rfl⟩
theorem last_none (H : Stk n k L T []) (kd : Nat) (ts : List Int) (j p : Int) : ∃ y, pruns g 1 L ⟨kd, 4, ts, j, p, mPop k⟩ = (L, ⟨kd, 0, ts, j, 0, y⟩) := by
  have a := none_run H 0
  simp only [pruns, mPop]
  rw [last_end a rfl]
  exact ⟨_, rfl⟩
theorem first_pop {q : Int} (H : Stk n k L T (q :: Q)) (h9 : T + 1 < 100000) (ts : List Int) (j p : Int) :
    ∃ y, pruns g 3 L ⟨1, 1, ts, j, p, mPop k⟩ = (ptq L k.head ((T + 1) * 4294967296 + Q.headD 0), ⟨1, 2, ts, j, q, y⟩) := by
  have hr := H.rng q (by simp)
  obtain ⟨a, b, c⟩ := pop_run H h9 0
  simp only [pruns, mPop]
  rw [first_on a (by simp)]
  simp only
  rw [first_on b (by simp)]
  simp only
  rw [first_end c rfl (by simp only; omega)]
  exact ⟨_, rfl⟩
/-- The tasks from j on. -/
def tput (g : Pg) (p : Int) : List Int → Int → List Int → List Int
  | L, _, [] => L
  | L, j, t :: r => tput g p (ptq L (g.tk p j) t) (j + 1) r
theorem tput_len (p : Int) : ∀ (r : List Int) (L : List Int) (j : Int), (tput g p L j r).length = L.length
  | [], _, _ => rfl
  | t :: r, L, j => by simp only [tput]; rw [tput_len p r]; exact pt_len ..
theorem tput_other (p : Int) {q : Int} (h0 : 0 ≤ q) : ∀ (r : List Int) (L : List Int) (j : Int), (∀ i : Int, j ≤ i → i < j + r.length → q ≠ g.tk p i) → (tput g p L j r).getD q.toNat 0 = L.getD q.toNat 0
  | [], _, _, _ => rfl
  | t :: r, L, j, h => by
    simp only [tput]
    simp only [List.length_cons] at h
    rw [tput_other p h0 r _ (j + 1) (fun i a b => h i (by omega) (by omega))]
    exact pt_other h0 (h j (by omega) (by omega))
theorem tput_at {N : Nat} (G : Gp n N g) {p : Int} (hp : 1 ≤ p ∧ p ≤ n) : ∀ (r : List Int) (L : List Int) (j : Int), L.length = N → 0 ≤ j → j + r.length ≤ 4 → ∀ i : Nat, i < r.length → (tput g p L j r).getD (g.tk p (j + i)).toNat 0 = r.getD i 0
  | [], _, _, _, _, _, i, hi => by simp at hi
  | t :: r, L, j, hN, h0, h4, 0, hi => by
    simp only [List.length_cons] at h4
    have a := G.t p j hp.1 hp.2 h0 (by omega)
    simp only [tput, List.getD_cons_zero]
    rw [show j + ((0 : Nat) : Int) = j by omega]
    rw [tput_other p a.1 r _ (j + 1) (fun i' b c e => by
      have := (G.ti p j p i' hp.1 hp.2 h0 (by omega) hp.1 hp.2 (by omega) (by omega) e).2
      omega)]
    exact pt_same ⟨a.1, by rw [hN]; exact a.2.1⟩
  | t :: r, L, j, hN, h0, h4, i + 1, hi => by
    simp only [List.length_cons] at h4 hi
    simp only [tput, List.getD_cons_succ]
    rw [show j + ((i + 1 : Nat) : Int) = (j + 1) + (i : Int) by omega]
    exact tput_at G hp r _ (j + 1) (by rw [pt_len]; exact hN) (by omega) (by omega) i (by omega)
theorem tasks_run (p : Int) (x : Sm) (ts : List Int) : ∀ (r : List Int) (L : List Int) (j : Nat), j + r.length = ts.length → r ≠ [] → ts.drop j = r → pruns g r.length L ⟨1, 2, ts, j, p, x⟩ = (tput g p L j r, ⟨1, 3, ts, ts.length, p, x⟩)
  | [], _, _, _, h, _ => absurd rfl h
  | t :: r, L, j, hl, _, hd => by
    simp only [List.length_cons] at hl
    have ht : ts.getD j 0 = t := by
      have : ts[j]? = some t := by
        have := congrArg (fun l => l[0]?) hd
        simpa using this
      simp [List.getD, this]
    have e : pstp g L ⟨1, 2, ts, j, p, x⟩ = (ptq L (g.tk p j) t, ⟨1, if (j : Int) + 1 = ts.length then 3 else 2, ts, (j : Int) + 1, p, x⟩) := by
      simp [pstp, ← ht]
    simp only [List.length_cons, pruns, e, tput]
    by_cases hr : r = []
    · subst hr
      simp only [List.length_nil] at hl ⊢
      simp only [pruns, tput]
      rw [if_pos (by omega), show ((j : Int) + 1) = (ts.length : Int) by omega]
    · have : 0 < r.length := List.length_pos_iff.2 hr
      rw [if_neg (by omega)]
      have := tasks_run p x ts r (ptq L (g.tk p j) t) (j + 1) (by omega) hr (by
        have := congrArg List.tail hd
        simpa [List.drop_drop] using this)
      simpa using this

/-- What a packet holds. -/
structure Cont (g : Pg) (L : List Int) (q : Int) (ts : List Int) : Prop where
  many : mw g L q = ts.length
  few : ts.length ≤ 4
  task : ∀ i : Nat, i < ts.length → L.getD (g.tk q i).toNat 0 = ts.getD i 0
def Cts (g : Pg) (L : List Int) : List Int → List (List Int) → Prop
  | [], [] => True
  | q :: Q, t :: l => Cont g L q t ∧ Cts g L Q l
  | _, _ => False
/-- What packets hold is as it was. -/
def Kept (n : Nat) (g : Pg) (L L' : List Int) (P : Int → Prop) : Prop := ∀ q : Int, 1 ≤ q → q ≤ n → P q → mw g L' q = mw g L q ∧ ∀ i : Int, 0 ≤ i → i < 4 → L'.getD (g.tk q i).toNat 0 = L.getD (g.tk q i).toNat 0
theorem Kept.trans {P : Int → Prop} {L L1 L2 : List Int} (a : Kept n g L L1 P) (b : Kept n g L1 L2 P) : Kept n g L L2 P :=
  fun q h0 h1 hp => ⟨(b q h0 h1 hp).1.trans (a q h0 h1 hp).1, fun i i0 i1 => ((b q h0 h1 hp).2 i i0 i1).trans ((a q h0 h1 hp).2 i i0 i1)⟩
theorem Kept.word {P : Int → Prop} {L : List Int} {p v : Int} {N : Nat} (G : Gp n N g) (h : ∀ q : Int, 1 ≤ q → q ≤ n → P q → g.mn q ≠ p ∧ ∀ i : Int, 0 ≤ i → i < 4 → g.tk q i ≠ p) : Kept n g L (ptq L p v) P :=
  fun q h0 h1 hp => ⟨pt_other (G.m q h0 h1).1 (h q h0 h1 hp).1, fun i i0 i1 => pt_other (G.t q i h0 h1 i0 i1).1 ((h q h0 h1 hp).2 i i0 i1)⟩
theorem Kept.sph {P : Int → Prop} {L : List Int} {v : Int} {N : Nat} (G : Gp n N g) : Kept n g L (ptq L g.sp.head v) P :=
  .word G fun q h0 h1 _ => ⟨(G.m q h0 h1).2.2.1, fun i i0 i1 => (G.t q i h0 h1 i0 i1).2.2.1⟩
theorem Kept.poh {P : Int → Prop} {L : List Int} {v : Int} {N : Nat} (G : Gp n N g) : Kept n g L (ptq L g.po.head v) P :=
  .word G fun q h0 h1 _ => ⟨(G.m q h0 h1).2.2.2, fun i i0 i1 => (G.t q i h0 h1 i0 i1).2.2.2⟩
theorem Kept.lnk {P : Int → Prop} {L : List Int} {v y : Int} {N : Nat} (G : Gp n N g) (hy : 1 ≤ y ∧ y ≤ n) : Kept n g L (ptq L (atOf g.sp.links y) v) P :=
  .word G fun q h0 h1 _ => ⟨G.ml q y h0 h1 hy.1 hy.2, fun i i0 i1 => G.tl q i y h0 h1 i0 i1 hy.1 hy.2⟩
theorem Cont.kept {L L' : List Int} {P : Int → Prop} {q : Int} {ts : List Int} (h : Cont g L q ts) (k : Kept n g L L' P) (hq : 1 ≤ q ∧ q ≤ n) (hp : P q) : Cont g L' q ts := by
  have a := k q hq.1 hq.2 hp
  exact ⟨a.1.trans h.many, h.few, fun i hi => (a.2 i (by omega) (by have := h.few; omega)).trans (h.task i hi)⟩
theorem Cts.kept {L L' : List Int} {P : Int → Prop} (k : Kept n g L L' P) : ∀ {Q : List Int} {l : List (List Int)}, Cts g L Q l → (∀ q ∈ Q, (1 ≤ q ∧ q ≤ (n : Int)) ∧ P q) → Cts g L' Q l
  | [], [], _, _ => trivial
  | q :: Q, t :: l, h, hr => ⟨h.1.kept k (hr q (by simp)).1 (hr q (by simp)).2, Cts.kept k h.2 (fun y hy => hr y (by simp [hy]))⟩
  | [], _ :: _, h, _ => h.elim
  | _ :: _, [], h, _ => h.elim
theorem Cts.len {L : List Int} : ∀ {Q : List Int} {l : List (List Int)}, Cts g L Q l → Q.length = l.length
  | [], [], _ => rfl
  | q :: Q, t :: l, h => by simp [Cts.len h.2]
  | [], _ :: _, h => h.elim
  | _ :: _, [], h => h.elim
/-- Memory, as one at a time leaves it; l: what the pool holds, the last one first; out: what was taken. -/
def PA (n : Nat) (g : Pg) (L : List Int) (i : Int) (l : List (List Int)) (out : List Int) : Prop :=
  ∃ Ts Qs Tp Qp, Gp n L.length g ∧ Stk n g.sp L Ts Qs ∧ Stk n g.po L Tp Qp ∧ Ts ≤ i ∧ Tp ≤ i ∧ (Qs ++ (Qp ++ out)).Perm (En n) ∧ Cts g L Qp l
theorem PA.put {L : List Int} {i : Int} {l : List (List Int)} {out : List Int} (H : PA n g L i l out) (hi : i + 1 < 100000) {ts : List Int} (h1 : ts ≠ []) (h4 : ts.length ≤ 4) (hlt : l.length + out.length < n) :
    (pruns g 14 L (pPut g ts)).2.pc = 0 ∧ (1 ≤ (pruns g 14 L (pPut g ts)).2.p ∧ (pruns g 14 L (pPut g ts)).2.p ≤ n) ∧ PA n g (pruns g 14 L (pPut g ts)).1 (i + 1) (ts :: l) out := by
  obtain ⟨Ts, Qs, Tp, Qp, G, Hs, Hp, t1, t2, p1, hc⟩ := H
  have hpos : 0 < ts.length := List.length_pos_iff.2 h1
  cases Qs with
  | nil =>
    have := p1.length_eq
    have := hc.len
    simp only [List.length_append, List.length_nil, len_En] at *; omega
  | cons p Qs =>
    have hr := Hs.rng p (by simp)
    have hnd : ((p :: Qs) ++ (Qp ++ out)).Nodup := p1.nodup_iff.2 (nd_En n)
    have hnp : p ∉ Qp := fun h => (List.nodup_append.1 hnd).2.2 p (by simp) p (by simp [h]) rfl
    have hnq : p ∉ Qs := (List.nodup_cons.1 Hs.nd).1
    have e0 : pPut g ts = ⟨1, 1, ts, 0, 0, mPop g.sp⟩ := by unfold pPut; rw [if_neg h1, List.take_of_length_le h4]
    obtain ⟨y1, r1⟩ := first_pop (g := g) Hs (by omega) ts 0 0
    have H1 := Hs.pop (by omega)
    obtain ⟨L1, hL1⟩ : ∃ x, x = ptq L g.sp.head ((Ts + 1) * 4294967296 + Qs.headD 0) := ⟨_, rfl⟩
    rw [← hL1] at r1 H1
    have k1 : Kept n g L L1 (fun q => q ≠ p) := by rw [hL1]; exact .sph G
    have len1 : L1.length = L.length := by rw [hL1]; exact pt_len ..
    have Hp1 : Stk n g.po L1 Tp Qp := by
      rw [hL1]
      exact Hp.word G.hne fun q hq e => by
        have b := Hp.rng q hq
        rw [G.links] at e
        exact (G.s.lk q b.1 b.2).2.2 e.symm
    -- the tasks
    have r2 := tasks_run (g := g) p y1 ts ts L1 0 (by simp) h1 (by simp)
    obtain ⟨L2, hL2⟩ : ∃ x, x = tput g p L1 0 ts := ⟨_, rfl⟩
    simp only [Int.natCast_zero] at r2
    rw [← hL2] at r2
    have len2 : L2.length = L.length := by rw [hL2, tput_len]; exact len1
    have oth2 : ∀ q : Int, 0 ≤ q → (∀ i : Int, 0 ≤ i → i < 4 → q ≠ g.tk p i) → L2.getD q.toNat 0 = L1.getD q.toNat 0 := fun q h0 h => by
      rw [hL2]; exact tput_other p h0 ts L1 0 (fun i a b => h i a (by omega))
    have H2 : Stk n g.sp L2 (Ts + 1) Qs := H1.same (by omega) (oth2 _ G.s.hd.1 (fun i a b => (G.t p i hr.1 hr.2 a b).2.2.1.symm))
      (fun q hq => by have b := H1.rng q hq; exact oth2 _ (G.s.lk q b.1 b.2).1 (fun i a c => (G.tl p i q hr.1 hr.2 a c b.1 b.2).symm))
    have Hp2 : Stk n g.po L2 Tp Qp := Hp1.same (by omega) (oth2 _ G.p.hd.1 (fun i a b => (G.t p i hr.1 hr.2 a b).2.2.2.symm))
      (fun q hq => by have b := Hp1.rng q hq; unfold lkw; rw [G.links]; exact oth2 _ (G.s.lk q b.1 b.2).1 (fun i a c => (G.tl p i q hr.1 hr.2 a c b.1 b.2).symm))
    have k2 : Kept n g L1 L2 (fun q => q ≠ p) := fun q h0 h1 hq => ⟨oth2 _ (G.m q h0 h1).1 (fun i a b => (G.tm p i q hr.1 hr.2 a b h0 h1).symm),
      fun j j0 j1 => oth2 _ (G.t q j h0 h1 j0 j1).1 (fun i a b e => hq (G.ti q j p i h0 h1 j0 j1 hr.1 hr.2 a b e).1)⟩
    -- how many
    obtain ⟨L3, hL3⟩ : ∃ x, x = ptq L2 (g.mn p) ts.length := ⟨_, rfl⟩
    have r3 : pruns g 1 L2 ⟨1, 3, ts, ts.length, p, y1⟩ = (L3, ⟨1, 4, ts, ts.length, p, mPush g.po p⟩) := by
      rw [hL3]; simp [pruns, pstp]
    have hm := G.m p hr.1 hr.2
    have len3 : L3.length = L.length := by rw [hL3, pt_len]; exact len2
    have H3 : Stk n g.sp L3 (Ts + 1) Qs := by
      rw [hL3]; exact H2.word hm.2.2.1 (fun q hq => G.ml p q hr.1 hr.2 (H2.rng q hq).1 (H2.rng q hq).2)
    have Hp3 : Stk n g.po L3 Tp Qp := by
      rw [hL3]; exact Hp2.word hm.2.2.2 (fun q hq => by rw [G.links]; exact G.ml p q hr.1 hr.2 (Hp2.rng q hq).1 (Hp2.rng q hq).2)
    have k3 : Kept n g L2 L3 (fun q => q ≠ p) := by
      rw [hL3]; exact .word G fun q h0 h1 hq => ⟨fun e => hq (G.mi q p h0 h1 hr.1 hr.2 e), fun i a b => G.tm q i p h0 h1 a b hr.1 hr.2⟩
    have c3 : Cont g L3 p ts := by
      refine ⟨by rw [hL3]; exact pt_same ⟨hm.1, by rw [len2]; exact hm.2.1⟩, h4, fun i hi => ?_⟩
      have a := G.t p i hr.1 hr.2 (by omega) (by omega)
      rw [hL3, pt_other a.1 (G.tm p i p hr.1 hr.2 (by omega) (by omega) hr.1 hr.2), hL2]
      have := tput_at G hr ts L1 0 len1 (by omega) (by omega) i hi
      rw [show (0 : Int) + (i : Int) = (i : Int) by omega] at this
      exact this
    -- the push
    obtain ⟨y4, r4⟩ := last_push (g := g) Hp3 (by omega) hr.1 hr.2 1 ts ts.length p
    have pt := Hp3.put (v := Qp.headD 0) hr.1 hr.2 hnp
    have Hp4 := pt.1.push (by omega) hr.1 hr.2 hnp pt.2
    obtain ⟨L4, hL4⟩ : ∃ x, x = ptq (ptq L3 (atOf g.po.links p) (Qp.headD 0)) g.po.head ((Tp + 1) * 4294967296 + p) := ⟨_, rfl⟩
    rw [← hL4] at r4 Hp4
    have len4 : L4.length = L.length := by rw [hL4, pt_len, pt_len]; exact len3
    have k4 : Kept n g L3 L4 (fun _ => True) := by
      rw [hL4, G.links]; exact (Kept.lnk G hr).trans (.poh G)
    have H4 : Stk n g.sp L4 (Ts + 1) Qs := by
      rw [hL4, G.links]
      refine (H3.word (fun e => (G.s.lk p hr.1 hr.2).2.2 e) (fun q hq e => hnq ?_)).word G.hne.symm (fun q hq e => ?_)
      · rw [G.s.inj p q hr.1 hr.2 (H3.rng q hq).1 (H3.rng q hq).2 e]; exact hq
      · have := (G.p.lk q (H3.rng q hq).1 (H3.rng q hq).2).2.2
        rw [G.links] at this; exact this e.symm
    have hrun : pruns g 14 L (pPut g ts) = (L4, ⟨1, 0, ts, ts.length, p, y4⟩) := by
      rw [e0, show 14 = 3 + (ts.length + (1 + (3 + (7 - ts.length)))) by omega, pruns_add, r1]
      simp only
      rw [pruns_add, r2]
      simp only
      rw [pruns_add, r3]
      simp only
      rw [pruns_add, r4]
      exact pruns_done rfl _ _
    rw [hrun]
    have kk : Kept n g L L4 (fun q => q ≠ p) := ((k1.trans k2).trans k3).trans (fun q h0 h1 _ => k4 q h0 h1 trivial)
    refine ⟨rfl, hr, Ts + 1, Qs, Tp + 1, p :: Qp, by rw [len4]; exact G, H4, Hp4, by omega, by omega, ?_, c3.kept k4 hr trivial, hc.kept kk (fun q hq => ⟨Hp.rng q hq, fun e => hnp (e ▸ hq)⟩)⟩
    refine List.perm_iff_count.2 fun z => ?_
    have := p1.count_eq z
    simp only [List.count_append, List.count_cons] at this ⊢; omega
theorem PA.none {L : List Int} {i : Int} {out : List Int} (H : PA n g L i [] out) : ∃ y, pruns g 14 L (pTake g) = (L, ⟨2, 0, [], 0, 0, y⟩) := by
  obtain ⟨Ts, Qs, Tp, Qp, G, Hs, Hp, t1, t2, p1, hc⟩ := H
  cases Qp with
  | cons q Q => exact hc.elim
  | nil =>
    obtain ⟨y, r⟩ := last_none (g := g) Hp 2 [] 0 0
    refine ⟨y, ?_⟩
    rw [show 14 = 1 + 13 from rfl, pruns_add, show pTake g = ⟨2, 4, [], 0, 0, mPop g.po⟩ from rfl, r]
    exact pruns_done rfl _ _
theorem PA.take {L : List Int} {i : Int} {t : List Int} {l : List (List Int)} {out : List Int} (H : PA n g L i (t :: l) out) (hi : i + 1 < 100000) :
    (pruns g 14 L (pTake g)).2.pc = 0 ∧ (1 ≤ (pruns g 14 L (pTake g)).2.p ∧ (pruns g 14 L (pTake g)).2.p ≤ n) ∧ Cont g (pruns g 14 L (pTake g)).1 (pruns g 14 L (pTake g)).2.p t ∧ PA n g (pruns g 14 L (pTake g)).1 (i + 1) l (out ++ [(pruns g 14 L (pTake g)).2.p]) := by
  obtain ⟨Ts, Qs, Tp, Qp, G, Hs, Hp, t1, t2, p1, hc⟩ := H
  cases Qp with
  | nil => exact hc.elim
  | cons q Q =>
    have hr := Hp.rng q (by simp)
    obtain ⟨y, r⟩ := last_pop (g := g) Hp (by omega) 2 [] 0 0
    have Hp1 := Hp.pop (by omega)
    obtain ⟨L1, hL1⟩ : ∃ x, x = ptq L g.po.head ((Tp + 1) * 4294967296 + Q.headD 0) := ⟨_, rfl⟩
    rw [← hL1] at r Hp1
    have k1 : Kept n g L L1 (fun _ => True) := by rw [hL1]; exact .poh G
    have len1 : L1.length = L.length := by rw [hL1]; exact pt_len ..
    have H1 : Stk n g.sp L1 Ts Qs := by
      rw [hL1]
      exact Hs.word G.hne.symm fun q hq e => by
        have b := Hs.rng q hq
        have := (G.p.lk q b.1 b.2).2.2
        rw [G.links] at this; exact this e.symm
    have hrun : pruns g 14 L (pTake g) = (L1, ⟨2, 0, [], 0, q, y⟩) := by
      rw [show 14 = 3 + 11 from rfl, pruns_add, show pTake g = ⟨2, 4, [], 0, 0, mPop g.po⟩ from rfl, r]
      exact pruns_done rfl _ _
    rw [hrun]
    refine ⟨rfl, hr, hc.1.kept k1 hr trivial, Ts, Qs, Tp + 1, Q, by rw [len1]; exact G, H1, Hp1, by omega, by omega, ?_, hc.2.kept k1 (fun x hx => ⟨Hp.rng x (by simp [hx]), trivial⟩)⟩
    refine List.perm_iff_count.2 fun z => ?_
    have := p1.count_eq z
    simp only [List.count_append, List.count_cons, List.count_nil] at this ⊢; omega
theorem PA.back {L : List Int} {i : Int} {p : Int} {l : List (List Int)} {out : List Int} (H : PA n g L i l (p :: out)) (hi : i + 1 < 100000) :
    (pruns g 14 L (pBack n g p)).2.pc = 0 ∧ (pruns g 14 L (pBack n g p)).2.p = p ∧ PA n g (pruns g 14 L (pBack n g p)).1 (i + 1) l out := by
  obtain ⟨Ts, Qs, Tp, Qp, G, Hs, Hp, t1, t2, p1, hc⟩ := H
  have hr : 1 ≤ p ∧ p ≤ n := mem_En.1 (p1.mem_iff.1 (by simp))
  have hnd : (Qs ++ (Qp ++ (p :: out))).Nodup := p1.nodup_iff.2 (nd_En n)
  have hnS : p ∉ Qs := fun h => (List.nodup_append.1 hnd).2.2 _ h p (by simp) rfl
  have hnP : p ∉ Qp := fun h => (List.nodup_append.1 (List.nodup_append.1 hnd).2.1).2.2 _ h p (by simp) rfl
  obtain ⟨y, r⟩ := last_push (g := g) Hs (by omega) hr.1 hr.2 3 [] 0 0
  have pt := Hs.put (v := Qs.headD 0) hr.1 hr.2 hnS
  have H1 := pt.1.push (by omega) hr.1 hr.2 hnS pt.2
  obtain ⟨L1, hL1⟩ : ∃ x, x = ptq (ptq L (atOf g.sp.links p) (Qs.headD 0)) g.sp.head ((Ts + 1) * 4294967296 + p) := ⟨_, rfl⟩
  rw [← hL1] at r H1
  have len1 : L1.length = L.length := by rw [hL1, pt_len, pt_len]
  have k1 : Kept n g L L1 (fun _ => True) := by rw [hL1]; exact (Kept.lnk G hr).trans (.sph G)
  have Hp1 : Stk n g.po L1 Tp Qp := by
    rw [hL1]
    refine (Hp.word (fun e => ?_) (fun q hq e => hnP ?_)).word G.hne (fun q hq e => ?_)
    · have := (G.p.lk p hr.1 hr.2).2.2
      rw [G.links] at this; exact this e
    · rw [G.links] at e
      rw [G.s.inj p q hr.1 hr.2 (Hp.rng q hq).1 (Hp.rng q hq).2 e]; exact hq
    · rw [G.links] at e
      exact (G.s.lk q (Hp.rng q hq).1 (Hp.rng q hq).2).2.2 e.symm
  have e : pBack n g p = ⟨3, 4, [], 0, 0, mPush g.sp p⟩ := by unfold pBack; rw [if_neg (by omega)]
  have hrun : pruns g 14 L (pBack n g p) = (L1, ⟨3, 0, [], 0, p, y⟩) := by
    rw [show 14 = 3 + 11 from rfl, pruns_add, e, r]
    exact pruns_done rfl _ _
  rw [hrun]
  refine ⟨rfl, rfl, Ts + 1, p :: Qs, Tp, Qp, by rw [len1]; exact G, H1, Hp1, by omega, by omega, ?_, hc.kept k1 (fun x hx => ⟨Hp.rng x hx, trivial⟩)⟩
  refine List.perm_iff_count.2 fun z => ?_
  have := p1.count_eq z
  simp only [List.count_append, List.count_cons] at this ⊢; omega
end
end Go.Proofs.YtbpkcoemehmpbaaGreat

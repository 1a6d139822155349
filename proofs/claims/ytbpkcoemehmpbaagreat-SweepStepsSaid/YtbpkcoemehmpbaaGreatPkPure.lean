/- Packets' machines over words: two stacks that share their links, tasks and how many. -/
import Derived.Test.YtbpkcoemehmpbaaGreatSkPure
namespace Go.Proofs.YtbpkcoemehmpbaaGreat
set_option linter.unusedVariables false
set_option linter.unusedSimpArgs false

/-- Where packets stand: the spare ones, the pool, each one's tasks, and how many. -/
structure Pg where
  sp : Sk
  po : Sk
  tk : Int → Int → Int
  mn : Int → Int
structure Gp (n N : Nat) (g : Pg) : Prop where
  s : Gk n N g.sp
  p : Gk n N g.po
  links : g.po.links = g.sp.links
  hne : g.sp.head ≠ g.po.head
  t : ∀ x j : Int, 1 ≤ x → x ≤ n → 0 ≤ j → j < 4 → 0 ≤ g.tk x j ∧ g.tk x j < N ∧ g.tk x j ≠ g.sp.head ∧ g.tk x j ≠ g.po.head
  tl : ∀ x j y : Int, 1 ≤ x → x ≤ n → 0 ≤ j → j < 4 → 1 ≤ y → y ≤ n → g.tk x j ≠ atOf g.sp.links y
  tm : ∀ x j y : Int, 1 ≤ x → x ≤ n → 0 ≤ j → j < 4 → 1 ≤ y → y ≤ n → g.tk x j ≠ g.mn y
  ti : ∀ x j y i : Int, 1 ≤ x → x ≤ n → 0 ≤ j → j < 4 → 1 ≤ y → y ≤ n → 0 ≤ i → i < 4 → g.tk x j = g.tk y i → x = y ∧ j = i
  m : ∀ x : Int, 1 ≤ x → x ≤ n → 0 ≤ g.mn x ∧ g.mn x < N ∧ g.mn x ≠ g.sp.head ∧ g.mn x ≠ g.po.head
  ml : ∀ x y : Int, 1 ≤ x → x ≤ n → 1 ≤ y → y ≤ n → g.mn x ≠ atOf g.sp.links y
  mi : ∀ x y : Int, 1 ≤ x → x ≤ n → 1 ≤ y → y ≤ n → g.mn x = g.mn y → x = y
/-- A machine: 1 puts, 2 takes, 3 puts back; its part (1 a pop of the spare ones, 2 tasks, 3 how many, 4 the last one; 0: finished). -/
structure Pm where
  kind : Nat
  pc : Nat
  ts : List Int
  j : Int
  p : Int
  x : Sm
def pstp (g : Pg) (L : List Int) (m : Pm) : List Int × Pm :=
  if m.pc = 1 then
    ((sstp L m.x).1,
     if (sstp L m.x).2.pc = 0 then (if (sstp L m.x).2.item = 0 then { m with x := mPop g.sp, p := 0 } else { m with x := (sstp L m.x).2, p := (sstp L m.x).2.item, pc := 2 })
     else { m with x := (sstp L m.x).2 })
  else if m.pc = 2 then
    (ptq L (g.tk m.p m.j) (m.ts.getD m.j.toNat 0), { m with j := m.j + 1, pc := if m.j + 1 = m.ts.length then 3 else 2 })
  else if m.pc = 3 then
    (ptq L (g.mn m.p) m.ts.length, { m with x := mPush g.po m.p, pc := 4 })
  else if m.pc = 4 then
    ((sstp L m.x).1,
     if (sstp L m.x).2.pc = 0 then { m with x := (sstp L m.x).2, p := (sstp L m.x).2.item, pc := 0 } else { m with x := (sstp L m.x).2 })
  else (L, m)
def mnone : Sm := ⟨0, 0, ⟨0, []⟩, 0, 0, 0, 0⟩
def pPut (g : Pg) (ts : List Int) : Pm := if ts = [] then ⟨1, 0, [], 0, 0, mnone⟩ else ⟨1, 1, ts.take 4, 0, 0, mPop g.sp⟩
def pTake (g : Pg) : Pm := ⟨2, 4, [], 0, 0, mPop g.po⟩
def pBack (n : Nat) (g : Pg) (p : Int) : Pm := if p < 1 ∨ (n : Int) < p then ⟨3, 0, [], 0, 0, mnone⟩ else ⟨3, 4, [], 0, 0, mPush g.sp p⟩
def pPacket (m : Pm) : Int := if 0 < m.pc then 0 else m.p

/-- What is in a packet. -/
def tw (g : Pg) (L : List Int) (p : Int) : Int := L.getD (g.tk p 0).toNat 0
def mw (g : Pg) (L : List Int) (p : Int) : Int := L.getD (g.mn p).toNat 0
/-- Where a machine stands that puts one task, takes or puts back; h: the packets that it has; w: the tasks that it is about to put. -/
inductive Th (n : Nat) (g : Pg) (L : List Int) (Ts : Int) (Qs : List Int) (Tp : Int) (Qp : List Int) : Pm → List Int → List Int → Prop
  | idle (kd : Nat) (ts : List Int) (j p : Int) (x : Sm) (h : List Int) (hl : h.length ≤ 1) : Th n g L Ts Qs Tp Qp ⟨kd, 0, ts, j, p, x⟩ h []
  | put1 (t p : Int) (x : Sm) (hx : Sp n g.sp L Ts Qs x) (hk : x.kind = 2) (hp : x.pc ≠ 0) : Th n g L Ts Qs Tp Qp ⟨1, 1, [t], 0, p, x⟩ [] [t]
  | put2 (t p : Int) (x : Sm) (hr : 1 ≤ p ∧ p ≤ n) : Th n g L Ts Qs Tp Qp ⟨1, 2, [t], 0, p, x⟩ [p] [t]
  | put3 (t p : Int) (x : Sm) (hr : 1 ≤ p ∧ p ≤ n) (ht : tw g L p = t) : Th n g L Ts Qs Tp Qp ⟨1, 3, [t], 1, p, x⟩ [p] [t]
  | put4 (t p : Int) (x : Sm) (hr : 1 ≤ p ∧ p ≤ n) (ht : tw g L p = t) (hm : mw g L p = 1) (hx : Sp n g.po L Tp Qp x) (hk : x.kind = 1) (hi : x.item = p) (hp : x.pc ≠ 0) : Th n g L Ts Qs Tp Qp ⟨1, 4, [t], 1, p, x⟩ [p] [t]
  | take (ts : List Int) (j p : Int) (x : Sm) (hx : Sp n g.po L Tp Qp x) (hk : x.kind = 2) (hp : x.pc ≠ 0) : Th n g L Ts Qs Tp Qp ⟨2, 4, ts, j, p, x⟩ [] []
  | back (ts : List Int) (j p0 p : Int) (x : Sm) (hr : 1 ≤ p ∧ p ≤ n) (hx : Sp n g.sp L Ts Qs x) (hk : x.kind = 1) (hi : x.item = p) (hp : x.pc ≠ 0) : Th n g L Ts Qs Tp Qp ⟨3, 4, ts, j, p0, x⟩ [p] []
/-- How many own steps it has left, if nobody else turns a head; how often it turns one yet. -/
def pdue (Ts Tp : Int) (m : Pm) : Int :=
  if m.pc = 0 then 0 else if m.pc = 1 then due Ts m.x + 5 else if m.pc = 2 then 5 else if m.pc = 3 then 4 else if m.kind = 3 then due Ts m.x else due Tp m.x
def fut (m : Pm) : Int := if m.pc = 0 then 0 else if m.pc = 1 then 2 else 1
/-- What a step is. -/
inductive PEv (g : Pg) (L' : List Int) (m m' : Pm) (Qs Qs' Qp Qp' h h' w w' : List Int) : Prop
  | on (hp : m'.pc ≠ 0) (hs : Qs' = Qs) (hq : Qp' = Qp) (hh : h' = h) (hw : w' = w)
  | got (q : Int) (hp : m'.pc ≠ 0) (hk : m.kind = 1) (hs : Qs = q :: Qs') (hq : Qp' = Qp) (hh : h = []) (hh' : h' = [q]) (hw : w' = w)
  | put (p t : Int) (hp : m'.pc = 0) (hk : m.kind = 1) (hs : Qs' = Qs) (hq : Qp' = p :: Qp) (hh : h = [p]) (hh' : h' = []) (hw : w = [t]) (hw' : w' = []) (ht : tw g L' p = t) (hm : mw g L' p = 1)
  | took (p : Int) (hp : m'.pc = 0) (hk : m.kind = 2) (hs : Qs' = Qs) (hq : Qp = p :: Qp') (hh : h = []) (hh' : h' = [p]) (hw : w = []) (hw' : w' = []) (hm : m'.p = p)
  | none (hp : m'.pc = 0) (hk : m.kind = 2) (hs : Qs' = Qs) (hq : Qp' = Qp) (hh : h = []) (hh' : h' = []) (hw : w = []) (hw' : w' = []) (hm : m'.p = 0)
  | back (p : Int) (hp : m'.pc = 0) (hk : m.kind = 3) (hs : Qs' = p :: Qs) (hq : Qp' = Qp) (hh : h = [p]) (hh' : h' = []) (hw : w = []) (hw' : w' = [])
/-- Words that a machine may change which has these packets. -/
def OwnW (g : Pg) (h : List Int) (q : Int) : Prop := q = g.sp.head ∨ q = g.po.head ∨ ∃ x ∈ h, q = atOf g.sp.links x ∨ q = g.mn x ∨ q = g.tk x 0

section
variable {n : Nat} {g : Pg} {L : List Int} {Ts Tp : Int} {Qs Qp : List Int}
theorem Th.mono {L' : List Int} {Ts' Tp' : Int} {Qs' Qp' : List Int} {m : Pm} {h w : List Int} (P : Th n g L Ts Qs Tp Qp m h w) (G : g.po.links = g.sp.links)
    (h1 : Ts ≤ Ts') (h2 : Ts' = Ts → Qs' = Qs) (h3 : Tp ≤ Tp') (h4 : Tp' = Tp → Qp' = Qp)
    (hx : ∀ x ∈ h, x ∉ Qs' ∧ x ∉ Qp' ∧ lkw g.sp L' x = lkw g.sp L x ∧ tw g L' x = tw g L x ∧ mw g L' x = mw g L x) : Th n g L' Ts' Qs' Tp' Qp' m h w := by
  have hlk : ∀ x, lkw g.po L' x = lkw g.sp L' x ∧ lkw g.po L x = lkw g.sp L x := fun x => by unfold lkw; rw [G]; exact ⟨rfl, rfl⟩
  cases P with
  | idle kd ts j p x h hl => exact .idle _ _ _ _ _ _ hl
  | put1 t p x hX hk hp => exact .put1 _ _ _ (hX.mono h1 h2 (fun e => by rw [hk] at e; cases e)) hk hp
  | put2 t p x hr => exact .put2 _ _ _ hr
  | put3 t p x hr ht => exact .put3 _ _ _ hr (by rw [(hx p (by simp)).2.2.2.1]; exact ht)
  | put4 t p x hr ht hm hX hk hi hp =>
    have a := hx p (by simp)
    exact .put4 _ _ _ hr (by rw [a.2.2.2.1]; exact ht) (by rw [a.2.2.2.2]; exact hm) (hX.mono h3 h4 (fun _ _ => by rw [hi]; exact ⟨a.2.1, by rw [(hlk p).1, (hlk p).2]; exact a.2.2.1⟩)) hk hi hp
  | take ts j p x hX hk hp => exact .take _ _ _ _ (hX.mono h3 h4 (fun e => by rw [hk] at e; cases e)) hk hp
  | back ts j p0 p x hr hX hk hi hp =>
    have a := hx p (by simp)
    exact .back _ _ _ _ _ hr (hX.mono h1 h2 (fun _ _ => by rw [hi]; exact ⟨a.1, a.2.2.1⟩)) hk hi hp
theorem pdue_mono {Ts' Tp' : Int} {m : Pm} {h w : List Int} (P : Th n g L Ts Qs Tp Qp m h w) (hc : Ts' = Ts ∨ Tp' = Tp) :
    pdue Ts' Tp' m ≤ pdue Ts Tp m + (if Ts' = Ts ∧ Tp' = Tp then 0 else 3) := by
  cases P with
  | idle => simp [pdue]; split <;> omega
  | put1 t p x hX hk hp =>
    have := due_mono Ts Ts' x hX.pc_le
    simp only [pdue]; simp
    repeat' split at this
    all_goals split <;> omega
  | put2 t p x hr => simp [pdue]; split <;> omega
  | put3 t p x hr ht => simp [pdue]; split <;> omega
  | put4 t p x hr ht hm hX hk hi hp =>
    have := due_mono Tp Tp' x hX.pc_le
    simp only [pdue]; simp
    repeat' split at this
    all_goals split <;> omega
  | take ts j p x hX hk hp =>
    have := due_mono Tp Tp' x hX.pc_le
    simp only [pdue]; simp
    repeat' split at this
    all_goals split <;> omega
  | back ts j p0 p x hr hX hk hi hp =>
    have := due_mono Ts Ts' x hX.pc_le
    simp only [pdue]; simp
    repeat' split at this
    all_goals split <;> omega

/-- Another stack of the same links. -/
theorem stk_other {k k' : Sk} {L L1 : List Int} {T : Int} {Q : List Int} {kd : Nat} {it : Int} (g0 : Gk n L.length k) (H : Stk n k' L T Q) (hl : k'.links = k.links) (hne : k'.head ≠ k.head) (hlen : L1.length = L.length)
    (hf : ∀ q : Int, 0 ≤ q → L1.getD q.toNat 0 = L.getD q.toNat 0 ∨ q = k.head ∨ (kd = 1 ∧ q = atOf k.links it)) (hit : kd = 1 → 1 ≤ it ∧ it ≤ n ∧ it ∉ Q) : Stk n k' L1 T Q := by
  refine H.same hlen ?_ fun q hq => ?_
  · rcases hf _ H.g.hd.1 with e | e | ⟨e, e2⟩
    · exact e
    · exact absurd e hne
    · have a := hit e
      have := (H.g.lk it a.1 a.2.1).2.2
      rw [hl] at this; exact absurd e2.symm this
  · have r := H.rng q hq
    have b := H.g.lk q r.1 r.2
    rcases hf _ b.1 with e | e | ⟨e, e2⟩
    · exact e
    · have := (g0.lk q r.1 r.2).2.2
      rw [hl] at e; exact absurd e this
    · have a := hit e
      rw [hl] at e2
      have := g0.inj _ _ r.1 r.2 a.1 a.2.1 e2
      exact absurd (this ▸ hq) a.2.2
theorem sev_T {m m' : Sm} {T T' : Int} {Q Q' : List Int} (e : SEv m m' T T' Q Q') : T' = T ∨ (T' = T + 1 ∧ m'.pc = 0) := by
  cases e with
  | on h hT hQ => exact .inl hT
  | put h hk hT hQ hi => exact .inr ⟨hT, h⟩
  | took h hk hT hQ => exact .inr ⟨hT, h⟩
  | none h hk hT hQ hn hi => exact .inl hT
theorem pk_step {m : Pm} {h w : List Int} (G : Gp n L.length g) (Hs : Stk n g.sp L Ts Qs) (Hp : Stk n g.po L Tp Qp) (P : Th n g L Ts Qs Tp Qp m h w) (hp : m.pc ≠ 0) (h9 : Ts + 1 < 100000) (h8 : Tp + 1 < 100000)
    (hd : ∀ x ∈ h, x ∉ Qs ∧ x ∉ Qp) (hne : m.pc = 1 → Qs ≠ []) :
    ∃ Ts' Qs' Tp' Qp' h' w', Stk n g.sp (pstp g L m).1 Ts' Qs' ∧ Stk n g.po (pstp g L m).1 Tp' Qp' ∧ Th n g (pstp g L m).1 Ts' Qs' Tp' Qp' (pstp g L m).2 h' w' ∧ (pstp g L m).1.length = L.length ∧
      Ts ≤ Ts' ∧ Ts' ≤ Ts + 1 ∧ (Ts' = Ts → Qs' = Qs) ∧ Tp ≤ Tp' ∧ Tp' ≤ Tp + 1 ∧ (Tp' = Tp → Qp' = Qp) ∧ (Ts' = Ts ∨ Tp' = Tp) ∧
      PEv g (pstp g L m).1 m (pstp g L m).2 Qs Qs' Qp Qp' h h' w w' ∧
      (∀ q : Int, 0 ≤ q → (pstp g L m).1.getD q.toNat 0 = L.getD q.toNat 0 ∨ OwnW g h q) ∧
      pdue Ts' Tp' (pstp g L m).2 + 1 ≤ pdue Ts Tp m ∧ fut (pstp g L m).2 + (if Ts' = Ts ∧ Tp' = Tp then 0 else 1) ≤ fut m ∧ (pstp g L m).2.kind = m.kind := by
  have hgl := G.links
  have wtw : ∀ (L1 : List Int) (k : Sk) (kd : Nat) (it p : Int), (k = g.sp ∨ k = g.po) → (∀ q : Int, 0 ≤ q → L1.getD q.toNat 0 = L.getD q.toNat 0 ∨ q = k.head ∨ (kd = 1 ∧ q = atOf k.links it)) → (kd = 1 → 1 ≤ it ∧ it ≤ n) → 1 ≤ p → p ≤ n → tw g L1 p = tw g L p ∧ mw g L1 p = mw g L p := by
    intro L1 k kd it p hk hf hit p0 p1
    have a := G.t p 0 p0 p1 (by omega) (by omega)
    have b := G.m p p0 p1
    have hkl : k.links = g.sp.links := by
      rcases hk with e | e
      · rw [e]
      · rw [e]; exact hgl
    constructor
    · rcases hf _ a.1 with e | e | ⟨e, e2⟩
      · exact e
      · rcases hk with ek | ek <;> rw [ek] at e
        · exact absurd e a.2.2.1
        · exact absurd e a.2.2.2
      · rw [hkl] at e2
        exact absurd e2 (G.tl p 0 it p0 p1 (by omega) (by omega) (hit e).1 (hit e).2)
    · rcases hf _ b.1 with e | e | ⟨e, e2⟩
      · exact e
      · rcases hk with ek | ek <;> rw [ek] at e
        · exact absurd e b.2.2.1
        · exact absurd e b.2.2.2
      · rw [hkl] at e2
        exact absurd e2 (G.ml p it p0 p1 (hit e).1 (hit e).2)
  cases P with
  | idle => exact absurd rfl hp
  | put1 t p x hX hk hpx =>
    obtain ⟨T', Q', H', sa', h1, ev, hkd, hq, hln, hL, hit, hdu⟩ := s_step Hs hX hpx h9
    have e : pstp g L ⟨1, 1, [t], 0, p, x⟩ = ((sstp L x).1, if (sstp L x).2.pc = 0 then (if (sstp L x).2.item = 0 then ⟨1, 1, [t], 0, 0, mPop g.sp⟩ else ⟨1, 2, [t], 0, (sstp L x).2.item, (sstp L x).2⟩) else ⟨1, 1, [t], 0, p, (sstp L x).2⟩) := by simp [pstp]
    have hpo := stk_other (L1 := (sstp L x).1) G.s Hp hgl (fun e => G.hne e.symm) hln hL (fun e => by rw [hk] at e; cases e)
    have own : ∀ q : Int, 0 ≤ q → (sstp L x).1.getD q.toNat 0 = L.getD q.toNat 0 ∨ OwnW g [] q := fun q h0 => by
      rcases hL q h0 with e | e | ⟨e, _⟩
      · exact .inl e
      · exact .inr (.inl e)
      · rw [hk] at e; cases e
    rw [e]
    cases ev with
    | on h4 hT hQ =>
      subst hT hQ
      rw [if_neg h4]
      refine ⟨_, _, Tp, Qp, [], [t], H', hpo, .put1 _ _ _ sa' (hkd.trans hk) h4, hln, h1, by omega, fun _ => rfl, Int.le_refl _, by omega, fun _ => rfl, .inl rfl, .on (by simp) rfl rfl rfl rfl, own, ?_, ?_, rfl⟩
      · simp only [pdue]; simp; omega
      · simp [fut]
    | put h4 h5 => rw [hk] at h5; cases h5
    | none h4 h5 hT hQ hn hi => exact absurd hn (hne rfl)
    | took h4 h5 hT hQ =>
      have hr := Hs.rng (sstp L x).2.item (by rw [hQ]; simp)
      rw [if_pos h4, if_neg (by omega)]
      refine ⟨T', Q', Tp, Qp, [(sstp L x).2.item], [t], H', hpo, .put2 _ _ _ hr, hln, h1, by omega, fun e => by omega, Int.le_refl _, by omega, fun _ => rfl, .inr rfl, .got _ (by simp) rfl hQ rfl rfl rfl rfl, own, ?_, ?_, rfl⟩
      · simp only [pdue]; simp
        have : due T' (sstp L x).2 = 0 := by simp [due, h4]
        omega
      · simp [fut]; omega
  | put2 t p x hr =>
    have e : pstp g L ⟨1, 2, [t], 0, p, x⟩ = (ptq L (g.tk p 0) t, ⟨1, 3, [t], 1, p, x⟩) := by simp [pstp]
    have a := G.t p 0 hr.1 hr.2 (by omega) (by omega)
    rw [e]
    refine ⟨Ts, Qs, Tp, Qp, [p], [t], Hs.word a.2.2.1 (fun q hq => G.tl _ _ _ hr.1 hr.2 (by omega) (by omega) (Hs.rng q hq).1 (Hs.rng q hq).2),
      Hp.word a.2.2.2 (fun q hq => by rw [hgl]; exact G.tl _ _ _ hr.1 hr.2 (by omega) (by omega) (Hp.rng q hq).1 (Hp.rng q hq).2), .put3 _ _ _ hr (pt_same ⟨a.1, a.2.1⟩), pt_len .., Int.le_refl _, by omega, fun _ => rfl, Int.le_refl _, by omega, fun _ => rfl, .inl rfl, .on (by simp) rfl rfl rfl rfl, fun q h0 => ?_, ?_, ?_, rfl⟩
    · by_cases hq : q = g.tk p 0
      · exact .inr (.inr (.inr ⟨p, by simp, .inr (.inr hq)⟩))
      · exact .inl (pt_other h0 hq)
    · simp [pdue]
    · simp [fut]
  | put3 t p x hr ht =>
    have e : pstp g L ⟨1, 3, [t], 1, p, x⟩ = (ptq L (g.mn p) 1, ⟨1, 4, [t], 1, p, mPush g.po p⟩) := by simp [pstp]
    have a := G.m p hr.1 hr.2
    have b := G.t p 0 hr.1 hr.2 (by omega) (by omega)
    have hs := G.s.small
    have ei : itemOf p = p := by unfold itemOf; rw [if_neg (by omega)]
    have hX : Sp n g.po (ptq L (g.mn p) 1) Tp Qp (mPush g.po p) := by
      unfold mPush; rw [ei]; exact .push1 _ _ _ _ hr.1 hr.2 (hd p (by simp)).2
    rw [e]
    refine ⟨Ts, Qs, Tp, Qp, [p], [t], Hs.word a.2.2.1 (fun q hq => G.ml _ _ hr.1 hr.2 (Hs.rng q hq).1 (Hs.rng q hq).2),
      Hp.word a.2.2.2 (fun q hq => by rw [hgl]; exact G.ml _ _ hr.1 hr.2 (Hp.rng q hq).1 (Hp.rng q hq).2), .put4 _ _ _ hr ?_ (pt_same ⟨a.1, a.2.1⟩) hX rfl ei (by simp [mPush]), pt_len .., Int.le_refl _, by omega, fun _ => rfl, Int.le_refl _, by omega, fun _ => rfl, .inl rfl, .on (by simp) rfl rfl rfl rfl, fun q h0 => ?_, ?_, ?_, rfl⟩
    · rw [← ht]; exact pt_other b.1 (G.tm p 0 p hr.1 hr.2 (by omega) (by omega) hr.1 hr.2)
    · by_cases hq : q = g.mn p
      · exact .inr (.inr (.inr ⟨p, by simp, .inr (.inl hq)⟩))
      · exact .inl (pt_other h0 hq)
    · simp [pdue, due, mPush]
    · simp [fut]
  | put4 t p x hr ht hm hX hk hi hpx =>
    obtain ⟨T', Q', H', sa', h1, ev, hkd, hq, hln, hL, hit, hdu⟩ := s_step Hp hX hpx h8
    have e : pstp g L ⟨1, 4, [t], 1, p, x⟩ = ((sstp L x).1, if (sstp L x).2.pc = 0 then ⟨1, 0, [t], 1, (sstp L x).2.item, (sstp L x).2⟩ else ⟨1, 4, [t], 1, p, (sstp L x).2⟩) := by simp [pstp]
    have hi2 := hit hk
    have hsp := stk_other (L1 := (sstp L x).1) G.p Hs hgl.symm G.hne hln hL (fun _ => by rw [hi]; exact ⟨hr.1, hr.2, (hd p (by simp)).1⟩)
    have ww := wtw (sstp L x).1 g.po x.kind x.item p (.inr rfl) hL (fun _ => by rw [hi]; exact hr) hr.1 hr.2
    have own : ∀ q : Int, 0 ≤ q → (sstp L x).1.getD q.toNat 0 = L.getD q.toNat 0 ∨ OwnW g [p] q := fun q h0 => by
      rcases hL q h0 with e | e | ⟨_, e⟩
      · exact .inl e
      · exact .inr (.inr (.inl e))
      · rw [hi, hgl] at e
        exact .inr (.inr (.inr ⟨p, by simp, .inl e⟩))
    rw [e]
    cases ev with
    | on h4 hT hQ =>
      subst hT hQ
      rw [if_neg h4]
      refine ⟨Ts, Qs, _, _, [p], [t], hsp, H', .put4 _ _ _ hr (ww.1.trans ht) (ww.2.trans hm) sa' (hkd.trans hk) (hi2.trans hi) h4, hln, Int.le_refl _, by omega, fun _ => rfl, h1, by omega, fun _ => rfl, .inl rfl, .on (by simp) rfl rfl rfl rfl, own, ?_, ?_, rfl⟩
      · simp only [pdue]; simp; omega
      · simp [fut]
    | took h4 h5 => rw [hk] at h5; cases h5
    | none h4 h5 => rw [hk] at h5; cases h5
    | put h4 h5 hT hQ hi3 =>
      rw [if_pos h4]
      rw [hi2, hi] at hQ
      refine ⟨Ts, Qs, T', Q', [], [], hsp, H', .idle _ _ _ _ _ _ (by simp), hln, Int.le_refl _, by omega, fun _ => rfl, h1, by omega, fun e => by omega, .inl rfl, .put p t rfl rfl rfl hQ rfl rfl rfl rfl (ww.1.trans ht) (ww.2.trans hm), own, ?_, ?_, rfl⟩
      · simp only [pdue]; simp
        have : due T' (sstp L x).2 = 0 := by simp [due, h4]
        omega
      · simp [fut]; split <;> omega
  | take ts j p x hX hk hpx =>
    obtain ⟨T', Q', H', sa', h1, ev, hkd, hq, hln, hL, hit, hdu⟩ := s_step Hp hX hpx h8
    have e : pstp g L ⟨2, 4, ts, j, p, x⟩ = ((sstp L x).1, if (sstp L x).2.pc = 0 then ⟨2, 0, ts, j, (sstp L x).2.item, (sstp L x).2⟩ else ⟨2, 4, ts, j, p, (sstp L x).2⟩) := by simp [pstp]
    have hsp := stk_other (L1 := (sstp L x).1) G.p Hs hgl.symm G.hne hln hL (fun e => by rw [hk] at e; cases e)
    have own : ∀ q : Int, 0 ≤ q → (sstp L x).1.getD q.toNat 0 = L.getD q.toNat 0 ∨ OwnW g [] q := fun q h0 => by
      rcases hL q h0 with e | e | ⟨e, _⟩
      · exact .inl e
      · exact .inr (.inr (.inl e))
      · rw [hk] at e; cases e
    rw [e]
    cases ev with
    | on h4 hT hQ =>
      subst hT hQ
      rw [if_neg h4]
      refine ⟨Ts, Qs, _, _, [], [], hsp, H', .take _ _ _ _ sa' (hkd.trans hk) h4, hln, Int.le_refl _, by omega, fun _ => rfl, h1, by omega, fun _ => rfl, .inl rfl, .on (by simp) rfl rfl rfl rfl, own, ?_, ?_, rfl⟩
      · simp only [pdue]; simp; omega
      · simp [fut]
    | put h4 h5 => rw [hk] at h5; cases h5
    | none h4 h5 hT hQ hn hi3 =>
      subst hT hQ
      rw [if_pos h4]
      refine ⟨Ts, Qs, _, _, [], [], hsp, H', .idle _ _ _ _ _ _ (by simp), hln, Int.le_refl _, by omega, fun _ => rfl, h1, by omega, fun _ => rfl, .inl rfl, .none rfl rfl rfl rfl rfl rfl rfl rfl hi3, own, ?_, ?_, rfl⟩
      · simp only [pdue]; simp
        have : due T' (sstp L x).2 = 0 := by simp [due, h4]
        omega
      · simp [fut]
    | took h4 h5 hT hQ =>
      rw [if_pos h4]
      refine ⟨Ts, Qs, T', Q', [(sstp L x).2.item], [], hsp, H', .idle _ _ _ _ _ _ (by simp), hln, Int.le_refl _, by omega, fun _ => rfl, h1, by omega, fun e => by omega, .inl rfl, .took _ rfl rfl rfl hQ rfl rfl rfl rfl rfl, own, ?_, ?_, rfl⟩
      · simp only [pdue]; simp
        have : due T' (sstp L x).2 = 0 := by simp [due, h4]
        omega
      · simp [fut]; split <;> omega
  | back ts j p0 p x hr hX hk hi hpx =>
    obtain ⟨T', Q', H', sa', h1, ev, hkd, hq, hln, hL, hit, hdu⟩ := s_step Hs hX hpx h9
    have e : pstp g L ⟨3, 4, ts, j, p0, x⟩ = ((sstp L x).1, if (sstp L x).2.pc = 0 then ⟨3, 0, ts, j, (sstp L x).2.item, (sstp L x).2⟩ else ⟨3, 4, ts, j, p0, (sstp L x).2⟩) := by simp [pstp]
    have hi2 := hit hk
    have hpo := stk_other (L1 := (sstp L x).1) G.s Hp hgl (fun e => G.hne e.symm) hln hL (fun _ => by rw [hi]; exact ⟨hr.1, hr.2, (hd p (by simp)).2⟩)
    have own : ∀ q : Int, 0 ≤ q → (sstp L x).1.getD q.toNat 0 = L.getD q.toNat 0 ∨ OwnW g [p] q := fun q h0 => by
      rcases hL q h0 with e | e | ⟨_, e⟩
      · exact .inl e
      · exact .inr (.inl e)
      · rw [hi] at e
        exact .inr (.inr (.inr ⟨p, by simp, .inl e⟩))
    rw [e]
    cases ev with
    | on h4 hT hQ =>
      subst hT hQ
      rw [if_neg h4]
      refine ⟨_, _, Tp, Qp, [p], [], H', hpo, .back _ _ _ _ _ hr sa' (hkd.trans hk) (hi2.trans hi) h4, hln, h1, by omega, fun _ => rfl, Int.le_refl _, by omega, fun _ => rfl, .inl rfl, .on (by simp) rfl rfl rfl rfl, own, ?_, ?_, rfl⟩
      · simp only [pdue]; simp; omega
      · simp [fut]
    | took h4 h5 => rw [hk] at h5; cases h5
    | none h4 h5 => rw [hk] at h5; cases h5
    | put h4 h5 hT hQ hi3 =>
      rw [if_pos h4]
      rw [hi2, hi] at hQ
      refine ⟨T', Q', Tp, Qp, [], [], H', hpo, .idle _ _ _ _ _ _ (by simp), hln, h1, by omega, fun e => by omega, Int.le_refl _, by omega, fun _ => rfl, .inr rfl, .back p rfl rfl hQ rfl rfl rfl rfl rfl, own, ?_, ?_, rfl⟩
      · simp only [pdue]; simp
        have : due T' (sstp L x).2 = 0 := by simp [due, h4]
        omega
      · simp [fut]; omega
end
end Go.Proofs.YtbpkcoemehmpbaaGreat

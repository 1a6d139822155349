/- A stack's machines over words, wherever its head and its links stand: what a step is, and what holds however the steps of some come one behind the other. Packets' machines over words: two stacks that share their links, tasks and how many. -/
import Derived.IntWalk
namespace Go.Proofs.YtpocihddecemfaaGreat
set_option linter.unusedVariables false
set_option linter.unusedSimpArgs false

def ldq (L : List Int) (at' : Int) : Int := if 0 ≤ at' ∧ at' < L.length then L.getD at'.toNat 0 else 0
def ptq (L : List Int) (at' v : Int) : List Int := if 0 ≤ at' ∧ at' < L.length then L.set at'.toNat v else L
def hiw (w : Int) : Int := w / 4294967296
def low (w : Int) : Int := w % 4294967296
def turnw (w n : Int) : Int := ((hiw w + 1) % 4294967296) * 4294967296 + n
/-- Where a stack stands: its head, and each thing's link. -/
structure Sk where
  head : Int
  links : List Int
/-- A link's place; -1: there is none such. -/
def atOf (l : List Int) (x : Int) : Int := if 1 ≤ x ∧ x ≤ l.length then l.getD (x - 1).toNat 0 else -1

/-- A machine: 1 pushes, 2 pops; its next step (0: finished), and what it knows. -/
structure Sm where
  kind : Nat
  pc : Nat
  k : Sk
  item : Int
  h : Int
  link : Int
  tries : Int
def swapS (L : List Int) (m : Sm) (n : Int) : List Int × Sm :=
  if (0 ≤ m.k.head ∧ m.k.head < L.length) ∧ L.getD m.k.head.toNat 0 = m.h then (ptq L m.k.head (turnw m.h n), { m with pc := 0 }) else (L, { m with pc := 1 })
def sstp (L : List Int) (m : Sm) : List Int × Sm :=
  if m.pc = 0 then (L, m)
  else if m.pc = 1 then
    (if m.kind = 1 then (L, { m with pc := 2, h := ldq L m.k.head, link := low (ldq L m.k.head), tries := m.tries + 1 })
     else if low (ldq L m.k.head) = 0 then (L, { m with pc := 0, h := ldq L m.k.head, item := 0, tries := m.tries + 1 })
     else (L, { m with pc := 2, h := ldq L m.k.head, item := low (ldq L m.k.head), tries := m.tries + 1 }))
  else if m.pc = 2 then
    (if m.kind = 1 then (ptq L (atOf m.k.links m.item) m.link, { m with pc := 3 })
     else (L, { m with pc := 3, link := low (ldq L (atOf m.k.links m.item)) }))
  else (if m.kind = 1 then swapS L m m.item else swapS L m m.link)
def itemOf (x : Int) : Int := if x < 1 ∨ 4294967295 < x then 0 else x
def mPush (k : Sk) (x : Int) : Sm := ⟨1, 1, k, itemOf x, 0, 0, 0⟩
def mPop (k : Sk) : Sm := ⟨2, 1, k, 0, 0, 0, 0⟩
/-- What was put or taken, where it is finished. -/
def sItem (m : Sm) : Int := if m.pc = 0 then m.item else 0


theorem pt_len (L : List Int) (p v : Int) : (ptq L p v).length = L.length := by unfold ptq; split <;> simp
theorem pt_same {L : List Int} {p v : Int} (h : 0 ≤ p ∧ p < L.length) : (ptq L p v).getD p.toNat 0 = v := by
  unfold ptq; rw [if_pos h]
  simp only [List.getD, List.getElem?_set, if_true]; rw [if_pos (by omega)]; rfl
theorem pt_other {L : List Int} {p v q : Int} (hq : 0 ≤ q) (h : q ≠ p) : (ptq L p v).getD q.toNat 0 = L.getD q.toNat 0 := by
  unfold ptq
  split
  · simp only [List.getD, List.getElem?_set]; rw [if_neg (by omega)]
  · rfl
theorem ld_in {L : List Int} {p : Int} (h : 0 ≤ p ∧ p < L.length) : ldq L p = L.getD p.toNat 0 := by unfold ldq; rw [if_pos h]
/-- A stack's places among N words: its head, and n links. -/
structure Gk (n N : Nat) (k : Sk) : Prop where
  small : n ≤ 100000
  hd : 0 ≤ k.head ∧ k.head < N
  lk : ∀ x : Int, 1 ≤ x → x ≤ n → 0 ≤ atOf k.links x ∧ atOf k.links x < N ∧ atOf k.links x ≠ k.head
  inj : ∀ x y : Int, 1 ≤ x → x ≤ n → 1 ≤ y → y ≤ n → atOf k.links x = atOf k.links y → x = y
/-- What a thing's link tells. -/
def lkw (k : Sk) (L : List Int) (x : Int) : Int := L.getD (atOf k.links x).toNat 0
/-- The things from this one on, as memory tells: Q. -/
def Chain (k : Sk) (L : List Int) : Int → List Int → Prop
  | x, [] => x = 0
  | x, q :: Q => x = q ∧ Chain k L (lkw k L q) Q
theorem Chain.head {k : Sk} {L : List Int} {x : Int} {Q : List Int} (h : Chain k L x Q) : x = Q.headD 0 := by
  cases Q with
  | nil => exact h
  | cons q Q => exact h.1
/-- Words elsewhere may change. -/
theorem Chain.other {k : Sk} {L L' : List Int} : ∀ {Q : List Int} {x : Int}, Chain k L x Q → (∀ q ∈ Q, lkw k L' q = lkw k L q) → Chain k L' x Q
  | [], x, h, _ => h
  | q :: Q, x, h, e => ⟨h.1, by rw [e q (by simp)]; exact h.2.other (fun y hy => e y (by simp [hy]))⟩

/-- A stack in memory of n things: Q, the first one first; T: how often the head has turned. -/
structure Stk (n : Nat) (k : Sk) (L : List Int) (T : Int) (Q : List Int) : Prop where
  g : Gk n L.length k
  t0 : 0 ≤ T
  t1 : T < 100000
  head : L.getD k.head.toNat 0 = T * 4294967296 + Q.headD 0
  rng : ∀ q ∈ Q, 1 ≤ q ∧ q ≤ n
  nd : Q.Nodup
  chain : Chain k L (Q.headD 0) Q
theorem headD_rng {n : Nat} {Q : List Int} (h : ∀ q ∈ Q, 1 ≤ q ∧ q ≤ (n : Int)) : 0 ≤ Q.headD 0 ∧ Q.headD 0 ≤ n ∧ (Q.headD 0 = 0 ↔ Q = []) := by
  cases Q with
  | nil => simp
  | cons q Q => have := h q (by simp); simp; omega
section
variable {n : Nat} {k : Sk} {L : List Int} {T : Int} {Q : List Int}
theorem Stk.ld0 (h : Stk n k L T Q) : ldq L k.head = T * 4294967296 + Q.headD 0 := by
  rw [ld_in h.g.hd]; exact h.head
theorem Stk.low (h : Stk n k L T Q) : low (T * 4294967296 + Q.headD 0) = Q.headD 0 ∧ hiw (T * 4294967296 + Q.headD 0) = T := by
  have := headD_rng h.rng
  have := h.g.small
  unfold YtpocihddecemfaaGreat.low hiw; omega
theorem Stk.ldx (h : Stk n k L T Q) {x : Int} (h0 : 1 ≤ x) (h1 : x ≤ n) : ldq L (atOf k.links x) = lkw k L x := by
  have := h.g.lk x h0 h1
  exact ld_in ⟨this.1, this.2.1⟩
/-- Words that are none of the stack's may change. -/
theorem Stk.same {L' : List Int} (h : Stk n k L T Q) (hl : L'.length = L.length) (hh : L'.getD k.head.toNat 0 = L.getD k.head.toNat 0) (hk : ∀ q ∈ Q, lkw k L' q = lkw k L q) : Stk n k L' T Q :=
  ⟨hl ▸ h.g, h.t0, h.t1, hh.trans h.head, h.rng, h.nd, h.chain.other hk⟩
/-- One word that is none of the stack's. -/
theorem Stk.word (h : Stk n k L T Q) {p v : Int} (hh : p ≠ k.head) (hk : ∀ q ∈ Q, p ≠ atOf k.links q) : Stk n k (ptq L p v) T Q :=
  h.same (pt_len ..) (pt_other h.g.hd.1 (fun e => hh e.symm)) fun q hq => pt_other (h.g.lk q (h.rng q hq).1 (h.rng q hq).2).1 (fun e => hk q hq e.symm)
/-- A link of a thing that isn't there may be written. -/
theorem Stk.put (h : Stk n k L T Q) {x v : Int} (h0 : 1 ≤ x) (h1 : x ≤ n) (hx : x ∉ Q) : Stk n k (ptq L (atOf k.links x) v) T Q ∧ lkw k (ptq L (atOf k.links x) v) x = v := by
  have hx2 := h.g.lk x h0 h1
  refine ⟨h.word hx2.2.2 fun q hq e => hx ?_, pt_same ⟨hx2.1, hx2.2.1⟩⟩
  have := h.rng q hq
  rw [h.g.inj x q h0 h1 this.1 this.2 e]; exact hq
theorem turn_is (h : Stk n k L T Q) (h9 : T + 1 < 100000) (x : Int) : turnw (T * 4294967296 + Q.headD 0) x = (T + 1) * 4294967296 + x := by
  have e := h.low.2
  have := h.t0
  have := h.t1
  unfold turnw; rw [e]; omega
theorem set_head (h : Stk n k L T Q) (v : Int) : (ptq L k.head v).getD k.head.toNat 0 = v ∧ ∀ q : Int, 1 ≤ q → q ≤ n → lkw k (ptq L k.head v) q = lkw k L q := by
  refine ⟨pt_same h.g.hd, fun q h0 h1 => pt_other (h.g.lk q h0 h1).1 (h.g.lk q h0 h1).2.2⟩
/-- A thing is put in front; the first one is taken. -/
theorem Stk.push (h : Stk n k L T Q) (h9 : T + 1 < 100000) {x : Int} (h0 : 1 ≤ x) (h1 : x ≤ n) (hx : x ∉ Q) (hl : lkw k L x = Q.headD 0) : Stk n k (ptq L k.head ((T + 1) * 4294967296 + x)) (T + 1) (x :: Q) := by
  obtain ⟨a, c⟩ := set_head h ((T + 1) * 4294967296 + x)
  have t0 := h.t0
  refine ⟨(pt_len ..).symm ▸ h.g, by omega, h9, a, fun q hq => ?_, List.nodup_cons.2 ⟨hx, h.nd⟩, rfl, ?_⟩
  · rcases List.mem_cons.1 hq with rfl | hq
    · exact ⟨h0, h1⟩
    · exact h.rng q hq
  · rw [c x h0 h1, hl]
    exact h.chain.other fun q hq => c q (h.rng q hq).1 (h.rng q hq).2
theorem Stk.pop {q : Int} (h : Stk n k L T (q :: Q)) (h9 : T + 1 < 100000) : Stk n k (ptq L k.head ((T + 1) * 4294967296 + Q.headD 0)) (T + 1) Q := by
  obtain ⟨a, c⟩ := set_head h ((T + 1) * 4294967296 + Q.headD 0)
  have t0 := h.t0
  have hr : ∀ x ∈ Q, 1 ≤ x ∧ x ≤ (n : Int) := fun x hx => h.rng x (by simp [hx])
  have hc := h.chain.2
  have hh := hc.head
  rw [hh] at hc
  exact ⟨(pt_len ..).symm ▸ h.g, by omega, h9, a, hr, (List.nodup_cons.1 h.nd).2, hc.other fun x hx => c x (hr x hx).1 (hr x hx).2⟩
theorem Stk.second {q : Int} (h : Stk n k L T (q :: Q)) : lkw k L q = Q.headD 0 := h.chain.2.head
end

/-- Where a machine stands; x: what it has to put. -/
inductive Sp (n : Nat) (k : Sk) (L : List Int) (T : Int) (Q : List Int) : Sm → Prop
  | done (kd : Nat) (a : Sk) (x hh l t : Int) : Sp n k L T Q ⟨kd, 0, a, x, hh, l, t⟩
  | push1 (x hh l t : Int) (h0 : 1 ≤ x) (h1 : x ≤ n) (hx : x ∉ Q) : Sp n k L T Q ⟨1, 1, k, x, hh, l, t⟩
  | push2 (x t S y : Int) (h0 : 1 ≤ x) (h1 : x ≤ n) (hx : x ∉ Q) (hy : 0 ≤ y ∧ y ≤ n) (hS : 0 ≤ S ∧ S ≤ T) (hq : S = T → y = Q.headD 0) : Sp n k L T Q ⟨1, 2, k, x, S * 4294967296 + y, y, t⟩
  | push3 (x t S y : Int) (h0 : 1 ≤ x) (h1 : x ≤ n) (hx : x ∉ Q) (hy : 0 ≤ y ∧ y ≤ n) (hS : 0 ≤ S ∧ S ≤ T) (hq : S = T → y = Q.headD 0) (hl : lkw k L x = y) : Sp n k L T Q ⟨1, 3, k, x, S * 4294967296 + y, y, t⟩
  | pop1 (x hh l t : Int) : Sp n k L T Q ⟨2, 1, k, x, hh, l, t⟩
  | pop2 (y l t S : Int) (hy : 1 ≤ y ∧ y ≤ n) (hS : 0 ≤ S ∧ S ≤ T) (hq : S = T → y = Q.headD 0) : Sp n k L T Q ⟨2, 2, k, y, S * 4294967296 + y, l, t⟩
  | pop3 (y l t S : Int) (hy : 1 ≤ y ∧ y ≤ n) (hS : 0 ≤ S ∧ S ≤ T) (hq : S = T → y = Q.headD 0 ∧ l = Q.tail.headD 0) (hl : 0 ≤ l ∧ l < 4294967296) : Sp n k L T Q ⟨2, 3, k, y, S * 4294967296 + y, l, t⟩

/-- What a step is. -/
inductive SEv (m m' : Sm) (T T' : Int) (Q Q' : List Int) : Prop
  | on (h : m'.pc ≠ 0) (hT : T' = T) (hQ : Q' = Q)
  | put (h : m'.pc = 0) (hk : m.kind = 1) (hT : T' = T + 1) (hQ : Q' = m'.item :: Q) (hi : m'.item = m.item)
  | took (h : m'.pc = 0) (hk : m.kind = 2) (hT : T' = T + 1) (hQ : Q = m'.item :: Q')
  | none (h : m'.pc = 0) (hk : m.kind = 2) (hT : T' = T) (hQ : Q' = Q) (hn : Q = []) (hi : m'.item = 0)
/-- How many own steps a machine has left, if nobody else turns the head. -/
def due (T : Int) (m : Sm) : Int := if m.pc = 0 then 0 else if m.pc = 1 then 3 else if hiw m.h = T then 4 - m.pc else 7 - m.pc

theorem swap_yes {L : List Int} {m : Sm} (x : Int) (hl : 0 ≤ m.k.head ∧ m.k.head < L.length) (hh : L.getD m.k.head.toNat 0 = m.h) : swapS L m x = (ptq L m.k.head (turnw m.h x), { m with pc := 0 }) := by
  unfold swapS
  rw [if_pos ⟨hl, hh⟩]
theorem swap_no {L : List Int} {m : Sm} (x : Int) (hh : L.getD m.k.head.toNat 0 ≠ m.h) : swapS L m x = (L, { m with pc := 1 }) := by
  unfold swapS
  rw [if_neg (fun h => hh h.2)]
theorem pop_first {L : List Int} {m : Sm} (hk : m.kind = 2) (hp : m.pc = 1) {w : Int} (hw : ldq L m.k.head = w) :
    sstp L m = if low w = 0 then (L, { m with pc := 0, h := w, item := 0, tries := m.tries + 1 }) else (L, { m with pc := 2, h := w, item := low w, tries := m.tries + 1 }) := by
  subst hw; simp [sstp, hk, hp]
theorem hi_of {S y : Int} (hy : 0 ≤ y ∧ y < 4294967296) : hiw (S * 4294967296 + y) = S := by unfold hiw; omega
/-- The machine's own step. -/
theorem s_step {n : Nat} {k : Sk} {L : List Int} {T : Int} {Q : List Int} {m : Sm} (H : Stk n k L T Q) (P : Sp n k L T Q m) (hp : m.pc ≠ 0) (h9 : T + 1 < 100000) :
    ∃ T' Q', Stk n k (sstp L m).1 T' Q' ∧ Sp n k (sstp L m).1 T' Q' (sstp L m).2 ∧ T ≤ T' ∧ SEv m (sstp L m).2 T T' Q Q' ∧ (sstp L m).2.kind = m.kind ∧
      (T' = T → Q' = Q) ∧ (sstp L m).1.length = L.length ∧
      (∀ q : Int, 0 ≤ q → (sstp L m).1.getD q.toNat 0 = L.getD q.toNat 0 ∨ q = k.head ∨ (m.kind = 1 ∧ q = atOf k.links m.item)) ∧
      (m.kind = 1 → (sstp L m).2.item = m.item) ∧ due T' (sstp L m).2 + 1 ≤ due T m := by
  have hd := headD_rng H.rng
  have hsm := H.g.small
  have t0 := H.t0
  have t1 := H.t1
  have hg := H.g.hd
  have hh := H.head
  have hiT : hiw (T * 4294967296 + Q.headD 0) = T := hi_of (by omega)
  have elsew : ∀ (v : Int) (kd : Nat) (x : Int), ∀ q : Int, 0 ≤ q → (ptq L k.head v).getD q.toNat 0 = L.getD q.toNat 0 ∨ q = k.head ∨ (kd = 1 ∧ q = atOf k.links x) := fun v kd x q hq => by
    by_cases h : q = k.head
    · exact .inr (.inl h)
    · exact .inl (pt_other hq h)
  cases P with
  | done => exact absurd rfl hp
  | push1 x hh2 l t h0 h1 hx =>
    have e : sstp L ⟨1, 1, k, x, hh2, l, t⟩ = (L, ⟨1, 2, k, x, T * 4294967296 + Q.headD 0, Q.headD 0, t + 1⟩) := by
      have a := H.ld0
      have b := H.low.1
      simp only [sstp]
      rw [if_neg (by decide), if_pos trivial, if_pos trivial, a, b]
    rw [e]
    refine ⟨T, Q, H, .push2 _ _ _ _ h0 h1 hx ⟨hd.1, hd.2.1⟩ ⟨t0, Int.le_refl _⟩ (fun _ => rfl), Int.le_refl _, .on (by simp) rfl rfl, rfl, fun _ => rfl, rfl, fun _ _ => .inl rfl, fun _ => rfl, ?_⟩
    simp [-List.headD_eq_head?_getD, due, hiT]
  | push2 x t S y h0 h1 hx hy hS hq =>
    have e : sstp L ⟨1, 2, k, x, S * 4294967296 + y, y, t⟩ = (ptq L (atOf k.links x) y, ⟨1, 3, k, x, S * 4294967296 + y, y, t⟩) := by
      simp [sstp]
    rw [e]
    obtain ⟨H', hv⟩ := H.put (v := y) h0 h1 hx
    refine ⟨T, Q, H', .push3 _ _ _ _ h0 h1 hx hy hS hq hv, Int.le_refl _, .on (by simp) rfl rfl, rfl, fun _ => rfl, pt_len .., fun z hz1 => ?_, fun _ => rfl, ?_⟩
    · by_cases hz : z = atOf k.links x
      · exact .inr (.inr ⟨rfl, hz⟩)
      · exact .inl (pt_other hz1 hz)
    · simp [-List.headD_eq_head?_getD, due]; split <;> omega
  | push3 x t S y h0 h1 hx hy hS hq hlx =>
    have hi2 : hiw (S * 4294967296 + y) = S := hi_of (by omega)
    by_cases hc : S = T
    · have hy2 := hq hc
      subst hc hy2
      have e : sstp L ⟨1, 3, k, x, S * 4294967296 + Q.headD 0, Q.headD 0, t⟩ = (ptq L k.head ((S + 1) * 4294967296 + x), ⟨1, 0, k, x, S * 4294967296 + Q.headD 0, Q.headD 0, t⟩) := by
        have a := turn_is H h9 x
        have b := swap_yes (m := ⟨1, 3, k, x, S * 4294967296 + Q.headD 0, Q.headD 0, t⟩) x hg hh
        simp only [a] at b
        exact b
      rw [e]
      refine ⟨S + 1, x :: Q, H.push h9 h0 h1 hx hlx, .done .., by omega, .put rfl rfl rfl rfl rfl, rfl, (fun h => by omega), pt_len .., elsew _ _ _, fun _ => rfl, ?_⟩
      simp [-List.headD_eq_head?_getD, due, hiT]
    · have e : sstp L ⟨1, 3, k, x, S * 4294967296 + y, y, t⟩ = (L, ⟨1, 1, k, x, S * 4294967296 + y, y, t⟩) := by
        exact swap_no (m := ⟨1, 3, k, x, S * 4294967296 + y, y, t⟩) x (by intro h3; simp only at h3; rw [hh] at h3; omega)
      rw [e]
      refine ⟨T, Q, H, .push1 _ _ _ _ h0 h1 hx, Int.le_refl _, .on (by simp) rfl rfl, rfl, fun _ => rfl, rfl, fun _ _ => .inl rfl, fun _ => rfl, ?_⟩
      simp [-List.headD_eq_head?_getD, due, hi2, hc]
  | pop1 x hh2 l t =>
    have a := H.ld0
    have b := H.low.1
    by_cases hz : Q.headD 0 = 0
    · have hQ := hd.2.2.1 hz
      have e : sstp L ⟨2, 1, k, x, hh2, l, t⟩ = (L, ⟨2, 0, k, 0, T * 4294967296 + Q.headD 0, l, t + 1⟩) := by
        have p := pop_first (m := ⟨2, 1, k, x, hh2, l, t⟩) rfl rfl a
        rw [p, if_pos (b.trans hz)]
      rw [e]
      refine ⟨T, Q, H, .done .., Int.le_refl _, .none rfl rfl rfl rfl hQ rfl, rfl, fun _ => rfl, rfl, fun _ _ => .inl rfl, (fun h => by cases h), ?_⟩
      simp [-List.headD_eq_head?_getD, due]
    · have e : sstp L ⟨2, 1, k, x, hh2, l, t⟩ = (L, ⟨2, 2, k, Q.headD 0, T * 4294967296 + Q.headD 0, l, t + 1⟩) := by
        have p := pop_first (m := ⟨2, 1, k, x, hh2, l, t⟩) rfl rfl a
        rw [p, if_neg (fun h => hz (b.symm.trans h)), b]
      rw [e]
      refine ⟨T, Q, H, .pop2 _ _ _ _ (by omega) ⟨t0, Int.le_refl _⟩ (fun _ => rfl), Int.le_refl _, .on (by simp) rfl rfl, rfl, fun _ => rfl, rfl, fun _ _ => .inl rfl, (fun h => by cases h), ?_⟩
      simp [-List.headD_eq_head?_getD, due, hiT]
  | pop2 y l t S hy hS hq =>
    have e : sstp L ⟨2, 2, k, y, S * 4294967296 + y, l, t⟩ = (L, ⟨2, 3, k, y, S * 4294967296 + y, low (ldq L (atOf k.links y)), t⟩) := by
      simp [sstp]
    rw [e]
    refine ⟨T, Q, H, .pop3 _ _ _ _ hy hS (fun hc => ⟨hq hc, ?_⟩) (by unfold low; omega), Int.le_refl _, .on (by simp) rfl rfl, rfl, fun _ => rfl, rfl, fun _ _ => .inl rfl, (fun h => by cases h), ?_⟩
    · have hyq := hq hc
      rw [H.ldx hy.1 hy.2]
      cases Q with
      | nil => simp at hyq; omega
      | cons q Q =>
        have e1 : y = q := by simpa using hyq
        subst e1
        have hs := H.second
        have hr : ∀ x ∈ Q, 1 ≤ x ∧ x ≤ (n : Int) := fun x hx => H.rng x (by simp [hx])
        have := headD_rng hr
        rw [hs]; unfold low; simp only [List.tail_cons]; omega
    · simp [-List.headD_eq_head?_getD, due]; split <;> omega
  | pop3 y l t S hy hS hq hl2 =>
    have hi2 : hiw (S * 4294967296 + y) = S := hi_of (by omega)
    by_cases hc : S = T
    · obtain ⟨hyq, hlq⟩ := hq hc
      cases Q with
      | nil => simp at hyq; omega
      | cons q Q =>
        have e1 : y = q := by simpa using hyq
        simp only [List.tail_cons] at hlq
        subst e1 hlq hc
        have e : sstp L ⟨2, 3, k, y, S * 4294967296 + y, Q.headD 0, t⟩ = (ptq L k.head ((S + 1) * 4294967296 + Q.headD 0), ⟨2, 0, k, y, S * 4294967296 + y, Q.headD 0, t⟩) := by
          have a := turn_is H h9 (Q.headD 0)
          simp only [List.headD_cons] at a
          have b := swap_yes (m := ⟨2, 3, k, y, S * 4294967296 + y, Q.headD 0, t⟩) (Q.headD 0) hg hh
          simp only [a] at b
          exact b
        rw [e]
        refine ⟨S + 1, Q, H.pop h9, .done .., by omega, .took rfl rfl rfl rfl, rfl, (fun h => by omega), pt_len .., elsew _ _ _, (fun h => by cases h), ?_⟩
        simp [-List.headD_eq_head?_getD, due, hi2]
    · have e : sstp L ⟨2, 3, k, y, S * 4294967296 + y, l, t⟩ = (L, ⟨2, 1, k, y, S * 4294967296 + y, l, t⟩) := by
        exact swap_no (m := ⟨2, 3, k, y, S * 4294967296 + y, l, t⟩) l (by intro h3; simp only at h3; rw [hh] at h3; omega)
      rw [e]
      refine ⟨T, Q, H, .pop1 .., Int.le_refl _, .on (by simp) rfl rfl, rfl, fun _ => rfl, rfl, fun _ _ => .inl rfl, (fun h => by cases h), ?_⟩
      simp [-List.headD_eq_head?_getD, due, hi2, hc]

/-- Another one's step. -/
theorem Sp.mono {n : Nat} {k : Sk} {L L' : List Int} {T T' : Int} {Q Q' : List Int} {m : Sm} (P : Sp n k L T Q m) (hT : T ≤ T') (hQ : T' = T → Q' = Q) (hx : m.kind = 1 → m.pc ≠ 0 → m.item ∉ Q' ∧ lkw k L' m.item = lkw k L m.item) : Sp n k L' T' Q' m := by
  cases P with
  | done => exact .done ..
  | push1 x hh l t h0 h1 h2 => exact .push1 _ _ _ _ h0 h1 (hx rfl (by simp)).1
  | push2 x t S y h0 h1 h2 hy hS hq => exact .push2 _ _ _ _ h0 h1 (hx rfl (by simp)).1 hy (by omega) (fun e => by rw [hQ (by omega)]; exact hq (by omega))
  | push3 x t S y h0 h1 h2 hy hS hq hl => exact .push3 _ _ _ _ h0 h1 (hx rfl (by simp)).1 hy (by omega) (fun e => by rw [hQ (by omega)]; exact hq (by omega)) (by have := (hx rfl (by simp)).2; simp only at this; rw [this]; exact hl)
  | pop1 => exact .pop1 ..
  | pop2 y l t S hy hS hq => exact .pop2 _ _ _ _ hy (by omega) (fun e => by rw [hQ (by omega)]; exact hq (by omega))
  | pop3 y l t S hy hS hq hl => exact .pop3 _ _ _ _ hy (by omega) (fun e => by rw [hQ (by omega)]; exact hq (by omega)) hl
/-- Another one's turn takes three steps more at most. -/
theorem due_mono (T T' : Int) (m : Sm) (hp : m.pc ≤ 3) : due T' m ≤ due T m + (if T' = T then 0 else 3) := by
  unfold due
  by_cases h : T' = T
  · subst h; rw [if_pos rfl]; omega
  · rw [if_neg h]; repeat' split
    all_goals omega
theorem due_top (T : Int) (m : Sm) (hp : m.pc ≤ 3) : due T m ≤ 5 := by
  unfold due; repeat' split
  all_goals omega
theorem Sp.pc_le {n : Nat} {k : Sk} {L : List Int} {T : Int} {Q : List Int} {m : Sm} (P : Sp n k L T Q m) : m.pc ≤ 3 := by cases P <;> simp
theorem Sp.k_is {n : Nat} {k : Sk} {L : List Int} {T : Int} {Q : List Int} {m : Sm} (P : Sp n k L T Q m) (hp : m.pc ≠ 0) : m.k = k := by cases P <;> simp at hp ⊢

/-! A walk. -/
def walkQ (L : List Int) (k : Sk) : Nat → Int → List Int
  | 0, _ => []
  | f + 1, p => if (0 ≤ p ∧ p < L.length) ∧ 0 < low (L.getD p.toNat 0) then low (L.getD p.toNat 0) :: walkQ L k f (atOf k.links (low (L.getD p.toNat 0))) else []
theorem walk_chain {n : Nat} {k : Sk} {L : List Int} (G : Gk n L.length k) : ∀ (f : Nat) {Q : List Int} {p : Int}, Q.length ≤ f → 0 ≤ p → p < L.length → (∀ q ∈ Q, 1 ≤ q ∧ q ≤ (n : Int)) → low (L.getD p.toNat 0) = Q.headD 0 → (∀ q R, Q = q :: R → Chain k L (lkw k L q) R) → walkQ L k f p = Q
  | 0, Q, p, hf, h0, h1, hr, he, hc => by
    have : Q = [] := List.eq_nil_of_length_eq_zero (by omega)
    subst this; rfl
  | f + 1, [], p, hf, h0, h1, hr, he, hc => by
    simp only [List.headD_nil] at he
    unfold walkQ; rw [he, if_neg (by omega)]
  | f + 1, q :: Q, p, hf, h0, h1, hr, he, hc => by
    have hq := hr q (by simp)
    have hs := G.small
    simp only [List.headD_cons] at he
    have hrQ : ∀ x ∈ Q, 1 ≤ x ∧ x ≤ (n : Int) := fun x hx => hr x (by simp [hx])
    have hd := headD_rng hrQ
    have hcq := hc q Q rfl
    have hh := hcq.head
    have hl := G.lk q hq.1 hq.2
    simp at hf
    unfold walkQ
    rw [he, if_pos (by omega), walk_chain G f (Q := Q) (by omega) hl.1 hl.2.1 hrQ (by show low (lkw k L q) = _; rw [hh]; unfold low; omega) (fun x R e => by subst e; exact hcq.2)]
theorem walk_stk {n : Nat} {k : Sk} {L : List Int} {T : Int} {Q : List Int} (H : Stk n k L T Q) (f : Nat) (hf : Q.length ≤ f) : walkQ L k f k.head = Q := by
  refine walk_chain H.g f hf H.g.hd.1 H.g.hd.2 H.rng ?_ (fun q R e => ?_)
  · rw [H.head]; exact H.low.1
  · subst e; exact H.chain.2
end Go.Proofs.YtpocihddecemfaaGreat

namespace Go.Proofs.YtpocihddecemfaaGreat
set_option linter.unusedVariables false
set_option linter.unusedSimpArgs false

/-- Where packets stand: the spare ones, the pool, each one's tasks, and how many. -/
structure Pg where
  sp : Sk
  po : Sk
  tk : Int → Int → Int
  mn : Int → Int
structure Gp (n N : Nat) (g : Pg) : Prop where
  s : Gk n N g.sp
  p : Gk n N g.po
  links : g.po.links = g.sp.links
  hne : g.sp.head ≠ g.po.head
  t : ∀ x j : Int, 1 ≤ x → x ≤ n → 0 ≤ j → j < 4 → 0 ≤ g.tk x j ∧ g.tk x j < N ∧ g.tk x j ≠ g.sp.head ∧ g.tk x j ≠ g.po.head
  tl : ∀ x j y : Int, 1 ≤ x → x ≤ n → 0 ≤ j → j < 4 → 1 ≤ y → y ≤ n → g.tk x j ≠ atOf g.sp.links y
  tm : ∀ x j y : Int, 1 ≤ x → x ≤ n → 0 ≤ j → j < 4 → 1 ≤ y → y ≤ n → g.tk x j ≠ g.mn y
  ti : ∀ x j y i : Int, 1 ≤ x → x ≤ n → 0 ≤ j → j < 4 → 1 ≤ y → y ≤ n → 0 ≤ i → i < 4 → g.tk x j = g.tk y i → x = y ∧ j = i
  m : ∀ x : Int, 1 ≤ x → x ≤ n → 0 ≤ g.mn x ∧ g.mn x < N ∧ g.mn x ≠ g.sp.head ∧ g.mn x ≠ g.po.head
  ml : ∀ x y : Int, 1 ≤ x → x ≤ n → 1 ≤ y → y ≤ n → g.mn x ≠ atOf g.sp.links y
  mi : ∀ x y : Int, 1 ≤ x → x ≤ n → 1 ≤ y → y ≤ n → g.mn x = g.mn y → x = y
/-- A machine: 1 puts, 2 takes, 3 puts back; its part (1 a pop of the spare ones, 2 tasks, 3 how many, 4 the last one; 0: finished). -/
structure Pm where
  kind : Nat
  pc : Nat
  ts : List Int
  j : Int
  p : Int
  x : Sm
def pstp (g : Pg) (L : List Int) (m : Pm) : List Int × Pm :=
  if m.pc = 1 then
    ((sstp L m.x).1,
     if (sstp L m.x).2.pc = 0 then (if (sstp L m.x).2.item = 0 then { m with x := mPop g.sp, p := 0 } else { m with x := (sstp L m.x).2, p := (sstp L m.x).2.item, pc := 2 })
     else { m with x := (sstp L m.x).2 })
  else if m.pc = 2 then
    (ptq L (g.tk m.p m.j) (m.ts.getD m.j.toNat 0), { m with j := m.j + 1, pc := if m.j + 1 = m.ts.length then 3 else 2 })
  else if m.pc = 3 then
    (ptq L (g.mn m.p) m.ts.length, { m with x := mPush g.po m.p, pc := 4 })
  else if m.pc = 4 then
    ((sstp L m.x).1,
     if (sstp L m.x).2.pc = 0 then { m with x := (sstp L m.x).2, p := (sstp L m.x).2.item, pc := 0 } else { m with x := (sstp L m.x).2 })
  else (L, m)
def mnone : Sm := ⟨0, 0, ⟨0, []⟩, 0, 0, 0, 0⟩
def pPut (g : Pg) (ts : List Int) : Pm := if ts = [] then ⟨1, 0, [], 0, 0, mnone⟩ else ⟨1, 1, ts.take 4, 0, 0, mPop g.sp⟩
def pTake (g : Pg) : Pm := ⟨2, 4, [], 0, 0, mPop g.po⟩
def pBack (n : Nat) (g : Pg) (p : Int) : Pm := if p < 1 ∨ (n : Int) < p then ⟨3, 0, [], 0, 0, mnone⟩ else ⟨3, 4, [], 0, 0, mPush g.sp p⟩
def pPacket (m : Pm) : Int := if 0 < m.pc then 0 else m.p

/-- What is in a packet. -/
def tw (g : Pg) (L : List Int) (p : Int) : Int := L.getD (g.tk p 0).toNat 0
def mw (g : Pg) (L : List Int) (p : Int) : Int := L.getD (g.mn p).toNat 0
/-- Where a machine stands that puts one task, takes or puts back; h: the packets that it has; w: the tasks that it is about to put. -/
inductive Th (n : Nat) (g : Pg) (L : List Int) (Ts : Int) (Qs : List Int) (Tp : Int) (Qp : List Int) : Pm → List Int → List Int → Prop
  | idle (kd : Nat) (ts : List Int) (j p : Int) (x : Sm) (h : List Int) (hl : h.length ≤ 1) : Th n g L Ts Qs Tp Qp ⟨kd, 0, ts, j, p, x⟩ h []
  | put1 (t p : Int) (x : Sm) (hx : Sp n g.sp L Ts Qs x) (hk : x.kind = 2) (hp : x.pc ≠ 0) : Th n g L Ts Qs Tp Qp ⟨1, 1, [t], 0, p, x⟩ [] [t]
  | put2 (t p : Int) (x : Sm) (hr : 1 ≤ p ∧ p ≤ n) : Th n g L Ts Qs Tp Qp ⟨1, 2, [t], 0, p, x⟩ [p] [t]
  | put3 (t p : Int) (x : Sm) (hr : 1 ≤ p ∧ p ≤ n) (ht : tw g L p = t) : Th n g L Ts Qs Tp Qp ⟨1, 3, [t], 1, p, x⟩ [p] [t]
  | put4 (t p : Int) (x : Sm) (hr : 1 ≤ p ∧ p ≤ n) (ht : tw g L p = t) (hm : mw g L p = 1) (hx : Sp n g.po L Tp Qp x) (hk : x.kind = 1) (hi : x.item = p) (hp : x.pc ≠ 0) : Th n g L Ts Qs Tp Qp ⟨1, 4, [t], 1, p, x⟩ [p] [t]
  | take (ts : List Int) (j p : Int) (x : Sm) (hx : Sp n g.po L Tp Qp x) (hk : x.kind = 2) (hp : x.pc ≠ 0) : Th n g L Ts Qs Tp Qp ⟨2, 4, ts, j, p, x⟩ [] []
  | back (ts : List Int) (j p0 p : Int) (x : Sm) (hr : 1 ≤ p ∧ p ≤ n) (hx : Sp n g.sp L Ts Qs x) (hk : x.kind = 1) (hi : x.item = p) (hp : x.pc ≠ 0) : Th n g L Ts Qs Tp Qp ⟨3, 4, ts, j, p0, x⟩ [p] []
/-- How many own steps it has left, if nobody else turns a head; how often it turns one yet. -/
def pdue (Ts Tp : Int) (m : Pm) : Int :=
  if m.pc = 0 then 0 else if m.pc = 1 then due Ts m.x + 5 else if m.pc = 2 then 5 else if m.pc = 3 then 4 else if m.kind = 3 then due Ts m.x else due Tp m.x
def fut (m : Pm) : Int := if m.pc = 0 then 0 else if m.pc = 1 then 2 else 1
/-- What a step is. -/
inductive PEv (g : Pg) (L' : List Int) (m m' : Pm) (Qs Qs' Qp Qp' h h' w w' : List Int) : Prop
  | on (hp : m'.pc ≠ 0) (hs : Qs' = Qs) (hq : Qp' = Qp) (hh : h' = h) (hw : w' = w)
  | got (q : Int) (hp : m'.pc ≠ 0) (hk : m.kind = 1) (hs : Qs = q :: Qs') (hq : Qp' = Qp) (hh : h = []) (hh' : h' = [q]) (hw : w' = w)
  | put (p t : Int) (hp : m'.pc = 0) (hk : m.kind = 1) (hs : Qs' = Qs) (hq : Qp' = p :: Qp) (hh : h = [p]) (hh' : h' = []) (hw : w = [t]) (hw' : w' = []) (ht : tw g L' p = t) (hm : mw g L' p = 1)
  | took (p : Int) (hp : m'.pc = 0) (hk : m.kind = 2) (hs : Qs' = Qs) (hq : Qp = p :: Qp') (hh : h = []) (hh' : h' = [p]) (hw : w = []) (hw' : w' = []) (hm : m'.p = p)
  | none (hp : m'.pc = 0) (hk : m.kind = 2) (hs : Qs' = Qs) (hq : Qp' = Qp) (hh : h = []) (hh' : h' = []) (hw : w = []) (hw' : w' = []) (hm : m'.p = 0)
  | back (p : Int) (hp : m'.pc = 0) (hk : m.kind = 3) (hs : Qs' = p :: Qs) (hq : Qp' = Qp) (hh : h = [p]) (hh' : h' = []) (hw : w = []) (hw' : w' = [])
/-- Words that a machine may change which has these packets. -/
def OwnW (g : Pg) (h : List Int) (q : Int) : Prop := q = g.sp.head ∨ q = g.po.head ∨ ∃ x ∈ h, q = atOf g.sp.links x ∨ q = g.mn x ∨ q = g.tk x 0

section
variable {n : Nat} {g : Pg} {L : List Int} {Ts Tp : Int} {Qs Qp : List Int}
theorem Th.mono {L' : List Int} {Ts' Tp' : Int} {Qs' Qp' : List Int} {m : Pm} {h w : List Int} (P : Th n g L Ts Qs Tp Qp m h w) (G : g.po.links = g.sp.links)
    (h1 : Ts ≤ Ts') (h2 : Ts' = Ts → Qs' = Qs) (h3 : Tp ≤ Tp') (h4 : Tp' = Tp → Qp' = Qp)
    (hx : ∀ x ∈ h, x ∉ Qs' ∧ x ∉ Qp' ∧ lkw g.sp L' x = lkw g.sp L x ∧ tw g L' x = tw g L x ∧ mw g L' x = mw g L x) : Th n g L' Ts' Qs' Tp' Qp' m h w := by
  have hlk : ∀ x, lkw g.po L' x = lkw g.sp L' x ∧ lkw g.po L x = lkw g.sp L x := fun x => by unfold lkw; rw [G]; exact ⟨rfl, rfl⟩
  cases P with
  | idle kd ts j p x h hl => exact .idle _ _ _ _ _ _ hl
  | put1 t p x hX hk hp => exact .put1 _ _ _ (hX.mono h1 h2 (fun e => by rw [hk] at e; cases e)) hk hp
  | put2 t p x hr => exact .put2 _ _ _ hr
  | put3 t p x hr ht => exact .put3 _ _ _ hr (by rw [(hx p (by simp)).2.2.2.1]; exact ht)
  | put4 t p x hr ht hm hX hk hi hp =>
    have a := hx p (by simp)
    exact .put4 _ _ _ hr (by rw [a.2.2.2.1]; exact ht) (by rw [a.2.2.2.2]; exact hm) (hX.mono h3 h4 (fun _ _ => by rw [hi]; exact ⟨a.2.1, by rw [(hlk p).1, (hlk p).2]; exact a.2.2.1⟩)) hk hi hp
  | take ts j p x hX hk hp => exact .take _ _ _ _ (hX.mono h3 h4 (fun e => by rw [hk] at e; cases e)) hk hp
  | back ts j p0 p x hr hX hk hi hp =>
    have a := hx p (by simp)
    exact .back _ _ _ _ _ hr (hX.mono h1 h2 (fun _ _ => by rw [hi]; exact ⟨a.1, a.2.2.1⟩)) hk hi hp
theorem pdue_mono {Ts' Tp' : Int} {m : Pm} {h w : List Int} (P : Th n g L Ts Qs Tp Qp m h w) (hc : Ts' = Ts ∨ Tp' = Tp) :
    pdue Ts' Tp' m ≤ pdue Ts Tp m + (if Ts' = Ts ∧ Tp' = Tp then 0 else 3) := by
  cases P with
  | idle => simp [pdue]; split <;> omega
  | put1 t p x hX hk hp =>
    have := due_mono Ts Ts' x hX.pc_le
    simp only [pdue]; simp
    repeat' split at this
    all_goals split <;> omega
  | put2 t p x hr => simp [pdue]; split <;> omega
  | put3 t p x hr ht => simp [pdue]; split <;> omega
  | put4 t p x hr ht hm hX hk hi hp =>
    have := due_mono Tp Tp' x hX.pc_le
    simp only [pdue]; simp
    repeat' split at this
    all_goals split <;> omega
  | take ts j p x hX hk hp =>
    have := due_mono Tp Tp' x hX.pc_le
    simp only [pdue]; simp
    repeat' split at this
    all_goals split <;> omega
  | back ts j p0 p x hr hX hk hi hp =>
    have := due_mono Ts Ts' x hX.pc_le
    simp only [pdue]; simp
    repeat' split at this
    all_goals split <;> omega

/-- Another stack of the same links. -/
theorem stk_other {k k' : Sk} {L L1 : List Int} {T : Int} {Q : List Int} {kd : Nat} {it : Int} (g0 : Gk n L.length k) (H : Stk n k' L T Q) (hl : k'.links = k.links) (hne : k'.head ≠ k.head) (hlen : L1.length = L.length)
    (hf : ∀ q : Int, 0 ≤ q → L1.getD q.toNat 0 = L.getD q.toNat 0 ∨ q = k.head ∨ (kd = 1 ∧ q = atOf k.links it)) (hit : kd = 1 → 1 ≤ it ∧ it ≤ n ∧ it ∉ Q) : Stk n k' L1 T Q := by
  refine H.same hlen ?_ fun q hq => ?_
  · rcases hf _ H.g.hd.1 with e | e | ⟨e, e2⟩
    · exact e
    · exact absurd e hne
    · have a := hit e
      have := (H.g.lk it a.1 a.2.1).2.2
      rw [hl] at this; exact absurd e2.symm this
  · have r := H.rng q hq
    have b := H.g.lk q r.1 r.2
    rcases hf _ b.1 with e | e | ⟨e, e2⟩
    · exact e
    · have := (g0.lk q r.1 r.2).2.2
      rw [hl] at e; exact absurd e this
    · have a := hit e
      rw [hl] at e2
      have := g0.inj _ _ r.1 r.2 a.1 a.2.1 e2
      exact absurd (this ▸ hq) a.2.2
theorem sev_T {m m' : Sm} {T T' : Int} {Q Q' : List Int} (e : SEv m m' T T' Q Q') : T' = T ∨ (T' = T + 1 ∧ m'.pc = 0) := by
  cases e with
  | on h hT hQ => exact .inl hT
  | put h hk hT hQ hi => exact .inr ⟨hT, h⟩
  | took h hk hT hQ => exact .inr ⟨hT, h⟩
  | none h hk hT hQ hn hi => exact .inl hT
theorem pk_step {m : Pm} {h w : List Int} (G : Gp n L.length g) (Hs : Stk n g.sp L Ts Qs) (Hp : Stk n g.po L Tp Qp) (P : Th n g L Ts Qs Tp Qp m h w) (hp : m.pc ≠ 0) (h9 : Ts + 1 < 100000) (h8 : Tp + 1 < 100000)
    (hd : ∀ x ∈ h, x ∉ Qs ∧ x ∉ Qp) (hne : m.pc = 1 → Qs ≠ []) :
    ∃ Ts' Qs' Tp' Qp' h' w', Stk n g.sp (pstp g L m).1 Ts' Qs' ∧ Stk n g.po (pstp g L m).1 Tp' Qp' ∧ Th n g (pstp g L m).1 Ts' Qs' Tp' Qp' (pstp g L m).2 h' w' ∧ (pstp g L m).1.length = L.length ∧
      Ts ≤ Ts' ∧ Ts' ≤ Ts + 1 ∧ (Ts' = Ts → Qs' = Qs) ∧ Tp ≤ Tp' ∧ Tp' ≤ Tp + 1 ∧ (Tp' = Tp → Qp' = Qp) ∧ (Ts' = Ts ∨ Tp' = Tp) ∧
      PEv g (pstp g L m).1 m (pstp g L m).2 Qs Qs' Qp Qp' h h' w w' ∧
      (∀ q : Int, 0 ≤ q → (pstp g L m).1.getD q.toNat 0 = L.getD q.toNat 0 ∨ OwnW g h q) ∧
      pdue Ts' Tp' (pstp g L m).2 + 1 ≤ pdue Ts Tp m ∧ fut (pstp g L m).2 + (if Ts' = Ts ∧ Tp' = Tp then 0 else 1) ≤ fut m ∧ (pstp g L m).2.kind = m.kind := by
  have hgl := G.links
  have wtw : ∀ (L1 : List Int) (k : Sk) (kd : Nat) (it p : Int), (k = g.sp ∨ k = g.po) → (∀ q : Int, 0 ≤ q → L1.getD q.toNat 0 = L.getD q.toNat 0 ∨ q = k.head ∨ (kd = 1 ∧ q = atOf k.links it)) → (kd = 1 → 1 ≤ it ∧ it ≤ n) → 1 ≤ p → p ≤ n → tw g L1 p = tw g L p ∧ mw g L1 p = mw g L p := by
    intro L1 k kd it p hk hf hit p0 p1
    have a := G.t p 0 p0 p1 (by omega) (by omega)
    have b := G.m p p0 p1
    have hkl : k.links = g.sp.links := by
      rcases hk with e | e
      · rw [e]
      · rw [e]; exact hgl
    constructor
    · rcases hf _ a.1 with e | e | ⟨e, e2⟩
      · exact e
      · rcases hk with ek | ek <;> rw [ek] at e
        · exact absurd e a.2.2.1
        · exact absurd e a.2.2.2
      · rw [hkl] at e2
        exact absurd e2 (G.tl p 0 it p0 p1 (by omega) (by omega) (hit e).1 (hit e).2)
    · rcases hf _ b.1 with e | e | ⟨e, e2⟩
      · exact e
      · rcases hk with ek | ek <;> rw [ek] at e
        · exact absurd e b.2.2.1
        · exact absurd e b.2.2.2
      · rw [hkl] at e2
        exact absurd e2 (G.ml p it p0 p1 (hit e).1 (hit e).2)
  cases P with
  | idle => exact absurd rfl hp
  | put1 t p x hX hk hpx =>
    obtain ⟨T', Q', H', sa', h1, ev, hkd, hq, hln, hL, hit, hdu⟩ := s_step Hs hX hpx h9
    have e : pstp g L ⟨1, 1, [t], 0, p, x⟩ = ((sstp L x).1, if (sstp L x).2.pc = 0 then (if (sstp L x).2.item = 0 then ⟨1, 1, [t], 0, 0, mPop g.sp⟩ else ⟨1, 2, [t], 0, (sstp L x).2.item, (sstp L x).2⟩) else ⟨1, 1, [t], 0, p, (sstp L x).2⟩) := by simp [pstp]
    have hpo := stk_other (L1 := (sstp L x).1) G.s Hp hgl (fun e => G.hne e.symm) hln hL (fun e => by rw [hk] at e; cases e)
    have own : ∀ q : Int, 0 ≤ q → (sstp L x).1.getD q.toNat 0 = L.getD q.toNat 0 ∨ OwnW g [] q := fun q h0 => by
      rcases hL q h0 with e | e | ⟨e, _⟩
      · exact .inl e
      · exact .inr (.inl e)
      · rw [hk] at e; cases e
    rw [e]
    cases ev with
    | on h4 hT hQ =>
      subst hT hQ
      rw [if_neg h4]
      refine ⟨_, _, Tp, Qp, [], [t], H', hpo, .put1 _ _ _ sa' (hkd.trans hk) h4, hln, h1, by omega, fun _ => rfl, Int.le_refl _, by omega, fun _ => rfl, .inl rfl, .on (by simp) rfl rfl rfl rfl, own, ?_, ?_, rfl⟩
      · simp only [pdue]; simp; omega
      · simp [fut]
    | put h4 h5 => rw [hk] at h5; cases h5
    | none h4 h5 hT hQ hn hi => exact absurd hn (hne rfl)
    | took h4 h5 hT hQ =>
      have hr := Hs.rng (sstp L x).2.item (by rw [hQ]; simp)
      rw [if_pos h4, if_neg (by omega)]
      refine ⟨T', Q', Tp, Qp, [(sstp L x).2.item], [t], H', hpo, .put2 _ _ _ hr, hln, h1, by omega, fun e => by omega, Int.le_refl _, by omega, fun _ => rfl, .inr rfl, .got _ (by simp) rfl hQ rfl rfl rfl rfl, own, ?_, ?_, rfl⟩
      · simp only [pdue]; simp
        have : due T' (sstp L x).2 = 0 := by simp [due, h4]
        omega
      · simp [fut]; omega
  | put2 t p x hr =>
    have e : pstp g L ⟨1, 2, [t], 0, p, x⟩ = (ptq L (g.tk p 0) t, ⟨1, 3, [t], 1, p, x⟩) := by simp [pstp]
    have a := G.t p 0 hr.1 hr.2 (by omega) (by omega)
    rw [e]
    refine ⟨Ts, Qs, Tp, Qp, [p], [t], Hs.word a.2.2.1 (fun q hq => G.tl _ _ _ hr.1 hr.2 (by omega) (by omega) (Hs.rng q hq).1 (Hs.rng q hq).2),
      Hp.word a.2.2.2 (fun q hq => by rw [hgl]; exact G.tl _ _ _ hr.1 hr.2 (by omega) (by omega) (Hp.rng q hq).1 (Hp.rng q hq).2), .put3 _ _ _ hr (pt_same ⟨a.1, a.2.1⟩), pt_len .., Int.le_refl _, by omega, fun _ => rfl, Int.le_refl _, by omega, fun _ => rfl, .inl rfl, .on (by simp) rfl rfl rfl rfl, fun q h0 => ?_, ?_, ?_, rfl⟩
    · by_cases hq : q = g.tk p 0
      · exact .inr (.inr (.inr ⟨p, by simp, .inr (.inr hq)⟩))
      · exact .inl (pt_other h0 hq)
    · simp [pdue]
    · simp [fut]
  | put3 t p x hr ht =>
    have e : pstp g L ⟨1, 3, [t], 1, p, x⟩ = (ptq L (g.mn p) 1, ⟨1, 4, [t], 1, p, mPush g.po p⟩) := by simp [pstp]
    have a := G.m p hr.1 hr.2
    have b := G.t p 0 hr.1 hr.2 (by omega) (by omega)
    have hs := G.s.small
    have ei : itemOf p = p := by unfold itemOf; rw [if_neg (by omega)]
    have hX : Sp n g.po (ptq L (g.mn p) 1) Tp Qp (mPush g.po p) := by
      unfold mPush; rw [ei]; exact .push1 _ _ _ _ hr.1 hr.2 (hd p (by simp)).2
    rw [e]
    refine ⟨Ts, Qs, Tp, Qp, [p], [t], Hs.word a.2.2.1 (fun q hq => G.ml _ _ hr.1 hr.2 (Hs.rng q hq).1 (Hs.rng q hq).2),
      Hp.word a.2.2.2 (fun q hq => by rw [hgl]; exact G.ml _ _ hr.1 hr.2 (Hp.rng q hq).1 (Hp.rng q hq).2), .put4 _ _ _ hr ?_ (pt_same ⟨a.1, a.2.1⟩) hX rfl ei (by simp [mPush]), pt_len .., Int.le_refl _, by omega, fun _ => rfl, Int.le_refl _, by omega, fun _ => rfl, .inl rfl, .on (by simp) rfl rfl rfl rfl, fun q h0 => ?_, ?_, ?_, rfl⟩
    · rw [← ht]; exact pt_other b.1 (G.tm p 0 p hr.1 hr.2 (by omega) (by omega) hr.1 hr.2)
    · by_cases hq : q = g.mn p
      · exact .inr (.inr (.inr ⟨p, by simp, .inr (.inl hq)⟩))
      · exact .inl (pt_other h0 hq)
    · simp [pdue, due, mPush]
    · simp [fut]
  | put4 t p x hr ht hm hX hk hi hpx =>
    obtain ⟨T', Q', H', sa', h1, ev, hkd, hq, hln, hL, hit, hdu⟩ := s_step Hp hX hpx h8
    have e : pstp g L ⟨1, 4, [t], 1, p, x⟩ = ((sstp L x).1, if (sstp L x).2.pc = 0 then ⟨1, 0, [t], 1, (sstp L x).2.item, (sstp L x).2⟩ else ⟨1, 4, [t], 1, p, (sstp L x).2⟩) := by simp [pstp]
    have hi2 := hit hk
    have hsp := stk_other (L1 := (sstp L x).1) G.p Hs hgl.symm G.hne hln hL (fun _ => by rw [hi]; exact ⟨hr.1, hr.2, (hd p (by simp)).1⟩)
    have ww := wtw (sstp L x).1 g.po x.kind x.item p (.inr rfl) hL (fun _ => by rw [hi]; exact hr) hr.1 hr.2
    have own : ∀ q : Int, 0 ≤ q → (sstp L x).1.getD q.toNat 0 = L.getD q.toNat 0 ∨ OwnW g [p] q := fun q h0 => by
      rcases hL q h0 with e | e | ⟨_, e⟩
      · exact .inl e
      · exact .inr (.inr (.inl e))
      · rw [hi, hgl] at e
        exact .inr (.inr (.inr ⟨p, by simp, .inl e⟩))
    rw [e]
    cases ev with
    | on h4 hT hQ =>
      subst hT hQ
      rw [if_neg h4]
      refine ⟨Ts, Qs, _, _, [p], [t], hsp, H', .put4 _ _ _ hr (ww.1.trans ht) (ww.2.trans hm) sa' (hkd.trans hk) (hi2.trans hi) h4, hln, Int.le_refl _, by omega, fun _ => rfl, h1, by omega, fun _ => rfl, .inl rfl, .on (by simp) rfl rfl rfl rfl, own, ?_, ?_, rfl⟩
      · simp only [pdue]; simp; omega
      · simp [fut]
    | took h4 h5 => rw [hk] at h5; cases h5
    | none h4 h5 => rw [hk] at h5; cases h5
    | put h4 h5 hT hQ hi3 =>
      rw [if_pos h4]
      rw [hi2, hi] at hQ
      refine ⟨Ts, Qs, T', Q', [], [], hsp, H', .idle _ _ _ _ _ _ (by simp), hln, Int.le_refl _, by omega, fun _ => rfl, h1, by omega, fun e => by omega, .inl rfl, .put p t rfl rfl rfl hQ rfl rfl rfl rfl (ww.1.trans ht) (ww.2.trans hm), own, ?_, ?_, rfl⟩
      · simp only [pdue]; simp
        have : due T' (sstp L x).2 = 0 := by simp [due, h4]
        omega
      · simp [fut]; split <;> omega
  | take ts j p x hX hk hpx =>
    obtain ⟨T', Q', H', sa', h1, ev, hkd, hq, hln, hL, hit, hdu⟩ := s_step Hp hX hpx h8
    have e : pstp g L ⟨2, 4, ts, j, p, x⟩ = ((sstp L x).1, if (sstp L x).2.pc = 0 then ⟨2, 0, ts, j, (sstp L x).2.item, (sstp L x).2⟩ else ⟨2, 4, ts, j, p, (sstp L x).2⟩) := by simp [pstp]
    have hsp := stk_other (L1 := (sstp L x).1) G.p Hs hgl.symm G.hne hln hL (fun e => by rw [hk] at e; cases e)
    have own : ∀ q : Int, 0 ≤ q → (sstp L x).1.getD q.toNat 0 = L.getD q.toNat 0 ∨ OwnW g [] q := fun q h0 => by
      rcases hL q h0 with e | e | ⟨e, _⟩
      · exact .inl e
      · exact .inr (.inr (.inl e))
      · rw [hk] at e; cases e
    rw [e]
    cases ev with
    | on h4 hT hQ =>
      subst hT hQ
      rw [if_neg h4]
      refine ⟨Ts, Qs, _, _, [], [], hsp, H', .take _ _ _ _ sa' (hkd.trans hk) h4, hln, Int.le_refl _, by omega, fun _ => rfl, h1, by omega, fun _ => rfl, .inl rfl, .on (by simp) rfl rfl rfl rfl, own, ?_, ?_, rfl⟩
      · simp only [pdue]; simp; omega
      · simp [fut]
    | put h4 h5 => rw [hk] at h5; cases h5
    | none h4 h5 hT hQ hn hi3 =>
      subst hT hQ
      rw [if_pos h4]
      refine ⟨Ts, Qs, _, _, [], [], hsp, H', .idle _ _ _ _ _ _ (by simp), hln, Int.le_refl _, by omega, fun _ => rfl, h1, by omega, fun _ => rfl, .inl rfl, .none rfl rfl rfl rfl rfl rfl rfl rfl hi3, own, ?_, ?_, rfl⟩
      · simp only [pdue]; simp
        have : due T' (sstp L x).2 = 0 := by simp [due, h4]
        omega
      · simp [fut]
    | took h4 h5 hT hQ =>
      rw [if_pos h4]
      refine ⟨Ts, Qs, T', Q', [(sstp L x).2.item], [], hsp, H', .idle _ _ _ _ _ _ (by simp), hln, Int.le_refl _, by omega, fun _ => rfl, h1, by omega, fun e => by omega, .inl rfl, .took _ rfl rfl rfl hQ rfl rfl rfl rfl rfl, own, ?_, ?_, rfl⟩
      · simp only [pdue]; simp
        have : due T' (sstp L x).2 = 0 := by simp [due, h4]
        omega
      · simp [fut]; split <;> omega
  | back ts j p0 p x hr hX hk hi hpx =>
    obtain ⟨T', Q', H', sa', h1, ev, hkd, hq, hln, hL, hit, hdu⟩ := s_step Hs hX hpx h9
    have e : pstp g L ⟨3, 4, ts, j, p0, x⟩ = ((sstp L x).1, if (sstp L x).2.pc = 0 then ⟨3, 0, ts, j, (sstp L x).2.item, (sstp L x).2⟩ else ⟨3, 4, ts, j, p0, (sstp L x).2⟩) := by simp [pstp]
    have hi2 := hit hk
    have hpo := stk_other (L1 := (sstp L x).1) G.s Hp hgl (fun e => G.hne e.symm) hln hL (fun _ => by rw [hi]; exact ⟨hr.1, hr.2, (hd p (by simp)).2⟩)
    have own : ∀ q : Int, 0 ≤ q → (sstp L x).1.getD q.toNat 0 = L.getD q.toNat 0 ∨ OwnW g [p] q := fun q h0 => by
      rcases hL q h0 with e | e | ⟨_, e⟩
      · exact .inl e
      · exact .inr (.inl e)
      · rw [hi] at e
        exact .inr (.inr (.inr ⟨p, by simp, .inl e⟩))
    rw [e]
    cases ev with
    | on h4 hT hQ =>
      subst hT hQ
      rw [if_neg h4]
      refine ⟨_, _, Tp, Qp, [p], [], H', hpo, .back _ _ _ _ _ hr sa' (hkd.trans hk) (hi2.trans hi) h4, hln, h1, by omega, fun _ => rfl, Int.le_refl _, by omega, fun _ => rfl, .inl rfl, .on (by simp) rfl rfl rfl rfl, own, ?_, ?_, rfl⟩
      · simp only [pdue]; simp; omega
      · simp [fut]
    | took h4 h5 => rw [hk] at h5; cases h5
    | none h4 h5 => rw [hk] at h5; cases h5
    | put h4 h5 hT hQ hi3 =>
      rw [if_pos h4]
      rw [hi2, hi] at hQ
      refine ⟨T', Q', Tp, Qp, [], [], H', hpo, .idle _ _ _ _ _ _ (by simp), hln, h1, by omega, fun e => by omega, Int.le_refl _, by omega, fun _ => rfl, .inr rfl, .back p rfl rfl hQ rfl rfl rfl rfl rfl, own, ?_, ?_, rfl⟩
      · simp only [pdue]; simp
        have : due T' (sstp L x).2 = 0 := by simp [due, h4]
        omega
      · simp [fut]; omega
end
end Go.Proofs.YtpocihddecemfaaGreat

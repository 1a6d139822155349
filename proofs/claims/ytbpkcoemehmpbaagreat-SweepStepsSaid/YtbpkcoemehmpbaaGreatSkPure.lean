/- A stack's machines over words, wherever its head and its links stand: what a step is, and what holds however the steps of some come one behind the other. -/
import Derived.IntWalk
namespace Go.Proofs.YtbpkcoemehmpbaaGreat
set_option linter.unusedVariables false
set_option linter.unusedSimpArgs false

def ldq (L : List Int) (at' : Int) : Int := if 0 ≤ at' ∧ at' < L.length then L.getD at'.toNat 0 else 0
def ptq (L : List Int) (at' v : Int) : List Int := if 0 ≤ at' ∧ at' < L.length then L.set at'.toNat v else L
def hiw (w : Int) : Int := w / 4294967296
def low (w : Int) : Int := w % 4294967296
def turnw (w n : Int) : Int := ((hiw w + 1) % 4294967296) * 4294967296 + n
/-- Where a stack stands: its head, and each thing's link. -/
structure Sk where
  head : Int
  links : List Int
/-- A link's place; -1: there is none such. -/
def atOf (l : List Int) (x : Int) : Int := if 1 ≤ x ∧ x ≤ l.length then l.getD (x - 1).toNat 0 else -1

/-- A machine: 1 pushes, 2 pops; its next step (0: finished), and what it knows. -/
structure Sm where
  kind : Nat
  pc : Nat
  k : Sk
  item : Int
  h : Int
  link : Int
  tries : Int
def swapS (L : List Int) (m : Sm) (n : Int) : List Int × Sm :=
  if (0 ≤ m.k.head ∧ m.k.head < L.length) ∧ L.getD m.k.head.toNat 0 = m.h then (ptq L m.k.head (turnw m.h n), { m with pc := 0 }) else (L, { m with pc := 1 })
def sstp (L : List Int) (m : Sm) : List Int × Sm :=
  if m.pc = 0 then (L, m)
  else if m.pc = 1 then
    (if m.kind = 1 then (L, { m with pc := 2, h := ldq L m.k.head, link := low (ldq L m.k.head), tries := m.tries + 1 })
     else if low (ldq L m.k.head) = 0 then (L, { m with pc := 0, h := ldq L m.k.head, item := 0, tries := m.tries + 1 })
     else (L, { m with pc := 2, h := ldq L m.k.head, item := low (ldq L m.k.head), tries := m.tries + 1 }))
  else if m.pc = 2 then
    (if m.kind = 1 then (ptq L (atOf m.k.links m.item) m.link, { m with pc := 3 })
     else (L, { m with pc := 3, link := low (ldq L (atOf m.k.links m.item)) }))
  else (if m.kind = 1 then swapS L m m.item else swapS L m m.link)
def itemOf (x : Int) : Int := if x < 1 ∨ 4294967295 < x then 0 else x
def mPush (k : Sk) (x : Int) : Sm := ⟨1, 1, k, itemOf x, 0, 0, 0⟩
def mPop (k : Sk) : Sm := ⟨2, 1, k, 0, 0, 0, 0⟩
/-- What was put or taken, where it is finished. -/
def sItem (m : Sm) : Int := if m.pc = 0 then m.item else 0


theorem pt_len (L : List Int) (p v : Int) : (ptq L p v).length = L.length := by unfold ptq; split <;> simp
theorem pt_same {L : List Int} {p v : Int} (h : 0 ≤ p ∧ p < L.length) : (ptq L p v).getD p.toNat 0 = v := by
  unfold ptq; rw [if_pos h]
  simp only [List.getD, List.getElem?_set, if_true]; rw [if_pos (by omega)]; rfl
theorem pt_other {L : List Int} {p v q : Int} (hq : 0 ≤ q) (h : q ≠ p) : (ptq L p v).getD q.toNat 0 = L.getD q.toNat 0 := by
  unfold ptq
  split
  · simp only [List.getD, List.getElem?_set]; rw [if_neg (by omega)]
  · rfl
theorem ld_in {L : List Int} {p : Int} (h : 0 ≤ p ∧ p < L.length) : ldq L p = L.getD p.toNat 0 := by unfold ldq; rw [if_pos h]
/-- A stack's places among N words: its head, and n links. -/
structure Gk (n N : Nat) (k : Sk) : Prop where
  small : n ≤ 100000
  hd : 0 ≤ k.head ∧ k.head < N
  lk : ∀ x : Int, 1 ≤ x → x ≤ n → 0 ≤ atOf k.links x ∧ atOf k.links x < N ∧ atOf k.links x ≠ k.head
  inj : ∀ x y : Int, 1 ≤ x → x ≤ n → 1 ≤ y → y ≤ n → atOf k.links x = atOf k.links y → x = y
/-- What a thing's link tells. -/
def lkw (k : Sk) (L : List Int) (x : Int) : Int := L.getD (atOf k.links x).toNat 0
/-- The things from this one on, as memory tells: Q. -/
def Chain (k : Sk) (L : List Int) : Int → List Int → Prop
  | x, [] => x = 0
  | x, q :: Q => x = q ∧ Chain k L (lkw k L q) Q
theorem Chain.head {k : Sk} {L : List Int} {x : Int} {Q : List Int} (h : Chain k L x Q) : x = Q.headD 0 := by
  cases Q with
  | nil => exact h
  | cons q Q => exact h.1
/-- Words elsewhere may change. -/
theorem Chain.other {k : Sk} {L L' : List Int} : ∀ {Q : List Int} {x : Int}, Chain k L x Q → (∀ q ∈ Q, lkw k L' q = lkw k L q) → Chain k L' x Q
  | [], x, h, _ => h
  | q :: Q, x, h, e => ⟨h.1, by rw [e q (by simp)]; exact h.2.other (fun y hy => e y (by simp [hy]))⟩

/-- A stack in memory of n things: Q, the first one first; T: how often the head has turned. -/
structure Stk (n : Nat) (k : Sk) (L : List Int) (T : Int) (Q : List Int) : Prop where
  g : Gk n L.length k
  t0 : 0 ≤ T
  t1 : T < 100000
  head : L.getD k.head.toNat 0 = T * 4294967296 + Q.headD 0
  rng : ∀ q ∈ Q, 1 ≤ q ∧ q ≤ n
  nd : Q.Nodup
  chain : Chain k L (Q.headD 0) Q
theorem headD_rng {n : Nat} {Q : List Int} (h : ∀ q ∈ Q, 1 ≤ q ∧ q ≤ (n : Int)) : 0 ≤ Q.headD 0 ∧ Q.headD 0 ≤ n ∧ (Q.headD 0 = 0 ↔ Q = []) := by
  cases Q with
  | nil => simp
  | cons q Q => have := h q (by simp); simp; omega
section
variable {n : Nat} {k : Sk} {L : List Int} {T : Int} {Q : List Int}
theorem Stk.ld0 (h : Stk n k L T Q) : ldq L k.head = T * 4294967296 + Q.headD 0 := by
  rw [ld_in h.g.hd]; exact h.head
theorem Stk.low (h : Stk n k L T Q) : low (T * 4294967296 + Q.headD 0) = Q.headD 0 ∧ hiw (T * 4294967296 + Q.headD 0) = T := by
  have := headD_rng h.rng
  have := h.g.small
  unfold YtbpkcoemehmpbaaGreat.low hiw; omega
theorem Stk.ldx (h : Stk n k L T Q) {x : Int} (h0 : 1 ≤ x) (h1 : x ≤ n) : ldq L (atOf k.links x) = lkw k L x := by
  have := h.g.lk x h0 h1
  exact ld_in ⟨this.1, this.2.1⟩
/-- Words that are none of the stack's may change. -/
theorem Stk.same {L' : List Int} (h : Stk n k L T Q) (hl : L'.length = L.length) (hh : L'.getD k.head.toNat 0 = L.getD k.head.toNat 0) (hk : ∀ q ∈ Q, lkw k L' q = lkw k L q) : Stk n k L' T Q :=
  ⟨hl ▸ h.g, h.t0, h.t1, hh.trans h.head, h.rng, h.nd, h.chain.other hk⟩
/-- One word that is none of the stack's. -/
theorem Stk.word (h : Stk n k L T Q) {p v : Int} (hh : p ≠ k.head) (hk : ∀ q ∈ Q, p ≠ atOf k.links q) : Stk n k (ptq L p v) T Q :=
  h.same (pt_len ..) (pt_other h.g.hd.1 (fun e => hh e.symm)) fun q hq => pt_other (h.g.lk q (h.rng q hq).1 (h.rng q hq).2).1 (fun e => hk q hq e.symm)
/-- A link of a thing that isn't there may be written. -/
theorem Stk.put (h : Stk n k L T Q) {x v : Int} (h0 : 1 ≤ x) (h1 : x ≤ n) (hx : x ∉ Q) : Stk n k (ptq L (atOf k.links x) v) T Q ∧ lkw k (ptq L (atOf k.links x) v) x = v := by
  have hx2 := h.g.lk x h0 h1
  refine ⟨h.word hx2.2.2 fun q hq e => hx ?_, pt_same ⟨hx2.1, hx2.2.1⟩⟩
  have := h.rng q hq
  rw [h.g.inj x q h0 h1 this.1 this.2 e]; exact hq
theorem turn_is (h : Stk n k L T Q) (h9 : T + 1 < 100000) (x : Int) : turnw (T * 4294967296 + Q.headD 0) x = (T + 1) * 4294967296 + x := by
  have e := h.low.2
  have := h.t0
  have := h.t1
  unfold turnw; rw [e]; omega
theorem set_head (h : Stk n k L T Q) (v : Int) : (ptq L k.head v).getD k.head.toNat 0 = v ∧ ∀ q : Int, 1 ≤ q → q ≤ n → lkw k (ptq L k.head v) q = lkw k L q := by
  refine ⟨pt_same h.g.hd, fun q h0 h1 => pt_other (h.g.lk q h0 h1).1 (h.g.lk q h0 h1).2.2⟩
/-- A thing is put in front; the first one is taken. -/
theorem Stk.push (h : Stk n k L T Q) (h9 : T + 1 < 100000) {x : Int} (h0 : 1 ≤ x) (h1 : x ≤ n) (hx : x ∉ Q) (hl : lkw k L x = Q.headD 0) : Stk n k (ptq L k.head ((T + 1) * 4294967296 + x)) (T + 1) (x :: Q) := by
  obtain ⟨a, c⟩ := set_head h ((T + 1) * 4294967296 + x)
  have t0 := h.t0
  refine ⟨(pt_len ..).symm ▸ h.g, by omega, h9, a, fun q hq => ?_, List.nodup_cons.2 ⟨hx, h.nd⟩, rfl, ?_⟩
  · rcases List.mem_cons.1 hq with rfl | hq
    · exact ⟨h0, h1⟩
    · exact h.rng q hq
  · rw [c x h0 h1, hl]
    exact h.chain.other fun q hq => c q (h.rng q hq).1 (h.rng q hq).2
theorem Stk.pop {q : Int} (h : Stk n k L T (q :: Q)) (h9 : T + 1 < 100000) : Stk n k (ptq L k.head ((T + 1) * 4294967296 + Q.headD 0)) (T + 1) Q := by
  obtain ⟨a, c⟩ := set_head h ((T + 1) * 4294967296 + Q.headD 0)
  have t0 := h.t0
  have hr : ∀ x ∈ Q, 1 ≤ x ∧ x ≤ (n : Int) := fun x hx => h.rng x (by simp [hx])
  have hc := h.chain.2
  have hh := hc.head
  rw [hh] at hc
  exact ⟨(pt_len ..).symm ▸ h.g, by omega, h9, a, hr, (List.nodup_cons.1 h.nd).2, hc.other fun x hx => c x (hr x hx).1 (hr x hx).2⟩
theorem Stk.second {q : Int} (h : Stk n k L T (q :: Q)) : lkw k L q = Q.headD 0 := h.chain.2.head
end

/-- Where a machine stands; x: what it has to put. -/
inductive Sp (n : Nat) (k : Sk) (L : List Int) (T : Int) (Q : List Int) : Sm → Prop
  | done (kd : Nat) (a : Sk) (x hh l t : Int) : Sp n k L T Q ⟨kd, 0, a, x, hh, l, t⟩
  | push1 (x hh l t : Int) (h0 : 1 ≤ x) (h1 : x ≤ n) (hx : x ∉ Q) : Sp n k L T Q ⟨1, 1, k, x, hh, l, t⟩
  | push2 (x t S y : Int) (h0 : 1 ≤ x) (h1 : x ≤ n) (hx : x ∉ Q) (hy : 0 ≤ y ∧ y ≤ n) (hS : 0 ≤ S ∧ S ≤ T) (hq : S = T → y = Q.headD 0) : Sp n k L T Q ⟨1, 2, k, x, S * 4294967296 + y, y, t⟩
  | push3 (x t S y : Int) (h0 : 1 ≤ x) (h1 : x ≤ n) (hx : x ∉ Q) (hy : 0 ≤ y ∧ y ≤ n) (hS : 0 ≤ S ∧ S ≤ T) (hq : S = T → y = Q.headD 0) (hl : lkw k L x = y) : Sp n k L T Q ⟨1, 3, k, x, S * 4294967296 + y, y, t⟩
  | pop1 (x hh l t : Int) : Sp n k L T Q ⟨2, 1, k, x, hh, l, t⟩
  | pop2 (y l t S : Int) (hy : 1 ≤ y ∧ y ≤ n) (hS : 0 ≤ S ∧ S ≤ T) (hq : S = T → y = Q.headD 0) : Sp n k L T Q ⟨2, 2, k, y, S * 4294967296 + y, l, t⟩
  | pop3 (y l t S : Int) (hy : 1 ≤ y ∧ y ≤ n) (hS : 0 ≤ S ∧ S ≤ T) (hq : S = T → y = Q.headD 0 ∧ l = Q.tail.headD 0) (hl : 0 ≤ l ∧ l < 4294967296) : Sp n k L T Q ⟨2, 3, k, y, S * 4294967296 + y, l, t⟩

/-- What a step is. -/
inductive SEv (m m' : Sm) (T T' : Int) (Q Q' : List Int) : Prop
  | on (h : m'.pc ≠ 0) (hT : T' = T) (hQ : Q' = Q)
  | put (h : m'.pc = 0) (hk : m.kind = 1) (hT : T' = T + 1) (hQ : Q' = m'.item :: Q) (hi : m'.item = m.item)
  | took (h : m'.pc = 0) (hk : m.kind = 2) (hT : T' = T + 1) (hQ : Q = m'.item :: Q')
  | none (h : m'.pc = 0) (hk : m.kind = 2) (hT : T' = T) (hQ : Q' = Q) (hn : Q = []) (hi : m'.item = 0)
/-- How many own steps a machine has left, if nobody else turns the head. -/
def due (T : Int) (m : Sm) : Int := if m.pc = 0 then 0 else if m.pc = 1 then 3 else if hiw m.h = T then 4 - m.pc else 7 - m.pc

theorem swap_yes {L : List Int} {m : Sm} (x : Int) (hl : 0 ≤ m.k.head ∧ m.k.head < L.length) (hh : L.getD m.k.head.toNat 0 = m.h) : swapS L m x = (ptq L m.k.head (turnw m.h x), { m with pc := 0 }) := by
  unfold swapS
  rw [if_pos ⟨hl, hh⟩]
theorem swap_no {L : List Int} {m : Sm} (x : Int) (hh : L.getD m.k.head.toNat 0 ≠ m.h) : swapS L m x = (L, { m with pc := 1 }) := by
  unfold swapS
  rw [if_neg (fun h => hh h.2)]
theorem pop_first {L : List Int} {m : Sm} (hk : m.kind = 2) (hp : m.pc = 1) {w : Int} (hw : ldq L m.k.head = w) :
    sstp L m = if low w = 0 then (L, { m with pc := 0, h := w, item := 0, tries := m.tries + 1 }) else (L, { m with pc := 2, h := w, item := low w, tries := m.tries + 1 }) := by
  subst hw; simp [sstp, hk, hp]
theorem hi_of {S y : Int} (hy : 0 ≤ y ∧ y < 4294967296) : hiw (S * 4294967296 + y) = S := by unfold hiw; omega
/-- The machine's own step. -/
theorem s_step {n : Nat} {k : Sk} {L : List Int} {T : Int} {Q : List Int} {m : Sm} (H : Stk n k L T Q) (P : Sp n k L T Q m) (hp : m.pc ≠ 0) (h9 : T + 1 < 100000) :
    ∃ T' Q', Stk n k (sstp L m).1 T' Q' ∧ Sp n k (sstp L m).1 T' Q' (sstp L m).2 ∧ T ≤ T' ∧ SEv m (sstp L m).2 T T' Q Q' ∧ (sstp L m).2.kind = m.kind ∧
      (T' = T → Q' = Q) ∧ (sstp L m).1.length = L.length ∧
      (∀ q : Int, 0 ≤ q → (sstp L m).1.getD q.toNat 0 = L.getD q.toNat 0 ∨ q = k.head ∨ (m.kind = 1 ∧ q = atOf k.links m.item)) ∧
      (m.kind = 1 → (sstp L m).2.item = m.item) ∧ due T' (sstp L m).2 + 1 ≤ due T m := by
  have hd := headD_rng H.rng
  have hsm := H.g.small
  have t0 := H.t0
  have t1 := H.t1
  have hg := H.g.hd
  have hh := H.head
  have hiT : hiw (T * 4294967296 + Q.headD 0) = T := hi_of (by omega)
  have elsew : ∀ (v : Int) (kd : Nat) (x : Int), ∀ q : Int, 0 ≤ q → (ptq L k.head v).getD q.toNat 0 = L.getD q.toNat 0 ∨ q = k.head ∨ (kd = 1 ∧ q = atOf k.links x) := fun v kd x q hq => by
    by_cases h : q = k.head
    · exact .inr (.inl h)
    · exact .inl (pt_other hq h)
  cases P with
  | done => exact absurd rfl hp
  | push1 x hh2 l t h0 h1 hx =>
    have e : sstp L ⟨1, 1, k, x, hh2, l, t⟩ = (L, ⟨1, 2, k, x, T * 4294967296 + Q.headD 0, Q.headD 0, t + 1⟩) := by
      have a := H.ld0
      have b := H.low.1
      simp only [sstp]
      rw [if_neg (by decide), if_pos trivial, if_pos trivial, a, b]
    rw [e]
    refine ⟨T, Q, H, .push2 _ _ _ _ h0 h1 hx ⟨hd.1, hd.2.1⟩ ⟨t0, Int.le_refl _⟩ (fun _ => rfl), Int.le_refl _, .on (by simp) rfl rfl, rfl, fun _ => rfl, rfl, fun _ _ => .inl rfl, fun _ => rfl, ?_⟩
    simp [-List.headD_eq_head?_getD, due, hiT]
  | push2 x t S y h0 h1 hx hy hS hq =>
    have e : sstp L ⟨1, 2, k, x, S * 4294967296 + y, y, t⟩ = (ptq L (atOf k.links x) y, ⟨1, 3, k, x, S * 4294967296 + y, y, t⟩) := by
      simp [sstp]
    rw [e]
    obtain ⟨H', hv⟩ := H.put (v := y) h0 h1 hx
    refine ⟨T, Q, H', .push3 _ _ _ _ h0 h1 hx hy hS hq hv, Int.le_refl _, .on (by simp) rfl rfl, rfl, fun _ => rfl, pt_len .., fun z hz1 => ?_, fun _ => rfl, ?_⟩
    · by_cases hz : z = atOf k.links x
      · exact .inr (.inr ⟨rfl, hz⟩)
      · exact .inl (pt_other hz1 hz)
    · simp [-List.headD_eq_head?_getD, due]; split <;> omega
  | push3 x t S y h0 h1 hx hy hS hq hlx =>
    have hi2 : hiw (S * 4294967296 + y) = S := hi_of (by omega)
    by_cases hc : S = T
    · have hy2 := hq hc
      subst hc hy2
      have e : sstp L ⟨1, 3, k, x, S * 4294967296 + Q.headD 0, Q.headD 0, t⟩ = (ptq L k.head ((S + 1) * 4294967296 + x), ⟨1, 0, k, x, S * 4294967296 + Q.headD 0, Q.headD 0, t⟩) := by
        have a := turn_is H h9 x
        have b := swap_yes (m := ⟨1, 3, k, x, S * 4294967296 + Q.headD 0, Q.headD 0, t⟩) x hg hh
        simp only [a] at b
        exact b
      rw [e]
      refine ⟨S + 1, x :: Q, H.push h9 h0 h1 hx hlx, .done .., by omega, .put rfl rfl rfl rfl rfl, rfl, (fun h => by omega), pt_len .., elsew _ _ _, fun _ => rfl, ?_⟩
      simp [-List.headD_eq_head?_getD, due, hiT]
    · have e : sstp L ⟨1, 3, k, x, S * 4294967296 + y, y, t⟩ = (L, ⟨1, 1, k, x, S * 4294967296 + y, y, t⟩) := by
        exact swap_no (m := ⟨1, 3, k, x, S * 4294967296 + y, y, t⟩) x (by intro h3; simp only at h3; rw [hh] at h3; omega)
      rw [e]
      refine ⟨T, Q, H, .push1 _ _ _ _ h0 h1 hx, Int.le_refl _, .on (by simp) rfl rfl, rfl, fun _ => rfl, rfl, fun _ _ => .inl rfl, fun _ => rfl, ?_⟩
      simp [-List.headD_eq_head?_getD, due, hi2, hc]
  | pop1 x hh2 l t =>
    have a := H.ld0
    have b := H.low.1
    by_cases hz : Q.headD 0 = 0
    · have hQ := hd.2.2.1 hz
      have e : sstp L ⟨2, 1, k, x, hh2, l, t⟩ = (L, ⟨2, 0, k, 0, T * 4294967296 + Q.headD 0, l, t + 1⟩) := by
        have p := pop_first (m := ⟨2, 1, k, x, hh2, l, t⟩) rfl rfl a
        rw [p, if_pos (b.trans hz)]
      rw [e]
      refine ⟨T, Q, H, .done .., Int.le_refl _, .none rfl rfl rfl rfl hQ rfl, rfl, fun _ => rfl, rfl, fun _ _ => .inl rfl, (fun h => by cases h), ?_⟩
      simp [-List.headD_eq_head?_getD, due]
    · have e : sstp L ⟨2, 1, k, x, hh2, l, t⟩ = (L, ⟨2, 2, k, Q.headD 0, T * 4294967296 + Q.headD 0, l, t + 1⟩) := by
        have p := pop_first (m := ⟨2, 1, k, x, hh2, l, t⟩) rfl rfl a
        rw [p, if_neg (fun h => hz (b.symm.trans h)), b]
      rw [e]
      refine ⟨T, Q, H, .pop2 _ _ _ _ (by omega) ⟨t0, Int.le_refl _⟩ (fun _ => rfl), Int.le_refl _, .on (by simp) rfl rfl, rfl, fun _ => rfl, rfl, fun _ _ => .inl rfl, (fun h => by cases h), ?_⟩
      simp [-List.headD_eq_head?_getD, due, hiT]
  | pop2 y l t S hy hS hq =>
    have e : sstp L ⟨2, 2, k, y, S * 4294967296 + y, l, t⟩ = (L, ⟨2, 3, k, y, S * 4294967296 + y, low (ldq L (atOf k.links y)), t⟩) := by
      simp [sstp]
    rw [e]
    refine ⟨T, Q, H, .pop3 _ _ _ _ hy hS (fun hc => ⟨hq hc, ?_⟩) (by unfold low; omega), Int.le_refl _, .on (by simp) rfl rfl, rfl, fun _ => rfl, rfl, fun _ _ => .inl rfl, (fun h => by cases h), ?_⟩
    · have hyq := hq hc
      rw [H.ldx hy.1 hy.2]
      cases Q with
      | nil => simp at hyq; omega
      | cons q Q =>
        have e1 : y = q := by simpa using hyq
        subst e1
        have hs := H.second
        have hr : ∀ x ∈ Q, 1 ≤ x ∧ x ≤ (n : Int) := fun x hx => H.rng x (by simp [hx])
        have := headD_rng hr
        rw [hs]; unfold low; simp only [List.tail_cons]; omega
    · simp [-List.headD_eq_head?_getD, due]; split <;> omega
  | pop3 y l t S hy hS hq hl2 =>
    have hi2 : hiw (S * 4294967296 + y) = S := hi_of (by omega)
    by_cases hc : S = T
    · obtain ⟨hyq, hlq⟩ := hq hc
      cases Q with
      | nil => simp at hyq; omega
      | cons q Q =>
        have e1 : y = q := by simpa using hyq
        simp only [List.tail_cons] at hlq
        subst e1 hlq hc
        have e : sstp L ⟨2, 3, k, y, S * 4294967296 + y, Q.headD 0, t⟩ = (ptq L k.head ((S + 1) * 4294967296 + Q.headD 0), ⟨2, 0, k, y, S * 4294967296 + y, Q.headD 0, t⟩) := by
          have a := turn_is H h9 (Q.headD 0)
          simp only [List.headD_cons] at a
          have b := swap_yes (m := ⟨2, 3, k, y, S * 4294967296 + y, Q.headD 0, t⟩) (Q.headD 0) hg hh
          simp only [a] at b
          exact b
        rw [e]
        refine ⟨S + 1, Q, H.pop h9, .done .., by omega, .took rfl rfl rfl rfl, rfl, (fun h => by omega), pt_len .., elsew _ _ _, (fun h => by cases h), ?_⟩
        simp [-List.headD_eq_head?_getD, due, hi2]
    · have e : sstp L ⟨2, 3, k, y, S * 4294967296 + y, l, t⟩ = (L, ⟨2, 1, k, y, S * 4294967296 + y, l, t⟩) := by
        exact swap_no (m := ⟨2, 3, k, y, S * 4294967296 + y, l, t⟩) l (by intro h3; simp only at h3; rw [hh] at h3; omega)
      rw [e]
      refine ⟨T, Q, H, .pop1 .., Int.le_refl _, .on (by simp) rfl rfl, rfl, fun _ => rfl, rfl, fun _ _ => .inl rfl, (fun h => by cases h), ?_⟩
      simp [-List.headD_eq_head?_getD, due, hi2, hc]

/-- Another one's step. -/
theorem Sp.mono {n : Nat} {k : Sk} {L L' : List Int} {T T' : Int} {Q Q' : List Int} {m : Sm} (P : Sp n k L T Q m) (hT : T ≤ T') (hQ : T' = T → Q' = Q) (hx : m.kind = 1 → m.pc ≠ 0 → m.item ∉ Q' ∧ lkw k L' m.item = lkw k L m.item) : Sp n k L' T' Q' m := by
  cases P with
  | done => exact .done ..
  | push1 x hh l t h0 h1 h2 => exact .push1 _ _ _ _ h0 h1 (hx rfl (by simp)).1
  | push2 x t S y h0 h1 h2 hy hS hq => exact .push2 _ _ _ _ h0 h1 (hx rfl (by simp)).1 hy (by omega) (fun e => by rw [hQ (by omega)]; exact hq (by omega))
  | push3 x t S y h0 h1 h2 hy hS hq hl => exact .push3 _ _ _ _ h0 h1 (hx rfl (by simp)).1 hy (by omega) (fun e => by rw [hQ (by omega)]; exact hq (by omega)) (by have := (hx rfl (by simp)).2; simp only at this; rw [this]; exact hl)
  | pop1 => exact .pop1 ..
  | pop2 y l t S hy hS hq => exact .pop2 _ _ _ _ hy (by omega) (fun e => by rw [hQ (by omega)]; exact hq (by omega))
  | pop3 y l t S hy hS hq hl => exact .pop3 _ _ _ _ hy (by omega) (fun e => by rw [hQ (by omega)]; exact hq (by omega)) hl
/-- Another one's turn takes three steps more at most. -/
theorem due_mono (T T' : Int) (m : Sm) (hp : m.pc ≤ 3) : due T' m ≤ due T m + (if T' = T then 0 else 3) := by
  unfold due
  by_cases h : T' = T
  · subst h; rw [if_pos rfl]; omega
  · rw [if_neg h]; repeat' split
    all_goals omega
theorem due_top (T : Int) (m : Sm) (hp : m.pc ≤ 3) : due T m ≤ 5 := by
  unfold due; repeat' split
  all_goals omega
theorem Sp.pc_le {n : Nat} {k : Sk} {L : List Int} {T : Int} {Q : List Int} {m : Sm} (P : Sp n k L T Q m) : m.pc ≤ 3 := by cases P <;> simp
theorem Sp.k_is {n : Nat} {k : Sk} {L : List Int} {T : Int} {Q : List Int} {m : Sm} (P : Sp n k L T Q m) (hp : m.pc ≠ 0) : m.k = k := by cases P <;> simp at hp ⊢

/-! A walk. -/
def walkQ (L : List Int) (k : Sk) : Nat → Int → List Int
  | 0, _ => []
  | f + 1, p => if (0 ≤ p ∧ p < L.length) ∧ 0 < low (L.getD p.toNat 0) then low (L.getD p.toNat 0) :: walkQ L k f (atOf k.links (low (L.getD p.toNat 0))) else []
theorem walk_chain {n : Nat} {k : Sk} {L : List Int} (G : Gk n L.length k) : ∀ (f : Nat) {Q : List Int} {p : Int}, Q.length ≤ f → 0 ≤ p → p < L.length → (∀ q ∈ Q, 1 ≤ q ∧ q ≤ (n : Int)) → low (L.getD p.toNat 0) = Q.headD 0 → (∀ q R, Q = q :: R → Chain k L (lkw k L q) R) → walkQ L k f p = Q
  | 0, Q, p, hf, h0, h1, hr, he, hc => by
    have : Q = [] := List.eq_nil_of_length_eq_zero (by omega)
    subst this; rfl
  | f + 1, [], p, hf, h0, h1, hr, he, hc => by
    simp only [List.headD_nil] at he
    unfold walkQ; rw [he, if_neg (by omega)]
  | f + 1, q :: Q, p, hf, h0, h1, hr, he, hc => by
    have hq := hr q (by simp)
    have hs := G.small
    simp only [List.headD_cons] at he
    have hrQ : ∀ x ∈ Q, 1 ≤ x ∧ x ≤ (n : Int) := fun x hx => hr x (by simp [hx])
    have hd := headD_rng hrQ
    have hcq := hc q Q rfl
    have hh := hcq.head
    have hl := G.lk q hq.1 hq.2
    simp at hf
    unfold walkQ
    rw [he, if_pos (by omega), walk_chain G f (Q := Q) (by omega) hl.1 hl.2.1 hrQ (by show low (lkw k L q) = _; rw [hh]; unfold low; omega) (fun x R e => by subst e; exact hcq.2)]
theorem walk_stk {n : Nat} {k : Sk} {L : List Int} {T : Int} {Q : List Int} (H : Stk n k L T Q) (f : Nat) (hf : Q.length ≤ f) : walkQ L k f k.head = Q := by
  refine walk_chain H.g f hf H.g.hd.1 H.g.hd.2 H.rng ?_ (fun q R e => ?_)
  · rw [H.head]; exact H.low.1
  · subst e; exact H.chain.2
end Go.Proofs.YtbpkcoemehmpbaaGreat

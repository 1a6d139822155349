/- A stack's machines over words: what a step is, and what holds however the steps of some that push and pop come one behind the other. -/
import Derived.IntWalk
namespace Go.Proofs.Ytgnnhjadmepipaa
set_option linter.unusedVariables false
set_option linter.unusedSimpArgs false

def ldq (L : List Int) (at' : Int) : Int := if 0 ≤ at' ∧ at' < L.length then L.getD at'.toNat 0 else 0
def ptq (L : List Int) (at' v : Int) : List Int := if 0 ≤ at' ∧ at' < L.length then L.set at'.toNat v else L
def hiw (w : Int) : Int := w / 4294967296
def low (w : Int) : Int := w % 4294967296
def turnw (w n : Int) : Int := ((hiw w + 1) % 4294967296) * 4294967296 + n
/-- Where a stack stands: its head, and each thing's link. -/
structure Sk where
  head : Int
  links : List Int
/-- A link's place; -1: there is none such. -/
def atOf (l : List Int) (x : Int) : Int := if 1 ≤ x ∧ x ≤ l.length then l.getD (x - 1).toNat 0 else -1

/-- A machine: 1 pushes, 2 pops; its next step (0: finished), and what it knows. -/
structure Sm where
  kind : Nat
  pc : Nat
  k : Sk
  item : Int
  h : Int
  link : Int
  tries : Int
def swapS (L : List Int) (m : Sm) (n : Int) : List Int × Sm :=
  if (0 ≤ m.k.head ∧ m.k.head < L.length) ∧ L.getD m.k.head.toNat 0 = m.h then (ptq L m.k.head (turnw m.h n), { m with pc := 0 }) else (L, { m with pc := 1 })
def sstp (L : List Int) (m : Sm) : List Int × Sm :=
  if m.pc = 0 then (L, m)
  else if m.pc = 1 then
    (if m.kind = 1 then (L, { m with pc := 2, h := ldq L m.k.head, link := low (ldq L m.k.head), tries := m.tries + 1 })
     else if low (ldq L m.k.head) = 0 then (L, { m with pc := 0, h := ldq L m.k.head, item := 0, tries := m.tries + 1 })
     else (L, { m with pc := 2, h := ldq L m.k.head, item := low (ldq L m.k.head), tries := m.tries + 1 }))
  else if m.pc = 2 then
    (if m.kind = 1 then (ptq L (atOf m.k.links m.item) m.link, { m with pc := 3 })
     else (L, { m with pc := 3, link := low (ldq L (atOf m.k.links m.item)) }))
  else (if m.kind = 1 then swapS L m m.item else swapS L m m.link)
def itemOf (x : Int) : Int := if x < 1 ∨ 4294967295 < x then 0 else x
def mPush (k : Sk) (x : Int) : Sm := ⟨1, 1, k, itemOf x, 0, 0, 0⟩
def mPop (k : Sk) : Sm := ⟨2, 1, k, 0, 0, 0, 0⟩
/-- What was put or taken, where it is finished. -/
def sItem (m : Sm) : Int := if m.pc = 0 then m.item else 0

/-- The document's own places: the head, then each thing's link. -/
def sk (n : Nat) : Sk := ⟨0, (List.range n).map fun (i : Nat) => ((i + 1 : Nat) : Int)⟩
theorem at_sk {n : Nat} {x : Int} (h0 : 1 ≤ x) (h1 : x ≤ n) : atOf (sk n).links x = x := by
  have hl : (sk n).links.length = n := by simp [sk]
  unfold atOf
  rw [hl, if_pos ⟨h0, h1⟩]
  simp only [sk, List.getD, List.getElem?_map, List.getElem?_range (show (x - 1).toNat < n by omega)]
  simp; omega

/-- The things from this one on, as memory tells: Q. -/
def Chain (L : List Int) : Int → List Int → Prop
  | x, [] => x = 0
  | x, q :: Q => x = q ∧ Chain L (L.getD q.toNat 0) Q
theorem Chain.head {L : List Int} {x : Int} {Q : List Int} (h : Chain L x Q) : x = Q.headD 0 := by
  cases Q with
  | nil => exact h
  | cons q Q => exact h.1
/-- Words elsewhere may change. -/
theorem Chain.other {L L' : List Int} : ∀ {Q : List Int} {x : Int}, Chain L x Q → (∀ q ∈ Q, L'.getD q.toNat 0 = L.getD q.toNat 0) → Chain L' x Q
  | [], x, h, _ => h
  | q :: Q, x, h, k => ⟨h.1, by rw [k q (by simp)]; exact h.2.other (fun y hy => k y (by simp [hy]))⟩

/-- A stack in memory of n things: Q, the first one first; T: how often the head has turned. -/
structure Stk (n : Nat) (L : List Int) (T : Int) (Q : List Int) : Prop where
  len : L.length = n + 1
  small : n ≤ 1000
  t0 : 0 ≤ T
  t1 : T < 100000
  head : L.getD 0 0 = T * 4294967296 + Q.headD 0
  rng : ∀ q ∈ Q, 1 ≤ q ∧ q ≤ n
  nd : Q.Nodup
  chain : Chain L (Q.headD 0) Q
section
variable {n : Nat} {L : List Int} {T : Int} {Q : List Int}
theorem headD_rng (h : ∀ q ∈ Q, 1 ≤ q ∧ q ≤ (n : Int)) : 0 ≤ Q.headD 0 ∧ Q.headD 0 ≤ n ∧ (Q.headD 0 = 0 ↔ Q = []) := by
  cases Q with
  | nil => simp
  | cons q Q => have := h q (by simp); simp; omega
theorem Stk.ld0 (h : Stk n L T Q) : ldq L 0 = T * 4294967296 + Q.headD 0 := by
  have := h.len
  unfold ldq; rw [if_pos (by omega)]; exact h.head
theorem Stk.low (h : Stk n L T Q) : low (T * 4294967296 + Q.headD 0) = Q.headD 0 ∧ hiw (T * 4294967296 + Q.headD 0) = T := by
  have := headD_rng h.rng
  have := h.small
  unfold Ytgnnhjadmepipaa.low hiw; omega
theorem Stk.ldx (h : Stk n L T Q) {x : Int} (h0 : 1 ≤ x) (h1 : x ≤ n) : ldq L x = L.getD x.toNat 0 := by
  have := h.len
  unfold ldq; rw [if_pos (by omega)]
/-- A link of a thing that isn't there may be written. -/
theorem Stk.put (h : Stk n L T Q) {x v : Int} (h0 : 1 ≤ x) (h1 : x ≤ n) (hx : x ∉ Q) : Stk n (ptq L x v) T Q ∧ (ptq L x v).getD x.toNat 0 = v := by
  have hl := h.len
  have e : ptq L x v = L.set x.toNat v := by unfold ptq; rw [if_pos (by omega)]
  rw [e]
  refine ⟨⟨by simp [hl], h.small, h.t0, h.t1, ?_, h.rng, h.nd, h.chain.other fun q hq => ?_⟩, ?_⟩
  · rw [← h.head]; simp only [List.getD, List.getElem?_set]; rw [if_neg (by omega)]
  · have := h.rng q hq
    have hne : q ≠ x := fun e => hx (e ▸ hq)
    simp only [List.getD, List.getElem?_set]; rw [if_neg (by omega)]
  · simp only [List.getD, List.getElem?_set, if_true]; rw [if_pos (by omega)]; rfl
theorem turn_is (h : Stk n L T Q) (h9 : T + 1 < 100000) (x : Int) : turnw (T * 4294967296 + Q.headD 0) x = (T + 1) * 4294967296 + x := by
  have e := h.low.2
  have := h.t0
  have := h.t1
  unfold turnw; rw [e]; omega
theorem set_head (h : Stk n L T Q) (v : Int) : (ptq L 0 v).getD 0 0 = v ∧ (ptq L 0 v).length = n + 1 ∧ ∀ q : Int, 1 ≤ q → (ptq L 0 v).getD q.toNat 0 = L.getD q.toNat 0 := by
  have hl := h.len
  have e : ptq L 0 v = L.set 0 v := by unfold ptq; rw [if_pos (by omega)]; rfl
  rw [e]
  refine ⟨?_, by simp [hl], fun q hq => ?_⟩
  · simp only [List.getD, List.getElem?_set, if_true]; rw [if_pos (by omega)]; rfl
  · simp only [List.getD, List.getElem?_set]; rw [if_neg (by omega)]
/-- A thing is put in front; the first one is taken. -/
theorem Stk.push (h : Stk n L T Q) (h9 : T + 1 < 100000) {x : Int} (h0 : 1 ≤ x) (h1 : x ≤ n) (hx : x ∉ Q) (hl : L.getD x.toNat 0 = Q.headD 0) : Stk n (ptq L 0 ((T + 1) * 4294967296 + x)) (T + 1) (x :: Q) := by
  obtain ⟨a, b, c⟩ := set_head h ((T + 1) * 4294967296 + x)
  have t0 := h.t0
  refine ⟨b, h.small, by omega, h9, a, fun q hq => ?_, List.nodup_cons.2 ⟨hx, h.nd⟩, rfl, ?_⟩
  · rcases List.mem_cons.1 hq with rfl | hq
    · exact ⟨h0, h1⟩
    · exact h.rng q hq
  · rw [c x h0, hl]
    exact h.chain.other fun q hq => c q (h.rng q hq).1
theorem Stk.pop {q : Int} (h : Stk n L T (q :: Q)) (h9 : T + 1 < 100000) : Stk n (ptq L 0 ((T + 1) * 4294967296 + Q.headD 0)) (T + 1) Q := by
  obtain ⟨a, b, c⟩ := set_head h ((T + 1) * 4294967296 + Q.headD 0)
  have t0 := h.t0
  have hr : ∀ x ∈ Q, 1 ≤ x ∧ x ≤ (n : Int) := fun x hx => h.rng x (by simp [hx])
  have hc := h.chain.2
  have hh := hc.head
  rw [hh] at hc
  exact ⟨b, h.small, by omega, h9, a, hr, (List.nodup_cons.1 h.nd).2, hc.other fun x hx => c x (hr x hx).1⟩
theorem Stk.second {q : Int} (h : Stk n L T (q :: Q)) : L.getD q.toNat 0 = Q.headD 0 := h.chain.2.head

/-- Where a machine stands; x: what it has to put. -/
inductive Sp (n : Nat) (L : List Int) (T : Int) (Q : List Int) : Sm → Prop
  | done (k : Nat) (a : Sk) (x hh l t : Int) : Sp n L T Q ⟨k, 0, a, x, hh, l, t⟩
  | push1 (x hh l t : Int) (h0 : 1 ≤ x) (h1 : x ≤ n) (hx : x ∉ Q) : Sp n L T Q ⟨1, 1, sk n, x, hh, l, t⟩
  | push2 (x t S y : Int) (h0 : 1 ≤ x) (h1 : x ≤ n) (hx : x ∉ Q) (hy : 0 ≤ y ∧ y ≤ n) (hS : 0 ≤ S ∧ S ≤ T) (hq : S = T → y = Q.headD 0) : Sp n L T Q ⟨1, 2, sk n, x, S * 4294967296 + y, y, t⟩
  | push3 (x t S y : Int) (h0 : 1 ≤ x) (h1 : x ≤ n) (hx : x ∉ Q) (hy : 0 ≤ y ∧ y ≤ n) (hS : 0 ≤ S ∧ S ≤ T) (hq : S = T → y = Q.headD 0) (hl : L.getD x.toNat 0 = y) : Sp n L T Q ⟨1, 3, sk n, x, S * 4294967296 + y, y, t⟩
  | pop1 (x hh l t : Int) : Sp n L T Q ⟨2, 1, sk n, x, hh, l, t⟩
  | pop2 (y l t S : Int) (hy : 1 ≤ y ∧ y ≤ n) (hS : 0 ≤ S ∧ S ≤ T) (hq : S = T → y = Q.headD 0) : Sp n L T Q ⟨2, 2, sk n, y, S * 4294967296 + y, l, t⟩
  | pop3 (y l t S : Int) (hy : 1 ≤ y ∧ y ≤ n) (hS : 0 ≤ S ∧ S ≤ T) (hq : S = T → y = Q.headD 0 ∧ l = Q.tail.headD 0) (hl : 0 ≤ l ∧ l < 4294967296) : Sp n L T Q ⟨2, 3, sk n, y, S * 4294967296 + y, l, t⟩

/-- What a step is. -/
inductive SEv (m m' : Sm) (T T' : Int) (Q Q' : List Int) : Prop
  | on (h : m'.pc ≠ 0) (hT : T' = T) (hQ : Q' = Q)
  | put (h : m'.pc = 0) (hk : m.kind = 1) (hT : T' = T + 1) (hQ : Q' = m'.item :: Q) (hi : m'.item = m.item)
  | took (h : m'.pc = 0) (hk : m.kind = 2) (hT : T' = T + 1) (hQ : Q = m'.item :: Q')
  | none (h : m'.pc = 0) (hk : m.kind = 2) (hT : T' = T) (hQ : Q' = Q) (hn : Q = []) (hi : m'.item = 0)

theorem swap_yes {L : List Int} {m : Sm} (x : Int) (hl : 0 < L.length) (hk : m.k.head = 0) (hh : L.getD 0 0 = m.h) : swapS L m x = (ptq L 0 (turnw m.h x), { m with pc := 0 }) := by
  unfold swapS
  rw [hk, if_pos ⟨⟨by omega, by omega⟩, hh⟩]
theorem swap_no {L : List Int} {m : Sm} (x : Int) (hk : m.k.head = 0) (hh : L.getD 0 0 ≠ m.h) : swapS L m x = (L, { m with pc := 1 }) := by
  unfold swapS
  rw [hk, if_neg (fun h => hh h.2)]
theorem pop_first {L : List Int} {m : Sm} (hk : m.kind = 2) (hp : m.pc = 1) {w : Int} (hw : ldq L m.k.head = w) :
    sstp L m = if low w = 0 then (L, { m with pc := 0, h := w, item := 0, tries := m.tries + 1 }) else (L, { m with pc := 2, h := w, item := low w, tries := m.tries + 1 }) := by
  subst hw; simp [sstp, hk, hp]
theorem sk_head (n : Nat) : (sk n).head = 0 := rfl
/-- The machine's own step. -/
theorem s_step {n : Nat} {L : List Int} {T : Int} {Q : List Int} {m : Sm} (H : Stk n L T Q) (P : Sp n L T Q m) (hp : m.pc ≠ 0) (h9 : T + 1 < 100000) :
    ∃ T' Q', Stk n (sstp L m).1 T' Q' ∧ Sp n (sstp L m).1 T' Q' (sstp L m).2 ∧ T ≤ T' ∧ SEv m (sstp L m).2 T T' Q Q' ∧ (sstp L m).2.kind = m.kind ∧
      (T' = T → Q' = Q) ∧ (∀ x : Int, 1 ≤ x → (sstp L m).1.getD x.toNat 0 = L.getD x.toNat 0 ∨ (m.kind = 1 ∧ x = m.item)) ∧ (m.kind = 1 → (sstp L m).2.item = m.item) := by
  have hl := H.len
  have hd := headD_rng H.rng
  have hsm := H.small
  have t0 := H.t0
  have t1 := H.t1
  cases P with
  | done => exact absurd rfl hp
  | push1 x hh l t h0 h1 hx =>
    have e : sstp L ⟨1, 1, sk n, x, hh, l, t⟩ = (L, ⟨1, 2, sk n, x, T * 4294967296 + Q.headD 0, Q.headD 0, t + 1⟩) := by
      have a := H.ld0
      have b := H.low.1
      simp only [sstp, sk_head]
      rw [if_neg (by decide), if_pos trivial, if_pos trivial, a, b]
    rw [e]
    exact ⟨T, Q, H, .push2 _ _ _ _ h0 h1 hx ⟨hd.1, hd.2.1⟩ ⟨t0, Int.le_refl _⟩ (fun _ => rfl), Int.le_refl _, .on (by simp) rfl rfl, rfl, fun _ => rfl, fun _ _ => .inl rfl, fun _ => rfl⟩
  | push2 x t S y h0 h1 hx hy hS hq =>
    have e : sstp L ⟨1, 2, sk n, x, S * 4294967296 + y, y, t⟩ = (ptq L x y, ⟨1, 3, sk n, x, S * 4294967296 + y, y, t⟩) := by
      have a := at_sk h0 h1
      simp [sstp, a]
    rw [e]
    obtain ⟨H', hv⟩ := H.put (v := y) h0 h1 hx
    refine ⟨T, Q, H', .push3 _ _ _ _ h0 h1 hx hy hS hq hv, Int.le_refl _, .on (by simp) rfl rfl, rfl, fun _ => rfl, fun z hz1 => ?_, fun _ => rfl⟩
    by_cases hz : z = x
    · exact .inr ⟨rfl, hz⟩
    · left
      have e2 : ptq L x y = L.set x.toNat y := by unfold ptq; rw [if_pos (by omega)]
      rw [e2]; simp only [List.getD, List.getElem?_set]; rw [if_neg (by omega)]
  | push3 x t S y h0 h1 hx hy hS hq hlx =>
    have hh := H.head
    by_cases hc : S = T
    · have hy2 := hq hc
      subst hc hy2
      have e : sstp L ⟨1, 3, sk n, x, S * 4294967296 + Q.headD 0, Q.headD 0, t⟩ = (ptq L 0 ((S + 1) * 4294967296 + x), ⟨1, 0, sk n, x, S * 4294967296 + Q.headD 0, Q.headD 0, t⟩) := by
        have a := turn_is H h9 x
        have b := swap_yes (m := ⟨1, 3, sk n, x, S * 4294967296 + Q.headD 0, Q.headD 0, t⟩) x (by omega) rfl hh
        simp only [a] at b
        exact b
      rw [e]
      exact ⟨S + 1, x :: Q, H.push h9 h0 h1 hx hlx, .done .., by omega, .put rfl rfl rfl rfl rfl, rfl, (fun h => by omega), fun z hz => .inl ((set_head H _).2.2 z hz), fun _ => rfl⟩
    · have e : sstp L ⟨1, 3, sk n, x, S * 4294967296 + y, y, t⟩ = (L, ⟨1, 1, sk n, x, S * 4294967296 + y, y, t⟩) := by
        exact swap_no (m := ⟨1, 3, sk n, x, S * 4294967296 + y, y, t⟩) x rfl (by intro h3; simp only at h3; rw [hh] at h3; omega)
      rw [e]
      exact ⟨T, Q, H, .push1 _ _ _ _ h0 h1 hx, Int.le_refl _, .on (by simp) rfl rfl, rfl, fun _ => rfl, fun _ _ => .inl rfl, fun _ => rfl⟩
  | pop1 x hh l t =>
    have a := H.ld0
    have b := H.low.1
    by_cases hz : Q.headD 0 = 0
    · have hQ := hd.2.2.1 hz
      have e : sstp L ⟨2, 1, sk n, x, hh, l, t⟩ = (L, ⟨2, 0, sk n, 0, T * 4294967296 + Q.headD 0, l, t + 1⟩) := by
        have p := pop_first (m := ⟨2, 1, sk n, x, hh, l, t⟩) rfl rfl a
        rw [p, if_pos (b.trans hz)]
      rw [e]
      exact ⟨T, Q, H, .done .., Int.le_refl _, .none rfl rfl rfl rfl hQ rfl, rfl, fun _ => rfl, fun _ _ => .inl rfl, fun h => by cases h⟩
    · have e : sstp L ⟨2, 1, sk n, x, hh, l, t⟩ = (L, ⟨2, 2, sk n, Q.headD 0, T * 4294967296 + Q.headD 0, l, t + 1⟩) := by
        have p := pop_first (m := ⟨2, 1, sk n, x, hh, l, t⟩) rfl rfl a
        rw [p, if_neg (fun h => hz (b.symm.trans h)), b]
      rw [e]
      exact ⟨T, Q, H, .pop2 _ _ _ _ (by omega) ⟨t0, Int.le_refl _⟩ (fun _ => rfl), Int.le_refl _, .on (by simp) rfl rfl, rfl, fun _ => rfl, fun _ _ => .inl rfl, fun h => by cases h⟩
  | pop2 y l t S hy hS hq =>
    have a := at_sk hy.1 hy.2
    have e : sstp L ⟨2, 2, sk n, y, S * 4294967296 + y, l, t⟩ = (L, ⟨2, 3, sk n, y, S * 4294967296 + y, low (ldq L y), t⟩) := by
      simp [sstp, a]
    rw [e]
    refine ⟨T, Q, H, .pop3 _ _ _ _ hy hS (fun hc => ⟨hq hc, ?_⟩) (by unfold low; omega), Int.le_refl _, .on (by simp) rfl rfl, rfl, fun _ => rfl, fun _ _ => .inl rfl, fun h => by cases h⟩
    have hyq := hq hc
    rw [H.ldx hy.1 hy.2]
    cases Q with
    | nil => simp at hyq; omega
    | cons q Q =>
      have e1 : y = q := by simpa using hyq
      subst e1
      have hs := H.second
      have hr : ∀ x ∈ Q, 1 ≤ x ∧ x ≤ (n : Int) := fun x hx => H.rng x (by simp [hx])
      have := headD_rng hr
      rw [hs]; unfold low; simp only [List.tail_cons]; omega
  | pop3 y l t S hy hS hq hl2 =>
    have hh := H.head
    by_cases hc : S = T
    · obtain ⟨hyq, hlq⟩ := hq hc
      cases Q with
      | nil => simp at hyq; omega
      | cons q Q =>
        have e1 : y = q := by simpa using hyq
        simp only [List.tail_cons] at hlq
        subst e1 hlq hc
        have e : sstp L ⟨2, 3, sk n, y, S * 4294967296 + y, Q.headD 0, t⟩ = (ptq L 0 ((S + 1) * 4294967296 + Q.headD 0), ⟨2, 0, sk n, y, S * 4294967296 + y, Q.headD 0, t⟩) := by
          have a := turn_is H h9 (Q.headD 0)
          simp only [List.headD_cons] at a
          have b := swap_yes (m := ⟨2, 3, sk n, y, S * 4294967296 + y, Q.headD 0, t⟩) (Q.headD 0) (by omega) rfl hh
          simp only [a] at b
          exact b
        rw [e]
        exact ⟨S + 1, Q, H.pop h9, .done .., by omega, .took rfl rfl rfl rfl, rfl, (fun h => by omega), fun z hz => .inl ((set_head H _).2.2 z hz), fun h => by cases h⟩
    · have e : sstp L ⟨2, 3, sk n, y, S * 4294967296 + y, l, t⟩ = (L, ⟨2, 1, sk n, y, S * 4294967296 + y, l, t⟩) := by
        exact swap_no (m := ⟨2, 3, sk n, y, S * 4294967296 + y, l, t⟩) l rfl (by intro h3; simp only at h3; rw [hh] at h3; omega)
      rw [e]
      exact ⟨T, Q, H, .pop1 .., Int.le_refl _, .on (by simp) rfl rfl, rfl, fun _ => rfl, fun _ _ => .inl rfl, fun h => by cases h⟩

/-- Another one's step. -/
theorem Sp.mono {n : Nat} {L L' : List Int} {T T' : Int} {Q Q' : List Int} {m : Sm} (P : Sp n L T Q m) (hT : T ≤ T') (hQ : T' = T → Q' = Q) (hx : m.kind = 1 → m.pc ≠ 0 → m.item ∉ Q' ∧ L'.getD m.item.toNat 0 = L.getD m.item.toNat 0) : Sp n L' T' Q' m := by
  cases P with
  | done => exact .done ..
  | push1 x hh l t h0 h1 h2 => exact .push1 _ _ _ _ h0 h1 (hx rfl (by simp)).1
  | push2 x t S y h0 h1 h2 hy hS hq => exact .push2 _ _ _ _ h0 h1 (hx rfl (by simp)).1 hy (by omega) (fun e => by rw [hQ (by omega)]; exact hq (by omega))
  | push3 x t S y h0 h1 h2 hy hS hq hl => exact .push3 _ _ _ _ h0 h1 (hx rfl (by simp)).1 hy (by omega) (fun e => by rw [hQ (by omega)]; exact hq (by omega)) (by have := (hx rfl (by simp)).2; simp only at this; rw [this]; exact hl)
  | pop1 => exact .pop1 ..
  | pop2 y l t S hy hS hq => exact .pop2 _ _ _ _ hy (by omega) (fun e => by rw [hQ (by omega)]; exact hq (by omega))
  | pop3 y l t S hy hS hq hl => exact .pop3 _ _ _ _ hy (by omega) (fun e => by rw [hQ (by omega)]; exact hq (by omega)) hl

/-- Three that put what they have, and take what there is. -/
structure So (L : List Int) (i : Int) (a b c : Sm) (ha hb hc : List Int) : Prop where
  ex : ∃ T Q, Stk 9 L T Q ∧ T ≤ i ∧ Sp 9 L T Q a ∧ Sp 9 L T Q b ∧ Sp 9 L T Q c ∧ (Q ++ (ha ++ (hb ++ hc))).Perm [1, 2, 3, 4, 5, 6, 7, 8]
  pa : a.kind = 1 → a.pc ≠ 0 → ∃ t, ha = a.item :: t
  pb : b.kind = 1 → b.pc ≠ 0 → ∃ t, hb = b.item :: t
  pc : c.kind = 1 → c.pc ≠ 0 → ∃ t, hc = c.item :: t
theorem So.swap1 {L : List Int} {i : Int} {a b c : Sm} {ha hb hc : List Int} (h : So L i a b c ha hb hc) : So L i b a c hb ha hc := by
  obtain ⟨T, Q, H, hT, sa, sb, sc, p⟩ := h.ex
  refine ⟨⟨T, Q, H, hT, sb, sa, sc, List.Perm.trans ?_ p⟩, h.pb, h.pa, h.pc⟩
  refine List.Perm.append_left Q ?_
  rw [← List.append_assoc, ← List.append_assoc]
  exact List.Perm.append_right hc List.perm_append_comm
theorem So.swap2 {L : List Int} {i : Int} {a b c : Sm} {ha hb hc : List Int} (h : So L i a b c ha hb hc) : So L i c b a hc hb ha := by
  obtain ⟨T, Q, H, hT, sa, sb, sc, p⟩ := h.ex
  refine ⟨⟨T, Q, H, hT, sc, sb, sa, List.Perm.trans ?_ p⟩, h.pc, h.pb, h.pa⟩
  refine List.Perm.append_left Q ?_
  calc (hc ++ (hb ++ ha)).Perm ((hb ++ ha) ++ hc) := List.perm_append_comm
    _ |>.Perm ((ha ++ hb) ++ hc) := List.Perm.append_right hc List.perm_append_comm
    _ |>.Perm (ha ++ (hb ++ hc)) := by rw [List.append_assoc]
/-- What is in the stack. -/
theorem So.seen {L : List Int} {i : Int} {a b c : Sm} {ha hb hc : List Int} (h : So L i a b c ha hb hc) : ∃ T Q, Stk 9 L T Q ∧ (Q ++ (ha ++ (hb ++ hc))).Perm [1, 2, 3, 4, 5, 6, 7, 8] := by
  obtain ⟨T, Q, H, _, _, _, _, p⟩ := h.ex
  exact ⟨T, Q, H, p⟩
/-- A step of the first one. -/
theorem So.step {L : List Int} {i : Int} {a b c : Sm} {ha hb hc : List Int} (h : So L i a b c ha hb hc) (hp : a.pc ≠ 0) (hi : i + 1 < 100000) :
    ((sstp L a).2.pc ≠ 0 ∧ So (sstp L a).1 (i + 1) (sstp L a).2 b c ha hb hc) ∨
    ((sstp L a).2.pc = 0 ∧ a.kind = 1 ∧ (∃ t, ha = (sstp L a).2.item :: t ∧ So (sstp L a).1 (i + 1) (sstp L a).2 b c t hb hc)) ∨
    ((sstp L a).2.pc = 0 ∧ a.kind = 2 ∧ 1 ≤ (sstp L a).2.item ∧ (sstp L a).2.item ≤ 8 ∧ So (sstp L a).1 (i + 1) (sstp L a).2 b c (ha ++ [(sstp L a).2.item]) hb hc) ∨
    ((sstp L a).2.pc = 0 ∧ a.kind = 2 ∧ (sstp L a).2.item = 0 ∧ So (sstp L a).1 (i + 1) (sstp L a).2 b c ha hb hc) := by
  obtain ⟨T, Q, H, hT, sa, sb, sc, p⟩ := h.ex
  obtain ⟨T', Q', H', sa', h1, ev, hk, hq, hL, hit⟩ := s_step H sa hp (by omega)
  have hnd : (Q ++ (ha ++ (hb ++ hc))).Nodup := p.nodup_iff.2 (by decide)
  have hmem : ∀ x, x ∈ Q ++ (ha ++ (hb ++ hc)) → 1 ≤ x ∧ x ≤ 8 := fun x hx => by
    have := p.mem_iff.1 hx
    simp at this; omega
  -- what others put stays off the stack, and their links as they are
  have off : ∀ (m : Sm) (hm : List Int), (m.kind = 1 → m.pc ≠ 0 → ∃ t, hm = m.item :: t) → (∀ x ∈ hm, x ∈ hb ++ hc) → m.kind = 1 → m.pc ≠ 0 → m.item ∉ Q' ∧ (sstp L a).1.getD m.item.toNat 0 = L.getD m.item.toNat 0 := by
    intro m hm h2 hsub k1 k2
    obtain ⟨t, e⟩ := h2 k1 k2
    have hin : m.item ∈ hb ++ hc := hsub _ (by rw [e]; simp)
    have hnQ : m.item ∉ Q := fun hx => by
      have := (List.nodup_append.1 hnd).2.2
      exact this _ hx _ (by simp only [List.mem_append] at hin ⊢; exact .inr hin) rfl
    have hnA : ∀ x, x ∈ ha → m.item ≠ x := fun x hx e2 => by
      have := (List.nodup_append.1 (List.nodup_append.1 hnd).2.1).2.2
      exact this _ hx _ hin e2.symm
    have hr := hmem m.item (by simp only [List.mem_append] at hin ⊢; exact .inr (.inr hin))
    constructor
    · cases ev with
      | on h4 hT hQ => rw [hQ]; exact hnQ
      | none h4 hk hT hQ => rw [hQ]; exact hnQ
      | took h4 hk hT hQ => intro hx; exact hnQ (by rw [hQ]; simp [hx])
      | put h4 hk hT hQ hi2 =>
        rw [hQ, hi2]
        intro hx
        rcases List.mem_cons.1 hx with hx | hx
        · obtain ⟨t2, e2⟩ := h.pa hk hp
          exact hnA a.item (by rw [e2]; simp) hx
        · exact hnQ hx
    · rcases hL m.item hr.1 with e2 | ⟨k3, e2⟩
      · exact e2
      · obtain ⟨t2, e3⟩ := h.pa k3 hp
        exact absurd e2 (hnA a.item (by rw [e3]; simp))
  have sb' := sb.mono h1 hq (off b hb h.pb (fun x hx => by simp [hx]))
  have sc' := sc.mono h1 hq (off c hc h.pc (fun x hx => by simp [hx]))
  cases ev with
  | on h4 hT2 hQ2 =>
    subst hQ2
    exact .inl ⟨h4, ⟨T', _, H', by omega, sa', sb', sc', p⟩, fun k1 _ => by rw [hk] at k1; obtain ⟨t, e⟩ := h.pa k1 hp; exact ⟨t, by rw [hit k1]; exact e⟩, h.pb, h.pc⟩
  | put h4 hk1 hT2 hQ2 hi2 =>
    obtain ⟨t, e⟩ := h.pa hk1 hp
    subst hQ2
    refine .inr (.inl ⟨h4, hk1, t, by rw [hi2]; exact e, ⟨T', _, H', by omega, sa', sb', sc', ?_⟩, fun _ h5 => absurd h4 h5, h.pb, h.pc⟩)
    rw [e] at p
    refine List.Perm.trans ?_ p
    rw [hi2]
    simp only [List.cons_append]
    exact List.perm_middle.symm
  | took h4 hk1 hT2 hQ2 =>
    have hr := hmem (sstp L a).2.item (by rw [hQ2]; simp)
    refine .inr (.inr (.inl ⟨h4, hk1, hr.1, hr.2, ⟨T', _, H', by omega, sa', sb', sc', ?_⟩, fun _ h5 => absurd h4 h5, h.pb, h.pc⟩))
    rw [hQ2] at p
    refine List.Perm.trans ?_ p
    have e : Q' ++ ((ha ++ [(sstp L a).2.item]) ++ (hb ++ hc)) = (Q' ++ ha) ++ (sstp L a).2.item :: (hb ++ hc) := by simp
    have e2 : ((sstp L a).2.item :: Q') ++ (ha ++ (hb ++ hc)) = (sstp L a).2.item :: ((Q' ++ ha) ++ (hb ++ hc)) := by simp
    rw [e, e2]
    exact List.perm_middle
  | none h4 hk1 hT2 hQ2 hn hi2 =>
    subst hQ2
    exact .inr (.inr (.inr ⟨h4, hk1, hi2, ⟨T', _, H', by omega, sa', sb', sc', p⟩, fun _ h5 => absurd h4 h5, h.pb, h.pc⟩))
/-- A push, a pop is begun. -/
theorem So.push {L : List Int} {i : Int} {a b c : Sm} {x : Int} {t hb hc : List Int} (h : So L i a b c (x :: t) hb hc) : So L i (mPush (sk 9) x) b c (x :: t) hb hc := by
  obtain ⟨T, Q, H, hT, sa, sb, sc, p⟩ := h.ex
  have hr : 1 ≤ x ∧ x ≤ 8 := by
    have := p.mem_iff (a := x)
    simp at this; omega
  have hnd : (Q ++ ((x :: t) ++ (hb ++ hc))).Nodup := p.nodup_iff.2 (by decide)
  have hx : x ∉ Q := fun h2 => (List.nodup_append.1 hnd).2.2 _ h2 x (by simp) rfl
  have e : itemOf x = x := by unfold itemOf; rw [if_neg (by omega)]
  refine ⟨⟨T, Q, H, hT, ?_, sb, sc, p⟩, fun _ _ => ⟨t, by simp [mPush, e]⟩, h.pb, h.pc⟩
  have := Sp.push1 (n := 9) (L := L) (T := T) (Q := Q) x 0 0 0 hr.1 (by omega) hx
  simpa [mPush, e] using this
theorem So.pop {L : List Int} {i : Int} {a b c : Sm} {ha hb hc : List Int} (h : So L i a b c ha hb hc) : So L i (mPop (sk 9)) b c ha hb hc := by
  obtain ⟨T, Q, H, hT, sa, sb, sc, p⟩ := h.ex
  exact ⟨⟨T, Q, H, hT, .pop1 .., sb, sc, p⟩, fun k => by simp [mPop] at k, h.pb, h.pc⟩
theorem So.more {L : List Int} {i j : Int} {a b c : Sm} {ha hb hc : List Int} (h : So L i a b c ha hb hc) (hij : i ≤ j) : So L j a b c ha hb hc := by
  obtain ⟨T, Q, H, hT, sa, sb, sc, p⟩ := h.ex
  exact ⟨⟨T, Q, H, by omega, sa, sb, sc, p⟩, h.pa, h.pb, h.pc⟩
theorem So.begin : So (List.replicate 10 0) 0 ⟨2, 0, sk 9, 0, 0, 0, 0⟩ ⟨2, 0, sk 9, 0, 0, 0, 0⟩ ⟨2, 0, sk 9, 0, 0, 0, 0⟩ [1, 2, 3] [4, 5] [6, 7, 8] := by
  refine ⟨⟨0, [], ⟨by simp, by omega, by omega, by omega, by simp, by simp, .nil, rfl⟩, by omega, .done .., .done .., .done .., List.Perm.refl _⟩, fun k => by simp at k, fun k => by simp at k, fun k => by simp at k⟩
end
end Go.Proofs.Ytgnnhjadmepipaa

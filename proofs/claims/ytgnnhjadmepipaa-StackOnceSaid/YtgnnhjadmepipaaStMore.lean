/- A stack's machines: one that runs alone, in a stack, and in any memory; a walk. -/
import Derived.Test.YtgnnhjadmepipaaStPure
namespace Go.Proofs.Ytgnnhjadmepipaa
set_option linter.unusedVariables false
set_option linter.unusedSimpArgs false

def sruns : Nat → List Int → Sm → List Int × Sm
  | 0, L, m => (L, m)
  | k + 1, L, m => sruns k (sstp L m).1 (sstp L m).2
theorem sstp_no {L : List Int} {m : Sm} (h : m.pc = 0) : sstp L m = (L, m) := by simp [sstp, h]
theorem sruns_done {L : List Int} {m : Sm} (h : m.pc = 0) (k : Nat) : sruns k L m = (L, m) := by
  induction k with
  | zero => rfl
  | succ k ih => simp only [sruns, sstp_no h]; exact ih

/-! The steps, one by one. -/
theorem push_first {L : List Int} {m : Sm} (hk : m.kind = 1) (hp : m.pc = 1) {w : Int} (hw : ldq L m.k.head = w) :
    sstp L m = (L, { m with pc := 2, h := w, link := low w, tries := m.tries + 1 }) := by
  subst hw; simp [sstp, hk, hp]
theorem push_link {L : List Int} {m : Sm} (hk : m.kind = 1) (hp : m.pc = 2) : sstp L m = (ptq L (atOf m.k.links m.item) m.link, { m with pc := 3 }) := by
  simp [sstp, hk, hp]
theorem pop_link {L : List Int} {m : Sm} (hk : m.kind = 2) (hp : m.pc = 2) : sstp L m = (L, { m with pc := 3, link := low (ldq L (atOf m.k.links m.item)) }) := by
  simp [sstp, hk, hp]
theorem push_swap {L : List Int} {m : Sm} (hk : m.kind = 1) (hp : m.pc = 3) : sstp L m = swapS L m m.item := by
  simp [sstp, hk, hp]
theorem pop_swap {L : List Int} {m : Sm} (hk : m.kind = 2) (hp : m.pc = 3) : sstp L m = swapS L m m.link := by
  simp [sstp, hk, hp]

/-- Alone, in any memory whose head is word 0: a push of a thing whose link is another word. -/
theorem push_any4 {L : List Int} {k : Sk} {x p w : Int} (hl : 0 < L.length) (hk : k.head = 0) (hx : 1 ≤ x ∧ x ≤ 4294967295) (hp : atOf k.links x = p) (hp0 : p ≠ 0) (hw : L.getD 0 0 = w) (j : Nat) :
    sruns (j + 3) L (mPush k x) = (ptq (ptq L p (low w)) 0 (turnw w x), ⟨1, 0, k, x, w, low w, 1⟩) := by
  have e : itemOf x = x := by unfold itemOf; rw [if_neg (by omega)]
  have h0 : ldq L k.head = w := by rw [hk]; unfold ldq; rw [if_pos (by omega)]; exact hw
  have e1 : sstp L (mPush k x) = (L, ⟨1, 2, k, x, w, low w, 1⟩) := by
    rw [push_first (m := mPush k x) rfl rfl h0]; simp [mPush, e]
  have e2 : sstp L ⟨1, 2, k, x, w, low w, 1⟩ = (ptq L p (low w), ⟨1, 3, k, x, w, low w, 1⟩) := by
    rw [push_link (m := ⟨1, 2, k, x, w, low w, 1⟩) rfl rfl]; simp [hp]
  have hl2 : (ptq L p (low w)).length = L.length := by unfold ptq; split <;> simp
  have h3 : (ptq L p (low w)).getD 0 0 = w := by
    rw [← hw]; unfold ptq; split
    · simp only [List.getD, List.getElem?_set]; rw [if_neg (by omega)]
    · rfl
  have e3 : sstp (ptq L p (low w)) ⟨1, 3, k, x, w, low w, 1⟩ = (ptq (ptq L p (low w)) 0 (turnw w x), ⟨1, 0, k, x, w, low w, 1⟩) := by
    rw [push_swap (m := ⟨1, 3, k, x, w, low w, 1⟩) rfl rfl]
    exact swap_yes (m := ⟨1, 3, k, x, w, low w, 1⟩) x (by omega) hk h3
  simp only [sruns, e1, e2, e3]
  exact sruns_done (m := ⟨1, 0, k, x, w, low w, 1⟩) rfl j
/-- A pop: of none; of some. -/
theorem pop_any4 {L : List Int} {k : Sk} {w : Int} (hl : 0 < L.length) (hk : k.head = 0) (hw : L.getD 0 0 = w) (hz : low w = 0) (j : Nat) :
    sruns (j + 1) L (mPop k) = (L, ⟨2, 0, k, 0, w, 0, 1⟩) := by
  have h0 : ldq L k.head = w := by rw [hk]; unfold ldq; rw [if_pos (by omega)]; exact hw
  have e1 : sstp L (mPop k) = (L, ⟨2, 0, k, 0, w, 0, 1⟩) := by
    rw [pop_first (m := mPop k) rfl rfl h0, if_pos hz]; simp [mPop]
  simp only [sruns, e1]
  exact sruns_done (m := ⟨2, 0, k, 0, w, 0, 1⟩) rfl j
theorem pop_some4 {L : List Int} {k : Sk} {w p : Int} (hl : 0 < L.length) (hk : k.head = 0) (hw : L.getD 0 0 = w) (hz : low w ≠ 0) (hp : atOf k.links (low w) = p) (j : Nat) :
    sruns (j + 3) L (mPop k) = (ptq L 0 (turnw w (low (ldq L p))), ⟨2, 0, k, low w, w, low (ldq L p), 1⟩) := by
  have h0 : ldq L k.head = w := by rw [hk]; unfold ldq; rw [if_pos (by omega)]; exact hw
  have e1 : sstp L (mPop k) = (L, ⟨2, 2, k, low w, w, 0, 1⟩) := by
    rw [pop_first (m := mPop k) rfl rfl h0, if_neg hz]; simp [mPop]
  have e2 : sstp L ⟨2, 2, k, low w, w, 0, 1⟩ = (L, ⟨2, 3, k, low w, w, low (ldq L p), 1⟩) := by
    rw [pop_link (m := ⟨2, 2, k, low w, w, 0, 1⟩) rfl rfl]; simp [hp]
  have e3 : sstp L ⟨2, 3, k, low w, w, low (ldq L p), 1⟩ = (ptq L 0 (turnw w (low (ldq L p))), ⟨2, 0, k, low w, w, low (ldq L p), 1⟩) := by
    rw [pop_swap (m := ⟨2, 3, k, low w, w, low (ldq L p), 1⟩) rfl rfl]
    exact swap_yes (m := ⟨2, 3, k, low w, w, low (ldq L p), 1⟩) _ (by omega) hk hw
  simp only [sruns, e1, e2, e3]
  exact sruns_done (m := ⟨2, 0, k, low w, w, low (ldq L p), 1⟩) rfl j

/-- Alone, in a stack. -/
theorem alone_push {n : Nat} {L : List Int} {T : Int} {Q : List Int} (H : Stk n L T Q) (h9 : T + 1 < 100000) {x : Int} (h0 : 1 ≤ x) (h1 : x ≤ n) (hx : x ∉ Q) (j : Nat) :
    Stk n (sruns (j + 3) L (mPush (sk n) x)).1 (T + 1) (x :: Q) ∧ (sruns (j + 3) L (mPush (sk n) x)).2.pc = 0 ∧ (sruns (j + 3) L (mPush (sk n) x)).2.item = x := by
  have hl := H.len
  have hs := H.small
  rw [push_any4 (by omega) rfl (by omega) (at_sk h0 h1) (by omega) H.head j, H.low.1, turn_is H h9 x]
  obtain ⟨H', hv⟩ := H.put (v := Q.headD 0) h0 h1 hx
  exact ⟨H'.push h9 h0 h1 hx hv, rfl, rfl⟩
theorem alone_none {n : Nat} {L : List Int} {T : Int} (H : Stk n L T []) (j : Nat) : sruns (j + 1) L (mPop (sk n)) = (L, ⟨2, 0, sk n, 0, T * 4294967296, 0, 1⟩) := by
  have hl := H.len
  have hh := H.head
  simp only [List.headD_nil, Int.add_zero] at hh
  exact pop_any4 (by omega) rfl hh (by unfold low; omega) j
theorem alone_pop {n : Nat} {L : List Int} {T q : Int} {Q : List Int} (H : Stk n L T (q :: Q)) (h9 : T + 1 < 100000) (j : Nat) :
    Stk n (sruns (j + 3) L (mPop (sk n))).1 (T + 1) Q ∧ (sruns (j + 3) L (mPop (sk n))).2.pc = 0 ∧ (sruns (j + 3) L (mPop (sk n))).2.item = q := by
  have hl := H.len
  have hr := H.rng q (by simp)
  have hlow := H.low.1
  simp only [List.headD_cons] at hlow
  have hh := H.head
  simp only [List.headD_cons] at hh
  have hrQ : ∀ x ∈ Q, 1 ≤ x ∧ x ≤ (n : Int) := fun x hx => H.rng x (by simp [hx])
  have hd := headD_rng hrQ
  have hs := H.small
  have h2 : low (ldq L q) = Q.headD 0 := by rw [H.ldx hr.1 hr.2, H.second]; unfold low; omega
  rw [pop_some4 (p := q) (by omega) rfl hh (by rw [hlow]; omega) (by rw [hlow]; exact at_sk hr.1 hr.2) j, h2]
  have ht := turn_is H h9 (Q.headD 0)
  simp only [List.headD_cons] at ht
  rw [ht]
  exact ⟨H.pop h9, rfl, hlow⟩

/-! A walk. -/
def walkQ (L : List Int) (k : Sk) : Nat → Int → List Int
  | 0, _ => []
  | f + 1, p => if (0 ≤ p ∧ p < L.length) ∧ 0 < low (L.getD p.toNat 0) then low (L.getD p.toNat 0) :: walkQ L k f (atOf k.links (low (L.getD p.toNat 0))) else []
theorem walk_chain {n : Nat} {L : List Int} (hl : L.length = n + 1) (hs : n ≤ 1000) : ∀ (f : Nat) {Q : List Int} {p : Int}, Q.length ≤ f → 0 ≤ p → p ≤ n → (∀ q ∈ Q, 1 ≤ q ∧ q ≤ (n : Int)) → low (L.getD p.toNat 0) = Q.headD 0 → (∀ q R, Q = q :: R → Chain L (L.getD q.toNat 0) R) → walkQ L (sk n) f p = Q
  | 0, Q, p, hf, h0, h1, hr, he, hc => by
    have : Q = [] := List.eq_nil_of_length_eq_zero (by omega)
    subst this; rfl
  | f + 1, [], p, hf, h0, h1, hr, he, hc => by
    simp only [List.headD_nil] at he
    unfold walkQ; rw [he, if_neg (by omega)]
  | f + 1, q :: Q, p, hf, h0, h1, hr, he, hc => by
    have hq := hr q (by simp)
    simp only [List.headD_cons] at he
    have hrQ : ∀ x ∈ Q, 1 ≤ x ∧ x ≤ (n : Int) := fun x hx => hr x (by simp [hx])
    have hd := headD_rng hrQ
    have hcq := hc q Q rfl
    have hh := hcq.head
    simp at hf
    unfold walkQ
    rw [he, if_pos (by omega), at_sk hq.1 hq.2, walk_chain hl hs f (Q := Q) (p := q) (by omega) (by omega) hq.2 hrQ (by rw [hh]; unfold low; omega) (fun x R e => by subst e; exact hcq.2)]
theorem walk_stk {n : Nat} {L : List Int} {T : Int} {Q : List Int} (H : Stk n L T Q) (f : Nat) (hf : Q.length ≤ f) : walkQ L (sk n) f 0 = Q := by
  refine walk_chain H.len H.small f hf (Int.le_refl 0) (by omega) H.rng ?_ (fun q R e => ?_)
  · have := H.low.1
    show low (L.getD 0 0) = _
    rw [H.head]; exact this
  · subst e; exact H.chain.2
end Go.Proofs.Ytgnnhjadmepipaa

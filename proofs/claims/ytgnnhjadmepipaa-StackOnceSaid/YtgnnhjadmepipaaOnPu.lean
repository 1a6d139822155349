/- Three that put what they have, and take what there is, by their numbers. -/
import Derived.Test.YtgnnhjadmepipaaStMore
namespace Go.Proofs.Ytgnnhjadmepipaa
set_option linter.unusedVariables false
set_option linter.unusedSimpArgs false

def upd3 {α : Type} (f : Nat → α) (k : Nat) (x : α) : Nat → α := fun j => if j = k then x else f j
theorem upd3_same {α : Type} (f : Nat → α) (k : Nat) (x : α) : upd3 f k x k = x := by simp [upd3]
theorem upd3_other {α : Type} (f : Nat → α) {k j : Nat} (x : α) (h : j ≠ k) : upd3 f k x j = f j := by simp [upd3, h]
theorem upd3_self {α : Type} (f : Nat → α) (k : Nat) : upd3 f k (f k) = f := by
  funext j; unfold upd3; split
  · rename_i h; rw [h]
  · rfl

theorem sstp_kind (L : List Int) (m : Sm) : (sstp L m).2.kind = m.kind := by
  have ii : ∀ {q : Prop} [Decidable q] {a b : List Int × Sm}, a.2.kind = m.kind → b.2.kind = m.kind → (if q then a else b).2.kind = m.kind := by
    intro q _ a b ha hb; split <;> assumption
  unfold sstp swapS
  repeat' (first | rfl | refine ii ?_ ?_)

/-- The three, by numbers. -/
def PF (L : List Int) (i : Int) (ms : Nat → Sm) (hs : Nat → List Int) : Prop := So L i (ms 0) (ms 1) (ms 2) (hs 0) (hs 1) (hs 2)
section
variable {L : List Int} {i : Int} {ms : Nat → Sm} {hs : Nat → List Int} {k : Nat}
theorem PF.more {j : Int} (h : PF L i ms hs) (hij : i ≤ j) : PF L j ms hs := So.more h hij
/-- What a step of number k is. -/
inductive KEv (L : List Int) (i : Int) (ms : Nat → Sm) (hs : Nat → List Int) (k : Nat) : Prop
  | on (h : (sstp L (ms k)).2.pc ≠ 0) (p : PF (sstp L (ms k)).1 (i + 1) (upd3 ms k (sstp L (ms k)).2) hs)
  | put (h : (sstp L (ms k)).2.pc = 0) (hk : (ms k).kind = 1) (t : List Int) (ht : hs k = (sstp L (ms k)).2.item :: t) (p : PF (sstp L (ms k)).1 (i + 1) (upd3 ms k (sstp L (ms k)).2) (upd3 hs k t))
  | took (h : (sstp L (ms k)).2.pc = 0) (hk : (ms k).kind = 2) (h1 : 1 ≤ (sstp L (ms k)).2.item) (h8 : (sstp L (ms k)).2.item ≤ 8) (p : PF (sstp L (ms k)).1 (i + 1) (upd3 ms k (sstp L (ms k)).2) (upd3 hs k (hs k ++ [(sstp L (ms k)).2.item])))
  | none (h : (sstp L (ms k)).2.pc = 0) (hk : (ms k).kind = 2) (h0 : (sstp L (ms k)).2.item = 0) (p : PF (sstp L (ms k)).1 (i + 1) (upd3 ms k (sstp L (ms k)).2) hs)
theorem PF.step (h : PF L i ms hs) (hk : k < 3) (hp : (ms k).pc ≠ 0) (hi : i + 1 < 100000) : KEv L i ms hs k := by
  have key : k = 0 ∨ k = 1 ∨ k = 2 := by omega
  rcases key with rfl | rfl | rfl
  · have e := So.step h hp hi
    rcases e with ⟨a, p⟩ | ⟨a, b, t, ht, p⟩ | ⟨a, b, c, d, p⟩ | ⟨a, b, c, p⟩
    · exact .on a (by simpa [PF, upd3] using p)
    · exact .put a b t ht (by simpa [PF, upd3] using p)
    · exact .took a b c d (by simpa [PF, upd3] using p)
    · exact .none a b c (by simpa [PF, upd3] using p)
  · have e := So.step (So.swap1 h) hp hi
    rcases e with ⟨a, p⟩ | ⟨a, b, t, ht, p⟩ | ⟨a, b, c, d, p⟩ | ⟨a, b, c, p⟩
    · exact .on a (by simpa [PF, upd3] using p.swap1)
    · exact .put a b t ht (by simpa [PF, upd3] using p.swap1)
    · exact .took a b c d (by simpa [PF, upd3] using p.swap1)
    · exact .none a b c (by simpa [PF, upd3] using p.swap1)
  · have e := So.step (So.swap2 h) hp hi
    rcases e with ⟨a, p⟩ | ⟨a, b, t, ht, p⟩ | ⟨a, b, c, d, p⟩ | ⟨a, b, c, p⟩
    · exact .on a (by simpa [PF, upd3] using p.swap2)
    · exact .put a b t ht (by simpa [PF, upd3] using p.swap2)
    · exact .took a b c d (by simpa [PF, upd3] using p.swap2)
    · exact .none a b c (by simpa [PF, upd3] using p.swap2)
theorem PF.push {x : Int} {t : List Int} (h : PF L i ms hs) (hk : k < 3) (ht : hs k = x :: t) : PF L i (upd3 ms k (mPush (sk 9) x)) hs := by
  have key : k = 0 ∨ k = 1 ∨ k = 2 := by omega
  unfold PF at *
  rcases key with rfl | rfl | rfl
  · rw [ht] at h
    have := h.push
    simpa [upd3, ht] using this
  · have h' := h.swap1
    rw [ht] at h'
    have := h'.push.swap1
    simpa [upd3, ht] using this
  · have h' := h.swap2
    rw [ht] at h'
    have := h'.push.swap2
    simpa [upd3, ht] using this
theorem PF.pop (h : PF L i ms hs) (hk : k < 3) : PF L i (upd3 ms k (mPop (sk 9))) hs := by
  have key : k = 0 ∨ k = 1 ∨ k = 2 := by omega
  unfold PF at *
  rcases key with rfl | rfl | rfl
  · simpa [upd3] using h.pop
  · simpa [upd3] using h.swap1.pop.swap1
  · simpa [upd3] using h.swap2.pop.swap2
theorem PF.seen (h : PF L i ms hs) : ∃ T Q, Stk 9 L T Q ∧ (Q ++ (hs 0 ++ (hs 1 ++ hs 2))).Perm [1, 2, 3, 4, 5, 6, 7, 8] := So.seen h
theorem PF.len (h : PF L i ms hs) : (hs 0).length ≤ 8 ∧ (hs 1).length ≤ 8 ∧ (hs 2).length ≤ 8 := by
  obtain ⟨T, Q, _, p⟩ := h.seen
  have := p.length_eq
  simp at this
  omega
theorem PF.lenk (h : PF L i ms hs) (hk : k < 3) : (hs k).length ≤ 8 := by
  have := h.len
  have key : k = 0 ∨ k = 1 ∨ k = 2 := by omega
  rcases key with rfl | rfl | rfl <;> omega
theorem PF.rng (h : PF L i ms hs) (hk : k < 3) {y : Int} (hy : y ∈ hs k) : 1 ≤ y ∧ y ≤ 8 := by
  obtain ⟨T, Q, _, p⟩ := h.seen
  have key : k = 0 ∨ k = 1 ∨ k = 2 := by omega
  have hm : y ∈ Q ++ (hs 0 ++ (hs 1 ++ hs 2)) := by
    rcases key with rfl | rfl | rfl <;> simp [hy]
  have := p.mem_iff.1 hm
  simp at this; omega
def ms0 : Nat → Sm := fun _ => ⟨2, 0, sk 9, 0, 0, 0, 0⟩
def hs0 : Nat → List Int := fun j => if j = 0 then [1, 2, 3] else if j = 1 then [4, 5] else [6, 7, 8]
theorem PF.begin : PF (List.replicate 10 0) 0 ms0 hs0 := So.begin
end

/-! All of them, looked at one by one: first what each has, then the stack. -/
def lj (hs : Nat → List Int) (Q : List Int) (j : Nat) : List Int := if j < 3 then hs j else Q
def pre (hs : Nat → List Int) (Q : List Int) : Nat → List Int
  | 0 => []
  | j + 1 => pre hs Q j ++ lj hs Q j
theorem pre_perm (hs : Nat → List Int) (Q : List Int) : (pre hs Q 4).Perm (Q ++ (hs 0 ++ (hs 1 ++ hs 2))) := by
  have e : pre hs Q 4 = (hs 0 ++ (hs 1 ++ hs 2)) ++ Q := by simp [pre, lj]
  rw [e]; exact List.perm_append_comm
/-- What is known of the q-th of the j-th. -/
theorem pre_next {hs : Nat → List Int} {Q : List Int} (h : (Q ++ (hs 0 ++ (hs 1 ++ hs 2))).Perm [1, 2, 3, 4, 5, 6, 7, 8]) {j q : Nat} (hj : j < 4) (hq : q < (lj hs Q j).length) :
    (1 ≤ (lj hs Q j).getD q 0 ∧ (lj hs Q j).getD q 0 ≤ 8) ∧ (lj hs Q j).getD q 0 ∉ pre hs Q j ++ (lj hs Q j).take q ∧ (pre hs Q j ++ (lj hs Q j).take q).length < 8 := by
  have p := (pre_perm hs Q).trans h
  have hnd : (pre hs Q 4).Nodup := p.nodup_iff.2 (by decide)
  have hlen : (pre hs Q 4).length = 8 := p.length_eq
  have sub : ∃ R, pre hs Q 4 = (pre hs Q j ++ lj hs Q j) ++ R := by
    have key : j = 0 ∨ j = 1 ∨ j = 2 ∨ j = 3 := by omega
    rcases key with rfl | rfl | rfl | rfl
    · exact ⟨lj hs Q 1 ++ (lj hs Q 2 ++ lj hs Q 3), by simp [pre]⟩
    · exact ⟨lj hs Q 2 ++ lj hs Q 3, by simp [pre]⟩
    · exact ⟨lj hs Q 3, by simp [pre]⟩
    · exact ⟨[], by simp [pre]⟩
  obtain ⟨R, hR⟩ := sub
  have e1 : lj hs Q j = (lj hs Q j).take q ++ (lj hs Q j).getD q 0 :: (lj hs Q j).drop (q + 1) := by
    rw [List.getD, List.getElem?_eq_getElem hq]
    simp
  obtain ⟨y, hy⟩ : ∃ y, y = (lj hs Q j).getD q 0 := ⟨_, rfl⟩
  obtain ⟨P, hP⟩ : ∃ P, P = (lj hs Q j).take q := ⟨_, rfl⟩
  obtain ⟨E, hE⟩ : ∃ E, E = (lj hs Q j).drop (q + 1) := ⟨_, rfl⟩
  rw [← hy, ← hP, ← hE] at e1
  rw [← hy, ← hP]
  rw [e1] at hR
  have hR2 : pre hs Q 4 = (pre hs Q j ++ P) ++ (y :: (E ++ R)) := by rw [hR]; simp
  have hmem : y ∈ pre hs Q 4 := by rw [hR2]; simp
  have hm2 := p.mem_iff.1 hmem
  rw [hR2] at hnd hlen
  have hd := (List.nodup_append.1 hnd).2.2
  refine ⟨by simp at hm2; omega, fun hx => hd _ hx y (by simp) rfl, ?_⟩
  simp only [List.length_append, List.length_cons] at hlen ⊢
  omega
theorem pre_take (hs : Nat → List Int) (Q : List Int) (j q : Nat) (hq : q < (lj hs Q j).length) : pre hs Q j ++ (lj hs Q j).take (q + 1) = (pre hs Q j ++ (lj hs Q j).take q) ++ [(lj hs Q j).getD q 0] := by
  rw [List.append_assoc]
  congr 1
  rw [List.take_add_one, List.getD, List.getElem?_eq_getElem hq]
  simp
end Go.Proofs.Ytgnnhjadmepipaa

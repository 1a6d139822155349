/- Three packets' machines by their numbers; how many steps each has left. -/
import Derived.Test.YtbpfkhpnfkbacaaJ21
namespace Go.Proofs.Ytbpfkhpnfkbacaa
set_option linter.unusedVariables false
set_option linter.unusedSimpArgs false
open Lay (plcc plc shOf packN nodesN OkC Cfg Norm firstV Rep lenL things)

def upd3 {α : Type} (f : Nat → α) (k : Nat) (x : α) : Nat → α := fun j => if j = k then x else f j
theorem upd3_same {α : Type} (f : Nat → α) (k : Nat) (x : α) : upd3 f k x k = x := by simp [upd3]
theorem upd3_other {α : Type} (f : Nat → α) {k j : Nat} (x : α) (h : j ≠ k) : upd3 f k x j = f j := by simp [upd3, h]
theorem upd3_self {α : Type} (f : Nat → α) (k : Nat) : upd3 f k (f k) = f := by
  funext j; unfold upd3; split
  · rename_i h; rw [h]
  · rfl
/-- The three, by numbers. -/
def PN (n : Nat) (g : Pg) (L : List Int) (i : Int) (put : Nat) (S : List Int) (ms : Nat → Pm) (hs ws : Nat → List Int) (rs : Nat → Int) : Prop :=
  Pw n g L i put S (ms 0) (ms 1) (ms 2) (hs 0) (hs 1) (hs 2) (ws 0) (ws 1) (ws 2) (rs 0) (rs 1) (rs 2)
section
variable {n : Nat} {g : Pg} {L : List Int} {i : Int} {put : Nat} {S : List Int} {ms : Nat → Pm} {hs ws : Nat → List Int} {rs : Nat → Int} {k : Nat}
theorem PN.more {j : Int} (h : PN n g L i put S ms hs ws rs) (hij : i ≤ j) : PN n g L j put S ms hs ws rs := Pw.more h hij (Int.le_refl _) (Int.le_refl _) (Int.le_refl _)
theorem PN.top (h : PN n g L i put S ms hs ws rs) : PN n g L i put S ms hs ws (fun _ => 22) := Pw.top h
/-- What a step of number k is. -/
inductive KEp (n : Nat) (g : Pg) (L : List Int) (i : Int) (put : Nat) (S : List Int) (ms : Nat → Pm) (hs ws : Nat → List Int) (rs : Nat → Int) (k : Nat) : Prop
  | on (h : (pstp g L (ms k)).2.pc ≠ 0) (h' : List Int) (hk : (ms k).kind ≠ 1 → h' = hs k) (p : PN n g (pstp g L (ms k)).1 (i + 1) put S (upd3 ms k (pstp g L (ms k)).2) (upd3 hs k h') ws (upd3 rs k (rs k - 1)))
  | put (h : (pstp g L (ms k)).2.pc = 0) (hk : (ms k).kind = 1) (p : PN n g (pstp g L (ms k)).1 (i + 1) put S (upd3 ms k (pstp g L (ms k)).2) (upd3 hs k []) (upd3 ws k []) (upd3 rs k (rs k - 1)))
  | took (h : (pstp g L (ms k)).2.pc = 0) (hk : (ms k).kind = 2) (hp : 1 ≤ (pstp g L (ms k)).2.p ∧ (pstp g L (ms k)).2.p ≤ n) (hm : mw g (pstp g L (ms k)).1 (pstp g L (ms k)).2.p = 1)
      (ht : 1 ≤ tw g (pstp g L (ms k)).1 (pstp g L (ms k)).2.p ∧ tw g (pstp g L (ms k)).1 (pstp g L (ms k)).2.p ≤ put)
      (p : PN n g (pstp g L (ms k)).1 (i + 1) put (S ++ [tw g (pstp g L (ms k)).1 (pstp g L (ms k)).2.p]) (upd3 ms k (pstp g L (ms k)).2) (upd3 hs k [(pstp g L (ms k)).2.p]) (upd3 ws k []) (upd3 rs k (rs k - 1)))
  | none (h : (pstp g L (ms k)).2.pc = 0) (hk : (ms k).kind = 2) (h0 : (pstp g L (ms k)).2.p = 0) (p : PN n g (pstp g L (ms k)).1 (i + 1) put S (upd3 ms k (pstp g L (ms k)).2) (upd3 hs k []) (upd3 ws k []) (upd3 rs k (rs k - 1)))
  | back (h : (pstp g L (ms k)).2.pc = 0) (hk : (ms k).kind = 3) (p : PN n g (pstp g L (ms k)).1 (i + 1) put S (upd3 ms k (pstp g L (ms k)).2) (upd3 hs k []) (upd3 ws k []) (upd3 rs k (rs k - 1)))
theorem PN.step (h : PN n g L i put S ms hs ws rs) (hk : k < 3) (hp : (ms k).pc ≠ 0) (hi : i + 1 < 100000) : KEp n g L i put S ms hs ws rs k := by
  have key : k = 0 ∨ k = 1 ∨ k = 2 := by omega
  rcases key with rfl | rfl | rfl
  · rcases Pw.step h hp hi with ⟨a, h', b, p⟩ | ⟨a, b, p⟩ | ⟨a, b, c, d, e, p⟩ | ⟨a, b, c, p⟩ | ⟨a, b, p⟩
    · exact .on a h' b (by simpa [PN, upd3] using p)
    · exact .put a b (by simpa [PN, upd3] using p)
    · exact .took a b c d e (by simpa [PN, upd3] using p)
    · exact .none a b c (by simpa [PN, upd3] using p)
    · exact .back a b (by simpa [PN, upd3] using p)
  · rcases Pw.step (Pw.swap1 h) hp hi with ⟨a, h', b, p⟩ | ⟨a, b, p⟩ | ⟨a, b, c, d, e, p⟩ | ⟨a, b, c, p⟩ | ⟨a, b, p⟩
    · exact .on a h' b (by simpa [PN, upd3] using p.swap1)
    · exact .put a b (by simpa [PN, upd3] using p.swap1)
    · exact .took a b c d e (by simpa [PN, upd3] using p.swap1)
    · exact .none a b c (by simpa [PN, upd3] using p.swap1)
    · exact .back a b (by simpa [PN, upd3] using p.swap1)
  · rcases Pw.step (Pw.swap2 h) hp hi with ⟨a, h', b, p⟩ | ⟨a, b, p⟩ | ⟨a, b, c, d, e, p⟩ | ⟨a, b, c, p⟩ | ⟨a, b, p⟩
    · exact .on a h' b (by simpa [PN, upd3] using p.swap2)
    · exact .put a b (by simpa [PN, upd3] using p.swap2)
    · exact .took a b c d e (by simpa [PN, upd3] using p.swap2)
    · exact .none a b c (by simpa [PN, upd3] using p.swap2)
    · exact .back a b (by simpa [PN, upd3] using p.swap2)
theorem PN.idle (h : PN n g L i put S ms hs ws rs) (hk : k < 3) (hp : (ms k).pc = 0) : ws k = [] ∧ (hs k = [] ∨ ∃ p, hs k = [p] ∧ 1 ≤ p ∧ p ≤ n) := by
  have key : k = 0 ∨ k = 1 ∨ k = 2 := by omega
  rcases key with rfl | rfl | rfl
  · exact Pw.idle h hp
  · exact Pw.idle (Pw.swap1 h) hp
  · exact Pw.idle (Pw.swap2 h) hp
theorem PN.left (h : PN n g L i put S ms hs ws rs) (hk : k < 3) (hp : (ms k).pc ≠ 0) : 1 ≤ rs k := by
  have key : k = 0 ∨ k = 1 ∨ k = 2 := by omega
  rcases key with rfl | rfl | rfl
  · exact Pw.left h hp
  · exact Pw.left (Pw.swap1 h) hp
  · exact Pw.left (Pw.swap2 h) hp
theorem Th.takes {n : Nat} {g : Pg} {L : List Int} {Ts Tp : Int} {Qs Qp : List Int} {m : Pm} {h w : List Int} (P : Th n g L Ts Qs Tp Qp m h w) (hp : m.pc ≠ 0) (hk : m.kind = 2) : h = [] := by
  cases P <;> first | rfl | exact absurd rfl hp | (simp at hk)
theorem PN.takes (h : PN n g L i put S ms hs ws rs) (hk : k < 3) (hp : (ms k).pc ≠ 0) (h2 : (ms k).kind = 2) : hs k = [] := by
  obtain ⟨Ts, Qs, Tp, Qp, Hs, Hp, hT, hT2, sa, sb, sc, _⟩ := Pw.ex h
  have key : k = 0 ∨ k = 1 ∨ k = 2 := by omega
  rcases key with rfl | rfl | rfl
  · exact sa.takes hp h2
  · exact sb.takes hp h2
  · exact sc.takes hp h2
/-- A machine is begun. -/
theorem PN.puts (h : PN n g L i put S ms hs ws rs) (hk : k < 3) (hp : (ms k).pc = 0) (h0 : hs k = []) (hn : put + 1 ≤ n) :
    PN n g L i (put + 1) S (upd3 ms k (pPut g [((put + 1 : Nat) : Int)])) hs (upd3 ws k [((put + 1 : Nat) : Int)]) (fun _ => 22) := by
  have key : k = 0 ∨ k = 1 ∨ k = 2 := by omega
  unfold PN at *
  rcases key with rfl | rfl | rfl
  · rw [h0] at h; have := h.puts hp hn; simpa [upd3, h0] using this
  · have h' := h.swap1; rw [h0] at h'; have := (h'.puts hp hn).swap1; simpa [upd3, h0] using this
  · have h' := h.swap2; rw [h0] at h'; have := (h'.puts hp hn).swap2; simpa [upd3, h0] using this
theorem PN.take (h : PN n g L i put S ms hs ws rs) (hk : k < 3) (hp : (ms k).pc = 0) (h0 : hs k = []) : PN n g L i put S (upd3 ms k (pTake g)) hs (upd3 ws k []) (fun _ => 22) := by
  have key : k = 0 ∨ k = 1 ∨ k = 2 := by omega
  unfold PN at *
  rcases key with rfl | rfl | rfl
  · rw [h0] at h; have := h.take hp; simpa [upd3, h0] using this
  · have h' := h.swap1; rw [h0] at h'; have := (h'.take hp).swap1; simpa [upd3, h0] using this
  · have h' := h.swap2; rw [h0] at h'; have := (h'.take hp).swap2; simpa [upd3, h0] using this
theorem PN.back {p : Int} (h : PN n g L i put S ms hs ws rs) (hk : k < 3) (hp : (ms k).pc = 0) (h0 : hs k = [p]) : PN n g L i put S (upd3 ms k (pBack n g p)) hs (upd3 ws k []) (fun _ => 22) := by
  have key : k = 0 ∨ k = 1 ∨ k = 2 := by omega
  unfold PN at *
  rcases key with rfl | rfl | rfl
  · rw [h0] at h; have := h.back hp; simpa [upd3, h0] using this
  · have h' := h.swap1; rw [h0] at h'; have := (h'.back hp).swap1; simpa [upd3, h0] using this
  · have h' := h.swap2; rw [h0] at h'; have := (h'.back hp).swap2; simpa [upd3, h0] using this
theorem PN.bound (h : PN n g L i put S ms hs ws rs) : 2 * (put : Int) ≤ i + 6 := by
  have hb := Pw.bd h
  obtain ⟨Ts, Qs, Tp, Qp, Hs, Hp, hT, hT2, sa, sb, sc, _⟩ := Pw.ex h
  have := sa.top.2.2; have := sb.top.2.2; have := sc.top.2.2
  omega
theorem PN.seenR (h : PN n g L i put S ms hs ws rs) : (∀ t ∈ S, 1 ≤ t ∧ t ≤ (put : Int)) ∧ S.length ≤ put := by
  refine ⟨(Pw.rng h).2, ?_⟩
  obtain ⟨Ts, Qs, Tp, Qp, Hs, Hp, hT, hT2, sa, sb, sc, p1, p2, _⟩ := Pw.ex h
  have := p2.length_eq
  simp only [List.length_append, len_En] at this; omega
theorem PN.end (h : PN n g L i put S ms hs ws rs) (h0 : ∀ j, j < 3 → (ms j).pc = 0) : ∃ T Q, Stk n g.po L T Q ∧ (S ++ Q.map (tw g L)).Perm (En put) ∧ (∀ q ∈ Q, mw g L q = 1 ∧ 1 ≤ tw g L q ∧ tw g L q ≤ put) ∧ Q.length ≤ n :=
  Pw.end h (h0 0 (by omega)) (h0 1 (by omega)) (h0 2 (by omega))
end
/-- The next turn of number j, from i on. -/
def nextT (i : Int) (j : Nat) : Int := i + ((j : Int) + 3 - i % 3) % 3
/-- Steps that are left fit the turns that are left. -/
def Due (len i : Int) (j : Nat) (r : Int) : Prop := (i ≤ len → r ≤ 22) ∧ (len ≤ i → nextT i j + 3 * r ≤ len + 92)
theorem dueT {len i : Int} (h : i ≤ len) (j : Nat) (hj : j < 3) : Due len i j 22 := ⟨fun _ => by omega, fun h2 => by unfold nextT; omega⟩
theorem due_own {len i r : Int} {j : Nat} (hj : j < 3) (h : Due len i j r) (hl : len ≤ i) (ht : i % 3 = j) : Due len (i + 1) j (r - 1) := ⟨fun h2 => by omega, fun _ => by have := h.2 hl; unfold nextT at *; omega⟩
theorem due_other {len i r : Int} {j : Nat} (hj : j < 3) (h : Due len i j r) (hl : len ≤ i) (ht : i % 3 ≠ j) : Due len (i + 1) j r := ⟨fun h2 => by omega, fun _ => by have := h.2 hl; unfold nextT at *; omega⟩
theorem due_end {len r : Int} {j : Nat} (hj : j < 3) (h : Due len (len + 90) j r) (hr : 1 ≤ r) : False := by have := h.2 (by omega); unfold nextT at this; omega
/-- What the pool holds, each packet one task. -/
theorem heldT_one {c : Cfg} {L : List Int} (G : Gp (pkn c) L.length (gOf c)) : ∀ {Q : List Int}, (∀ q ∈ Q, mw (gOf c) L q = 1 ∧ 1 ≤ q ∧ q ≤ (pkn c : Int)) → heldT c L Q = Q.map (tw (gOf c) L)
  | [], _ => rfl
  | q :: Q, h => by
    have ih := heldT_one G (Q := Q) (fun x hx => h x (by simp [hx]))
    obtain ⟨h1, h2, h3⟩ := h q (by simp)
    have e := pkT_cont (ts := [tw (gOf c) L q]) G ⟨h2, h3⟩ ⟨by simpa using h1, by simp, fun i hi => by
      have : i = 0 := by simpa using hi
      subst this; rfl⟩
    unfold heldT at ih ⊢
    rw [List.flatMap_cons, e, ih]; rfl
end Go.Proofs.Ytbpfkhpnfkbacaa

/- A stack's machine in memory stands for one over words; each of its steps is that one's. -/
import Derived.Test.YtgnnhjadmepipaaStB
namespace Go.Proofs.Ytgnnhjadmepipaa
open Go.RowKit
set_option linter.unusedVariables false
set_option linter.unusedSimpArgs false

theorem ldv_eq (L : List Int) (a : Int) : ldv L a = ldq L a := by
  unfold ldv ldq inB; simp
theorem ptv_eq (L : List Int) (a v : Int) : ptv L a v = ptq L a v := by
  unfold ptv ptq inB; simp
theorem low_eq (x : Int) : lowOf x = low x := rfl
theorem turn_eq (x n : Int) : turnOf x n = turnw x n := rfl
theorem swB_iff (L : List Int) (a o : Int) : swB L a o = true ↔ ((0 ≤ a ∧ a < L.length) ∧ L.getD a.toNat 0 = o) := by
  unfold swB inB; simp
theorem swv_eq (L : List Int) (a o v : Int) : swv L a o v = if (0 ≤ a ∧ a < L.length) ∧ L.getD a.toNat 0 = o then ptq L a v else L := by
  unfold swv
  by_cases h : (0 ≤ a ∧ a < L.length) ∧ L.getD a.toNat 0 = o
  · rw [if_pos ((swB_iff ..).2 h), if_pos h]; unfold ptq; rw [if_pos h.1]
  · rw [if_neg (fun h2 => h ((swB_iff ..).1 h2)), if_neg h]

/-- The function that does a machine's next step, and its first one. -/
def ffn (m : Sm) : Nat := if m.kind = 1 then 34 else 32
def nfn (m : Sm) : Nat := if m.kind = 1 then (if m.pc = 1 then 34 else if m.pc = 2 then 46 else 55) else (if m.pc = 1 then 32 else if m.pc = 2 then 45 else 54)
def nxt (M : Nat) (m : Sm) : Value := if m.pc = 0 then .nilFunc else fnv (nfn m) M
theorem nxt_no {M : Nat} {m : Sm} (h : m.pc = 0) : nxt M m = .nilFunc := by simp [nxt, h]
theorem nxt_at {M : Nat} {m : Sm} (h : m.pc ≠ 0) : nxt M m = fnv (nfn m) M := by simp [nxt, h]
/-- A machine in memory. -/
def Mi (w0 w : World) (M S D Bx Ab : Nat) (m : Sm) (L : List Int) (c : Int) : Prop :=
  Mst w0 w M S D Bx Ab m.k.links m.k.head (fnv (ffn m) M) (nxt M m) m.h m.item m.link (sItem m) m.tries L c
/-- What it knows are words; it has begun t times at most. -/
structure Wm (t : Int) (m : Sm) : Prop where
  kd : m.kind = 1 ∨ m.kind = 2
  pc : m.pc ≤ 3
  h : 0 ≤ m.h ∧ m.h ≤ 18446744073709551615
  i : 0 ≤ m.item ∧ m.item ≤ 4294967295
  l : 0 ≤ m.link ∧ m.link ≤ 4294967295
  t : 0 ≤ m.tries ∧ m.tries ≤ t

theorem Wm.mono {t u : Int} {m : Sm} (h : Wm t m) (k : t ≤ u) : Wm u m := ⟨h.kd, h.pc, h.h, h.i, h.l, by have := h.t; omega⟩
theorem low_rng (x : Int) : 0 ≤ low x ∧ low x ≤ 4294967295 := by unfold low; omega
theorem WW.ldq {L : List Int} (h : WW L) (a : Int) : 0 ≤ ldq L a ∧ Ytgnnhjadmepipaa.ldq L a ≤ 18446744073709551615 := by rw [← ldv_eq]; exact h.ld a
theorem ite_ind {α : Type} {P : α → Prop} {q : Prop} [Decidable q] {a b : α} (ha : P a) (hb : P b) : P (if q then a else b) := by split <;> assumption
theorem Wm.swap {t x : Int} {m : Sm} {L : List Int} (h : Wm t m) : Wm t (swapS L m x).2 := by
  unfold swapS
  refine ite_ind (P := fun z : List Int × Sm => Wm t z.2) ?_ ?_
  · exact ⟨h.kd, Nat.zero_le _, h.h, h.i, h.l, h.t⟩
  · exact ⟨h.kd, (by simp : (1 : Nat) ≤ 3), h.h, h.i, h.l, h.t⟩
theorem Wm.step {t : Int} {m : Sm} {L : List Int} (h : Wm t m) (ww : WW L) : Wm (t + 1) (sstp L m).2 := by
  have hm := h.mono (u := t + 1) (by omega)
  have q := ww.ldq
  have ht := h.t
  unfold sstp
  refine ite_ind (P := fun z : List Int × Sm => Wm (t + 1) z.2) hm ?_
  refine ite_ind (P := fun z : List Int × Sm => Wm (t + 1) z.2) (ite_ind (P := fun z : List Int × Sm => Wm (t + 1) z.2) ?_ (ite_ind (P := fun z : List Int × Sm => Wm (t + 1) z.2) ?_ ?_)) ?_
  · exact ⟨h.kd, (by simp : (2 : Nat) ≤ 3), q _, h.i, low_rng _, by simp only; omega⟩
  · exact ⟨h.kd, Nat.zero_le _, q _, by simp only; omega, h.l, by simp only; omega⟩
  · exact ⟨h.kd, (by simp : (2 : Nat) ≤ 3), q _, low_rng _, h.l, by simp only; omega⟩
  refine ite_ind (P := fun z : List Int × Sm => Wm (t + 1) z.2) (ite_ind (P := fun z : List Int × Sm => Wm (t + 1) z.2) ?_ ?_) (ite_ind (P := fun z : List Int × Sm => Wm (t + 1) z.2) hm.swap hm.swap)
  · exact ⟨h.kd, (by simp : (3 : Nat) ≤ 3), h.h, h.i, h.l, hm.t⟩
  · exact ⟨h.kd, (by simp : (3 : Nat) ≤ 3), h.h, h.i, low_rng _, hm.t⟩
theorem WW.put {L : List Int} (h : WW L) (a : Int) {v : Int} (hv : 0 ≤ v ∧ v ≤ 18446744073709551615) : WW (ptq L a v) := by
  unfold ptq; split
  · intro x hx
    rcases List.mem_or_eq_of_mem_set hx with h2 | rfl
    · exact h x h2
    · exact hv
  · exact h
theorem turnw_rng {x n : Int} (hn : 0 ≤ n ∧ n ≤ 4294967295) : 0 ≤ turnw x n ∧ turnw x n ≤ 18446744073709551615 := by unfold turnw; omega
theorem WW.swap {L : List Int} {m : Sm} {x : Int} (h : WW L) (hx : 0 ≤ x ∧ x ≤ 4294967295) : WW (swapS L m x).1 := by
  unfold swapS
  exact ite_ind (P := fun z : List Int × Sm => WW z.1) (h.put _ (turnw_rng hx)) h
theorem WW.step {t : Int} {L : List Int} {m : Sm} (h : WW L) (hm : Wm t m) : WW (sstp L m).1 := by
  unfold sstp
  refine ite_ind (P := fun z : List Int × Sm => WW z.1) h ?_
  refine ite_ind (P := fun z : List Int × Sm => WW z.1) (ite_ind (P := fun z : List Int × Sm => WW z.1) h (ite_ind (P := fun z : List Int × Sm => WW z.1) h h)) ?_
  have hl := hm.l
  exact ite_ind (P := fun z : List Int × Sm => WW z.1) (ite_ind (P := fun z : List Int × Sm => WW z.1) (h.put _ (by omega)) h) (ite_ind (P := fun z : List Int × Sm => WW z.1) (h.swap hm.i) (h.swap hm.l))

section
variable {w0 w w' : World} {M S D Bx Ab : Nat} {m : Sm} {L : List Int} {c t : Int}
theorem Mi.of {m' : Sm} {zs : List Int} {hd : Int} {fs nx : Value} {se th li it tr : Int} (h : Mst w0 w M S D Bx Ab zs hd fs nx se th li it tr L c)
    (h1 : m'.k.links = zs) (h2 : m'.k.head = hd) (h3 : fnv (ffn m') M = fs) (h4 : nxt M m' = nx) (h5 : m'.h = se) (h6 : m'.item = th) (h7 : m'.link = li) (h8 : sItem m' = it) (h9 : m'.tries = tr) : Mi w0 w M S D Bx Ab m' L c := by
  subst h1 h2 h3 h4 h5 h6 h7 h8 h9; exact h
theorem Mi.at (h : Mi w0 w M S D Bx Ab m L c) (hp : m.pc ≠ 0) : Mst w0 w M S D Bx Ab m.k.links m.k.head (fnv (ffn m) M) (fnv (nfn m) M) m.h m.item m.link 0 m.tries L c := by
  have e : sItem m = 0 := by unfold sItem; rw [if_neg hp]
  have h' := h
  unfold Mi at h'
  rw [nxt_at hp, e] at h'
  exact h'

/-- A turn. -/
theorem turned_mi {w' : World} {x : Int} (hp : m.pc ≠ 0) (hk : m.kind = 1 ∨ m.kind = 2) (h : Turned w0 M S D Bx Ab m.k.links m.k.head (fnv (ffn m) M) m.h m.item m.link 0 m.tries L c x w') :
    Mi w0 w' M S D Bx Ab (swapS L m x).2 (swapS L m x).1 (c + 1) := by
  unfold Turned at h
  rw [swv_eq, turn_eq] at h
  unfold swapS
  by_cases hc : (0 ≤ m.k.head ∧ m.k.head < L.length) ∧ L.getD m.k.head.toNat 0 = m.h
  · rw [if_pos hc]
    have e := (swB_iff ..).2 hc
    rw [e, if_pos rfl, if_pos rfl, if_pos hc] at h
    exact Mi.of h rfl rfl rfl rfl rfl rfl rfl rfl rfl
  · rw [if_neg hc]
    have e : swB L m.k.head m.h = false := by
      cases hb : swB L m.k.head m.h with
      | false => rfl
      | true => exact absurd ((swB_iff ..).1 hb) hc
    rw [e, if_neg (by simp), if_neg (by simp), if_neg hc] at h
    refine Mi.of h rfl rfl rfl ?_ rfl rfl rfl rfl rfl
    show (if (1 : Nat) = 0 then Value.nilFunc else _) = _
    rw [if_neg (by simp)]
    rcases hk with hk | hk <;> simp [nfn, ffn, hk]

theorem next_any (h : Mi w0 w M S D Bx Ab m L c) (hp : m.pc ≠ 0) (wm : Wm t m) (ww : WW L) (h0 : 0 ≤ c) (h1 : c ≤ 1000000000) (ht : t ≤ 1000000000) :
    Calls Try.prog (nfn m) #[ptr M, ptr S] w fun a w' => a = .returned (.tuple #[]) ∧ Mi w0 w' M S D Bx Ab (sstp L m).2 (sstp L m).1 (c + 1) := by
  have h' := h.at hp
  have t0 := wm.t
  have hpc := wm.pc
  rcases wm.kd with hk | hk
  · by_cases p1 : m.pc = 1
    · rw [show nfn m = 34 by simp [nfn, hk, p1]]
      refine (seeHead_any _ h' h0 h1 t0.1 (by omega) ww).mono ?_
      rintro a w' ⟨rfl, k⟩
      refine ⟨rfl, ?_⟩
      have es : sstp L m = (L, { m with pc := 2, h := ldq L m.k.head, link := low (ldq L m.k.head), tries := m.tries + 1 }) := push_first hk p1 rfl
      rw [es]
      rw [ldv_eq, low_eq] at k
      exact Mi.of k rfl rfl rfl (by simp [nxt, nfn, hk]) rfl rfl rfl rfl rfl
    · by_cases p2 : m.pc = 2
      · rw [show nfn m = 46 by simp [nfn, hk, p2]]
        refine (putLink_any _ h' h0 h1 wm.i.1 wm.i.2 wm.l.1 wm.l.2).mono ?_
        rintro a w' ⟨rfl, k⟩
        refine ⟨rfl, ?_⟩
        rw [push_link hk p2]
        rw [ptv_eq] at k
        exact Mi.of k rfl rfl rfl (by simp [nxt, nfn, hk]) rfl rfl rfl rfl rfl
      · have p3 : m.pc = 3 := by omega
        rw [show nfn m = 55 by simp [nfn, hk, p3]]
        refine (showThing_any _ h' h0 h1 wm.h.1 wm.h.2 wm.i.1 wm.i.2).mono ?_
        rintro a w' ⟨rfl, k⟩
        refine ⟨rfl, ?_⟩
        rw [push_swap hk p3]
        exact turned_mi hp wm.kd k
  · by_cases p1 : m.pc = 1
    · rw [show nfn m = 32 by simp [nfn, hk, p1]]
      refine (seeThing_any _ h' h0 h1 t0.1 (by omega) ww).mono ?_
      rintro a w' ⟨rfl, k⟩
      refine ⟨rfl, ?_⟩
      rw [ldv_eq, low_eq] at k
      rw [pop_first hk p1 rfl]
      by_cases hz : low (ldq L m.k.head) = 0
      · rw [if_pos hz]
        rw [if_pos hz, if_pos hz] at k
        exact Mi.of k rfl rfl rfl rfl rfl hz.symm rfl rfl rfl
      · rw [if_neg hz]
        rw [if_neg hz, if_neg hz] at k
        exact Mi.of k rfl rfl rfl (by simp [nxt, nfn, hk]) rfl rfl rfl rfl rfl
    · by_cases p2 : m.pc = 2
      · rw [show nfn m = 45 by simp [nfn, hk, p2]]
        refine (seeLink_any _ h' h0 h1 wm.i.1 wm.i.2 ww).mono ?_
        rintro a w' ⟨rfl, k⟩
        refine ⟨rfl, ?_⟩
        rw [pop_link hk p2]
        rw [ldv_eq, low_eq] at k
        exact Mi.of k rfl rfl rfl (by simp [nxt, nfn, hk]) rfl rfl rfl rfl rfl
      · have p3 : m.pc = 3 := by omega
        rw [show nfn m = 54 by simp [nfn, hk, p3]]
        refine (takeThing_any _ h' h0 h1 wm.h.1 wm.h.2 wm.l.1 wm.l.2).mono ?_
        rintro a w' ⟨rfl, k⟩
        refine ⟨rfl, ?_⟩
        rw [pop_swap hk p3]
        exact turned_mi hp wm.kd k
end
end Go.Proofs.Ytgnnhjadmepipaa

/-  -/
import Derived.Test.YthoiaffeenhfgaaGreatJ8
namespace Go.Proofs.YthoiaffeenhfgaaGreat
open Go.RowKit
set_option linter.unusedVariables false
variable {w0 : World} {M S D Ab g : Nat} {lv : Value} {zs : List Int} {hd : Int} {fs nx : Value} {se th li it tr : Int} {L : List Int} {c : Int}
theorem Mst.cs {w : World} (h : Mst w0 w M S D lv Ab zs hd fs nx se th li it tr L c) :
    w.cell? ⟨M, 0, none⟩ = some (.int .i64 hd) ∧ w.cell? ⟨M, 1, none⟩ = some (lv) ∧ w.cell? ⟨M, 4, none⟩ = some (.int .u64 se) ∧ w.cell? ⟨M, 5, none⟩ = some (.int .u32 th) ∧ w.cell? ⟨M, 6, none⟩ = some (.int .u32 li) :=
  ⟨h.c0, h.c1, h.c4, h.c5, h.c6⟩
theorem Mst.cs4 {w : World} (h : Mst w0 w M S D lv Ab zs hd fs nx se th li it tr L c) :
    w.cell? ⟨M, 0, none⟩ = some (.int .i64 hd) ∧ w.cell? ⟨M, 1, none⟩ = some (lv) ∧ w.cell? ⟨M, 4, none⟩ = some (.int .u64 se) ∧ w.cell? ⟨M, 5, none⟩ = some (.int .u32 th) :=
  ⟨h.c0, h.c1, h.c4, h.c5⟩
set_option maxHeartbeats 1000000 in
theorem putLink_any (w : World) (h : Mst w0 w M S D lv Ab zs hd fs nx se th li it tr L c) (h0 : 0 ≤ c) (h1 : c ≤ 1000000000) (t0 : 0 ≤ th) (t1 : th ≤ 4294967295) (l0 : 0 ≤ li) (l1 : li ≤ 4294967295) :
    Calls Tryz.prog 183 #[ptr M, ptr S] w fun a w' => a = .returned (.tuple #[]) ∧ Mst w0 w' M S D lv Ab zs hd fs (fnv 194 M) se th li it tr (ptv L (atOf zs th) li) (c + 1) := by
  have hmf : ∀ (fn : Fn) (first cap : Array Value) (w : World), (Instr.makeFunc fn first cap).run Tryz.prog w = .ok (.func fn first cap) w := fun _ _ _ _ => rfl
  obtain ⟨q0, q1, q4, q5, q6⟩ := h.cs
  have HMD := Lib.hid h.drew; clear h
  have ew : IntKind.u64.wrap li = li := by rw [IntKind.wrap_u64]; omega
  go_enter Tryz.func183, Tryz.ntmps183
  go_wp2
  go_region_held3 (fun w' => w'.cell? ⟨M, 0, none⟩ = some (.int .i64 hd) ∧ w'.cell? ⟨M, 1, none⟩ = some (lv) ∧ w'.cell? ⟨M, 4, none⟩ = some (.int .u64 se) ∧ w'.cell? ⟨M, 5, none⟩ = some (.int .u32 th) ∧ w'.cell? ⟨M, 6, none⟩ = some (.int .u32 li))
    (first | exact HQ.out.cs | exact HN.out.cs | exact HMD.out.cs | go_keep)
    (first
      | (go_at_call 147; (with_reducible refine (place_any _ _ HMD.out.lk t0 t1).mono ?_); rintro r w3 ⟨rfl, hb⟩; have HN := Lib.hid (HMD.out.step hb); clear hb)
      | (go_at_call 23; (with_reducible refine (put_any _ _ _ HN.out.st h0 h1).mono ?_); rintro r w4 ⟨rfl, hk⟩; have HQ := Lib.hid (HN.out.left hk); clear hk; have c3 := HQ.out.c3; have f3 := HQ.out.f 3; have HL := Lib.hid (HQ.out.p3 (fnv 194 M)))
      | fail)
  go_wp2
  go_returns
  exact ⟨rfl, HL.out⟩
set_option maxHeartbeats 1000000 in
theorem seeLink_any (w : World) (h : Mst w0 w M S D lv Ab zs hd fs nx se th li it tr L c) (h0 : 0 ≤ c) (h1 : c ≤ 1000000000) (t0 : 0 ≤ th) (t1 : th ≤ 4294967295) (ww : WW L) :
    Calls Tryz.prog 131 #[ptr M, ptr S] w fun a w' => a = .returned (.tuple #[]) ∧ Mst w0 w' M S D lv Ab zs hd fs (fnv 148 M) se th (lowOf (ldv L (atOf zs th))) it tr L (c + 1) := by
  have hmf : ∀ (fn : Fn) (first cap : Array Value) (w : World), (Instr.makeFunc fn first cap).run Tryz.prog w = .ok (.func fn first cap) w := fun _ _ _ _ => rfl
  obtain ⟨q0, q1, q4, q5, q6⟩ := h.cs
  have HMD := Lib.hid h.drew; clear h
  obtain ⟨y, hy⟩ : ∃ y, y = ldv L (atOf zs th) := ⟨_, rfl⟩
  rw [← hy]
  have HY := Lib.hid hy
  have y0 : 0 ≤ y := by rw [hy]; exact (ww.ld _).1
  have y1 : y ≤ 18446744073709551615 := by rw [hy]; exact (ww.ld _).2
  clear hy ww
  obtain ⟨v, hv⟩ : ∃ v, v = lowOf y := ⟨_, rfl⟩
  rw [← hv]
  have HV := Lib.hid hv; clear hv
  go_enter Tryz.func131, Tryz.ntmps131
  go_wp2
  go_region_held3 (fun w' => w'.cell? ⟨M, 0, none⟩ = some (.int .i64 hd) ∧ w'.cell? ⟨M, 1, none⟩ = some (lv) ∧ w'.cell? ⟨M, 4, none⟩ = some (.int .u64 se) ∧ w'.cell? ⟨M, 5, none⟩ = some (.int .u32 th))
    (first | exact HL.out.cs4 | exact HR.out.cs4 | exact HQ.out.cs4 | exact HN.out.cs4 | exact HMD.out.cs4 | go_keep)
    (first
      | (go_at_call 147; (with_reducible refine (place_any _ _ HMD.out.lk t0 t1).mono ?_); rintro r w3 ⟨rfl, hb⟩; have HN := Lib.hid (HMD.out.step hb); clear hb)
      | (go_at_call 25; (with_reducible refine (load_any _ _ HN.out.st h0 h1).mono ?_); rintro r w4 ⟨rfl, hk⟩; rw [← HY.out]; have HQ := Lib.hid (HN.out.left hk); clear hk)
      | (go_at_call 146; (with_reducible refine (low_any _ y0 y1 _).mono ?_); rintro r w5 ⟨rfl, hb⟩; rw [← HV.out]; have HR := Lib.hid (HQ.out.step hb); clear hb; have c6 := HR.out.c6; have f6 := HR.out.f 6; have HL := Lib.hid (HR.out.p6 v))
      | fail)
  have c3 := HL.out.c3; have f3 := HL.out.f 3; have HF := Lib.hid (HL.out.p3 (fnv 148 M))
  go_wp2
  go_returns
  exact ⟨rfl, HF.out⟩
def Turned (w0 : World) (M S D : Nat) (lv : Value) (Ab : Nat) (zs : List Int) (hd : Int) (fs : Value) (se th li it tr : Int) (L : List Int) (c x : Int) (w' : World) : Prop :=
  Mst w0 w' M S D lv Ab zs hd fs (if swB L hd se = true then .nilFunc else fs) se th li (if swB L hd se = true then th else it) tr (swv L hd se (turnOf se x)) (c + 1)
set_option maxHeartbeats 2000000 in
theorem turn2_any (x : Int) (w : World) (h : Mst w0 w M S D lv Ab zs hd (fnv g M) nx se th li it tr L c) (h0 : 0 ≤ c) (h1 : c ≤ 1000000000) (s0 : 0 ≤ se) (s1 : se ≤ 18446744073709551615) (x0 : 0 ≤ x) (x1 : x ≤ 4294967295) :
    Calls Tryz.prog 167 #[ptr M, ptr S, .int .u32 x] w fun a w' => a = .returned (.tuple #[]) ∧ Turned w0 M S D lv Ab zs hd (fnv g M) se th li it tr L c x w' := by
  obtain ⟨q0, q1, q4, q5⟩ := h.cs4
  have HMD := Lib.hid h.drew; clear h
  unfold Turned
  obtain ⟨b, hb⟩ : ∃ b, b = swB L hd se := ⟨_, rfl⟩
  obtain ⟨L', hL'⟩ : ∃ L', L' = swv L hd se (turnOf se x) := ⟨_, rfl⟩
  rw [← hb, ← hL']
  have HB := Lib.hid hb; have HW := Lib.hid hL'
  clear hb hL'
  cases b
  · simp only [Bool.false_eq_true, if_false]
    go_enter Tryz.func167, Tryz.ntmps167
    go_wp2
    go_region_held3 (fun w' => w'.cell? ⟨M, 0, none⟩ = some (.int .i64 hd) ∧ w'.cell? ⟨M, 1, none⟩ = some (lv) ∧ w'.cell? ⟨M, 4, none⟩ = some (.int .u64 se) ∧ w'.cell? ⟨M, 5, none⟩ = some (.int .u32 th))
      (first | exact HQ.out.cs4 | exact HN.out.cs4 | exact HMD.out.cs4 | go_keep)
      (first
        | (go_at_call 182; (with_reducible refine (turnw_any _ _ s0 s1 x0 x1 _).mono ?_); rintro r w3 ⟨rfl, hb⟩; have HN := Lib.hid (HMD.out.step hb); clear hb)
        | (go_at_call 143; (with_reducible refine (swap_any _ _ _ _ HN.out.st h0 h1).mono ?_); rintro r w4 ⟨rfl, hk⟩; rw [← HB.out]; rw [← HW.out] at hk; have HQ := Lib.hid (HN.out.left hk); clear hk)
        | fail)
    have c2 := HQ.out.c2; have c3 := HQ.out.c3; have f3 := HQ.out.f 3; have HF := Lib.hid (HQ.out.p3 (fnv g M))
    go_wp2
    go_returns
    exact ⟨rfl, HF.out⟩
  · simp only [if_true]
    go_enter Tryz.func167, Tryz.ntmps167
    go_wp2
    go_region_held3 (fun w' => w'.cell? ⟨M, 0, none⟩ = some (.int .i64 hd) ∧ w'.cell? ⟨M, 1, none⟩ = some (lv) ∧ w'.cell? ⟨M, 4, none⟩ = some (.int .u64 se) ∧ w'.cell? ⟨M, 5, none⟩ = some (.int .u32 th))
      (first | exact HQ.out.cs4 | exact HN.out.cs4 | exact HMD.out.cs4 | go_keep)
      (first
        | (go_at_call 182; (with_reducible refine (turnw_any _ _ s0 s1 x0 x1 _).mono ?_); rintro r w3 ⟨rfl, hb⟩; have HN := Lib.hid (HMD.out.step hb); clear hb)
        | (go_at_call 143; (with_reducible refine (swap_any _ _ _ _ HN.out.st h0 h1).mono ?_); rintro r w4 ⟨rfl, hk⟩; rw [← HB.out]; rw [← HW.out] at hk; have HQ := Lib.hid (HN.out.left hk); clear hk)
        | fail)
    have c5 := HQ.out.c5
    go_wp2_with (first
      | (go_at_call 130; (with_reducible refine (finish_any _ _ HQ.out).mono ?_); rintro r w5 ⟨rfl, hk⟩; have HF := Lib.hid hk; clear hk)
      | fail)
    go_returns
    exact ⟨rfl, HF.out⟩
set_option maxHeartbeats 1000000 in
theorem showThing_any (w : World) (h : Mst w0 w M S D lv Ab zs hd (fnv g M) nx se th li it tr L c) (h0 : 0 ≤ c) (h1 : c ≤ 1000000000) (s0 : 0 ≤ se) (s1 : se ≤ 18446744073709551615) (x0 : 0 ≤ th) (x1 : th ≤ 4294967295) :
    Calls Tryz.prog 194 #[ptr M, ptr S] w fun a w' => a = .returned (.tuple #[]) ∧ Turned w0 M S D lv Ab zs hd (fnv g M) se th li it tr L c th w' := by
  have c5 := h.c5
  have H := Lib.hid h; clear h
  go_enter Tryz.func194, Tryz.ntmps194
  go_wp2_with (first
    | (go_at_call 167; (with_reducible refine (turn2_any _ _ H.out h0 h1 s0 s1 x0 x1).mono ?_); rintro r w5 ⟨rfl, hk⟩; have HF := Lib.hid hk; clear hk)
    | fail)
  go_returns
  exact ⟨rfl, HF.out⟩
set_option maxHeartbeats 1000000 in
theorem takeThing_any (w : World) (h : Mst w0 w M S D lv Ab zs hd (fnv g M) nx se th li it tr L c) (h0 : 0 ≤ c) (h1 : c ≤ 1000000000) (s0 : 0 ≤ se) (s1 : se ≤ 18446744073709551615) (x0 : 0 ≤ li) (x1 : li ≤ 4294967295) :
    Calls Tryz.prog 148 #[ptr M, ptr S] w fun a w' => a = .returned (.tuple #[]) ∧ Turned w0 M S D lv Ab zs hd (fnv g M) se th li it tr L c li w' := by
  have c6 := h.c6
  have H := Lib.hid h; clear h
  go_enter Tryz.func148, Tryz.ntmps148
  go_wp2_with (first
    | (go_at_call 167; (with_reducible refine (turn2_any _ _ H.out h0 h1 s0 s1 x0 x1).mono ?_); rintro r w5 ⟨rfl, hk⟩; have HF := Lib.hid hk; clear hk)
    | fail)
  go_returns
  exact ⟨rfl, HF.out⟩
end Go.Proofs.YthoiaffeenhfgaaGreat

namespace Go.Proofs.YthoiaffeenhfgaaGreat
open Go.RowKit
set_option linter.unusedVariables false
set_option linter.unusedSimpArgs false
theorem ldv_eq (L : List Int) (a : Int) : ldv L a = ldq L a := by
  unfold ldv ldq inB; simp
theorem ptv_eq (L : List Int) (a v : Int) : ptv L a v = ptq L a v := by
  unfold ptv ptq inB; simp
theorem low_eq (x : Int) : lowOf x = low x := rfl
theorem turn_eq (x n : Int) : turnOf x n = turnw x n := rfl
theorem swB_iff (L : List Int) (a o : Int) : swB L a o = true ↔ ((0 ≤ a ∧ a < L.length) ∧ L.getD a.toNat 0 = o) := by
  unfold swB inB; simp
theorem swv_eq (L : List Int) (a o v : Int) : swv L a o v = if (0 ≤ a ∧ a < L.length) ∧ L.getD a.toNat 0 = o then ptq L a v else L := by
  unfold swv
  by_cases h : (0 ≤ a ∧ a < L.length) ∧ L.getD a.toNat 0 = o
  · rw [if_pos ((swB_iff ..).2 h), if_pos h]; unfold ptq; rw [if_pos h.1]
  · rw [if_neg (fun h2 => h ((swB_iff ..).1 h2)), if_neg h]
def ffn (m : Sm) : Nat := if m.kind = 1 then 170 else 115
def nfn (m : Sm) : Nat := if m.kind = 1 then (if m.pc = 1 then 170 else if m.pc = 2 then 183 else 194) else (if m.pc = 1 then 115 else if m.pc = 2 then 131 else 148)
def nxt (M : Nat) (m : Sm) : Value := if m.pc = 0 then .nilFunc else fnv (nfn m) M
theorem nxt_no {M : Nat} {m : Sm} (h : m.pc = 0) : nxt M m = .nilFunc := by simp [nxt, h]
theorem nxt_at {M : Nat} {m : Sm} (h : m.pc ≠ 0) : nxt M m = fnv (nfn m) M := by simp [nxt, h]
def Mi (w0 w : World) (M S D : Nat) (lv : Value) (Ab : Nat) (m : Sm) (L : List Int) (c : Int) : Prop :=
  Mst w0 w M S D lv Ab m.k.links m.k.head (fnv (ffn m) M) (nxt M m) m.h m.item m.link (sItem m) m.tries L c
structure Wm (t : Int) (m : Sm) : Prop where
  kd : m.kind = 1 ∨ m.kind = 2
  pc : m.pc ≤ 3
  h : 0 ≤ m.h ∧ m.h ≤ 18446744073709551615
  i : 0 ≤ m.item ∧ m.item ≤ 4294967295
  l : 0 ≤ m.link ∧ m.link ≤ 4294967295
  t : 0 ≤ m.tries ∧ m.tries ≤ t
theorem Wm.mono {t u : Int} {m : Sm} (h : Wm t m) (k : t ≤ u) : Wm u m := ⟨h.kd, h.pc, h.h, h.i, h.l, by have := h.t; omega⟩
theorem low_rng (x : Int) : 0 ≤ low x ∧ low x ≤ 4294967295 := by unfold low; omega
theorem WW.ldq {L : List Int} (h : WW L) (a : Int) : 0 ≤ ldq L a ∧ YthoiaffeenhfgaaGreat.ldq L a ≤ 18446744073709551615 := by rw [← ldv_eq]; exact h.ld a
theorem ite_ind {α : Type} {P : α → Prop} {q : Prop} [Decidable q] {a b : α} (ha : P a) (hb : P b) : P (if q then a else b) := by split <;> assumption
theorem Wm.swap {t x : Int} {m : Sm} {L : List Int} (h : Wm t m) : Wm t (swapS L m x).2 := by
  unfold swapS
  refine ite_ind (P := fun z : List Int × Sm => Wm t z.2) ?_ ?_
  · exact ⟨h.kd, Nat.zero_le _, h.h, h.i, h.l, h.t⟩
  · exact ⟨h.kd, (by simp : (1 : Nat) ≤ 3), h.h, h.i, h.l, h.t⟩
theorem Wm.step {t : Int} {m : Sm} {L : List Int} (h : Wm t m) (ww : WW L) : Wm (t + 1) (sstp L m).2 := by
  have hm := h.mono (u := t + 1) (by omega)
  have q := ww.ldq
  have ht := h.t
  unfold sstp
  refine ite_ind (P := fun z : List Int × Sm => Wm (t + 1) z.2) hm ?_
  refine ite_ind (P := fun z : List Int × Sm => Wm (t + 1) z.2) (ite_ind (P := fun z : List Int × Sm => Wm (t + 1) z.2) ?_ (ite_ind (P := fun z : List Int × Sm => Wm (t + 1) z.2) ?_ ?_)) ?_
  · exact ⟨h.kd, (by simp : (2 : Nat) ≤ 3), q _, h.i, low_rng _, by simp only; omega⟩
  · exact ⟨h.kd, Nat.zero_le _, q _, by simp only; omega, h.l, by simp only; omega⟩
  · exact ⟨h.kd, (by simp : (2 : Nat) ≤ 3), q _, low_rng _, h.l, by simp only; omega⟩
  refine ite_ind (P := fun z : List Int × Sm => Wm (t + 1) z.2) (ite_ind (P := fun z : List Int × Sm => Wm (t + 1) z.2) ?_ ?_) (ite_ind (P := fun z : List Int × Sm => Wm (t + 1) z.2) hm.swap hm.swap)
  · exact ⟨h.kd, (by simp : (3 : Nat) ≤ 3), h.h, h.i, h.l, hm.t⟩
  · exact ⟨h.kd, (by simp : (3 : Nat) ≤ 3), h.h, h.i, low_rng _, hm.t⟩
theorem WW.put {L : List Int} (h : WW L) (a : Int) {v : Int} (hv : 0 ≤ v ∧ v ≤ 18446744073709551615) : WW (ptq L a v) := by
  unfold ptq; split
  · intro x hx
    rcases List.mem_or_eq_of_mem_set hx with h2 | rfl
    · exact h x h2
    · exact hv
  · exact h
theorem turnw_rng {x n : Int} (hn : 0 ≤ n ∧ n ≤ 4294967295) : 0 ≤ turnw x n ∧ turnw x n ≤ 18446744073709551615 := by unfold turnw; omega
theorem WW.swap {L : List Int} {m : Sm} {x : Int} (h : WW L) (hx : 0 ≤ x ∧ x ≤ 4294967295) : WW (swapS L m x).1 := by
  unfold swapS
  exact ite_ind (P := fun z : List Int × Sm => WW z.1) (h.put _ (turnw_rng hx)) h
theorem WW.step {t : Int} {L : List Int} {m : Sm} (h : WW L) (hm : Wm t m) : WW (sstp L m).1 := by
  unfold sstp
  refine ite_ind (P := fun z : List Int × Sm => WW z.1) h ?_
  refine ite_ind (P := fun z : List Int × Sm => WW z.1) (ite_ind (P := fun z : List Int × Sm => WW z.1) h (ite_ind (P := fun z : List Int × Sm => WW z.1) h h)) ?_
  have hl := hm.l
  exact ite_ind (P := fun z : List Int × Sm => WW z.1) (ite_ind (P := fun z : List Int × Sm => WW z.1) (h.put _ (by omega)) h) (ite_ind (P := fun z : List Int × Sm => WW z.1) (h.swap hm.i) (h.swap hm.l))
section
variable {w0 w w' : World} {M S D Ab : Nat} {lv : Value} {m : Sm} {L : List Int} {c t : Int}
theorem Mi.of {m' : Sm} {zs : List Int} {hd : Int} {fs nx : Value} {se th li it tr : Int} (h : Mst w0 w M S D lv Ab zs hd fs nx se th li it tr L c)
    (h1 : m'.k.links = zs) (h2 : m'.k.head = hd) (h3 : fnv (ffn m') M = fs) (h4 : nxt M m' = nx) (h5 : m'.h = se) (h6 : m'.item = th) (h7 : m'.link = li) (h8 : sItem m' = it) (h9 : m'.tries = tr) : Mi w0 w M S D lv Ab m' L c := by
  subst h1 h2 h3 h4 h5 h6 h7 h8 h9; exact h
theorem Mi.at (h : Mi w0 w M S D lv Ab m L c) (hp : m.pc ≠ 0) : Mst w0 w M S D lv Ab m.k.links m.k.head (fnv (ffn m) M) (fnv (nfn m) M) m.h m.item m.link 0 m.tries L c := by
  have e : sItem m = 0 := by unfold sItem; rw [if_neg hp]
  have h' := h
  unfold Mi at h'
  rw [nxt_at hp, e] at h'
  exact h'
theorem turned_mi {w' : World} {x : Int} (hp : m.pc ≠ 0) (hk : m.kind = 1 ∨ m.kind = 2) (h : Turned w0 M S D lv Ab m.k.links m.k.head (fnv (ffn m) M) m.h m.item m.link 0 m.tries L c x w') :
    Mi w0 w' M S D lv Ab (swapS L m x).2 (swapS L m x).1 (c + 1) := by
  unfold Turned at h
  rw [swv_eq, turn_eq] at h
  unfold swapS
  by_cases hc : (0 ≤ m.k.head ∧ m.k.head < L.length) ∧ L.getD m.k.head.toNat 0 = m.h
  · rw [if_pos hc]
    have e := (swB_iff ..).2 hc
    rw [e, if_pos rfl, if_pos rfl, if_pos hc] at h
    exact Mi.of h rfl rfl rfl rfl rfl rfl rfl rfl rfl
  · rw [if_neg hc]
    have e : swB L m.k.head m.h = false := by
      cases hb : swB L m.k.head m.h with
      | false => rfl
      | true => exact absurd ((swB_iff ..).1 hb) hc
    rw [e, if_neg (by simp), if_neg (by simp), if_neg hc] at h
    refine Mi.of h rfl rfl rfl ?_ rfl rfl rfl rfl rfl
    show (if (1 : Nat) = 0 then Value.nilFunc else _) = _
    rw [if_neg (by simp)]
    rcases hk with hk | hk <;> simp [nfn, ffn, hk]
theorem next_any (h : Mi w0 w M S D lv Ab m L c) (hp : m.pc ≠ 0) (wm : Wm t m) (ww : WW L) (h0 : 0 ≤ c) (h1 : c ≤ 1000000000) (ht : t ≤ 1000000000) :
    Calls Tryz.prog (nfn m) #[ptr M, ptr S] w fun a w' => a = .returned (.tuple #[]) ∧ Mi w0 w' M S D lv Ab (sstp L m).2 (sstp L m).1 (c + 1) := by
  have h' := h.at hp
  have t0 := wm.t
  have hpc := wm.pc
  rcases wm.kd with hk | hk
  · by_cases p1 : m.pc = 1
    · rw [show nfn m = 170 by simp [nfn, hk, p1]]
      refine (seeHead_any _ h' h0 h1 t0.1 (by omega) ww).mono ?_
      rintro a w' ⟨rfl, k⟩
      refine ⟨rfl, ?_⟩
      have es : sstp L m = (L, { m with pc := 2, h := ldq L m.k.head, link := low (ldq L m.k.head), tries := m.tries + 1 }) := push_first hk p1 rfl
      rw [es]
      rw [ldv_eq, low_eq] at k
      exact Mi.of k rfl rfl rfl (by simp [nxt, nfn, hk]) rfl rfl rfl rfl rfl
    · by_cases p2 : m.pc = 2
      · rw [show nfn m = 183 by simp [nfn, hk, p2]]
        refine (putLink_any _ h' h0 h1 wm.i.1 wm.i.2 wm.l.1 wm.l.2).mono ?_
        rintro a w' ⟨rfl, k⟩
        refine ⟨rfl, ?_⟩
        rw [push_link hk p2]
        rw [ptv_eq] at k
        exact Mi.of k rfl rfl rfl (by simp [nxt, nfn, hk]) rfl rfl rfl rfl rfl
      · have p3 : m.pc = 3 := by omega
        rw [show nfn m = 194 by simp [nfn, hk, p3]]
        refine (showThing_any _ h' h0 h1 wm.h.1 wm.h.2 wm.i.1 wm.i.2).mono ?_
        rintro a w' ⟨rfl, k⟩
        refine ⟨rfl, ?_⟩
        rw [push_swap hk p3]
        exact turned_mi hp wm.kd k
  · by_cases p1 : m.pc = 1
    · rw [show nfn m = 115 by simp [nfn, hk, p1]]
      refine (seeThing_any _ h' h0 h1 t0.1 (by omega) ww).mono ?_
      rintro a w' ⟨rfl, k⟩
      refine ⟨rfl, ?_⟩
      rw [ldv_eq, low_eq] at k
      rw [pop_first hk p1 rfl]
      by_cases hz : low (ldq L m.k.head) = 0
      · rw [if_pos hz]
        rw [if_pos hz, if_pos hz] at k
        exact Mi.of k rfl rfl rfl rfl rfl hz.symm rfl rfl rfl
      · rw [if_neg hz]
        rw [if_neg hz, if_neg hz] at k
        exact Mi.of k rfl rfl rfl (by simp [nxt, nfn, hk]) rfl rfl rfl rfl rfl
    · by_cases p2 : m.pc = 2
      · rw [show nfn m = 131 by simp [nfn, hk, p2]]
        refine (seeLink_any _ h' h0 h1 wm.i.1 wm.i.2 ww).mono ?_
        rintro a w' ⟨rfl, k⟩
        refine ⟨rfl, ?_⟩
        rw [pop_link hk p2]
        rw [ldv_eq, low_eq] at k
        exact Mi.of k rfl rfl rfl (by simp [nxt, nfn, hk]) rfl rfl rfl rfl rfl
      · have p3 : m.pc = 3 := by omega
        rw [show nfn m = 148 by simp [nfn, hk, p3]]
        refine (takeThing_any _ h' h0 h1 wm.h.1 wm.h.2 wm.l.1 wm.l.2).mono ?_
        rintro a w' ⟨rfl, k⟩
        refine ⟨rfl, ?_⟩
        rw [pop_swap hk p3]
        exact turned_mi hp wm.kd k
end
end Go.Proofs.YthoiaffeenhfgaaGreat

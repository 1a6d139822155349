/- The law of a deque whose ends stand anywhere, walked. -/
import Derived.Test.YtjnenpflpckimaaUp
import Derived.Test.YtjnenpflpckimaaAid
namespace Go.Proofs.Ytjnenpflpckimaa
open Go.RowKit
set_option linter.unusedVariables false
set_option linter.unusedSimpArgs false
attribute [local irreducible] runs

abbrev e4 : En := ⟨0, 1, 2, 4⟩
theorem e4_ok : EnOk e4 := ⟨by decide, by decide, by decide⟩
/-- What is known in the loop, of words that stand as far apart as the ends. -/
structure RL (S D S' D' E : Nat) (w wr : World) (at' : Int) (L R : List Int) (k : Int) : Prop where
  rs : Rs at' L R
  nl : NN L
  nr : NN R
  o : O2 w.heap.size S D S' D' E w wr e4 L k R k
/-- Two machines that are begun. -/
structure RM (S D S' D' E M M' : Nat) (w wr : World) (at' : Int) (L R : List Int) (k : Int) (m : Mc) : Prop where
  rl : RL S D S' D' E w wr at' L R k
  ms : Ms at' m m
  kd : m.kind = 1 ∨ m.kind = 2 ∨ m.kind = 3
  wl : Ws L m
  wR : Ws R m
  m1 : MM wr M m
  m2 : MM wr M' m
  h1 : S' < M ∧ D' < M
  h2 : S' < M' ∧ D' < M'
  n : M < M'
section
variable {S D S' D' E M M' : Nat} {w wr w' : World} {at' : Int} {L R : List Int} {k : Int} {m : Mc}
theorem RL.step (h : RL S D S' D' E w wr at' L R k) (hb : Below wr.heap.size wr w') : RL S D S' D' E w w' at' L R k := ⟨h.rs, h.nl, h.nr, h.o.step hb⟩
theorem RL.cells (h : RL S D S' D' E w wr at' L R k) : wr.cell? ⟨E, 0, none⟩ = some (.int .i64 0) ∧ wr.cell? ⟨E, 1, none⟩ = some (.int .i64 1) ∧ wr.cell? ⟨E, 2, none⟩ = some (.int .i64 2) ∧ wr.cell? ⟨E, 3, none⟩ = some (.int .i64 4) := h.o.one.cells
/-- One is begun: then the other. -/
structure RN (S D S' D' E M : Nat) (w wr : World) (at' : Int) (L R : List Int) (k : Int) (m : Mc) : Prop where
  rl : RL S D S' D' E w wr at' L R k
  m1 : MM wr M m
  h1 : S' < M ∧ D' < M
theorem RL.begin (h : RL S D S' D' E w wr at' L R k) (hM : wr.heap.size ≤ M) (hm : MM w' M m) (hb : Below wr.heap.size wr w') : RN S D S' D' E M w w' at' L R k m := ⟨h.step hb, hm, h.o.new hM⟩
theorem RN.begin (h : RN S D S' D' E M w wr at' L R k m) (hM : wr.heap.size ≤ M') (hm : MM w' M' m) (hb : Below wr.heap.size wr w') (ms : Ms at' m m) (kd : m.kind = 1 ∨ m.kind = 2 ∨ m.kind = 3) (hw : ∀ L, NN L → Ws L m) : RM S D S' D' E M M' w w' at' L R k m :=
  ⟨h.rl.step hb, ms, kd, hw L h.rl.nl, hw R h.rl.nr, h.m1.below hb, hm, h.h1, h.rl.o.new hM, by have := h.m1.lt; omega⟩

/-- The first one has run to its end; then the second one. -/
structure RA (S D S' D' E M M' : Nat) (w wr : World) (at' : Int) (L R L' : List Int) (k : Int) (m m' : Mc) : Prop where
  o : O2 w.heap.size S D S' D' E w wr e4 L' (k + 8) R k
  m2 : MM wr M' m
  h2 : S' < M' ∧ D' < M'
  wR : Ws R m
theorem RM.run1 (h : RM S D S' D' E M M' w wr at' L R k m) (hk : k ≤ 100000) (L' R' : List Int) (m' k' : Mc) (e1 : runs 8 L m = (L', m')) :
    Calls Try.prog 10 #[ptr M, ptr S] wr fun a w' => a = .returned (.tuple #[.int .i64 (rOf m'), .int .u64 (xOf m')]) ∧ RA S D S' D' E M M' w w' at' L R L' k m m' := by
  refine (h.rl.o.whole1 h.m1 h.h1 h.wl (by omega)).mono ?_
  rw [e1]
  rintro a w1 ⟨rfl, o, u⟩
  have n := h.n
  have h2 := h.h2
  have n2 := h.rl.o.n
  exact ⟨rfl, o, h.m2.u3 u (by omega) (by omega) (by omega), h2, h.wR⟩
theorem RA.run2 {L' R' : List Int} {m' k' : Mc} (h : RA S D S' D' E M M' w wr at' L R L' k m m') (hk : k ≤ 100000) (e2 : runs 8 R m = (R', k')) (hrs : Rs at' L' R') (nl : NN L') (nr : NN R') :
    Calls Try.prog 10 #[ptr M', ptr S'] wr fun a w' => a = .returned (.tuple #[.int .i64 (rOf k'), .int .u64 (xOf k')]) ∧ RL S D S' D' E w w' at' L' R' (k + 8) := by
  refine (h.o.whole2 h.m2 h.h2 h.wR (by omega)).mono ?_
  rw [e2]
  rintro a w1 ⟨rfl, o, u⟩
  exact ⟨rfl, hrs, nl, nr, o⟩
theorem RL.ld1 (h : RL S D S' D' E w wr at' L R k) (hk : k ≤ 100000) (p : Int) :
    Calls Try.prog 20 #[ptr S, .int .i64 p] wr fun a w' => a = .returned (.int .u64 (ldq L p)) ∧ RL S D S' D' E w w' at' L R (k + 1) := by
  refine (h.o.load1 p (by omega)).mono ?_
  rintro a w1 ⟨rfl, o⟩
  exact ⟨rfl, h.rs, h.nl, h.nr, o.more (by omega) (by omega)⟩
theorem RL.ld2 (h : RL S D S' D' E w wr at' L R k) (hk : k ≤ 100000) (p : Int) :
    Calls Try.prog 20 #[ptr S', .int .i64 p] wr fun a w' => a = .returned (.int .u64 (ldq R p)) ∧ RL S D S' D' E w w' at' L R (k + 1) := by
  refine (h.o.load2 p (by omega)).mono ?_
  rintro a w1 ⟨rfl, o⟩
  exact ⟨rfl, h.rs, h.nl, h.nr, o.more (by omega) (by omega)⟩
/-- Behind both: what came of them is the same, and the ends are as far apart. -/
theorem RM.ends (h : RM S D S' D' E M M' w wr at' L R k m) : ∃ L' R' m' k', runs 8 L m = (L', m') ∧ runs 8 R m = (R', k') ∧ Rs at' L' R' ∧ NN L' ∧ NN R' ∧ rOf k' = rOf m' ∧ xOf k' = xOf m' := by
  obtain ⟨r, s⟩ := ms_runs 8 h.rl.rs h.kd h.ms
  have n1 := (h.wl.runs 8).nn
  have n2 := (h.wR.runs 8).nn
  refine ⟨_, _, _, _, rfl, rfl, r, n1, n2, ?_, ?_⟩
  · simp only [rOf, s.pc, s.out]
  · simp only [xOf, s.pc, s.w]
theorem RL.apart (h : RL S D S' D' E w wr at' L R k) (h0 : 0 ≤ at') (h1 : at' < 18446744073709551616) : IntKind.u64.wrap (ldq R 0 - ldq L 0) = at' ∧ IntKind.u64.wrap (ldq R 1 - ldq L 1) = at' := by
  have r := h.rs
  obtain ⟨a, b⟩ := r.l0
  obtain ⟨c, d⟩ := r.l1
  have := r.b0; have := r.b1
  rw [u64w_eq, u64w_eq, a, b, c, d]
  constructor <;> unfold u64w <;> omega
end
theorem reads_lit6 (w : World) (a b : Int) : Reads .u64 (w.alloc (.cells #[.int .u64 a, .int .u64 b, .int .u64 0, .int .u64 0, .int .u64 0, .int .u64 0] 29)) (some ⟨w.heap.size, 0, none⟩) [a, b, 0, 0, 0, 0] := fun _ =>
  ⟨w.heap.size, 0, rfl, by simp, fun j hj => by
    rw [Nat.zero_add, World.cell?_alloc_at _ _ _ _ rfl]
    match j, hj with
    | 0, _ => rfl
    | 1, _ => rfl
    | 2, _ => rfl
    | 3, _ => rfl
    | 4, _ => rfl
    | 5, _ => rfl⟩
theorem u8_kinds {z : Int} (h0 : 0 ≤ z) (h1 : z ≤ 255) : ∃ y, z.tmod 4 = y ∧ z % 4 = y ∧ (y = 0 ∨ y = 1 ∨ y = 2 ∨ y = 3) := ⟨z % 4, by rw [Int.tmod_eq_emod_of_nonneg h0], rfl, by omega⟩
theorem reads_boxL (w : World) (o : Obj) (L : List Int) : Reads .u64 ((w.alloc o).alloc (.cells (L.map (Value.int .u64)).toArray 29)) (some ⟨w.heap.size + 1, 0, none⟩) L := by
  have h := (row_new (w.alloc o) L).reads
  have e : (w.alloc o).heap.size = w.heap.size + 1 := by simp
  rwa [e] at h
theorem RL.more {S D S' D' E : Nat} {w wr : World} {at' : Int} {L R : List Int} {k j : Int} (h : RL S D S' D' E w wr at' L R k) (hk : k ≤ j) : RL S D S' D' E w wr at' L R j := ⟨h.rs, h.nl, h.nr, h.o.more hk hk⟩
theorem reads_box6 (w : World) (o : Obj) : Reads .u64 ((w.alloc o).alloc (.cells #[.int .u64 0, .int .u64 0, .int .u64 0, .int .u64 0, .int .u64 0, .int .u64 0] 29)) (some ⟨w.heap.size + 1, 0, none⟩) [0, 0, 0, 0, 0, 0] := by
  have h := reads_lit6 (w.alloc o) 0 0
  have e : (w.alloc o).heap.size = w.heap.size + 1 := by simp
  rwa [e] at h
theorem Ok.start2 {B E : Nat} {w0 w w1 : World} {e : En} {L : List Int} {a : Ending} (hb : Below B w0 w) (hB : B ≤ w0.heap.size) (hE : w.heap[E]? = some (.cells #[.int .i64 e.top, .int .i64 e.bot, .int .i64 e.ent, .int .i64 e.room] 25 (0, 0)))
    (h : SomeNew w L a w1) : ∃ S D, a = .returned (ptr S) ∧ Ok B S D E w0 w1 e L 0 ∧ w.heap.size ≤ S ∧ w.heap.size ≤ D := by
  obtain ⟨S, D, rfl, hS, hD, hs, hb'⟩ := h
  have hl : E < w.heap.size := (Array.getElem?_eq_some_iff.1 hE).1
  exact ⟨S, D, rfl, ⟨⟨0, by omega, by omega, Own.of_new hb hB hS hD hs hb'⟩, (hb'.block E hl).trans hE, by omega, by omega⟩, hS, hD⟩
theorem RL.start {S D E : Nat} {w w2 w2' w3 : World} {at' : Int} {a : Ending} (h : Ok w.heap.size S D E w w2 e4 [0, 0, 0, 0, 0, 0] 0) (hb : Below w2.heap.size w2 w2') (hn : SomeNew w2' [at', at', 0, 0, 0, 0] a w3) (h0 : 0 ≤ at') (h1 : at' < 18446744073709551616) :
    ∃ S' D', a = .returned (ptr S') ∧ RL S D S' D' E w w3 at' [0, 0, 0, 0, 0, 0] [at', at', 0, 0, 0, 0] 0 := by
  have h' := h.step hb
  have hl := h'.ltS
  have hb3 : Below w2'.heap.size w2' w3 := by obtain ⟨_, _, _, _, _, _, hb'⟩ := hn; exact hb'
  obtain ⟨S', D', rfl, h2, hS, hD⟩ := Ok.start2 (w := w2') (e := e4) h'.bel (Nat.le_refl _) h'.box hn
  refine ⟨S', D', rfl, rs_start h0 h1, nn_lit _ rfl, fun x hx => ?_, h'.step hb3, h2, by omega⟩
  simp at hx; omega

set_option maxHeartbeats 16000000 in
set_option maxRecDepth 100000 in
theorem walkRound (at' : Int) (A : Option Addr) (n cap : Nat) (zs : List Int) (w : World) (wa : (Lit.int .u64 at').wf = true) (hz : IsRow .u8 w A n cap zs) :
    Calls Try.prog 7 #[.int .u64 at', .slice A n cap] w fun e w' => e = .returned (.bool true) ∧ Below w.heap.size w w' := by
  obtain ⟨hr, hrl, _, _, _, hwf⟩ := reads_row hz
  clear hz
  obtain ⟨Z, hZ⟩ : ∃ Z, Z = zs.take n := ⟨_, rfl⟩
  rw [← hZ] at hr hrl hwf
  have ha : 0 ≤ at' ∧ at' < 18446744073709551616 := by simp [Lit.wf, IntKind.min, IntKind.max, IntKind.bits, IntKind.signed] at wa; omega
  obtain ⟨ha0, ha1⟩ := ha
  have HR := Lib.hid hr; have HL := Lib.hid hrl; have HW := Lib.hid hwf
  clear hr hwf hZ wa
  by_cases h100 : 100 < n
  · have h100' : (100 : Int) < (n : Int) := by omega
    clear hrl
    go_enter Try.func7, Try.ntmps7
    go_wp2_with (first
      | (go_at_call 8; (with_reducible refine (awake_any _).mono ?_); rintro r w1 ⟨rfl, hb⟩)
      | fail)
    go_ret
    exact ⟨rfl, hb⟩
  have h100' : ¬ (100 : Int) < (n : Int) := by omega
  have hmk : ∀ w : World, (Instr.makeSlice 28 (.int .i64 6) (.int .i64 6)).run Try.prog w = .ok (.slice (some ⟨w.heap.size, 0, none⟩) 6 6) (w.alloc (.cells (([0, 0, 0, 0, 0, 0] : List Int).map (Value.int .u64)).toArray 29)) := fun w => make_words 6 w (by omega)
  clear hrl h100
  go_enter Try.func7, Try.ntmps7
  go_wp2_with (first
    | (go_at_call 8; (with_reducible refine (awake_any _).mono ?_); rintro r w1 ⟨rfl, hb⟩; have HB := Lib.hid hb; have HX := Lib.hid (box_kept (box_new w1 #[.int .i64 0, .int .i64 1, .int .i64 2, .int .i64 4] 25) (below_al _ (.cells #[.int .u64 0, .int .u64 0, .int .u64 0, .int .u64 0, .int .u64 0, .int .u64 0] 29))); have HK := Lib.hid (reads_box6 w1 (.cells #[.int .i64 0, .int .i64 1, .int .i64 2, .int .i64 4] 25)); have HB2 := Lib.hid (below_alloc0 (below_alloc0 hb (.cells #[.int .i64 0, .int .i64 1, .int .i64 2, .int .i64 4] 25)) (.cells #[.int .u64 0, .int .u64 0, .int .u64 0, .int .u64 0, .int .u64 0, .int .u64 0] 29)); clear hb)
    | (go_at_call 9; (with_reducible refine (new_any _ 6 6 [0, 0, 0, 0, 0, 0] _ rfl HK.out (by decide)).mono ?_); intro a w2 hk; have hz : ∃ S D, a = .returned (ptr S) ∧ Ok w.heap.size S D w1.heap.size w w2 e4 [0, 0, 0, 0, 0, 0] 0 := Ok.start (e := e4) HB2.out (Nat.le_refl _) HX.out hk; clear hk; obtain ⟨S, D, rfl, hk⟩ := hz; have HO := Lib.hid hk; have HK2 := Lib.hid (reads_lit6 w2 at' at'); clear hk)
    | (go_at_call 9; (with_reducible refine (new_any _ 6 6 [at', at', 0, 0, 0, 0] _ rfl HK2.out (by decide)).mono ?_); intro a w3 hk; have hz := RL.start HO.out (below_al _ _) hk ha0 ha1; clear hk; obtain ⟨S', D', rfl, hk⟩ := hz; have HRL := Lib.hid hk; clear hk)
    | fail)
  clear HX HK HB2 HK2 HO HB
  go_loopw [9] (fun i wr => ∃ k : Nat, k ≤ n ∧ i = .int .i64 (k : Int) ∧ ∃ L R, RL S D S' D' w1.heap.size w wr at' L R (14 * k)) (fun i _ => n - (intOf i).toNat)
  case atStart => exact ⟨0, Nat.zero_le _, rfl, _, _, HRL.out⟩
  case round =>
    clear HRL
    obtain ⟨k, hk, rfl, L, R, hl⟩ := hrel
    by_cases hlt : k < n
    · obtain ⟨b, off, rfl, hbl, hc⟩ := HR.out (by have := HL.out; omega)
      have c1 := hc k (by have := HL.out; omega)
      have hbel := hl.o.one.bel
      have c2 := (hbel.cell (p := ⟨b, off + k, none⟩) hbl).trans c1
      obtain ⟨z, hz⟩ : ∃ z, z = Z.getD k 0 := ⟨_, rfl⟩
      rw [← hz] at c2
      have hzw : 0 ≤ z ∧ z ≤ 255 := by
        have hkz : k < Z.length := by have := HL.out; omega
        have := HW.out z (by rw [hz, List.getD, List.getElem?_eq_getElem hkz]; exact List.getElem_mem hkz)
        simp [Lit.wf, IntKind.min, IntKind.max, IntKind.bits, IntKind.signed] at this; omega
      obtain ⟨y, hy, hy2, hy3⟩ := u8_kinds hzw.1 hzw.2
      have HRL := Lib.hid hl
      obtain ⟨x0, x1, x2, x3⟩ := hl.cells
      have hk0 : (0 : Int) ≤ (k : Int) := by omega
      have hk1 : (k : Int) < (n : Int) := by omega
      have hk2 : (k : Int) < 101 := by omega
      have e1 : IntKind.u64.wrap (k : Int) = (k : Int) := by rw [IntKind.wrap_u64]; omega
      obtain ⟨v, hv⟩ : ∃ v, v = (k : Int) + 1 := ⟨_, rfl⟩
      have hv0 : 0 ≤ v := by omega
      have e2 : IntKind.u64.wrap ((k : Int) + 1) = v := by rw [hv, IntKind.wrap_u64]; omega
      have hk14 : (14 * k : Int) ≤ 90000 := by omega
      clear hc c1 hbel hz hl hzw
      rcases hy3 with rfl | rfl | rfl | rfl
      · go_wp2_with (first
          | (go_at_call 11; (with_reducible refine (push_any e4 ((k : Int) + 1) _).mono ?_); intro a w4 hk; obtain ⟨M2, rfl, hM, hm, hb⟩ := hk; obtain ⟨L', R', m', k', r1, r2, rs, nl, nr, hro, hxo⟩ := (HN.out.begin hM hm hb (ms_push at' ((k : Int) + 1)) (.inl rfl) (fun _ h => ws_push h e4_ok (by omega))).ends; have HM := Lib.hid (HN.out.begin hM hm hb (ms_push at' ((k : Int) + 1)) (.inl rfl) (fun _ h => ws_push h e4_ok (by omega))); clear hM hm hb; have R1 := Lib.hid r1; have R2 := Lib.hid r2; have RS := Lib.hid rs; have NL := Lib.hid nl; have NR := Lib.hid nr; clear r1 r2 rs nl nr; obtain ⟨X, hX⟩ : ∃ X, X = rOf m' := ⟨_, rfl⟩; obtain ⟨Y, hY⟩ : ∃ Y, Y = xOf m' := ⟨_, rfl⟩; rw [← hX] at hro; rw [← hY] at hxo; have HX := Lib.hid hX.symm; have HY := Lib.hid hY.symm; have HX2 := Lib.hid hro; have HY2 := Lib.hid hxo; clear hX hY hro hxo)
          | (go_at_call 11; (with_reducible refine (push_any e4 ((k : Int) + 1) _).mono ?_); intro a w3 hk; obtain ⟨M1, rfl, hM, hm, hb⟩ := hk; have HN := Lib.hid (HRL.out.begin hM hm hb); clear hM hm hb; obtain ⟨x0, x1, x2, x3⟩ := HN.out.rl.cells)
          | (go_at_call 10; (with_reducible refine (RM.run1 HM.out (by omega) L' R' m' k' R1.out).mono ?_); rintro a w5 ⟨rfl, hra⟩; rw [HX.out, HY.out]; have HA := Lib.hid hra; clear hra)
          | (go_at_call 10; (with_reducible refine (RA.run2 HA.out (by omega) R2.out RS.out NL.out NR.out).mono ?_); rintro a w6 ⟨rfl, hra⟩; rw [HX2.out, HY2.out]; obtain ⟨ap0, ap1⟩ := hra.apart ha0 ha1; have HZ := Lib.hid hra; clear hra; obtain ⟨P0, hP0⟩ : ∃ P0, P0 = ldq L' 0 := ⟨_, rfl⟩; obtain ⟨P1, hP1⟩ : ∃ P1, P1 = ldq L' 1 := ⟨_, rfl⟩; obtain ⟨Q0, hQ0⟩ : ∃ Q0, Q0 = ldq R' 0 := ⟨_, rfl⟩; obtain ⟨Q1, hQ1⟩ : ∃ Q1, Q1 = ldq R' 1 := ⟨_, rfl⟩; rw [← hP0, ← hQ0] at ap0; rw [← hP1, ← hQ1] at ap1; have HP0 := Lib.hid hP0.symm; have HP1 := Lib.hid hP1.symm; have HQ0 := Lib.hid hQ0.symm; have HQ1 := Lib.hid hQ1.symm; clear hP0 hP1 hQ0 hQ1)
          | (go_at_call 20; (with_reducible refine (RL.ld2 HZ.out (by omega) 0).mono ?_); rintro a w7 ⟨rfl, hra⟩; rw [HQ0.out]; have HZ := Lib.hid hra; clear hra)
          | (go_at_call 20; (with_reducible refine (RL.ld1 HZ.out (by omega) 0).mono ?_); rintro a w7 ⟨rfl, hra⟩; rw [HP0.out]; have HZ := Lib.hid hra; clear hra)
          | (go_at_call 20; (with_reducible refine (RL.ld2 HZ.out (by omega) 1).mono ?_); rintro a w7 ⟨rfl, hra⟩; rw [HQ1.out]; have HZ := Lib.hid hra; clear hra)
          | (go_at_call 20; (with_reducible refine (RL.ld1 HZ.out (by omega) 1).mono ?_); rintro a w7 ⟨rfl, hra⟩; rw [HP1.out]; have HZ := Lib.hid hra; clear hra)
          | fail)
        go_roundw
        case rel => exact ⟨k + 1, by omega, by go_num, L', R', HZ.out.more (by omega)⟩
        case measure => simp [intOf]; omega
      · go_wp2_with (first
          | (go_at_call 11; (with_reducible refine (push_any e4 ((k : Int) + 1) _).mono ?_); intro a w4 hk; obtain ⟨M2, rfl, hM, hm, hb⟩ := hk; obtain ⟨L', R', m', k', r1, r2, rs, nl, nr, hro, hxo⟩ := (HN.out.begin hM hm hb (ms_push at' ((k : Int) + 1)) (.inl rfl) (fun _ h => ws_push h e4_ok (by omega))).ends; have HM := Lib.hid (HN.out.begin hM hm hb (ms_push at' ((k : Int) + 1)) (.inl rfl) (fun _ h => ws_push h e4_ok (by omega))); clear hM hm hb; have R1 := Lib.hid r1; have R2 := Lib.hid r2; have RS := Lib.hid rs; have NL := Lib.hid nl; have NR := Lib.hid nr; clear r1 r2 rs nl nr; obtain ⟨X, hX⟩ : ∃ X, X = rOf m' := ⟨_, rfl⟩; obtain ⟨Y, hY⟩ : ∃ Y, Y = xOf m' := ⟨_, rfl⟩; rw [← hX] at hro; rw [← hY] at hxo; have HX := Lib.hid hX.symm; have HY := Lib.hid hY.symm; have HX2 := Lib.hid hro; have HY2 := Lib.hid hxo; clear hX hY hro hxo)
          | (go_at_call 11; (with_reducible refine (push_any e4 ((k : Int) + 1) _).mono ?_); intro a w3 hk; obtain ⟨M1, rfl, hM, hm, hb⟩ := hk; have HN := Lib.hid (HRL.out.begin hM hm hb); clear hM hm hb; obtain ⟨x0, x1, x2, x3⟩ := HN.out.rl.cells)
          | (go_at_call 10; (with_reducible refine (RM.run1 HM.out (by omega) L' R' m' k' R1.out).mono ?_); rintro a w5 ⟨rfl, hra⟩; rw [HX.out, HY.out]; have HA := Lib.hid hra; clear hra)
          | (go_at_call 10; (with_reducible refine (RA.run2 HA.out (by omega) R2.out RS.out NL.out NR.out).mono ?_); rintro a w6 ⟨rfl, hra⟩; rw [HX2.out, HY2.out]; obtain ⟨ap0, ap1⟩ := hra.apart ha0 ha1; have HZ := Lib.hid hra; clear hra; obtain ⟨P0, hP0⟩ : ∃ P0, P0 = ldq L' 0 := ⟨_, rfl⟩; obtain ⟨P1, hP1⟩ : ∃ P1, P1 = ldq L' 1 := ⟨_, rfl⟩; obtain ⟨Q0, hQ0⟩ : ∃ Q0, Q0 = ldq R' 0 := ⟨_, rfl⟩; obtain ⟨Q1, hQ1⟩ : ∃ Q1, Q1 = ldq R' 1 := ⟨_, rfl⟩; rw [← hP0, ← hQ0] at ap0; rw [← hP1, ← hQ1] at ap1; have HP0 := Lib.hid hP0.symm; have HP1 := Lib.hid hP1.symm; have HQ0 := Lib.hid hQ0.symm; have HQ1 := Lib.hid hQ1.symm; clear hP0 hP1 hQ0 hQ1)
          | (go_at_call 20; (with_reducible refine (RL.ld2 HZ.out (by omega) 0).mono ?_); rintro a w7 ⟨rfl, hra⟩; rw [HQ0.out]; have HZ := Lib.hid hra; clear hra)
          | (go_at_call 20; (with_reducible refine (RL.ld1 HZ.out (by omega) 0).mono ?_); rintro a w7 ⟨rfl, hra⟩; rw [HP0.out]; have HZ := Lib.hid hra; clear hra)
          | (go_at_call 20; (with_reducible refine (RL.ld2 HZ.out (by omega) 1).mono ?_); rintro a w7 ⟨rfl, hra⟩; rw [HQ1.out]; have HZ := Lib.hid hra; clear hra)
          | (go_at_call 20; (with_reducible refine (RL.ld1 HZ.out (by omega) 1).mono ?_); rintro a w7 ⟨rfl, hra⟩; rw [HP1.out]; have HZ := Lib.hid hra; clear hra)
          | fail)
        go_roundw
        case rel => exact ⟨k + 1, by omega, by go_num, L', R', HZ.out.more (by omega)⟩
        case measure => simp [intOf]; omega
      · go_wp2_with (first
          | (go_at_call 12; (with_reducible refine (pop_any e4 _).mono ?_); intro a w4 hk; obtain ⟨M2, rfl, hM, hm, hb⟩ := hk; obtain ⟨L', R', m', k', r1, r2, rs, nl, nr, hro, hxo⟩ := (HN.out.begin hM hm hb (ms_pop at') (.inr (.inl rfl)) (fun _ h => ws_pop h e4_ok)).ends; have HM := Lib.hid (HN.out.begin hM hm hb (ms_pop at') (.inr (.inl rfl)) (fun _ h => ws_pop h e4_ok)); clear hM hm hb; have R1 := Lib.hid r1; have R2 := Lib.hid r2; have RS := Lib.hid rs; have NL := Lib.hid nl; have NR := Lib.hid nr; clear r1 r2 rs nl nr; obtain ⟨X, hX⟩ : ∃ X, X = rOf m' := ⟨_, rfl⟩; obtain ⟨Y, hY⟩ : ∃ Y, Y = xOf m' := ⟨_, rfl⟩; rw [← hX] at hro; rw [← hY] at hxo; have HX := Lib.hid hX.symm; have HY := Lib.hid hY.symm; have HX2 := Lib.hid hro; have HY2 := Lib.hid hxo; clear hX hY hro hxo)
          | (go_at_call 12; (with_reducible refine (pop_any e4 _).mono ?_); intro a w3 hk; obtain ⟨M1, rfl, hM, hm, hb⟩ := hk; have HN := Lib.hid (HRL.out.begin hM hm hb); clear hM hm hb; obtain ⟨x0, x1, x2, x3⟩ := HN.out.rl.cells)
          | (go_at_call 10; (with_reducible refine (RM.run1 HM.out (by omega) L' R' m' k' R1.out).mono ?_); rintro a w5 ⟨rfl, hra⟩; rw [HX.out, HY.out]; have HA := Lib.hid hra; clear hra)
          | (go_at_call 10; (with_reducible refine (RA.run2 HA.out (by omega) R2.out RS.out NL.out NR.out).mono ?_); rintro a w6 ⟨rfl, hra⟩; rw [HX2.out, HY2.out]; obtain ⟨ap0, ap1⟩ := hra.apart ha0 ha1; have HZ := Lib.hid hra; clear hra; obtain ⟨P0, hP0⟩ : ∃ P0, P0 = ldq L' 0 := ⟨_, rfl⟩; obtain ⟨P1, hP1⟩ : ∃ P1, P1 = ldq L' 1 := ⟨_, rfl⟩; obtain ⟨Q0, hQ0⟩ : ∃ Q0, Q0 = ldq R' 0 := ⟨_, rfl⟩; obtain ⟨Q1, hQ1⟩ : ∃ Q1, Q1 = ldq R' 1 := ⟨_, rfl⟩; rw [← hP0, ← hQ0] at ap0; rw [← hP1, ← hQ1] at ap1; have HP0 := Lib.hid hP0.symm; have HP1 := Lib.hid hP1.symm; have HQ0 := Lib.hid hQ0.symm; have HQ1 := Lib.hid hQ1.symm; clear hP0 hP1 hQ0 hQ1)
          | (go_at_call 20; (with_reducible refine (RL.ld2 HZ.out (by omega) 0).mono ?_); rintro a w7 ⟨rfl, hra⟩; rw [HQ0.out]; have HZ := Lib.hid hra; clear hra)
          | (go_at_call 20; (with_reducible refine (RL.ld1 HZ.out (by omega) 0).mono ?_); rintro a w7 ⟨rfl, hra⟩; rw [HP0.out]; have HZ := Lib.hid hra; clear hra)
          | (go_at_call 20; (with_reducible refine (RL.ld2 HZ.out (by omega) 1).mono ?_); rintro a w7 ⟨rfl, hra⟩; rw [HQ1.out]; have HZ := Lib.hid hra; clear hra)
          | (go_at_call 20; (with_reducible refine (RL.ld1 HZ.out (by omega) 1).mono ?_); rintro a w7 ⟨rfl, hra⟩; rw [HP1.out]; have HZ := Lib.hid hra; clear hra)
          | fail)
        go_roundw
        case rel => exact ⟨k + 1, by omega, by go_num, L', R', HZ.out.more (by omega)⟩
        case measure => simp [intOf]; omega
      · go_wp2_with (first
          | (go_at_call 13; (with_reducible refine (steal_any e4 _).mono ?_); intro a w4 hk; obtain ⟨M2, rfl, hM, hm, hb⟩ := hk; obtain ⟨L', R', m', k', r1, r2, rs, nl, nr, hro, hxo⟩ := (HN.out.begin hM hm hb (ms_steal at') (.inr (.inr rfl)) (fun _ h => ws_steal h e4_ok)).ends; have HM := Lib.hid (HN.out.begin hM hm hb (ms_steal at') (.inr (.inr rfl)) (fun _ h => ws_steal h e4_ok)); clear hM hm hb; have R1 := Lib.hid r1; have R2 := Lib.hid r2; have RS := Lib.hid rs; have NL := Lib.hid nl; have NR := Lib.hid nr; clear r1 r2 rs nl nr; obtain ⟨X, hX⟩ : ∃ X, X = rOf m' := ⟨_, rfl⟩; obtain ⟨Y, hY⟩ : ∃ Y, Y = xOf m' := ⟨_, rfl⟩; rw [← hX] at hro; rw [← hY] at hxo; have HX := Lib.hid hX.symm; have HY := Lib.hid hY.symm; have HX2 := Lib.hid hro; have HY2 := Lib.hid hxo; clear hX hY hro hxo)
          | (go_at_call 13; (with_reducible refine (steal_any e4 _).mono ?_); intro a w3 hk; obtain ⟨M1, rfl, hM, hm, hb⟩ := hk; have HN := Lib.hid (HRL.out.begin hM hm hb); clear hM hm hb; obtain ⟨x0, x1, x2, x3⟩ := HN.out.rl.cells)
          | (go_at_call 10; (with_reducible refine (RM.run1 HM.out (by omega) L' R' m' k' R1.out).mono ?_); rintro a w5 ⟨rfl, hra⟩; rw [HX.out, HY.out]; have HA := Lib.hid hra; clear hra)
          | (go_at_call 10; (with_reducible refine (RA.run2 HA.out (by omega) R2.out RS.out NL.out NR.out).mono ?_); rintro a w6 ⟨rfl, hra⟩; rw [HX2.out, HY2.out]; obtain ⟨ap0, ap1⟩ := hra.apart ha0 ha1; have HZ := Lib.hid hra; clear hra; obtain ⟨P0, hP0⟩ : ∃ P0, P0 = ldq L' 0 := ⟨_, rfl⟩; obtain ⟨P1, hP1⟩ : ∃ P1, P1 = ldq L' 1 := ⟨_, rfl⟩; obtain ⟨Q0, hQ0⟩ : ∃ Q0, Q0 = ldq R' 0 := ⟨_, rfl⟩; obtain ⟨Q1, hQ1⟩ : ∃ Q1, Q1 = ldq R' 1 := ⟨_, rfl⟩; rw [← hP0, ← hQ0] at ap0; rw [← hP1, ← hQ1] at ap1; have HP0 := Lib.hid hP0.symm; have HP1 := Lib.hid hP1.symm; have HQ0 := Lib.hid hQ0.symm; have HQ1 := Lib.hid hQ1.symm; clear hP0 hP1 hQ0 hQ1)
          | (go_at_call 20; (with_reducible refine (RL.ld2 HZ.out (by omega) 0).mono ?_); rintro a w7 ⟨rfl, hra⟩; rw [HQ0.out]; have HZ := Lib.hid hra; clear hra)
          | (go_at_call 20; (with_reducible refine (RL.ld1 HZ.out (by omega) 0).mono ?_); rintro a w7 ⟨rfl, hra⟩; rw [HP0.out]; have HZ := Lib.hid hra; clear hra)
          | (go_at_call 20; (with_reducible refine (RL.ld2 HZ.out (by omega) 1).mono ?_); rintro a w7 ⟨rfl, hra⟩; rw [HQ1.out]; have HZ := Lib.hid hra; clear hra)
          | (go_at_call 20; (with_reducible refine (RL.ld1 HZ.out (by omega) 1).mono ?_); rintro a w7 ⟨rfl, hra⟩; rw [HP1.out]; have HZ := Lib.hid hra; clear hra)
          | fail)
        go_roundw
        case rel => exact ⟨k + 1, by omega, by go_num, L', R', HZ.out.more (by omega)⟩
        case measure => simp [intOf]; omega
    · obtain rfl : k = n := by omega
      go_wp2
      go_ret
      exact ⟨rfl, hl.o.one.bel⟩
end Go.Proofs.Ytjnenpflpckimaa

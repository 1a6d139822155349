/- The document's list of all things, walked. -/
import Derived.Test.YtbpkcoemehmpbaaGreatJ9
namespace Go.Proofs.YtbpkcoemehmpbaaGreat.Lay
open Go.RowKit
set_option linter.unusedVariables false

theorem OwnT.lower {w w2 wr : World} {B : Nat} {v : Value} {l : List Th} (h : OwnT B w2 wr v l) (hB : w.heap.size ≤ B) (hb : Below w.heap.size w w2) : OwnT w.heap.size w wr v l :=
  ⟨h.1.mono hB, hb.trans (h.2.mono hB)⟩
/-- A slice of things that was made. -/
def SomeT (l : List Th) (w : World) (en : Ending) (w' : World) : Prop := ∃ v, en = .returned v ∧ OwnT w.heap.size w w' v l

/-- A slice of numbers that lies apart from a row that grows. -/
def ReadsA (wr : World) (v : Value) (A : Option Addr) (zs : List Int) : Prop :=
  0 < zs.length → ∃ b off, A = some ⟨b, off, none⟩ ∧ b < wr.heap.size ∧ v.ownBlock ≠ some b ∧ ∀ j, j < zs.length → wr.cell? ⟨b, off + j, none⟩ = some (.int .i64 (zs.getD j 0))
theorem ReadsA.alloc {wr : World} {v : Value} {A : Option Addr} {zs : List Int} (h : ReadsA wr v A zs) (o : Obj) : ReadsA (wr.alloc o) v A zs := fun h0 => by
  obtain ⟨b, off, e, hlt, hn, hc⟩ := h h0
  exact ⟨b, off, e, by simp; omega, hn, fun j hj => (World.cell?_alloc_past _ _ _ hlt).trans (hc j hj)⟩

/-- An append of one thing that leaves a slice apart as it was. -/
theorem append_apart {wr : World} {T : TypeId} {x y z : Int} {ops : Array Oper} {rest : List Oper} {o : Oper} {a : Act} {Q : Exit → Act → World → Prop} (hg : o.guard = none) (s c : Operand)
    (ho : o.op = .call { callee := .builtin .append, args := #[s, c], argTypes := #[34, 34] })
    (B : Nat) (w0 : World) (v : Value) (l : List Th) (hs : a.eval s = v) (hown : OwnT B w0 wr v l) (A : Option Addr) (zs : List Int) (hap : ReadsA wr v A zs) (hx : a.eval c = .slice (some ⟨wr.heap.size, 0, none⟩) 1 1) (hl : l.length ≤ 100000) (hB : B ≤ w0.heap.size)
    (h : ∀ v' w', OwnT B w0 w' v' (l ++ [⟨x, y, z⟩]) → ReadsA w' v' A zs → wpList Tryz.prog ops Q rest (a.put o.dst v') w') :
    wpList Tryz.prog ops Q (o :: rest) a (wr.alloc (.cells #[.int .i64 x, .int .i64 y, .int .i64 z] T)) := by
  obtain ⟨i0, hi0, hz0, hz1, hz2⟩ := info_parts info39
  have hsz := hown.2.size
  have hn := hown.alloc hB (.cells #[.int .i64 x, .int .i64 y, .int .i64 z] T)
  have hap2 := hap.alloc (.cells #[.int .i64 x, .int .i64 y, .int .i64 z] T)
  refine wpList_append_lies _ hg s c 34 ho B 114 i0 _ 3 24 Tryz.underlying34 hi0 hz0 hz1 hz2 rfl (by decide) v l.length _ hs hn.1 ⟨wr.heap.size, 0, none⟩ 1 1 [.int .i64 x, .int .i64 y, .int .i64 z] hx rfl ?_ ?_ (by decide) (by unfold maxLen; omega) (by omega) (by simp; omega) _ rfl ?_
  · intro j u hj
    rw [add_off, World.cell?_alloc_at _ _ _ _ rfl]
    match j, hj with
    | 0, hj => simp at hj; subst hj; rfl
    | 1, hj => simp at hj; subst hj; rfl
    | 2, hj => simp at hj; subst hj; rfl
  · intro u hu
    simp at hu
    rcases hu with rfl | rfl | rfl <;> rfl
  · intro g cap w' h1 h2 h3 h4
    refine h _ w' ⟨by rw [List.length_append, flat_app]; exact h1, hn.2.grown h2 (by simp; omega) (fun b hb => (hn.1.lt b hb).1)⟩ ?_
    intro h0
    obtain ⟨b, off, e, hlt, hne, hc⟩ := hap2 h0
    obtain ⟨b', off', e', hlt', hne', hc'⟩ := hap h0
    have hb := h2.block b hlt (Ne.symm hne)
    refine ⟨b, off, e, Nat.lt_of_lt_of_le hlt h2.size, ?_, fun j hj => (World.cell?_of_block hb).trans (hc j hj)⟩
    intro e2
    have e3 : g = b := by simpa [Value.ownBlock] using e2
    have e4 : b' = b := by rw [e'] at e; exact congrArg Addr.block (Option.some.inj e)
    rcases h3 with h3 | h3
    · rw [e3] at h3; exact hne h3
    · simp at h3; omega

set_option maxHeartbeats 8000000 in
set_option maxRecDepth 100000 in
theorem things_any {c : Cfg} (h : OkC c) (w : World) : Calls Tryz.prog 35 #[cfgV c] w (SomeT (things (shOf c)) w) := by
  have hbd := bds h
  have hH := Lib.hid h
  obtain ⟨U, hU⟩ : ∃ U : Nat, U = c.mu.toNat := ⟨_, rfl⟩
  obtain ⟨M, hM⟩ : ∃ M : Nat, M = c.mr.toNat := ⟨_, rfl⟩
  obtain ⟨D, hD⟩ : ∃ D : Nat, D = c.dq.toNat := ⟨_, rfl⟩
  obtain ⟨P, hP⟩ : ∃ P : Nat, P = (packN c).toNat := ⟨_, rfl⟩
  obtain ⟨r, hr⟩ : ∃ r : List Nat, r = roomsN c := ⟨_, rfl⟩
  have hT : things (shOf c) = ((((singlesTo 6 ++ acks U) ++ heads 5) ++ marksTo D M) ++ packsTo P) ++ nodesTo r r.length := by rw [hU, hM, hD, hP, hr]; rfl
  have hUc : (U : Int) ≤ c.mu ∧ c.mu ≤ (U : Int) := by have := h.u0; omega
  obtain ⟨hUc1, hUc2⟩ := hUc
  have hMc : (M : Int) ≤ c.mr ∧ c.mr ≤ (M : Int) := by have := h.k0; omega
  obtain ⟨hMc1, hMc2⟩ := hMc
  have hDc : (D : Int) ≤ c.dq ∧ c.dq ≤ (D : Int) := by have := h.q0; omega
  obtain ⟨hDc1, hDc2⟩ := hDc
  have hPc : (P : Int) ≤ packN c ∧ packN c ≤ (P : Int) := by have := hbd.p0; omega
  obtain ⟨hPc1, hPc2⟩ := hPc
  have hU4 : U ≤ 4 := by have := h.u1; omega
  have hM4 : M ≤ 4 := by have := h.k1; omega
  have hD8 : D ≤ 8 := by have := h.q1; omega
  have hPt : P ≤ 1000 := by have := hbd.p1; omega
  have hrl : r.length = (ksOf c).length := by rw [hr]; exact roomsN_len c
  have hr60 : r.length ≤ 60 := by rw [hrl]; exact ks_len60 c
  have hoff : ∀ n, n ≤ r.length → off r n ≤ 20 * n := by rw [hr]; exact off_le _ (roomsN_le c)
  have hr16 : ∀ n, r.getD n 0 ≤ 16 := fun n => by
    by_cases hn : n < r.length
    · rw [List.getD_eq_getElem?_getD, List.getElem?_eq_getElem hn, Option.getD_some]; exact roomsN_le c _ (by rw [← hr]; exact List.getElem_mem _)
    · rw [List.getD_eq_getElem?_getD, List.getElem?_eq_none (by omega)]; simp
  have hrg : ∀ n, n < r.length → (roomsI c).getD n 0 = ((r.getD n 0 : Nat) : Int) := fun n hn => by
    rw [rooms_get c n (by omega), hr, roomsN_get c n (by omega)]
  obtain ⟨w0, hw0⟩ : ∃ w0 : World, w0 = w.alloc (cfgO c 38) := ⟨_, rfl⟩
  have hkc : ∀ wr, Below (w.heap.size + 1) w0 wr → KC w w.heap.size c wr := fun wr hb => by rw [hw0] at hb; exact KC.of hb
  have hs0 : w.heap.size + 1 ≤ w0.heap.size := by rw [hw0]; simp
  have hb0 : Below w.heap.size w w0 := by rw [hw0]; exact below_alloc0 (Below.refl _ _) _
  have HW := Lib.hid hw0; have HT := Lib.hid hT; have HKC := Lib.hid hkc; have HRL := Lib.hid hrl; have HOFF := Lib.hid hoff; have HR16 := Lib.hid hr16; have HRG := Lib.hid hrg; have HB0 := Lib.hid hb0
  clear hw0 hT hkc hU hM hD hP hr hrl hoff hr16 hrg h hbd hb0
  go_enter Tryz.func35, Tryz.ntmps35
  go_wp2_with (fail)
  rw [← HW.out]
  go_loopw [3, 4] (fun v i wr => ∃ (k : Nat), k ≤ 6 ∧ i = .int .i64 (k : Int) ∧ OwnT (w.heap.size + 1) w0 wr v (singlesTo k)) (fun _ i _ => 6 - (intOf i).toNat)
  case atStart => exact ⟨0, by omega, rfl, OwnT.nil (Below.refl _ _)⟩
  case round =>
    obtain ⟨k, hk, rfl, hO⟩ := hrel
    have HO := Lib.hid hO
    have HS := Lib.hid (singles_succ k)
    have HL : Hid ((singlesTo k).length ≤ 100000) := Lib.hid (by simp [singlesTo]; omega)
    clear hO
    by_cases hlt : k < 6
    · have hk1 : (k : Int) < 6 := by omega
      go_wp2_with (first
        | (at_builtin; refine append_one rfl _ _ rfl _ _ _ _ rfl HO.out rfl HL.out hs0 ?_; intro v' w5 HO5)
        | fail)
      go_roundw
      case rel => exact ⟨k + 1, by omega, by go_num, by rw [HS.out]; exact HO5⟩
      case measure => simp [intOf]; omega
    have hk6 : k = 6 := by omega
    have hk7 : ¬ (k : Int) < 6 := by omega
    obtain ⟨X1, hX1⟩ : ∃ X1, X1 = singlesTo 6 := ⟨_, rfl⟩
    have HO1 : Hid (OwnT (w.heap.size + 1) w0 wr u3 X1) := Lib.hid (by rw [hX1, ← hk6]; exact HO.out)
    have hl1 : X1.length = 6 := by rw [hX1]; rfl
    have HX1 := Lib.hid hX1
    clear hX1 HO HS HL hlt hk hk6
    go_wp2_with (fail)
    go_loopw [3, 5] (fun v i wr => ∃ (k : Nat), k ≤ U ∧ i = .int .i64 (k : Int) ∧ OwnT (w.heap.size + 1) w0 wr v (X1 ++ acks k)) (fun _ i _ => U - (intOf i).toNat)
    case atStart => exact ⟨0, by omega, rfl, by simpa [acks] using HO1.out⟩
    case round =>
      clear HO1
      obtain ⟨k, hk, rfl, hO⟩ := hrel
      have hcell := (HKC.out _ hO.2).c6
      have HO := Lib.hid hO
      have HS := Lib.hid (acks_succ k)
      have HL : Hid ((X1 ++ acks k).length ≤ 100000) := Lib.hid (by simp [acks]; omega)
      clear hO
      by_cases hlt : k < U
      · have hk1 : (k : Int) < c.mu := by omega
        go_wp2_with (first
          | (at_builtin; refine append_one rfl _ _ rfl _ _ _ _ rfl HO.out rfl HL.out hs0 ?_; intro v' w5 HO5)
          | fail)
        go_roundw
        case rel => exact ⟨k + 1, by omega, by go_num, by rw [HS.out, ← List.append_assoc]; exact HO5⟩
        case measure => simp [intOf]; omega
      obtain rfl : k = U := by omega
      obtain ⟨X2, hX2⟩ : ∃ X2, X2 = X1 ++ acks k := ⟨_, rfl⟩
      have HO1 : Hid (OwnT (w.heap.size + 1) w0 wr u3 X2) := Lib.hid (by rw [hX2]; exact HO.out)
      have hl2 : X2.length ≤ 10 := by rw [hX2]; simp [acks]; omega
      have HX2 := Lib.hid hX2
      clear hX2 HO HS HL hlt hk
      go_wp2_with (fail)
      go_loopw [3, 6] (fun v i wr => ∃ (k : Nat), k ≤ 5 ∧ i = .int .i64 (k : Int) ∧ OwnT (w.heap.size + 1) w0 wr v (X2 ++ heads k)) (fun _ i _ => 5 - (intOf i).toNat)
      case atStart => exact ⟨0, by omega, rfl, by simpa [heads] using HO1.out⟩
      case round =>
        clear HO1 hcell
        obtain ⟨k, hk, rfl, hO⟩ := hrel
        have HO := Lib.hid hO
        have HS := Lib.hid (heads_succ k)
        have HL : Hid ((X2 ++ heads k).length ≤ 100000) := Lib.hid (by simp [heads]; omega)
        clear hO
        by_cases hlt : k < 5
        · have hk1 : (k : Int) < 5 := by omega
          go_wp2_with (first
            | (at_builtin; refine append_one rfl _ _ rfl _ _ _ _ rfl HO.out rfl HL.out hs0 ?_; intro v' w5 HO5)
            | fail)
          go_roundw
          case rel => exact ⟨k + 1, by omega, by go_num, by rw [HS.out, ← List.append_assoc]; exact HO5⟩
          case measure => simp [intOf]; omega
        have hk6 : k = 5 := by omega
        have hk7 : ¬ (k : Int) < 5 := by omega
        obtain ⟨X3, hX3⟩ : ∃ X3, X3 = X2 ++ heads 5 := ⟨_, rfl⟩
        have HO1 : Hid (OwnT (w.heap.size + 1) w0 wr u3 X3) := Lib.hid (by rw [hX3, ← hk6]; exact HO.out)
        have hl3 : X3.length ≤ 15 := by rw [hX3]; simp [heads]; omega
        have HX3 := Lib.hid hX3
        clear hX3 HO HS HL hlt hk hk6
        go_wp2_with (fail)
        go_loopw [3, 7] (fun v i wr => ∃ (k : Nat), k ≤ M ∧ i = .int .i64 (k : Int) ∧ OwnT (w.heap.size + 1) w0 wr v (X3 ++ marksTo D k)) (fun _ i _ => M - (intOf i).toNat)
        case atStart => exact ⟨0, by omega, rfl, by simpa [marksTo] using HO1.out⟩
        case round =>
          clear HO1
          obtain ⟨k, hk, rfl, hO⟩ := hrel
          have hcell := (HKC.out _ hO.2).c5
          have HO := Lib.hid hO
          have HS := Lib.hid (marks_succ D k)
          have hml : k * (D + 2) ≤ 4 * 10 := Nat.mul_le_mul (by omega) (by omega)
          have HL : Hid ((X3 ++ marksTo D k).length ≤ 60) := Lib.hid (by simp only [List.length_append, marks_len]; omega)
          clear hO
          by_cases hlt : k < M
          · have hk1 : (k : Int) < c.mr := by omega
            go_wp2_with (first
              | (at_builtin; refine append_one rfl _ _ rfl _ _ _ _ rfl HO6.out rfl (by have := HL.out; simp only [List.length_append, List.length_singleton] at *; omega) hs0 ?_; intro v'' w6 HO7)
              | (at_builtin; refine append_one rfl _ _ rfl _ _ _ _ rfl HO.out rfl (by have := HL.out; omega) hs0 ?_; intro v' w5 HO5; have HO6 := Lib.hid HO5)
              | fail)
            clear hcell HO HO5 HO6
            have HO := Lib.hid HO7
            clear HO7
            go_loopw [3, 8] (fun v i wr => ∃ (j : Nat), j ≤ D ∧ i = .int .i64 (j : Int) ∧ OwnT (w.heap.size + 1) w0 wr v ((X3 ++ marksTo D k ++ [Th.mk 8 ((k : Int)) 0]) ++ [Th.mk 9 ((k : Int)) 0] ++ entries k j)) (fun _ i _ => D - (intOf i).toNat)
            case atStart => exact ⟨0, by omega, rfl, by simpa [entries] using HO.out⟩
            case round =>
              clear HO
              obtain ⟨j, hj, rfl, hO⟩ := hrel
              have hcell := (HKC.out _ hO.2).c7
              have HO := Lib.hid hO
              have HS2 := Lib.hid (entries_succ k j)
              have HL2 : Hid (((X3 ++ marksTo D k ++ [Th.mk 8 ((k : Int)) 0]) ++ [Th.mk 9 ((k : Int)) 0] ++ entries k j).length ≤ 100000) := Lib.hid (by have := HL.out; simp only [List.length_append, List.length_singleton, entries, List.length_map, List.length_range] at *; omega)
              clear hO
              by_cases hlt2 : j < D
              · have hj1 : (j : Int) < c.dq := by omega
                go_wp2_with (first
                  | (at_builtin; refine append_one rfl _ _ rfl _ _ _ _ rfl HO.out rfl HL2.out hs0 ?_; intro v' w5 HO5)
                  | fail)
                go_roundw
                case rel => exact ⟨j + 1, by omega, by go_num, by rw [HS2.out, ← List.append_assoc]; exact HO5⟩
                case measure => simp [intOf]; omega
              obtain rfl : j = D := by omega
              have HO2 : Hid (OwnT (w.heap.size + 1) w0 wr u3 (X3 ++ marksTo j (k + 1))) := Lib.hid (by rw [HS.out]; simpa only [List.append_assoc] using HO.out)
              clear HO HS2 HL2 hlt2
              go_wp2_with (fail)
              go_roundw
              case rel => exact ⟨k + 1, by omega, by go_num, HO2.out⟩
              case measure => simp [intOf]; omega
          obtain rfl : k = M := by omega
          obtain ⟨X4, hX4⟩ : ∃ X4, X4 = X3 ++ marksTo D k := ⟨_, rfl⟩
          have HO1 : Hid (OwnT (w.heap.size + 1) w0 wr u3 X4) := Lib.hid (by rw [hX4]; exact HO.out)
          have hl4 : X4.length ≤ 60 := by rw [hX4]; exact HL.out
          have HX4 := Lib.hid hX4
          have hkk := Lib.hid (HKC.out _ HO1.out.2)
          obtain ⟨klt, q0, q1, q2, q3, q4, q5, q6, q7, q8, q9, q10, q11, qb⟩ := hkk.out
          clear hX4 HO HS HL hlt hk
          go_wp2_with (first
            | (go_at_call 36; (with_reducible refine (rpackets_any hH.out _).mono ?_); rintro rr w7 ⟨rfl, hb7⟩; have hO7 := HO1.out.step hs0 hb7)
            | fail)
          clear HO1 q0 q1 q2 q3 q4 q5 q6 q7 q8 q9 q10 q11 qb hkk hcell
          have HO1 := Lib.hid hO7; clear hO7
          go_loopw [3, 10] (fun v i wr => ∃ (k : Nat), k ≤ P ∧ i = .int .i64 ((k : Int) + 1) ∧ OwnT (w.heap.size + 1) w0 wr v (X4 ++ packsTo k)) (fun _ i _ => P + 1 - (intOf i).toNat)
          case atStart => exact ⟨0, by omega, rfl, by simpa [packsTo] using HO1.out⟩
          case round =>
            clear HO1
            obtain ⟨p, hp, rfl, hO⟩ := hrel
            have HO := Lib.hid hO
            have HS := Lib.hid (packs_succ p)
            have HL : Hid ((X4 ++ packsTo p).length ≤ 7000) := Lib.hid (by simp only [List.length_append, packs_len]; omega)
            clear hO
            by_cases hlt : p < P
            · have hk1 : (p : Int) + 1 ≤ packN c := by omega
              go_wp2_with (first
                | (at_builtin; refine append_one rfl _ _ rfl _ _ _ _ rfl HO6.out rfl (by have := HL.out; simp only [List.length_append, List.length_singleton] at *; omega) hs0 ?_; intro v'' w6 HO7)
                | (at_builtin; refine append_one rfl _ _ rfl _ _ _ _ rfl HO.out rfl (by have := HL.out; omega) hs0 ?_; intro v' w5 HO5; have HO6 := Lib.hid HO5)
                | fail)
              clear HO HO5 HO6
              have HO := Lib.hid HO7
              clear HO7
              go_loopw [3, 11] (fun v i wr => ∃ (j : Nat), j ≤ 4 ∧ i = .int .i64 (j : Int) ∧ OwnT (w.heap.size + 1) w0 wr v ((X4 ++ packsTo p ++ [Th.mk 11 ((p : Int) + 1) 0]) ++ [Th.mk 12 ((p : Int) + 1) 0] ++ tasksI ((p : Int) + 1) j)) (fun _ i _ => 4 - (intOf i).toNat)
              case atStart => exact ⟨0, by omega, rfl, by simpa [tasksI] using HO.out⟩
              case round =>
                clear HO
                obtain ⟨j, hj, rfl, hO⟩ := hrel
                have HO := Lib.hid hO
                have HS2 := Lib.hid (tasks_succ ((p : Int) + 1) j)
                have HL2 : Hid (((X4 ++ packsTo p ++ [Th.mk 11 ((p : Int) + 1) 0]) ++ [Th.mk 12 ((p : Int) + 1) 0] ++ tasksI ((p : Int) + 1) j).length ≤ 100000) := Lib.hid (by have := HL.out; simp only [List.length_append, List.length_singleton, tasksI, List.length_map, List.length_range] at *; omega)
                clear hO
                by_cases hlt2 : j < 4
                · have hj1 : (j : Int) < 4 := by omega
                  go_wp2_with (first
                    | (at_builtin; refine append_one rfl _ _ rfl _ _ _ _ rfl HO.out rfl HL2.out hs0 ?_; intro v' w5 HO5)
                    | fail)
                  go_roundw
                  case rel => exact ⟨j + 1, by omega, by go_num, by rw [HS2.out, ← List.append_assoc]; exact HO5⟩
                  case measure => simp [intOf]; omega
                have hk6 : j = 4 := by omega
                have hk7 : ¬ (j : Int) < 4 := by omega
                have HO2 : Hid (OwnT (w.heap.size + 1) w0 wr u3 (X4 ++ packsTo (p + 1))) := Lib.hid (by rw [HS.out, ← hk6]; simpa only [List.append_assoc] using HO.out)
                clear HO HS2 HL2 hlt2 hk6
                go_wp2_with (fail)
                go_roundw
                case rel => exact ⟨p + 1, by omega, by go_num, HO2.out⟩
                case measure => simp [intOf]; omega
            obtain rfl : p = P := by omega
            obtain ⟨X5, hX5⟩ : ∃ X5, X5 = X4 ++ packsTo p := ⟨_, rfl⟩
            have HO1 : Hid (OwnT (w.heap.size + 1) w0 wr u3 X5) := Lib.hid (by rw [hX5]; exact HO.out)
            have hl5 : X5.length ≤ 7000 := by rw [hX5]; exact HL.out
            have HX5 := Lib.hid hX5
            have hkk := Lib.hid (HKC.out _ HO1.out.2)
            obtain ⟨klt2, q0, q1, q2, q3, q4, q5, q6, q7, q8, q9, q10, q11, qb⟩ := hkk.out
            clear hX5 HO HS HL hlt hp
            have hgp : ¬ (p : Int) + 1 ≤ packN c := by omega
            go_wp2_with (first
              | (go_at_call 70; (with_reducible refine (rooms_any c _).mono ?_); rintro rr w8 ⟨v8, rfl, ho8⟩; have hO8 := HO1.out.step hs0 ho8.2; obtain ⟨A, cap, rfl, hA, hA0, hcap, hcm⟩ := ho8.reads)
              | fail)
            obtain ⟨RI, hRI⟩ : ∃ RI, RI = roomsI c := ⟨_, rfl⟩
            have hRIe : RI.length = r.length := by rw [hRI, rooms_len]; exact HRL.out.symm
            have hRIl1 : RI.length ≤ r.length := by omega
            have hRIl2 : r.length ≤ RI.length := by omega
            clear hRIe
            have hRIg : ∀ n, n < r.length → RI.getD n 0 = ((r.getD n 0 : Nat) : Int) := by rw [hRI]; exact HRG.out
            have hap : ReadsA w8 u3 A RI := fun h0 => by
              obtain ⟨b, off, e, hlt, hc⟩ := hA (by rw [← hRI]; exact h0)
              refine ⟨b, off, e, hlt, ?_, by rw [hRI]; exact hc⟩
              intro e2
              have h1 := (HO1.out.1.lt b e2).2
              have h2 := (ho8.1.lt b (by rw [e]; rfl)).1
              omega
            rw [← hRI]
            clear ho8 hA hA0 hcap hcm HO1 q0 q1 q2 q3 q4 q5 q6 q7 q8 q9 q10 q11 qb hkk klt klt2
            have HO1 := Lib.hid hO8; clear hO8
            have HAP := Lib.hid hap; clear hap
            have HRIG := Lib.hid hRIg; clear hRIg
            have HRI := Lib.hid hRI; clear hRI
            go_wp2_with (fail)
            go_loopw [3, 13] (fun v i wr => ∃ (k : Nat), k ≤ r.length ∧ i = .int .i64 ((k : Int) + 1) ∧ OwnT (w.heap.size + 1) w0 wr v (X5 ++ nodesTo r k) ∧ ReadsA wr v A RI) (fun _ i _ => r.length + 1 - (intOf i).toNat)
            case atStart => exact ⟨0, by omega, rfl, by simpa [nodesTo] using HO1.out, HAP.out⟩
            case round =>
              clear HO1 HAP
              obtain ⟨q, hq, rfl, hO, hap⟩ := hrel
              have HO := Lib.hid hO
              have HAP := Lib.hid hap
              have HS := Lib.hid (nodes_succ r q)
              have hof := HOFF.out q hq
              have HL : Hid ((X5 ++ nodesTo r q).length ≤ 9000) := Lib.hid (by simp only [List.length_append, nodes_len]; omega)
              clear hO hap
              by_cases hlt : q < r.length
              · have hk1 : (q : Int) + 1 ≤ (RI.length : Int) := by omega
                have HL1 : ∀ x1 : Th, ((X5 ++ nodesTo r q) ++ [x1]).length ≤ 100000 := fun x1 => by have := HL.out; simp only [List.length_append, List.length_singleton] at *; omega
                have HL2 : ∀ x1 x2 : Th, (((X5 ++ nodesTo r q) ++ [x1]) ++ [x2]).length ≤ 100000 := fun x1 x2 => by have := HL.out; simp only [List.length_append, List.length_singleton] at *; omega
                have HL3 : ∀ x1 x2 x3 : Th, ((((X5 ++ nodesTo r q) ++ [x1]) ++ [x2]) ++ [x3]).length ≤ 100000 := fun x1 x2 x3 => by have := HL.out; simp only [List.length_append, List.length_singleton] at *; omega
                have HL4 := Lib.hid HL1; have HL5 := Lib.hid HL2; have HL6 := Lib.hid HL3
                clear HL1 HL2 HL3
                go_wp2_with (fail)
                refine wp_loop_rounds 5 ?_
                rw [rounds_succ]; go_wp2_with (at_builtin; refine append_apart rfl _ _ rfl _ _ _ _ rfl HO.out _ _ HAP.out rfl (by have := HL.out; omega) hs0 ?_; intro v1 y1 hO1 hA1)
                clear HO HAP
                have HO := Lib.hid hO1; have HAP := Lib.hid hA1
                clear hO1 hA1
                rw [rounds_succ]; go_wp2_with (at_builtin; refine append_apart rfl _ _ rfl _ _ _ _ rfl HO.out _ _ HAP.out rfl (HL4.out _) hs0 ?_; intro v2 y2 hO2 hA2)
                clear HO HAP
                have HO := Lib.hid hO2; have HAP := Lib.hid hA2
                clear hO2 hA2
                rw [rounds_succ]; go_wp2_with (at_builtin; refine append_apart rfl _ _ rfl _ _ _ _ rfl HO.out _ _ HAP.out rfl (HL5.out _ _) hs0 ?_; intro v3 y3 hO3 hA3)
                clear HO HAP
                have HO := Lib.hid hO3; have HAP := Lib.hid hA3
                clear hO3 hA3
                rw [rounds_succ]; go_wp2_with (at_builtin; refine append_apart rfl _ _ rfl _ _ _ _ rfl HO.out _ _ HAP.out rfl (HL6.out _ _ _) hs0 ?_; intro v4 y4 hO4 hA4)
                clear HO HAP
                have HO := Lib.hid hO4; have HAP := Lib.hid hA4
                clear hO4 hA4
                rw [rounds_succ]; go_wp2_with (fail)
                obtain ⟨X6, hX6⟩ : ∃ X6, X6 = (((X5 ++ nodesTo r q) ++ [Th.mk 14 ((q : Int) + 1) 0]) ++ [Th.mk 15 ((q : Int) + 1) 0]) ++ [Th.mk 16 ((q : Int) + 1) 0] ++ [Th.mk 17 ((q : Int) + 1) 0] := ⟨_, rfl⟩
                have HO6 : Hid (OwnT (w.heap.size + 1) w0 y4 v4 X6) := Lib.hid (by rw [hX6]; exact HO.out)
                have hl6 : X6.length ≤ 9010 := by rw [hX6]; have := HL.out; simp only [List.length_append, List.length_singleton] at *; omega
                have hX7 : X5 ++ nodesTo r (q + 1) = X6 ++ slotsI ((q : Int) + 1) (r.getD q 0) := by rw [HS.out, hX6]; simp only [List.append_assoc]
                have HX7 := Lib.hid hX7
                obtain ⟨J, hJ⟩ : ∃ J, J = r.getD q 0 := ⟨_, rfl⟩
                have hJ16 : J ≤ 16 := by rw [hJ]; exact HR16.out q
                have hRq := HRIG.out q hlt
                rw [← hJ] at hRq
                have HRQ := Lib.hid hRq
                rw [← hJ] at hX7
                have HX8 := Lib.hid hX7
                clear hX6 hX7 HX7 HO HS HL HL4 HL5 HL6 hRq hJ
                go_loopw [3, 15] (fun v i wr => ∃ (j : Nat), j ≤ J ∧ i = .int .i64 (j : Int) ∧ OwnT (w.heap.size + 1) w0 wr v (X6 ++ slotsI ((q : Int) + 1) j) ∧ ReadsA wr v A RI) (fun _ i _ => J - (intOf i).toNat)
                case atStart => exact ⟨0, by omega, rfl, by simpa [slotsI] using HO6.out, HAP.out⟩
                case round =>
                  clear HO6 HAP
                  obtain ⟨j, hj, rfl, hO, hap⟩ := hrel
                  obtain ⟨b, off, hAe, hbl, hbn, hbc⟩ := hap (by omega)
                  have hcell := hbc q (by omega)
                  rw [HRQ.out] at hcell
                  have HO := Lib.hid hO
                  have HAP := Lib.hid hap
                  have HS2 := Lib.hid (slotsI_succ ((q : Int) + 1) j)
                  have HL2 : Hid ((X6 ++ slotsI ((q : Int) + 1) j).length ≤ 100000) := Lib.hid (by simp only [List.length_append, slotsI, List.length_map, List.length_range]; omega)
                  have hq0 : (0 : Int) ≤ (q : Int) := by omega
                  have hq1 : (q : Int) < (RI.length : Int) := by omega
                  have hsub : IntKind.i64.wrap ((q : Int) + 1 - 1) = (q : Int) := by rw [show (q : Int) + 1 - 1 = q by omega]; exact IntWalk.i64_in _ (by omega)
                  clear hO hap hbn hbc hbl
                  subst hAe
                  by_cases hlt2 : j < J
                  · have hj1 : (j : Int) < (J : Int) := by omega
                    go_wp2_with (first
                      | (at_builtin; refine append_apart rfl _ _ rfl _ _ _ _ rfl HO.out _ _ HAP.out rfl HL2.out hs0 ?_; intro v' w5 HO5 HA5)
                      | fail)
                    go_roundw
                    case rel => exact ⟨j + 1, by omega, by go_num, by rw [HS2.out, ← List.append_assoc]; exact HO5, HA5⟩
                    case measure => simp [intOf]; omega
                  obtain rfl : j = J := by omega
                  have HO2 : Hid (OwnT (w.heap.size + 1) w0 wr u3 (X5 ++ nodesTo r (q + 1))) := Lib.hid (by rw [HX8.out]; exact HO.out)
                  clear HO HS2 HL2 hlt2
                  go_wp2_with (fail)
                  go_roundw
                  case rel => exact ⟨q + 1, by omega, by go_num, HO2.out, HAP.out⟩
                  case measure => simp [intOf]; omega
              obtain rfl : q = r.length := by omega
              have hgq : ¬ (r.length : Int) + 1 ≤ (RI.length : Int) := by omega
              have HF : Hid (OwnT (w.heap.size + 1) w0 wr u3 (things (shOf c))) := Lib.hid (by rw [HT.out, ← HX1.out, ← HX2.out, ← HX3.out, ← HX4.out, ← HX5.out]; exact HO.out)
              clear HO HAP HS HL hlt hq
              go_wp2_with (fail)
              go_ret
              exact ⟨_, rfl, HF.out.lower (Nat.le_succ _) HB0.out⟩
end Go.Proofs.YtbpkcoemehmpbaaGreat.Lay


import Derived.Test.YthoiaffeenhfgaaGreatJ22
import Derived.Test.YthoiaffeenhfgaaGreatJ19
namespace Go.Proofs.YthoiaffeenhfgaaGreat
open Go.RowKit
set_option linter.unusedVariables false
set_option linter.unusedSimpArgs false
set_option maxRecDepth 100000
open Lay (plcc plc shOf packN nodesN OkC Cfg Norm firstV Rep lenL things)
set_option maxHeartbeats 2000000 in
theorem pop_raw (w : World) (X M S : Nat) (b : Bool) (r x : Int) (Q Q' R : World → Prop) (c7 : w.cell? ⟨X, 7, none⟩ = some (ptr M))
    (HS : Calls Tryz.prog 93 #[ptr M, ptr S] w fun e w' => e = .returned (.bool b) ∧ Q w')
    (H7 : ∀ w1, Q w1 → w1.cell? ⟨X, 7, none⟩ = some (ptr M))
    (HF : b = false → ∀ w1, Q w1 → R w1)
    (HR : b = true → ∀ w1, Q w1 → Calls Tryz.prog 118 #[ptr M] w1 fun a w' => a = .returned (.tuple #[.int .i64 r, .int .u64 x]) ∧ Q' w')
    (HT : b = true → r = 1 → ∀ w1, Q' w1 → Calls Tryz.prog 122 #[ptr X, .int .u64 x] w1 fun e w' => e = .returned (.tuple #[]) ∧ R w')
    (HU : b = true → r ≠ 1 → ∀ w1, Q' w1 → Calls Tryz.prog 123 #[ptr X] w1 fun e w' => e = .returned (.tuple #[]) ∧ R w') :
    Calls Tryz.prog 109 #[ptr X, ptr S] w fun e w' => e = .returned (.tuple #[]) ∧ R w' := by
  have HSS := Lib.hid HS; have H77 := Lib.hid H7
  cases b
  · have HFF := Lib.hid (HF rfl)
    clear HS H7 HF HR HT HU
    go_enter Tryz.func109, Tryz.ntmps109
    go_wp2_with (first
      | (go_at_call 93; (with_reducible refine HSS.out.mono ?_); rintro r w1 ⟨rfl, hq⟩; have HQ := Lib.hid (HFF.out w1 hq); clear hq)
      | fail)
    go_returns
    exact ⟨rfl, HQ.out⟩
  · have HRR := Lib.hid (HR rfl)
    by_cases h1 : r = 1
    · have HTT := Lib.hid (HT rfl h1)
      subst h1
      clear HS H7 HF HR HT HU
      go_enter Tryz.func109, Tryz.ntmps109
      go_wp2_with (first
        | (go_at_call 93; (with_reducible refine HSS.out.mono ?_); rintro r w1 ⟨rfl, hq⟩; have c7' := H77.out w1 hq; have HQ := Lib.hid hq; clear hq)
        | (go_at_call 118; (with_reducible refine (HRR.out _ HQ.out).mono ?_); rintro r w2 ⟨rfl, hq⟩; have HQ2 := Lib.hid hq; clear hq)
        | (go_at_call 122; (with_reducible refine (HTT.out _ HQ2.out).mono ?_); rintro r w3 ⟨rfl, hr⟩; have HE := Lib.hid hr; clear hr)
        | fail)
      go_returns
      exact ⟨rfl, HE.out⟩
    · have HUU := Lib.hid (HU rfl h1)
      clear HS H7 HF HR HT HU
      go_enter Tryz.func109, Tryz.ntmps109
      go_wp2_with (first
        | (go_at_call 93; (with_reducible refine HSS.out.mono ?_); rintro r w1 ⟨rfl, hq⟩; have c7' := H77.out w1 hq; have HQ := Lib.hid hq; clear hq)
        | (go_at_call 118; (with_reducible refine (HRR.out _ HQ.out).mono ?_); rintro r w2 ⟨rfl, hq⟩; have HQ2 := Lib.hid hq; clear hq)
        | (go_at_call 123; (with_reducible refine (HUU.out _ HQ2.out).mono ?_); rintro r w3 ⟨rfl, hr⟩; have HE := Lib.hid hr; clear hr)
        | fail)
      go_returns
      exact ⟨rfl, HE.out⟩
set_option maxHeartbeats 2000000 in
theorem steal_raw (w : World) (X M S : Nat) (b : Bool) (r x : Int) (Q Q' R : World → Prop) (c7 : w.cell? ⟨X, 7, none⟩ = some (ptr M))
    (HS : Calls Tryz.prog 93 #[ptr M, ptr S] w fun e w' => e = .returned (.bool b) ∧ Q w')
    (H7 : ∀ w1, Q w1 → w1.cell? ⟨X, 7, none⟩ = some (ptr M))
    (HF : b = false → ∀ w1, Q w1 → R w1)
    (HR : b = true → ∀ w1, Q w1 → Calls Tryz.prog 118 #[ptr M] w1 fun a w' => a = .returned (.tuple #[.int .i64 r, .int .u64 x]) ∧ Q' w')
    (HT : b = true → r = 1 → ∀ w1, Q' w1 → Calls Tryz.prog 122 #[ptr X, .int .u64 x] w1 fun e w' => e = .returned (.tuple #[]) ∧ R w')
    (HU : b = true → r ≠ 1 → ∀ w1, Q' w1 → Calls Tryz.prog 187 #[ptr X] w1 fun e w' => e = .returned (.tuple #[]) ∧ R w') :
    Calls Tryz.prog 189 #[ptr X, ptr S] w fun e w' => e = .returned (.tuple #[]) ∧ R w' := by
  have HSS := Lib.hid HS; have H77 := Lib.hid H7
  cases b
  · have HFF := Lib.hid (HF rfl)
    clear HS H7 HF HR HT HU
    go_enter Tryz.func189, Tryz.ntmps189
    go_wp2_with (first
      | (go_at_call 93; (with_reducible refine HSS.out.mono ?_); rintro r w1 ⟨rfl, hq⟩; have HQ := Lib.hid (HFF.out w1 hq); clear hq)
      | fail)
    go_returns
    exact ⟨rfl, HQ.out⟩
  · have HRR := Lib.hid (HR rfl)
    by_cases h1 : r = 1
    · have HTT := Lib.hid (HT rfl h1)
      subst h1
      clear HS H7 HF HR HT HU
      go_enter Tryz.func189, Tryz.ntmps189
      go_wp2_with (first
        | (go_at_call 93; (with_reducible refine HSS.out.mono ?_); rintro r w1 ⟨rfl, hq⟩; have c7' := H77.out w1 hq; have HQ := Lib.hid hq; clear hq)
        | (go_at_call 118; (with_reducible refine (HRR.out _ HQ.out).mono ?_); rintro r w2 ⟨rfl, hq⟩; have HQ2 := Lib.hid hq; clear hq)
        | (go_at_call 122; (with_reducible refine (HTT.out _ HQ2.out).mono ?_); rintro r w3 ⟨rfl, hr⟩; have HE := Lib.hid hr; clear hr)
        | fail)
      go_returns
      exact ⟨rfl, HE.out⟩
    · have HUU := Lib.hid (HU rfl h1)
      clear HS H7 HF HR HT HU
      go_enter Tryz.func189, Tryz.ntmps189
      go_wp2_with (first
        | (go_at_call 93; (with_reducible refine HSS.out.mono ?_); rintro r w1 ⟨rfl, hq⟩; have c7' := H77.out w1 hq; have HQ := Lib.hid hq; clear hq)
        | (go_at_call 118; (with_reducible refine (HRR.out _ HQ.out).mono ?_); rintro r w2 ⟨rfl, hq⟩; have HQ2 := Lib.hid hq; clear hq)
        | (go_at_call 187; (with_reducible refine (HUU.out _ HQ2.out).mono ?_); rintro r w3 ⟨rfl, hr⟩; have HE := Lib.hid hr; clear hr)
        | fail)
      go_returns
      exact ⟨rfl, HE.out⟩
set_option maxHeartbeats 2000000 in
theorem putBack_raw (w : World) (X M S : Nat) (b : Bool) (Q R : World → Prop) (c8 : w.cell? ⟨X, 8, none⟩ = some (ptr M))
    (HS : Calls Tryz.prog 60 #[ptr M, ptr S] w fun e w' => e = .returned (.bool b) ∧ Q w')
    (HF : b = false → ∀ w1, Q w1 → R w1)
    (HT : b = true → ∀ w1, Q w1 → Calls Tryz.prog 138 #[ptr X] w1 fun e w' => e = .returned (.tuple #[]) ∧ R w') :
    Calls Tryz.prog 160 #[ptr X, ptr S] w fun e w' => e = .returned (.tuple #[]) ∧ R w' := by
  have HSS := Lib.hid HS
  cases b
  · have HFF := Lib.hid (HF rfl)
    clear HS HF HT
    go_enter Tryz.func160, Tryz.ntmps160
    go_wp2_with (first
      | (go_at_call 60; (with_reducible refine HSS.out.mono ?_); rintro r w1 ⟨rfl, hq⟩; have HQ := Lib.hid (HFF.out w1 hq); clear hq)
      | fail)
    go_returns
    exact ⟨rfl, HQ.out⟩
  · have HTT := Lib.hid (HT rfl)
    clear HS HF HT
    go_enter Tryz.func160, Tryz.ntmps160
    go_wp2_with (first
      | (go_at_call 60; (with_reducible refine HSS.out.mono ?_); rintro r w1 ⟨rfl, hq⟩; have HQ := Lib.hid hq; clear hq)
      | (go_at_call 138; (with_reducible refine (HTT.out _ HQ.out).mono ?_); rintro r w2 ⟨rfl, hr⟩; have HE := Lib.hid hr; clear hr)
      | fail)
    go_returns
    exact ⟨rfl, HE.out⟩
set_option maxHeartbeats 2000000 in
theorem take_raw (w : World) (X M S : Nat) (b : Bool) (p : Int) (Q R : World → Prop) (c8 : w.cell? ⟨X, 8, none⟩ = some (ptr M))
    (HS : Calls Tryz.prog 60 #[ptr M, ptr S] w fun e w' => e = .returned (.bool b) ∧ Q w')
    (H8 : ∀ w1, Q w1 → w1.cell? ⟨X, 8, none⟩ = some (ptr M) ∧ w1.frozen? ⟨X, 6, none⟩ = false ∧ ∃ v, w1.cell? ⟨X, 6, none⟩ = some v)
    (HF : b = false → ∀ w1, Q w1 → R w1)
    (HP : b = true → ∀ w1, Q w1 → Calls Tryz.prog 172 #[ptr M] w1 fun a w' => a = .returned (.int .i64 p) ∧ w1 = w')
    (HT : b = true → p = 0 → ∀ w1, Q w1 → Calls Tryz.prog 173 #[ptr X] w1 fun e w' => e = .returned (.tuple #[]) ∧ R w')
    (HU : b = true → p ≠ 0 → ∀ w1, Q w1 → R (w1.setCell ⟨X, 6, none⟩ (fnv 174 X))) :
    Calls Tryz.prog 158 #[ptr X, ptr S] w fun e w' => e = .returned (.tuple #[]) ∧ R w' := by
  have hmf : ∀ (fn : Fn) (first cap : Array Value) (w : World), (Instr.makeFunc fn first cap).run Tryz.prog w = .ok (.func fn first cap) w := fun _ _ _ _ => rfl
  have HSS := Lib.hid HS; have H88 := Lib.hid H8
  cases b
  · have HFF := Lib.hid (HF rfl)
    clear HS H8 HF HP HT HU
    go_enter Tryz.func158, Tryz.ntmps158
    go_wp2_with (first
      | (go_at_call 60; (with_reducible refine HSS.out.mono ?_); rintro r w1 ⟨rfl, hq⟩; have HQ := Lib.hid (HFF.out w1 hq); clear hq)
      | fail)
    go_returns
    exact ⟨rfl, HQ.out⟩
  · have HPP := Lib.hid (HP rfl)
    by_cases h1 : p = 0
    · have HTT := Lib.hid (HT rfl h1)
      subst h1
      clear HS H8 HF HP HT HU
      go_enter Tryz.func158, Tryz.ntmps158
      go_wp2_with (first
        | (go_at_call 60; (with_reducible refine HSS.out.mono ?_); rintro r w1 ⟨rfl, hq⟩; obtain ⟨c8', _⟩ := H88.out w1 hq; have HQ := Lib.hid hq; clear hq)
        | (go_at_call 172; (with_reducible refine (HPP.out _ HQ.out).mono ?_); rintro r w2 ⟨rfl, rfl⟩)
        | (go_at_call 173; (with_reducible refine (HTT.out _ HQ.out).mono ?_); rintro r w3 ⟨rfl, hr⟩; have HE := Lib.hid hr; clear hr)
        | fail)
      go_returns
      exact ⟨rfl, HE.out⟩
    · have HUU := Lib.hid (HU rfl h1)
      clear HS H8 HF HP HT HU
      go_enter Tryz.func158, Tryz.ntmps158
      go_wp2_with (first
        | (go_at_call 60; (with_reducible refine HSS.out.mono ?_); rintro r w1 ⟨rfl, hq⟩; obtain ⟨c8', f6, v6, c6⟩ := H88.out w1 hq; have HQ := Lib.hid hq; clear hq)
        | (go_at_call 172; (with_reducible refine (HPP.out _ HQ.out).mono ?_); rintro r w2 ⟨rfl, rfl⟩)
        | fail)
      go_returns
      exact ⟨rfl, HUU.out _ HQ.out⟩
section
variable {c : Cfg} {w : World} {X N S D : Nat} {L : List Int} {cc : Int} {nx dv pv : Value} {m : Km}
theorem kb_left {w1 : World} {i draw b0 b1 b2 t : Int} {fd : Bool} (h : Kb w X N i draw b0 b1 b2 nx dv pv t fd) (u : UF (fun b => b = S ∨ b = D) w w1) (n1 : X ≠ S) (n2 : X ≠ D) : Kb w1 X N i draw b0 b1 b2 nx dv pv t fd :=
  h.same (u.block X h.lt (by rintro (e | e); exact n1 e; exact n2 e))
set_option maxHeartbeats 4000000 in
theorem readTask_any (hc : OkC c) {i draw b0 b1 b2 t : Int} {fd : Bool} (h : Kb w X N i draw b0 b1 b2 nx dv pv t fd) (hm : Lay.IsMap w N c) (hs : St w S D L cc) (n1 : X ≠ S) (n2 : X ≠ D) (h0 : 0 ≤ cc) (h1 : cc ≤ 900000000) (hw : (Lit.int .i64 b0).wf = true) (hb : 0 ≤ b1 ∧ b1 ≤ 4) :
    Calls Tryz.prog 140 #[ptr X, ptr S] w fun e w' => e = .returned (.tuple #[]) ∧ Kb w' X N i draw b0 (b1 + 1) b2 .nilFunc dv pv (ldq L (plcc c 13 b0 b1)) true ∧ St w' S D L (cc + 1) ∧ UF (fun b => b = S ∨ b = D ∨ b = X) w w' := by
  have HK := Lib.hid h; have HM := Lib.hid hm; have HC := Lib.hid hc; have HS := Lib.hid hs
  have HN1 := Lib.hid n1; have HN2 := Lib.hid n2; have HW := Lib.hid hw
  have H01 := Lib.hid (And.intro h0 h1)
  have ew : IntKind.i64.wrap (b1 + 1) = b1 + 1 := IntWalk.i64_in _ (by omega)
  obtain ⟨x, hx⟩ : ∃ x, ldq L (plcc c 13 b0 b1) = x := ⟨_, rfl⟩
  rw [hx]
  have HX := Lib.hid hx
  have HB0 := Lib.hid (Below.refl w.heap.size w)
  have q034 : ∀ w1, Below w.heap.size w w1 → w1.cell? ⟨X, 0, none⟩ = some (Lay.mapP N) ∧ w1.cell? ⟨X, 3, none⟩ = some (.int .i64 b0) ∧ w1.cell? ⟨X, 4, none⟩ = some (.int .i64 b1) := fun w1 hb => by
    obtain ⟨q0, q1, q2, q3, q4, _⟩ := (HK.out.step hb).cc
    exact ⟨q0, q3, q4⟩
  have HQ := Lib.hid q034
  clear h hm hc hs n1 n2 h0 h1 hw hb hx q034
  go_enter Tryz.func140, Tryz.ntmps140
  go_wp2
  go_region_held3 (fun w' => w'.cell? ⟨X, 0, none⟩ = some (Lay.mapP N) ∧ w'.cell? ⟨X, 3, none⟩ = some (.int .i64 b0) ∧ w'.cell? ⟨X, 4, none⟩ = some (.int .i64 b1))
    (first | exact ⟨(HK2.out.cc).1, (HK2.out.cc).2.2.2.1, (HK2.out.cc).2.2.2.2.1⟩ | exact HQ.out _ HB1.out | exact HQ.out _ HB0.out.drew | go_keep)
    (first
      | (go_at_call 132; (with_reducible refine (Lay.task_m HC.out N b0 b1 HW.out _ (HM.out.below HB0.out.drew)).mono ?_); rintro r w1 ⟨rfl, hb⟩; have HB1 := Lib.hid (HB0.out.drew.trans hb); clear hb)
      | (go_at_call 25; (with_reducible refine (load_any _ _ (HS.out.below HB1.out) H01.out.1 (by have := H01.out; omega)).mono ?_); rintro r w2 ⟨rfl, l⟩; rw [ldv_eq, HX.out]; have HU := Lib.hid (UF.of_upd l.2); have HK2 := Lib.hid (kb_left (HK.out.step HB1.out) HU.out HN1.out HN2.out); have HS2 := Lib.hid l.1; clear l)
      | fail)
  all_goals
    obtain ⟨_, _, _, _, q4, _⟩ := HK2.out.cc
    have f4 := HK2.out.f 4
    have HK3 := Lib.hid (HK2.out.p4 (b1 + 1))
    go_wp2_with (first
      | (go_at_call 122; (with_reducible refine (kfin_any HK3.out x).mono ?_); rintro r w3 ⟨rfl, hk, hu⟩; have HK4 := Lib.hid hk; have HU4 := Lib.hid hu; clear hk hu)
      | fail)
    go_returns
    have u0 : UF (fun b => b = X) w2 _ := (UF.set w2 X 4 (.int .i64 (b1 + 1))).x HU4.out
    refine ⟨rfl, HK4.out, St_same HS2.out (u0.block S HS2.out.ltS (Ne.symm HN1.out)) (u0.block D HS2.out.row.lt (Ne.symm HN2.out)), ?_⟩
    have u1 : UF (fun b => b = S ∨ b = D ∨ b = X) w1 w2 := HU.out.mono fun b _ e => by
      rcases e with e | e
      · exact .inl e
      · exact .inr (.inl e)
    exact ((UF.of_below HB1.out).trans u1 (fun _ x => x) (fun _ _ x => x)).trans u0 (fun _ x => x) (fun b _ e => .inr (.inr e))
theorem k4_is (x : Int) : Lay.imin x 4 = k4 x := by unfold Lay.imin k4; split <;> (try split) <;> omega
set_option maxHeartbeats 4000000 in
theorem fillBag_any (hc : OkC c) (h : Kb w X N m.i m.draw m.bag.p m.bag.t m.bag.n nx dv pv m.task m.found) {M : Nat} {p : Int} (hpv : pv = ptr M) (hp : ∀ w1, Below w.heap.size w w1 → Calls Tryz.prog 172 #[ptr M] w1 fun a w' => a = .returned (.int .i64 p) ∧ w1 = w')
    (hm : Lay.IsMap w N c) (hs : St w S D L cc) (n1 : X ≠ S) (n2 : X ≠ D) (n3 : X ≠ N) (n4 : N ≠ S) (n5 : N ≠ D) (h0 : 0 ≤ cc) (h1 : cc ≤ 900000000) (hw : (Lit.int .i64 p).wf = true) (ww : WW L) :
    Calls Tryz.prog 174 #[ptr X, ptr S] w fun e w' => e = .returned (.tuple #[]) ∧ ∃ w2, St w2 S D L (cc + 1) ∧ UF (fun b => b = S ∨ b = D) w w2 ∧ Bec w2 X N c (kbag (pkn c) (gOf c) { m with bag := ⟨p, 0, k4 (ldq L (plcc c 11 p 0))⟩ }) w' := by
  subst hpv
  have HK := Lib.hid h; have HM := Lib.hid hm; have HC := Lib.hid hc; have HS := Lib.hid hs; have HP := Lib.hid hp
  have HN1 := Lib.hid n1; have HN2 := Lib.hid n2; have HN3 := Lib.hid n3; have HN4 := Lib.hid (And.intro n4 n5); have HW := Lib.hid hw
  have H01 := Lib.hid (And.intro h0 h1)
  obtain ⟨x, hx⟩ : ∃ x, ldq L (plcc c 11 p 0) = x := ⟨_, rfl⟩
  have hxr := ww.ldq (plcc c 11 p 0)
  rw [hx] at hxr ⊢
  have HX := Lib.hid hx
  have hk4 : Lay.imin x 4 = k4 x := k4_is x
  have hk5 : 0 ≤ k4 x ∧ k4 x ≤ 4 := by unfold k4; split <;> omega
  obtain ⟨y, hy⟩ : ∃ y, k4 x = y := ⟨_, rfl⟩
  rw [hy] at hk4 hk5 ⊢
  have ew : IntKind.i64.wrap y = y := IntWalk.i64_in _ (by omega)
  obtain ⟨q0, q1, q2, q3, q4, q5⟩ := h.cc
  have q8 := h.c8
  clear h hm hc hs n1 n2 n3 n4 n5 h0 h1 hw hx hxr hk5 hy hp
  go_enter Tryz.func174, Tryz.ntmps174
  go_wp2_with (first
    | (go_at_call 172; (with_reducible refine (HP.out _ (Below.refl _ _)).mono ?_); rintro r w1 ⟨rfl, rfl⟩)
    | (go_at_call 149; (with_reducible refine (Lay.many_m HC.out N p HW.out _ HM.out).mono ?_); rintro r w1 ⟨rfl, hb⟩; have HB1 := Lib.hid hb; have HK1 := Lib.hid (HK.out.step hb); have HS1 := Lib.hid (HS.out.below hb); have HM1 := Lib.hid (HM.out.below hb); clear hb q0 q1 q2 q3 q4 q5 q8)
    | (go_at_call 25; (with_reducible refine (load_any _ _ HS1.out H01.out.1 (by have := H01.out; omega)).mono ?_); rintro r w2 ⟨rfl, l⟩; rw [ldv_eq, HX.out]; have HU := Lib.hid (UF.of_upd l.2); have HK2 := Lib.hid (kb_left HK1.out HU.out HN1.out HN2.out); have HS2 := Lib.hid l.1; have HM2 := Lib.hid (IsMap_same HM1.out HU.out.size (HU.out.block N HM1.out.1 (by have := HN4.out; omega))); clear l; obtain ⟨_, _, _, q3, q4, q5⟩ := HK2.out.cc; have f3 := HK2.out.f 3; have f4 := HK2.out.f 4; have f5 := HK2.out.f 5; have HK3 := Lib.hid (HK2.out.pb p 0 y); have HM3 := Lib.hid (map_set (map_set (map_set HM2.out HN3.out 3 (.int .i64 p)) HN3.out 4 (.int .i64 0)) HN3.out 5 (.int .i64 y)))
    | (go_at_call 123; (with_reducible refine (useBag_any (m := { m with bag := ⟨p, 0, y⟩ }) HC.out HK3.out HM3.out HN3.out HW.out).mono ?_); rintro r w3 ⟨rfl, hb⟩; have HBB := Lib.hid hb; clear hb)
    | fail)
  go_returns
  exact ⟨rfl, w2, HS2.out, (UF.of_below HB1.out).trans HU.out (fun _ x => x) (fun _ _ x => x), HBB.out.back (uf_set3 _ _ _)⟩
end
end Go.Proofs.YthoiaffeenhfgaaGreat

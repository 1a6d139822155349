/-  -/
import Derived.Test.YtpocihddecemfaaGreatJ6
import Derived.Test.YtpocihddecemfaaGreatJ9
import Derived.IntWalk
import Derived.Test.YtpocihddecemfaaGreatJ17
import Derived.Test.YtpocihddecemfaaGreatJ5
import Derived.Test.YtpocihddecemfaaGreatJ4
import Derived.Test.YtpocihddecemfaaGreatJ1
import Derived.Test.YtpocihddecemfaaGreatJ8
import Derived.Test.YtpocihddecemfaaGreatLayPlc
import Derived.Lib.Hide
import Derived.Test.YtpocihddecemfaaGreatJ2
namespace Go.Proofs.YtpocihddecemfaaGreat
set_option linter.unusedVariables false
set_option linter.unusedSimpArgs false
def En (n : Nat) : List Int := (List.range n).map fun (i : Nat) => ((i + 1 : Nat) : Int)
section
variable {n : Nat} {g : Pg} {L : List Int} {i : Int} {put : Nat} {S : List Int} {a b c : Pm} {ha hb hc wa wb wc : List Int} {ra rb rc : Int}
end
end Go.Proofs.YtpocihddecemfaaGreat

namespace Go.Proofs.YtpocihddecemfaaGreat
set_option linter.unusedVariables false
set_option linter.unusedSimpArgs false
structure Am where
  pc : Nat
  task : Int
  d : Dg.Mc
  p : Pm
  sp : Bool
def astp (g : Pg) (L : List Int) (m : Am) : List Int × Am :=
  if m.pc = 1 then
    ((Dg.stp L m.d).1, if (Dg.stp L m.d).2.pc = 0 then (if (Dg.stp L m.d).2.out = 2 then { m with d := (Dg.stp L m.d).2, pc := 2, sp := true, p := pPut g [m.task] } else { m with d := (Dg.stp L m.d).2, pc := 0 })
      else { m with d := (Dg.stp L m.d).2 })
  else if m.pc = 2 then
    ((pstp g L m.p).1, if (pstp g L m.p).2.pc = 0 then { m with p := (pstp g L m.p).2, pc := 0 } else { m with p := (pstp g L m.p).2 })
  else (L, m)
def pnone : Pm := ⟨0, 0, [], 0, 0, mnone⟩
def aNew (e : Dg.En) (t : Int) : Am := ⟨1, t, Dg.mPush e t, pnone, false⟩
def InE (r : Nat) (e : Dg.En) (q : Int) : Prop := q = e.top ∨ q = e.bot ∨ (e.ent ≤ q ∧ q < e.ent + r)
def InP (n : Nat) (g : Pg) (q : Int) : Prop := q = g.sp.head ∨ q = g.po.head ∨ ∃ x : Int, (1 ≤ x ∧ x ≤ n) ∧ (q = atOf g.sp.links x ∨ q = g.mn x ∨ q = g.tk x 0)
inductive At (n r : Nat) (g : Pg) (e : Dg.En) (L : List Int) (Ts : Int) (Qs : List Int) (Tp : Int) (Qp : List Int) (β : Int) (Q : List Int) : Am → List Int → List Int → Prop
  | idle (t : Int) (d : Dg.Mc) (p : Pm) (s : Bool) : At n r g e L Ts Qs Tp Qp β Q ⟨0, t, d, p, s⟩ [] []
  | dq (t : Int) (d : Dg.Mc) (p : Pm) (s : Bool) (hP : Dg.Ph r e L 0 β Q t β β d) (hk : d.kind = 1) (hp : d.pc ≠ 0) : At n r g e L Ts Qs Tp Qp β Q ⟨1, t, d, p, s⟩ [] [t]
  | pk (t : Int) (d : Dg.Mc) (p : Pm) (s : Bool) (h : List Int) (hT : Th n g L Ts Qs Tp Qp p h [t]) (hk : p.kind = 1) (hp : p.pc ≠ 0) : At n r g e L Ts Qs Tp Qp β Q ⟨2, t, d, p, s⟩ h [t]
def ddue (d : Dg.Mc) : Int := if d.pc = 1 then 10 else if d.pc = 2 then 9 else if d.pc = 3 then 2 else 1
def adue (Ts Tp : Int) (m : Am) : Int := if m.pc = 0 then 0 else if m.pc = 1 then ddue m.d else pdue Ts Tp m.p
section
variable {n r : Nat} {g : Pg} {e f : Dg.En} {L : List Int} {i : Int} {A : List Int} {a b : Am} {pa pb la lb ra rb : Int}
end
end Go.Proofs.YtpocihddecemfaaGreat

namespace Go.Proofs.YtpocihddecemfaaGreat
set_option linter.unusedVariables false
set_option linter.unusedSimpArgs false
structure Cm where
  pc : Nat
  p : Int
  cy : Int
  k : Int
  won : Bool
def ldc (L : List Int) (at' : Int) : Int := if 0 ≤ at' ∧ at' < L.length then L.getD at'.toNat 0 else 0
def ptc (L : List Int) (at' v : Int) : List Int := if 0 ≤ at' ∧ at' < L.length then L.set at'.toNat v else L
def adc (L : List Int) (at' d : Int) : List Int := ptc L at' ((ldc L at' + d) % 18446744073709551616)
def cstp (wk : Int) (L : List Int) (m : Cm) : List Int × Cm :=
  if m.pc = 1 then (L, if m.cy ≤ ldc L m.p then { m with pc := 0, k := ldc L m.p } else { m with pc := 2, k := ldc L m.p })
  else if m.pc = 2 then (adc L wk 1, { m with pc := 3 })
  else if m.pc = 3 then (if (0 ≤ m.p ∧ m.p < L.length) ∧ L.getD m.p.toNat 0 = m.k then (ptc L m.p m.cy, { m with pc := 0, won := true }) else (L, { m with pc := 4 }))
  else if m.pc = 4 then (adc L wk 18446744073709551615, { m with pc := 0 })
  else (L, m)
def cNew (p cy : Int) : Cm := ⟨1, p, cy, 0, false⟩
theorem pc_len (L : List Int) (p v : Int) : (ptc L p v).length = L.length := by unfold ptc; split <;> simp
def cdue (m : Cm) : Nat := if m.pc = 0 then 0 else 5 - m.pc
theorem cdue_step (wk : Int) (L : List Int) (m : Cm) (hp : m.pc ≤ 4) : cdue (cstp wk L m).2 ≤ cdue m - 1 ∧ (cstp wk L m).2.pc ≤ 4 ∧ (cstp wk L m).2.p = m.p ∧ (cstp wk L m).2.cy = m.cy := by
  unfold cstp
  repeat' split
  all_goals (simp [cdue, *])
  all_goals (try (have h0 : m.pc = 0 := by omega))
  all_goals (try simp [h0])
end Go.Proofs.YtpocihddecemfaaGreat

namespace Go.Proofs.YtpocihddecemfaaGreat
set_option linter.unusedVariables false
set_option linter.unusedSimpArgs false
structure Zg where
  hd : Int → Int
  sl : Int → Int → Int
  ma : Int → Int
  nn : Int
  room : Int → Int
  chunk : Int
  wk : Int
structure Zm where
  pc : Nat
  v : Int
  fr : Int
  cy : Int
  at' : Int
  «to» : Int
  w : Int
  c : Cm
  d : Am
  ek : Int
  ea : Int
  eb : Int
def bndZ (n lo hi : Int) : Int := if hi < (if n < lo then lo else n) then hi else (if n < lo then lo else n)
def toZ (n fr ch : Int) : Int := bndZ (bndZ fr 0 (bndZ n 0 1000) + bndZ ch 1 1000) 0 (bndZ n 0 1000)
def pairZ (v fr : Int) : Int := (v % 4294967296) * 4294967296 + fr % 4294967296
def zrest (m : Zm) : Zm := { m with pc := if m.at' < m.to then 4 else 6 }
def zgive (nw : Int → Am) (m : Zm) (v fr : Int) : Zm := { m with d := nw (pairZ v fr), pc := 3 }
def zn (g : Zg) (L : List Int) (v : Int) : Int := if 1 ≤ v ∧ v ≤ g.nn then (if g.room v < ldc L (g.hd v) then g.room v else ldc L (g.hd v)) else 0
def zhead (g : Zg) (L : List Int) (m : Zm) : Zm :=
  { m with at' := if zn g L m.v < m.fr then zn g L m.v else m.fr, «to» := toZ (zn g L m.v) m.fr g.chunk,
           pc := if toZ (zn g L m.v) m.fr g.chunk < zn g L m.v then 2 else if (if zn g L m.v < m.fr then zn g L m.v else m.fr) < toZ (zn g L m.v) m.fr g.chunk then 4 else 6 }
def zstp (g : Zg) (pg : Pg) (nw : Int → Am) (L : List Int) (m0 : Zm) : List Int × Zm :=
  let m : Zm := { m0 with ek := 0, ea := 0, eb := 0 }
  if m.pc = 1 then (L, zhead g L m)
  else if m.pc = 2 then (adc L g.wk 1, zgive nw { m with ek := 2, ea := m.v, eb := m.to } m.v m.to)
  else if m.pc = 3 then ((astp pg L m.d).1, if (astp pg L m.d).2.pc = 0 then zrest { m with d := (astp pg L m.d).2 } else { m with d := (astp pg L m.d).2 })
  else if m.pc = 4 then
    (L, if 1 ≤ ldc L (g.sl m.v m.at') ∧ ldc L (g.sl m.v m.at') ≤ g.nn then { m with ek := 3, ea := m.v, eb := m.at', at' := m.at' + 1, w := ldc L (g.sl m.v m.at'), c := cNew (g.ma (ldc L (g.sl m.v m.at'))) m.cy, pc := 5 }
        else zrest { m with ek := 3, ea := m.v, eb := m.at', at' := m.at' + 1 })
  else if m.pc = 5 then
    ((cstp g.wk L m.c).1, if (cstp g.wk L m.c).2.pc ≠ 0 then { m with c := (cstp g.wk L m.c).2 }
        else if (cstp g.wk L m.c).2.won = true then zgive nw { zrest { m with c := (cstp g.wk L m.c).2 } with ek := 1, ea := m.w } m.w 0
        else zrest { m with c := (cstp g.wk L m.c).2 })
  else if m.pc = 6 then (adc L g.wk 18446744073709551615, { m with ek := 4, ea := m.v, eb := m.fr, pc := 0 })
  else (L, m)
def zNew (v fr cy : Int) (c0 : Cm) (d0 : Am) : Zm := ⟨1, v, fr, cy, 0, 0, 0, c0, d0, 0, 0, 0⟩
theorem bndZ_bd {n lo hi : Int} (h : lo ≤ hi) : lo ≤ bndZ n lo hi ∧ bndZ n lo hi ≤ hi := by unfold bndZ; repeat' split <;> omega
theorem bndZ_in {n lo hi : Int} (h : lo ≤ n) (h' : n ≤ hi) : bndZ n lo hi = n := by unfold bndZ; repeat' split <;> omega
theorem toZ_bd {n fr ch : Int} (h0 : 0 ≤ n) (h1 : n ≤ 1000) : 0 ≤ toZ n fr ch ∧ toZ n fr ch ≤ n := by
  unfold toZ; rw [bndZ_in h0 h1]; exact bndZ_bd h0
end Go.Proofs.YtpocihddecemfaaGreat

namespace Go.Proofs.YtpocihddecemfaaGreat
set_option linter.unusedVariables false
set_option linter.unusedSimpArgs false
section
variable {n : Nat} {g : Pg} {k : Sk} {L : List Int} {T : Int} {Q : List Int}
structure Cont (g : Pg) (L : List Int) (q : Int) (ts : List Int) : Prop where
  many : mw g L q = ts.length
  few : ts.length ≤ 4
  task : ∀ i : Nat, i < ts.length → L.getD (g.tk q i).toNat 0 = ts.getD i 0
def Cts (g : Pg) (L : List Int) : List Int → List (List Int) → Prop
  | [], [] => True
  | q :: Q, t :: l => Cont g L q t ∧ Cts g L Q l
  | _, _ => False
def PA (n : Nat) (g : Pg) (L : List Int) (i : Int) (l : List (List Int)) (out : List Int) : Prop :=
  ∃ Ts Qs Tp Qp, Gp n L.length g ∧ Stk n g.sp L Ts Qs ∧ Stk n g.po L Tp Qp ∧ Ts ≤ i ∧ Tp ≤ i ∧ (Qs ++ (Qp ++ out)).Perm (En n) ∧ Cts g L Qp l
end
end Go.Proofs.YtpocihddecemfaaGreat

namespace Go.Proofs.YtpocihddecemfaaGreat.Dg
set_option linter.unusedVariables false
set_option maxRecDepth 100000
set_option linter.unusedSimpArgs false
def runs : Nat → List Int → Mc → List Int × Mc
  | 0, L, m => (L, m)
  | k + 1, L, m => runs k (stp L m).1 (stp L m).2
end Go.Proofs.YtpocihddecemfaaGreat.Dg

namespace Go.Proofs.YtpocihddecemfaaGreat.Dg
open Go.RowKit
set_option linter.unusedVariables false
set_option maxRecDepth 100000
set_option linter.unusedSimpArgs false
variable {w0 : World} {M S D : Nat} {m : Mc} {L : List Int} {c : Int}
abbrev enV (e : En) : Value := .agg #[.int .i64 e.top, .int .i64 e.bot, .int .i64 e.ent, .int .i64 e.room]
def NewM (w : World) (m : Mc) (a : Ending) (w' : World) : Prop := ∃ M, a = .returned (ptr M) ∧ w.heap.size ≤ M ∧ MM w' M m ∧ Below w.heap.size w w'
theorem new_m {e : En} {v : Int} {m : Mc} {g : Nat} (hm : m.e = e ∧ nfn m = g ∧ m.pc = 1 ∧ m.t = 0 ∧ m.b = 0 ∧ m.w = v) (w : World) (o : Obj) (R : Int) (hR : R = roomOf e) :
    NewM w m (.returned (ptr (w.heap.size + 1))) ((w.alloc o).alloc (.cells #[.int .i64 e.top, .int .i64 e.bot, .int .i64 e.ent, .int .i64 R, fnv g (w.heap.size + 1), .int .u64 0, .int .u64 0, .int .u64 v, .int .i64 0, .int .u64 0] 191)) := by
  obtain ⟨rfl, rfl, hp, h1, h2, rfl⟩ := hm
  subst hR
  refine ⟨w.heap.size + 1, rfl, by omega, ⟨0, 0, m.w, ?_, fun _ => ⟨h1.symm, h2.symm, rfl⟩⟩, below_alloc0 (below_alloc0 (Below.refl _ _) _) _⟩
  have hn : nxt (w.heap.size + 1) m = fnv (nfn m) (w.heap.size + 1) := nxt_at (by omega)
  have hr : rOf m = 0 := by simp [rOf, hp]
  have hx : xOf m = 0 := by simp [xOf, hp]
  unfold Mem
  rw [hn, hr, hx]
  have key : ∀ X : Obj, ((w.heap.push o).push X)[w.heap.size + 1]? = some X := by
    intro X
    have e : w.heap.size + 1 = (w.heap.push o).size := by simp
    rw [e]; exact Array.getElem?_push_size
  exact key _
set_option maxHeartbeats 1000000 in
theorem begun_any (f g : Nat) (hf : f = 136 ∧ g = 143) (e : En) (v : Int) (m : Mc) (hm : m.e = e ∧ nfn m = g ∧ m.pc = 1 ∧ m.t = 0 ∧ m.b = 0 ∧ m.w = v) (w : World) :
    Calls Tryz.prog 135 #[enV e, .int .u64 v, .func (.func f) #[] #[]] w (NewM w m) := by
  have HM := Lib.hid hm
  clear hm
  have hmf : ∀ (fn : Fn) (first cap : Array Value) (w : World), (Instr.makeFunc fn first cap).run Tryz.prog w = .ok (.func fn first cap) w := fun _ _ _ _ => rfl
  by_cases hr : e.room < 1
  · have hmx : Lay.imax e.room 1 = 1 := by unfold Lay.imax; omega
    rcases hf with ⟨rfl, rfl⟩
    all_goals
      go_enter Tryz.func135, Tryz.ntmps135
      go_wp2
      go_ret
      exact new_m HM.out w _ 1 (by unfold roomOf; split <;> omega)
  · have hmx : Lay.imax e.room 1 = e.room := by unfold Lay.imax; omega
    rcases hf with ⟨rfl, rfl⟩
    all_goals
      go_enter Tryz.func135, Tryz.ntmps135
      go_wp2
      go_ret
      exact new_m HM.out w _ e.room (by unfold roomOf; split <;> omega)
theorem newM_step {w w1 w' : World} {m : Mc} {a : Ending} (hb : Below w.heap.size w w1) (h : NewM w1 m a w') : NewM w m a w' := by
  obtain ⟨M, rfl, hM, hm, hb'⟩ := h
  exact ⟨M, rfl, Nat.le_trans hb.size hM, hm, below_step hb hb.size hb'⟩
theorem below_al (w : World) (o : Obj) : Below w.heap.size w (w.alloc o) := below_alloc0 (Below.refl _ _) o
set_option maxHeartbeats 1000000 in
theorem push_any (e : En) (v : Int) (w : World) : Calls Tryz.prog 126 #[enV e, .int .u64 v] w (NewM w (mPush e v)) := by
  go_enter Tryz.func126, Tryz.ntmps126
  go_wp2_with (first
    | (go_at_call 135; (with_reducible refine (begun_any 136 143 ⟨rfl, rfl⟩ e v (mPush e v) ⟨rfl, rfl, rfl, rfl, rfl, rfl⟩ _).mono ?_); intro a w1 hk; have HK := Lib.hid (newM_step (below_al w _) hk); obtain ⟨M, rfl, _, _, _⟩ := hk)
    | fail)
  go_ret
  exact HK.out
attribute [local irreducible] runs
end Go.Proofs.YtpocihddecemfaaGreat.Dg

namespace Go.Proofs.YtpocihddecemfaaGreat
set_option linter.unusedVariables false
set_option linter.unusedSimpArgs false
structure AA (n r : Nat) (g : Pg) (e : Dg.En) (L : List Int) (i : Int) (l Q : List Int) : Prop where
  pa : PA n g L i (l.map fun t => [t]) []
  dq : ∃ T β, Dg.Dq r e L T β β Q ∧ β ≤ i
  ap : ∀ q, InE r e q → ¬ InP n g q
section
variable {n r : Nat} {g : Pg} {e : Dg.En} {L : List Int} {i x : Int} {l Q : List Int}
end
end Go.Proofs.YtpocihddecemfaaGreat

namespace Go.Proofs.YtpocihddecemfaaGreat
open Go.RowKit
set_option linter.unusedVariables false
set_option linter.unusedSimpArgs false
set_option maxRecDepth 100000
theorem bndZ_is (n lo hi : Int) : Lay.imin (Lay.imax n lo) hi = bndZ n lo hi := rfl
theorem retZ {a b : Int} {k : IntKind} (h : a = b) : Ending.returned (.int k a) = .returned (.int k b) := by rw [h]
theorem pbound_any (n lo hi r : Int) (hr : bndZ n lo hi = r) (w : World) : Calls Tryz.prog 99 #[.int .i64 n, .int .i64 lo, .int .i64 hi] w fun e w' => e = .returned (.int .i64 r) ∧ w = w' := by
  have HR := Lib.hid ((bndZ_is n lo hi).trans hr)
  clear hr
  go_enter Tryz.func99, Tryz.ntmps99
  go_wp2
  go_ret
  exact ⟨retZ HR.out, rfl⟩
theorem pcounted_any (s c S C : Int) (hS : bndZ s 0 1000 = S) (hC : bndZ c 1 1000 = C) (w : World) :
    Calls Tryz.prog 98 #[.int .i64 s, .int .i64 c] w fun e w' => e = .returned (.tuple #[.int .i64 S, .int .i64 C]) ∧ w = w' := by
  have HS := Lib.hid hS
  have HC := Lib.hid hC
  clear hS hC
  go_enter Tryz.func98, Tryz.ntmps98
  go_wp2_with (first
    | (go_at_call 99; (with_reducible refine (pbound_any _ 0 1000 _ HS.out _).mono ?_); rintro r w1 ⟨rfl, rfl⟩)
    | (go_at_call 99; (with_reducible refine (pbound_any _ 1 1000 _ HC.out _).mono ?_); rintro r w1 ⟨rfl, rfl⟩)
    | fail)
  go_returns
  exact ⟨rfl, rfl⟩
def frZ (n fr : Int) : Int := if n < fr then n else fr
theorem frZ_is {n fr : Int} (f0 : 0 ≤ fr) (n0 : 0 ≤ n) : bndZ fr 0 n = frZ n fr := by unfold bndZ frZ; repeat' split <;> omega
theorem frZ_bd {n fr : Int} (f0 : 0 ≤ fr) (n0 : 0 ≤ n) : 0 ≤ frZ n fr ∧ frZ n fr ≤ n := by unfold frZ; split <;> omega
set_option maxHeartbeats 1000000 in
theorem pnext_any (n fr ch : Int) (b : Bool) (n0 : 0 ≤ n) (n1 : n ≤ 1000) (f0 : 0 ≤ fr) (hb : decide (toZ n fr ch < n) = b) (w : World) :
    Calls Tryz.prog 80 #[.int .i64 n, .int .i64 fr, .int .i64 ch] w fun e w' => e = .returned (.tuple #[.agg #[.int .i64 (frZ n fr), .int .i64 (toZ n fr ch)], .bool b]) ∧ Below w.heap.size w w' := by
  have e1 : bndZ n 0 1000 = n := bndZ_in n0 n1
  obtain ⟨C, hC⟩ : ∃ C, bndZ ch 1 1000 = C := ⟨_, rfl⟩
  obtain ⟨F, hF⟩ : ∃ F, F = frZ n fr := ⟨_, rfl⟩
  obtain ⟨T, hT⟩ : ∃ T, T = toZ n fr ch := ⟨_, rfl⟩
  have bC := bndZ_bd (n := ch) (lo := 1) (hi := 1000) (by omega)
  rw [hC] at bC
  have bF := frZ_bd f0 n0
  have hf : bndZ fr 0 n = F := by rw [hF]; exact frZ_is f0 n0
  have ht : Lay.imin (F + C) n = T := by
    rw [hT]; unfold toZ Lay.imin; rw [e1, hC, hf]; rw [← hF] at bF; unfold bndZ; repeat' split <;> omega
  rw [← hF] at bF ⊢
  rw [← hT] at hb ⊢
  have ew : IntKind.i64.wrap (F + C) = F + C := IntWalk.i64_in _ (by omega)
  have hb' : decide (n > T) = b := hb
  have HE := Lib.hid e1; have HC := Lib.hid hC; have HF := Lib.hid hf
  clear e1 hC hF hT hf hb bC bF n0 n1 f0
  go_enter Tryz.func80, Tryz.ntmps80
  go_wp2_with (first
    | (go_at_call 98; (with_reducible refine (pcounted_any _ _ _ _ HE.out HC.out _).mono ?_); rintro r w1 ⟨rfl, rfl⟩)
    | (go_at_call 99; (with_reducible refine (pbound_any _ 0 _ _ HF.out _).mono ?_); rintro r w1 ⟨rfl, rfl⟩)
    | fail)
  exact bodyPost_ret (v := .tuple #[.agg #[.int .i64 F, .int .i64 T], .bool b]) (by simp [results, Tryz.results80, go_sem]) rfl ⟨rfl, by go_grown⟩
end Go.Proofs.YtpocihddecemfaaGreat

namespace Go.Proofs.YtpocihddecemfaaGreat
open Go.RowKit
set_option linter.unusedVariables false
set_option linter.unusedSimpArgs false
set_option maxRecDepth 100000
theorem rbound_any (n lo hi : Int) (w : World) : Calls Tryz.prog 105 #[.int .i64 n, .int .i64 lo, .int .i64 hi] w fun e w' => e = .returned (.int .i64 (bndZ n lo hi)) ∧ w = w' := by
  unfold bndZ
  by_cases h : n < lo
  · rw [if_pos h]
    by_cases h2 : hi < lo
    · rw [if_pos h2]
      go_enter Tryz.func105, Tryz.ntmps105
      go_wp2
      go_ret
      exact ⟨rfl, rfl⟩
    · rw [if_neg h2]
      go_enter Tryz.func105, Tryz.ntmps105
      go_wp2
      go_ret
      exact ⟨rfl, rfl⟩
  · rw [if_neg h]
    by_cases h2 : hi < n
    · rw [if_pos h2]
      go_enter Tryz.func105, Tryz.ntmps105
      go_wp2
      go_ret
      exact ⟨rfl, rfl⟩
    · rw [if_neg h2]
      go_enter Tryz.func105, Tryz.ntmps105
      go_wp2
      go_ret
      exact ⟨rfl, rfl⟩
theorem rto_any (n fr ch : Int) (w : World) : Calls Tryz.prog 84 #[.int .i64 n, .int .i64 fr, .int .i64 ch] w fun e w' => e = .returned (.int .i64 (toZ n fr ch)) ∧ w = w' := by
  obtain ⟨s, hs⟩ : ∃ s, s = bndZ n 0 1000 := ⟨_, rfl⟩
  obtain ⟨f, hf⟩ : ∃ f, f = bndZ fr 0 s := ⟨_, rfl⟩
  obtain ⟨d, hd⟩ : ∃ d, d = bndZ ch 1 1000 := ⟨_, rfl⟩
  have b1 : 0 ≤ s ∧ s ≤ 1000 := by rw [hs]; exact bndZ_bd (by omega)
  have b2 : 0 ≤ f ∧ f ≤ s := by rw [hf]; exact bndZ_bd b1.1
  have b3 : 1 ≤ d ∧ d ≤ 1000 := by rw [hd]; exact bndZ_bd (by omega)
  have e : toZ n fr ch = bndZ (f + d) 0 s := by unfold toZ; rw [hd, hf, hs]
  rw [e]
  have ew : IntKind.i64.wrap (f + d) = f + d := IntWalk.i64_in _ (by omega)
  have HS := Lib.hid hs.symm; have HF := Lib.hid hf.symm; have HD := Lib.hid hd.symm
  clear hs hf hd b1 b2 b3 e
  go_enter Tryz.func84, Tryz.ntmps84
  go_wp2_with (first
    | (go_at_call 105; (with_reducible refine (rbound_any n 0 1000 _).mono ?_); rintro r w1 ⟨rfl, hw⟩; cases hw; rw [HS.out])
    | (go_at_call 105; (with_reducible refine (rbound_any fr 0 s _).mono ?_); rintro r w1 ⟨rfl, hw⟩; cases hw; rw [HF.out])
    | (go_at_call 105; (with_reducible refine (rbound_any ch 1 1000 _).mono ?_); rintro r w1 ⟨rfl, hw⟩; cases hw; rw [HD.out])
    | (go_at_call 105; (with_reducible refine (rbound_any (f + d) 0 s _).mono ?_); rintro r w1 ⟨rfl, hw⟩; cases hw)
    | fail)
  go_ret
  exact ⟨rfl, rfl⟩
end Go.Proofs.YtpocihddecemfaaGreat

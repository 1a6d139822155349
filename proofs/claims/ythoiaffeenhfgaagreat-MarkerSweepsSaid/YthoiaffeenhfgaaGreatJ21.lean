/-  -/
import Derived.Test.YthoiaffeenhfgaaGreatJ6
import Derived.ProofKit
import Derived.OpenShut
import Derived.ChangeOld
import Derived.IntWalk
import Derived.Test.YthoiaffeenhfgaaGreatJ11
import Derived.Test.YthoiaffeenhfgaaGreatJ4
import Derived.Test.YthoiaffeenhfgaaGreatJ7
import Derived.Lib.Hide
import Derived.Test.YthoiaffeenhfgaaGreatJ5
import Derived.BigQuiet
import Derived.Laws.EntriesVeiled
import Derived.Handy
import Derived.Lib.SliceRun
namespace Go.Proofs.YthoiaffeenhfgaaGreat.Lay
open Go.ChangeShapes Go.WideShapes Go.RowKit
set_option linter.constructorNameAsVariable false
set_option maxRecDepth 100000
section
variable {H : Type} {enc : TypeId × Value → H} {w : World} {base : Nat} {spare : Nat → Bool} {held : Bool}
theorem one_cell {fuel : Nat} {cs : List Value} {i : Nat} {y : DataW H × List MemPlace} (h : DataW.trod enc Tryz.prog w base spare held fuel 3 ((cs.drop i).take 1) = some y) : ∃ x : Int, cs[i]? = some (.int .i64 x) := by
  obtain ⟨x, h1, _, _⟩ := DataW.trod_int Tryz.underlying3 h
  have := congrArg (fun l => l[0]?) h1
  exact ⟨x, by simpa [List.getElem?_take, List.getElem?_drop] using this⟩
theorem open_cfg {r : Reach} {b0 : Nat} {v : Value} {d : DataW H} {p : List MemPlace} (hv : Value.okWide Tryz.prog w r b0 24 v) (h : DataW.Trod enc Tryz.prog w base spare held 24 v d p) : ∃ c : Cfg, v = cfgV c := by
  have ht := Tryz.underlying24
  obtain ⟨cs, rfl, hsz⟩ : ∃ cs, v = .agg cs ∧ cs.size = Tryz.prog.cellsOf 24 := by
    simp only [Value.okWide, ht] at hv
    obtain ⟨cs, h1, h2, _⟩ := hv
    exact ⟨cs, h1, h2⟩
  have hc24 : Tryz.prog.cellsOf 24 = 12 := by kernel_rfl
  have hc22 : Tryz.prog.cellsOf 22 = 5 := by kernel_rfl
  have hc3 : Tryz.prog.cellsOf 3 = 1 := by kernel_rfl
  obtain ⟨fuel, hf⟩ := h
  obtain ⟨xs, m, _, _, _, hl, hel⟩ := DataW.trod_struct ht hf
  have g0 : DataW.trod enc Tryz.prog w base spare held m 22 (List.take (Tryz.prog.cellsOf 22) (List.drop 0 _)) = xs[0]? := hel 0 _ rfl
  have g1 : DataW.trod enc Tryz.prog w base spare held m 3 (List.take (Tryz.prog.cellsOf 3) (List.drop 5 _)) = xs[1]? := hel 1 _ rfl
  have g2 : DataW.trod enc Tryz.prog w base spare held m 3 (List.take (Tryz.prog.cellsOf 3) (List.drop 6 _)) = xs[2]? := hel 2 _ rfl
  have g3 : DataW.trod enc Tryz.prog w base spare held m 3 (List.take (Tryz.prog.cellsOf 3) (List.drop 7 _)) = xs[3]? := hel 3 _ rfl
  have g4 : DataW.trod enc Tryz.prog w base spare held m 3 (List.take (Tryz.prog.cellsOf 3) (List.drop 8 _)) = xs[4]? := hel 4 _ rfl
  have g5 : DataW.trod enc Tryz.prog w base spare held m 3 (List.take (Tryz.prog.cellsOf 3) (List.drop 9 _)) = xs[5]? := hel 5 _ rfl
  have g6 : DataW.trod enc Tryz.prog w base spare held m 3 (List.take (Tryz.prog.cellsOf 3) (List.drop 10 _)) = xs[6]? := hel 6 _ rfl
  have g7 : DataW.trod enc Tryz.prog w base spare held m 3 (List.take (Tryz.prog.cellsOf 3) (List.drop 11 _)) = xs[7]? := hel 7 _ rfl
  have hx8 : xs.length = 8 := hl
  rw [hc22] at g0
  rw [hc3] at g1 g2 g3 g4 g5 g6 g7
  rw [List.getElem?_eq_getElem (by omega)] at g0 g1 g2 g3 g4 g5 g6 g7
  obtain ⟨xs0, m0, _, _, _, hl0, hel0⟩ := DataW.trod_array Tryz.underlying22 g0
  have key : ∀ i, i < 5 → ∃ x : Int, cs.toList[i]? = some (.int .i64 x) := fun i hi => by
    have e := hel0 i hi
    rw [hc3, List.getElem?_eq_getElem (by omega)] at e
    obtain ⟨x, hx⟩ := one_cell (by simpa using e)
    refine ⟨x, ?_⟩
    simpa [Value.cells, List.getElem?_take, hi] using hx
  obtain ⟨a, ha⟩ := key 0 (by omega)
  obtain ⟨b, hb⟩ := key 1 (by omega)
  obtain ⟨c, hc⟩ := key 2 (by omega)
  obtain ⟨d', hd⟩ := key 3 (by omega)
  obtain ⟨e, he⟩ := key 4 (by omega)
  obtain ⟨f1, h1⟩ := one_cell g1
  obtain ⟨f2, h2⟩ := one_cell g2
  obtain ⟨f3, h3⟩ := one_cell g3
  obtain ⟨f4, h4⟩ := one_cell g4
  obtain ⟨f5, h5⟩ := one_cell g5
  obtain ⟨f6, h6⟩ := one_cell g6
  obtain ⟨f7, h7⟩ := one_cell g7
  refine ⟨⟨a, b, c, d', e, f1, f2, f3, f4, f5, f6, f7⟩, ?_⟩
  show Value.agg cs = Value.agg _
  congr 1
  apply Array.ext'
  apply List.ext_getElem?
  intro i
  have hn : cs.toList.length = 12 := by simpa [hc24] using hsz
  match i with
  | 0 => exact ha
  | 1 => exact hb
  | 2 => exact hc
  | 3 => exact hd
  | 4 => exact he
  | 5 => exact h1
  | 6 => exact h2
  | 7 => exact h3
  | 8 => exact h4
  | 9 => exact h5
  | 10 => exact h6
  | 11 => exact h7
  | i + 12 => rw [List.getElem?_eq_none (by omega)]; rfl
end
end Go.Proofs.YthoiaffeenhfgaaGreat.Lay

namespace Go.Proofs.YthoiaffeenhfgaaGreat
set_option linter.unusedVariables false
set_option linter.unusedSimpArgs false
structure Cm where
  pc : Nat
  p : Int
  cy : Int
  k : Int
  won : Bool
def ldc (L : List Int) (at' : Int) : Int := if 0 ≤ at' ∧ at' < L.length then L.getD at'.toNat 0 else 0
def ptc (L : List Int) (at' v : Int) : List Int := if 0 ≤ at' ∧ at' < L.length then L.set at'.toNat v else L
def adc (L : List Int) (at' d : Int) : List Int := ptc L at' ((ldc L at' + d) % 18446744073709551616)
def cstp (wk : Int) (L : List Int) (m : Cm) : List Int × Cm :=
  if m.pc = 1 then (L, if m.cy ≤ ldc L m.p then { m with pc := 0, k := ldc L m.p } else { m with pc := 2, k := ldc L m.p })
  else if m.pc = 2 then (adc L wk 1, { m with pc := 3 })
  else if m.pc = 3 then (if (0 ≤ m.p ∧ m.p < L.length) ∧ L.getD m.p.toNat 0 = m.k then (ptc L m.p m.cy, { m with pc := 0, won := true }) else (L, { m with pc := 4 }))
  else if m.pc = 4 then (adc L wk 18446744073709551615, { m with pc := 0 })
  else (L, m)
def cNew (p cy : Int) : Cm := ⟨1, p, cy, 0, false⟩
def cdue (m : Cm) : Nat := if m.pc = 0 then 0 else 5 - m.pc
theorem cdue_step (wk : Int) (L : List Int) (m : Cm) (hp : m.pc ≤ 4) : cdue (cstp wk L m).2 ≤ cdue m - 1 ∧ (cstp wk L m).2.pc ≤ 4 ∧ (cstp wk L m).2.p = m.p ∧ (cstp wk L m).2.cy = m.cy := by
  unfold cstp
  repeat' split
  all_goals (simp [cdue, *])
  all_goals (try (have h0 : m.pc = 0 := by omega))
  all_goals (try simp [h0])
end Go.Proofs.YthoiaffeenhfgaaGreat

namespace Go.Proofs.YthoiaffeenhfgaaGreat
set_option linter.unusedVariables false
set_option linter.unusedSimpArgs false
structure Zg where
  hd : Int → Int
  sl : Int → Int → Int
  ma : Int → Int
  nn : Int
  room : Int → Int
  chunk : Int
  wk : Int
structure Zm where
  pc : Nat
  v : Int
  fr : Int
  cy : Int
  at' : Int
  «to» : Int
  w : Int
  c : Cm
  d : Am
  ek : Int
  ea : Int
  eb : Int
def bndZ (n lo hi : Int) : Int := if hi < (if n < lo then lo else n) then hi else (if n < lo then lo else n)
def toZ (n fr ch : Int) : Int := bndZ (bndZ fr 0 (bndZ n 0 1000) + bndZ ch 1 1000) 0 (bndZ n 0 1000)
def pairZ (v fr : Int) : Int := (v % 4294967296) * 4294967296 + fr % 4294967296
def zrest (m : Zm) : Zm := { m with pc := if m.at' < m.to then 4 else 6 }
def zgive (nw : Int → Am) (m : Zm) (v fr : Int) : Zm := { m with d := nw (pairZ v fr), pc := 3 }
def zn (g : Zg) (L : List Int) (v : Int) : Int := if 1 ≤ v ∧ v ≤ g.nn then (if g.room v < ldc L (g.hd v) then g.room v else ldc L (g.hd v)) else 0
def zhead (g : Zg) (L : List Int) (m : Zm) : Zm :=
  { m with at' := if zn g L m.v < m.fr then zn g L m.v else m.fr, «to» := toZ (zn g L m.v) m.fr g.chunk,
           pc := if toZ (zn g L m.v) m.fr g.chunk < zn g L m.v then 2 else if (if zn g L m.v < m.fr then zn g L m.v else m.fr) < toZ (zn g L m.v) m.fr g.chunk then 4 else 6 }
def zstp (g : Zg) (pg : Pg) (nw : Int → Am) (L : List Int) (m0 : Zm) : List Int × Zm :=
  let m : Zm := { m0 with ek := 0, ea := 0, eb := 0 }
  if m.pc = 1 then (L, zhead g L m)
  else if m.pc = 2 then (adc L g.wk 1, zgive nw { m with ek := 2, ea := m.v, eb := m.to } m.v m.to)
  else if m.pc = 3 then ((astp pg L m.d).1, if (astp pg L m.d).2.pc = 0 then zrest { m with d := (astp pg L m.d).2 } else { m with d := (astp pg L m.d).2 })
  else if m.pc = 4 then
    (L, if 1 ≤ ldc L (g.sl m.v m.at') ∧ ldc L (g.sl m.v m.at') ≤ g.nn then { m with ek := 3, ea := m.v, eb := m.at', at' := m.at' + 1, w := ldc L (g.sl m.v m.at'), c := cNew (g.ma (ldc L (g.sl m.v m.at'))) m.cy, pc := 5 }
        else zrest { m with ek := 3, ea := m.v, eb := m.at', at' := m.at' + 1 })
  else if m.pc = 5 then
    ((cstp g.wk L m.c).1, if (cstp g.wk L m.c).2.pc ≠ 0 then { m with c := (cstp g.wk L m.c).2 }
        else if (cstp g.wk L m.c).2.won = true then zgive nw { zrest { m with c := (cstp g.wk L m.c).2 } with ek := 1, ea := m.w } m.w 0
        else zrest { m with c := (cstp g.wk L m.c).2 })
  else if m.pc = 6 then (adc L g.wk 18446744073709551615, { m with ek := 4, ea := m.v, eb := m.fr, pc := 0 })
  else (L, m)
def zNew (v fr cy : Int) (c0 : Cm) (d0 : Am) : Zm := ⟨1, v, fr, cy, 0, 0, 0, c0, d0, 0, 0, 0⟩
theorem bndZ_bd {n lo hi : Int} (h : lo ≤ hi) : lo ≤ bndZ n lo hi ∧ bndZ n lo hi ≤ hi := by unfold bndZ; repeat' split <;> omega
theorem bndZ_in {n lo hi : Int} (h : lo ≤ n) (h' : n ≤ hi) : bndZ n lo hi = n := by unfold bndZ; repeat' split <;> omega
theorem toZ_bd {n fr ch : Int} (h0 : 0 ≤ n) (h1 : n ≤ 1000) : 0 ≤ toZ n fr ch ∧ toZ n fr ch ≤ n := by
  unfold toZ; rw [bndZ_in h0 h1]; exact bndZ_bd h0
end Go.Proofs.YthoiaffeenhfgaaGreat

namespace Go.Proofs.YthoiaffeenhfgaaGreat
open Go.RowKit
set_option linter.unusedVariables false
set_option linter.unusedSimpArgs false
set_option maxRecDepth 100000
theorem bndZ_is (n lo hi : Int) : Lay.imin (Lay.imax n lo) hi = bndZ n lo hi := rfl
theorem retZ {a b : Int} {k : IntKind} (h : a = b) : Ending.returned (.int k a) = .returned (.int k b) := by rw [h]
theorem pbound_any (n lo hi r : Int) (hr : bndZ n lo hi = r) (w : World) : Calls Tryz.prog 176 #[.int .i64 n, .int .i64 lo, .int .i64 hi] w fun e w' => e = .returned (.int .i64 r) ∧ w = w' := by
  have HR := Lib.hid ((bndZ_is n lo hi).trans hr)
  clear hr
  go_enter Tryz.func176, Tryz.ntmps176
  go_wp2
  go_ret
  exact ⟨retZ HR.out, rfl⟩
theorem pcounted_any (s c S C : Int) (hS : bndZ s 0 1000 = S) (hC : bndZ c 1 1000 = C) (w : World) :
    Calls Tryz.prog 175 #[.int .i64 s, .int .i64 c] w fun e w' => e = .returned (.tuple #[.int .i64 S, .int .i64 C]) ∧ w = w' := by
  have HS := Lib.hid hS
  have HC := Lib.hid hC
  clear hS hC
  go_enter Tryz.func175, Tryz.ntmps175
  go_wp2_with (first
    | (go_at_call 176; (with_reducible refine (pbound_any _ 0 1000 _ HS.out _).mono ?_); rintro r w1 ⟨rfl, rfl⟩)
    | (go_at_call 176; (with_reducible refine (pbound_any _ 1 1000 _ HC.out _).mono ?_); rintro r w1 ⟨rfl, rfl⟩)
    | fail)
  go_returns
  exact ⟨rfl, rfl⟩
def frZ (n fr : Int) : Int := if n < fr then n else fr
theorem frZ_is {n fr : Int} (f0 : 0 ≤ fr) (n0 : 0 ≤ n) : bndZ fr 0 n = frZ n fr := by unfold bndZ frZ; repeat' split <;> omega
theorem frZ_bd {n fr : Int} (f0 : 0 ≤ fr) (n0 : 0 ≤ n) : 0 ≤ frZ n fr ∧ frZ n fr ≤ n := by unfold frZ; split <;> omega
set_option maxHeartbeats 1000000 in
theorem pnext_any (n fr ch : Int) (b : Bool) (n0 : 0 ≤ n) (n1 : n ≤ 1000) (f0 : 0 ≤ fr) (hb : decide (toZ n fr ch < n) = b) (w : World) :
    Calls Tryz.prog 161 #[.int .i64 n, .int .i64 fr, .int .i64 ch] w fun e w' => e = .returned (.tuple #[.agg #[.int .i64 (frZ n fr), .int .i64 (toZ n fr ch)], .bool b]) ∧ Below w.heap.size w w' := by
  have e1 : bndZ n 0 1000 = n := bndZ_in n0 n1
  obtain ⟨C, hC⟩ : ∃ C, bndZ ch 1 1000 = C := ⟨_, rfl⟩
  obtain ⟨F, hF⟩ : ∃ F, F = frZ n fr := ⟨_, rfl⟩
  obtain ⟨T, hT⟩ : ∃ T, T = toZ n fr ch := ⟨_, rfl⟩
  have bC := bndZ_bd (n := ch) (lo := 1) (hi := 1000) (by omega)
  rw [hC] at bC
  have bF := frZ_bd f0 n0
  have hf : bndZ fr 0 n = F := by rw [hF]; exact frZ_is f0 n0
  have ht : Lay.imin (F + C) n = T := by
    rw [hT]; unfold toZ Lay.imin; rw [e1, hC, hf]; rw [← hF] at bF; unfold bndZ; repeat' split <;> omega
  rw [← hF] at bF ⊢
  rw [← hT] at hb ⊢
  have ew : IntKind.i64.wrap (F + C) = F + C := IntWalk.i64_in _ (by omega)
  have hb' : decide (n > T) = b := hb
  have HE := Lib.hid e1; have HC := Lib.hid hC; have HF := Lib.hid hf
  clear e1 hC hF hT hf hb bC bF n0 n1 f0
  go_enter Tryz.func161, Tryz.ntmps161
  go_wp2_with (first
    | (go_at_call 175; (with_reducible refine (pcounted_any _ _ _ _ HE.out HC.out _).mono ?_); rintro r w1 ⟨rfl, rfl⟩)
    | (go_at_call 176; (with_reducible refine (pbound_any _ 0 _ _ HF.out _).mono ?_); rintro r w1 ⟨rfl, rfl⟩)
    | fail)
  exact bodyPost_ret (v := .tuple #[.agg #[.int .i64 F, .int .i64 T], .bool b]) (by simp [results, Tryz.results161, go_sem]) rfl ⟨rfl, by go_grown⟩
end Go.Proofs.YthoiaffeenhfgaaGreat

namespace Go.Proofs.YthoiaffeenhfgaaGreat
open Go.RowKit
set_option linter.unusedVariables false
set_option linter.unusedSimpArgs false
abbrev fnc (n X : Nat) : Value := .func (.func n) #[ptr X] #[]
def nxV (X : Nat) : Nat → Value
  | 1 => fnc 199 X
  | 2 => fnc 207 X
  | 3 => fnc 211 X
  | 4 => fnc 213 X
  | _ => .nilFunc
def Cb (w : World) (X : Nat) (wk p cy : Int) (nx : Value) (k : Int) (won : Bool) : Prop :=
  w.heap[X]? = some (.cells #[.int .i64 wk, .int .i64 p, .int .u64 cy, nx, .int .u64 k, .bool won] 183 (0, 0))
section
variable {w w' : World} {X : Nat} {wk p cy k : Int} {nx : Value} {won : Bool}
theorem Cb.lt (h : Cb w X wk p cy nx k won) : X < w.heap.size := (Array.getElem?_eq_some_iff.1 h).1
theorem Cb.f (h : Cb w X wk p cy nx k won) (j : Nat) : w.frozen? ⟨X, j, none⟩ = false := frozen_of_row w X j _ _ h
theorem Cb.c0 (h : Cb w X wk p cy nx k won) : w.cell? ⟨X, 0, none⟩ = some (.int .i64 wk) := by have := h; unfold Cb at this; simp [World.cell?, this]
theorem Cb.c1 (h : Cb w X wk p cy nx k won) : w.cell? ⟨X, 1, none⟩ = some (.int .i64 p) := by have := h; unfold Cb at this; simp [World.cell?, this]
theorem Cb.c2 (h : Cb w X wk p cy nx k won) : w.cell? ⟨X, 2, none⟩ = some (.int .u64 cy) := by have := h; unfold Cb at this; simp [World.cell?, this]
theorem Cb.c3 (h : Cb w X wk p cy nx k won) : w.cell? ⟨X, 3, none⟩ = some nx := by have := h; unfold Cb at this; simp [World.cell?, this]
theorem Cb.c4 (h : Cb w X wk p cy nx k won) : w.cell? ⟨X, 4, none⟩ = some (.int .u64 k) := by have := h; unfold Cb at this; simp [World.cell?, this]
theorem Cb.c5 (h : Cb w X wk p cy nx k won) : w.cell? ⟨X, 5, none⟩ = some (.bool won) := by have := h; unfold Cb at this; simp [World.cell?, this]
theorem Cb.put (h : Cb w X wk p cy nx k won) (i : Nat) (y : Value) {wk' p' cy' k' : Int} {nx' : Value} {won' : Bool}
    (hh : (#[.int .i64 wk, .int .i64 p, .int .u64 cy, nx, .int .u64 k, .bool won] : Array Value).setIfInBounds i y = #[.int .i64 wk', .int .i64 p', .int .u64 cy', nx', .int .u64 k', .bool won']) :
    Cb (w.setCell ⟨X, i, none⟩ y) X wk' p' cy' nx' k' won' := by
  unfold Cb
  rw [heap_setCell_same w X i _ 183 _ h, hh]
end
structure Cs (w0 w : World) (X S D : Nat) (wk p cy : Int) (nx : Value) (k : Int) (won : Bool) (L : List Int) (cc : Int) : Prop where
  mem : Cb w X wk p cy nx k won
  st : St w S D L cc
  n : X ≠ S ∧ X ≠ D
  u : UF (fun b => b = X ∨ b = S ∨ b = D) w0 w
section
variable {w0 w w' : World} {X S D : Nat} {wk p cy k : Int} {nx : Value} {won : Bool} {L : List Int} {cc : Int}
theorem Cs.step (h : Cs w0 w X S D wk p cy nx k won L cc) (kb : Below w.heap.size w w') : Cs w0 w' X S D wk p cy nx k won L cc :=
  ⟨(kb.block X h.mem.lt).trans h.mem, h.st.below kb, h.n, h.u.trans (.of_below (F := fun _ => False) kb) (fun _ x => x) (fun _ _ x => x.elim)⟩
theorem Cs.drew (h : Cs w0 w X S D wk p cy nx k won L cc) : Cs w0 w.drew X S D wk p cy nx k won L cc := h.step (Below.refl _ _).drew
theorem Cs.left (h : Cs w0 w X S D wk p cy nx k won L cc) {L' : List Int} {c' : Int} (kb : Left S D L' c' w w') : Cs w0 w' X S D wk p cy nx k won L' c' :=
  ⟨(kb.2.block X h.mem.lt h.n.1 h.n.2).trans h.mem, kb.1, h.n, h.u.trans (.of_upd kb.2) (fun _ x => x) (fun _ _ x => .inr x)⟩
theorem Cs.put (h : Cs w0 w X S D wk p cy nx k won L cc) (i : Nat) (y : Value) {wk' p' cy' k' : Int} {nx' : Value} {won' : Bool}
    (hh : (#[.int .i64 wk, .int .i64 p, .int .u64 cy, nx, .int .u64 k, .bool won] : Array Value).setIfInBounds i y = #[.int .i64 wk', .int .i64 p', .int .u64 cy', nx', .int .u64 k', .bool won']) :
    Cs w0 (w.setCell ⟨X, i, none⟩ y) X S D wk' p' cy' nx' k' won' L cc :=
  ⟨h.mem.put i y hh, St_same h.st (heap_setCell_other w ⟨X, i, none⟩ S y (Ne.symm h.n.1)) (heap_setCell_other w ⟨X, i, none⟩ D y (Ne.symm h.n.2)), h.n, h.u.trans (UF.set w X i y) (fun _ x => x) (fun _ _ e => .inl e)⟩
theorem Cs.p3 (h : Cs w0 w X S D wk p cy nx k won L cc) (y : Value) : Cs w0 (w.setCell ⟨X, 3, none⟩ y) X S D wk p cy y k won L cc := h.put 3 _ rfl
theorem Cs.p4 (h : Cs w0 w X S D wk p cy nx k won L cc) (y : Int) : Cs w0 (w.setCell ⟨X, 4, none⟩ (.int .u64 y)) X S D wk p cy nx y won L cc := h.put 4 _ rfl
theorem Cs.p5 (h : Cs w0 w X S D wk p cy nx k won L cc) (y : Bool) : Cs w0 (w.setCell ⟨X, 5, none⟩ (.bool y)) X S D wk p cy nx k y L cc := h.put 5 _ rfl
abbrev Cc (w : World) (X : Nat) (wk p cy k : Int) : Prop := w.cell? ⟨X, 0, none⟩ = some (.int .i64 wk) ∧ w.cell? ⟨X, 1, none⟩ = some (.int .i64 p) ∧ w.cell? ⟨X, 2, none⟩ = some (.int .u64 cy) ∧ w.cell? ⟨X, 4, none⟩ = some (.int .u64 k)
theorem Cs.rd (h : Cs w0 w X S D wk p cy nx k won L cc) : Cc w X wk p cy k := ⟨h.mem.c0, h.mem.c1, h.mem.c2, h.mem.c4⟩
set_option maxHeartbeats 1000000 in
theorem finish_cl (won' : Bool) (w : World) (h : Cs w0 w X S D wk p cy nx k won L cc) :
    Calls Tryz.prog 206 #[ptr X, .bool won'] w fun e w' => e = .returned (.tuple #[]) ∧ Cs w0 w' X S D wk p cy .nilFunc k won' L cc := by
  have h1 := h.p3 .nilFunc
  have q3 := h.mem.c3; have f3 := h.mem.f 3
  have q5 := h1.mem.c5; have f5 := h1.mem.f 5
  have H2 := Lib.hid (h1.p5 won')
  clear h h1
  go_enter Tryz.func206, Tryz.ntmps206
  go_wp2
  go_returns
  exact ⟨rfl, H2.out⟩
set_option maxHeartbeats 2000000 in
theorem seeMark_any (w : World) (h : Cs w0 w X S D wk p cy nx k won L cc) (h0 : 0 ≤ cc) (h1 : cc ≤ 1000000000) :
    Calls Tryz.prog 199 #[ptr X, ptr S] w fun e w' => e = .returned (.tuple #[]) ∧ Cs w0 w' X S D wk p cy (if cy ≤ ldv L p then .nilFunc else fnc 207 X) (ldv L p) (if cy ≤ ldv L p then false else won) L (cc + 1) := by
  have hmf : ∀ (fn : Fn) (first cap : Array Value) (w : World), (Instr.makeFunc fn first cap).run Tryz.prog w = .ok (.func fn first cap) w := fun _ _ _ _ => rfl
  have H := Lib.hid h
  have q1 := h.mem.c1
  clear h
  obtain ⟨z, hz⟩ : ∃ z, z = ldv L p := ⟨_, rfl⟩
  rw [← hz]
  have HZ := Lib.hid hz
  clear hz
  by_cases hc : cy ≤ z
  · have d : decide (z ≥ cy) = true := by simpa using hc
    simp only [if_pos hc]
    go_enter Tryz.func199, Tryz.ntmps199
    go_wp2_with (first
      | (go_at_call 25; (with_reducible refine (load_any _ _ H.out.st h0 h1).mono ?_); rintro r w1 ⟨rfl, hk⟩; rw [← HZ.out]; have q4 := (H.out.left hk).mem.c4; have f4 := (H.out.left hk).mem.f 4; have H1 := Lib.hid ((H.out.left hk).p4 z); clear hk)
      | fail)
    obtain ⟨r0, r1, r2, r4⟩ := H1.out.rd
    go_quiet (fail)
    have H2 := Lib.hid (H1.out.step (below_drewN (Below.refl _ _) nq))
    go_wp2_with (first
      | (go_at_call 206; (with_reducible refine (finish_cl false _ H2.out).mono ?_); rintro r w3 ⟨rfl, hk⟩; have H3 := Lib.hid hk; clear hk)
      | fail)
    go_returns
    exact ⟨rfl, H3.out⟩
  · have d : decide (z ≥ cy) = false := by simpa using hc
    simp only [if_neg hc]
    go_enter Tryz.func199, Tryz.ntmps199
    go_wp2_with (first
      | (go_at_call 25; (with_reducible refine (load_any _ _ H.out.st h0 h1).mono ?_); rintro r w1 ⟨rfl, hk⟩; rw [← HZ.out]; have q4 := (H.out.left hk).mem.c4; have f4 := (H.out.left hk).mem.f 4; have H1 := Lib.hid ((H.out.left hk).p4 z); clear hk)
      | fail)
    obtain ⟨r0, r1, r2, r4⟩ := H1.out.rd
    go_quiet (fail)
    have H2 := Lib.hid (H1.out.step (below_drewN (Below.refl _ _) nq))
    have r3 := H2.out.mem.c3; have f3 := H2.out.mem.f 3
    have H3 := Lib.hid (H2.out.p3 (fnc 207 X))
    go_wp2
    go_returns
    exact ⟨rfl, H3.out⟩
set_option maxHeartbeats 2000000 in
theorem countTask_any (w : World) (h : Cs w0 w X S D wk p cy nx k won L cc) (h0 : 0 ≤ cc) (h1 : cc ≤ 1000000000) :
    Calls Tryz.prog 207 #[ptr X, ptr S] w fun e w' => e = .returned (.tuple #[]) ∧ Cs w0 w' X S D wk p cy (fnc 211 X) k won (adv L wk 1) (cc + 1) := by
  have hmf : ∀ (fn : Fn) (first cap : Array Value) (w : World), (Instr.makeFunc fn first cap).run Tryz.prog w = .ok (.func fn first cap) w := fun _ _ _ _ => rfl
  have H := Lib.hid h
  have q0 := h.mem.c0
  clear h
  go_enter Tryz.func207, Tryz.ntmps207
  go_wp2_with (first
    | (go_at_call 28; (with_reducible refine (add_any _ _ _ H.out.st h0 h1).mono ?_); rintro r w1 ⟨rfl, hk⟩; have H1 := Lib.hid (H.out.left hk); clear hk; have q3 := H1.out.mem.c3; have f3 := H1.out.mem.f 3; have H2 := Lib.hid (H1.out.p3 (fnc 211 X)))
    | fail)
  go_returns
  exact ⟨rfl, H2.out⟩
set_option maxHeartbeats 2000000 in
theorem countBack_any (w : World) (h : Cs w0 w X S D wk p cy nx k won L cc) (h0 : 0 ≤ cc) (h1 : cc ≤ 1000000000) :
    Calls Tryz.prog 213 #[ptr X, ptr S] w fun e w' => e = .returned (.tuple #[]) ∧ Cs w0 w' X S D wk p cy .nilFunc k false (adv L wk 18446744073709551615) (cc + 1) := by
  have H := Lib.hid h
  have q0 := h.mem.c0
  clear h
  go_enter Tryz.func213, Tryz.ntmps213
  go_wp2_with (first
    | (go_at_call 28; (with_reducible refine (add_any _ _ _ H.out.st h0 h1).mono ?_); rintro r w1 ⟨rfl, hk⟩; have H1 := Lib.hid (H.out.left hk); clear hk)
    | (go_at_call 206; (with_reducible refine (finish_cl false _ H1.out).mono ?_); rintro r w3 ⟨rfl, hk⟩; have H3 := Lib.hid hk; clear hk)
    | fail)
  go_returns
  exact ⟨rfl, H3.out⟩
set_option maxHeartbeats 4000000 in
theorem mark_any (w : World) (h : Cs w0 w X S D wk p cy nx k won L cc) (h0 : 0 ≤ cc) (h1 : cc ≤ 1000000000) :
    Calls Tryz.prog 211 #[ptr X, ptr S] w fun e w' => e = .returned (.tuple #[]) ∧ Cs w0 w' X S D wk p cy (if swB L p k = true then .nilFunc else fnc 213 X) k (if swB L p k = true then true else won) (swv L p k cy) (cc + 1) := by
  have hmf : ∀ (fn : Fn) (first cap : Array Value) (w : World), (Instr.makeFunc fn first cap).run Tryz.prog w = .ok (.func fn first cap) w := fun _ _ _ _ => rfl
  obtain ⟨L', hL⟩ : ∃ L', L' = swv L p k cy := ⟨_, rfl⟩
  obtain ⟨b, hb⟩ : ∃ b, b = swB L p k := ⟨_, rfl⟩
  rw [← hL, ← hb]
  have hsw : Calls Tryz.prog 143 #[ptr S, .int .i64 p, .int .u64 k, .int .u64 cy] w fun e w' => e = .returned (.bool b) ∧ Left S D L' (cc + 1) w w' := by
    rw [hL, hb]; exact swap_any p k cy w h.st h0 h1
  have HSW : Hid (∀ w1, Cs w0 w1 X S D wk p cy nx k won L cc → Calls Tryz.prog 143 #[ptr S, .int .i64 p, .int .u64 k, .int .u64 cy] w1 fun e w' => e = .returned (.bool b) ∧ Left S D L' (cc + 1) w1 w') := Lib.hid (fun w1 h' => by
    rw [hL, hb]; exact swap_any p k cy w1 h'.st h0 h1)
  have HD := Lib.hid h.drew
  obtain ⟨q0, q1, q2, q4⟩ := h.rd
  clear h hL hb hsw
  cases b
  all_goals
    go_enter Tryz.func211, Tryz.ntmps211
    go_wp2
    go_region_held3 (fun w' => Cc w' X wk p cy k)
      (first | exact H1.out.rd | exact HD.out.rd | go_keep)
      (first
        | (go_at_call 143; (with_reducible refine (HSW.out _ HD.out).mono ?_); rintro r w1 ⟨rfl, hk⟩; have H1 := Lib.hid (HD.out.left hk); clear hk)
        | fail)
  · have r3 := H1.out.mem.c3; have f3 := H1.out.mem.f 3
    have H3 := Lib.hid (H1.out.p3 (fnc 213 X))
    go_wp2
    go_returns
    exact ⟨rfl, H3.out⟩
  · go_wp2_with (first
      | (go_at_call 206; (with_reducible refine (finish_cl true _ H1.out).mono ?_); rintro r w3 ⟨rfl, hk⟩; have H3 := Lib.hid hk; clear hk)
      | fail)
    go_returns
    exact ⟨rfl, H3.out⟩
end
end Go.Proofs.YthoiaffeenhfgaaGreat

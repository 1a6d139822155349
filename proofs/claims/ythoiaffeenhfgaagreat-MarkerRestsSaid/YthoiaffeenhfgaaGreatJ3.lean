/-  -/
import Derived.IntWalk
namespace Go.Proofs.YthoiaffeenhfgaaGreat
set_option linter.unusedVariables false
set_option linter.unusedSimpArgs false
def ldq (L : List Int) (at' : Int) : Int := if 0 ≤ at' ∧ at' < L.length then L.getD at'.toNat 0 else 0
def ptq (L : List Int) (at' v : Int) : List Int := if 0 ≤ at' ∧ at' < L.length then L.set at'.toNat v else L
def hiw (w : Int) : Int := w / 4294967296
def low (w : Int) : Int := w % 4294967296
def turnw (w n : Int) : Int := ((hiw w + 1) % 4294967296) * 4294967296 + n
structure Sk where
  head : Int
  links : List Int
def atOf (l : List Int) (x : Int) : Int := if 1 ≤ x ∧ x ≤ l.length then l.getD (x - 1).toNat 0 else -1
structure Sm where
  kind : Nat
  pc : Nat
  k : Sk
  item : Int
  h : Int
  link : Int
  tries : Int
def swapS (L : List Int) (m : Sm) (n : Int) : List Int × Sm :=
  if (0 ≤ m.k.head ∧ m.k.head < L.length) ∧ L.getD m.k.head.toNat 0 = m.h then (ptq L m.k.head (turnw m.h n), { m with pc := 0 }) else (L, { m with pc := 1 })
def sstp (L : List Int) (m : Sm) : List Int × Sm :=
  if m.pc = 0 then (L, m)
  else if m.pc = 1 then
    (if m.kind = 1 then (L, { m with pc := 2, h := ldq L m.k.head, link := low (ldq L m.k.head), tries := m.tries + 1 })
     else if low (ldq L m.k.head) = 0 then (L, { m with pc := 0, h := ldq L m.k.head, item := 0, tries := m.tries + 1 })
     else (L, { m with pc := 2, h := ldq L m.k.head, item := low (ldq L m.k.head), tries := m.tries + 1 }))
  else if m.pc = 2 then
    (if m.kind = 1 then (ptq L (atOf m.k.links m.item) m.link, { m with pc := 3 })
     else (L, { m with pc := 3, link := low (ldq L (atOf m.k.links m.item)) }))
  else (if m.kind = 1 then swapS L m m.item else swapS L m m.link)
def itemOf (x : Int) : Int := if x < 1 ∨ 4294967295 < x then 0 else x
def mPush (k : Sk) (x : Int) : Sm := ⟨1, 1, k, itemOf x, 0, 0, 0⟩
def mPop (k : Sk) : Sm := ⟨2, 1, k, 0, 0, 0, 0⟩
def sItem (m : Sm) : Int := if m.pc = 0 then m.item else 0
theorem pt_len (L : List Int) (p v : Int) : (ptq L p v).length = L.length := by unfold ptq; split <;> simp
theorem pt_same {L : List Int} {p v : Int} (h : 0 ≤ p ∧ p < L.length) : (ptq L p v).getD p.toNat 0 = v := by
  unfold ptq; rw [if_pos h]
  simp only [List.getD, List.getElem?_set, if_true]; rw [if_pos (by omega)]; rfl
theorem pt_other {L : List Int} {p v q : Int} (hq : 0 ≤ q) (h : q ≠ p) : (ptq L p v).getD q.toNat 0 = L.getD q.toNat 0 := by
  unfold ptq
  split
  · simp only [List.getD, List.getElem?_set]; rw [if_neg (by omega)]
  · rfl
structure Gk (n N : Nat) (k : Sk) : Prop where
  small : n ≤ 100000
  hd : 0 ≤ k.head ∧ k.head < N
  lk : ∀ x : Int, 1 ≤ x → x ≤ n → 0 ≤ atOf k.links x ∧ atOf k.links x < N ∧ atOf k.links x ≠ k.head
  inj : ∀ x y : Int, 1 ≤ x → x ≤ n → 1 ≤ y → y ≤ n → atOf k.links x = atOf k.links y → x = y
section
variable {n : Nat} {k : Sk} {L : List Int} {T : Int} {Q : List Int}
end
theorem pop_first {L : List Int} {m : Sm} (hk : m.kind = 2) (hp : m.pc = 1) {w : Int} (hw : ldq L m.k.head = w) :
    sstp L m = if low w = 0 then (L, { m with pc := 0, h := w, item := 0, tries := m.tries + 1 }) else (L, { m with pc := 2, h := w, item := low w, tries := m.tries + 1 }) := by
  subst hw; simp [sstp, hk, hp]
end Go.Proofs.YthoiaffeenhfgaaGreat

namespace Go.Proofs.YthoiaffeenhfgaaGreat
set_option linter.unusedVariables false
set_option linter.unusedSimpArgs false
def sruns : Nat → List Int → Sm → List Int × Sm
  | 0, L, m => (L, m)
  | k + 1, L, m => sruns k (sstp L m).1 (sstp L m).2
theorem sstp_no {L : List Int} {m : Sm} (h : m.pc = 0) : sstp L m = (L, m) := by simp [sstp, h]
theorem push_first {L : List Int} {m : Sm} (hk : m.kind = 1) (hp : m.pc = 1) {w : Int} (hw : ldq L m.k.head = w) :
    sstp L m = (L, { m with pc := 2, h := w, link := low w, tries := m.tries + 1 }) := by
  subst hw; simp [sstp, hk, hp]
theorem push_link {L : List Int} {m : Sm} (hk : m.kind = 1) (hp : m.pc = 2) : sstp L m = (ptq L (atOf m.k.links m.item) m.link, { m with pc := 3 }) := by
  simp [sstp, hk, hp]
theorem pop_link {L : List Int} {m : Sm} (hk : m.kind = 2) (hp : m.pc = 2) : sstp L m = (L, { m with pc := 3, link := low (ldq L (atOf m.k.links m.item)) }) := by
  simp [sstp, hk, hp]
theorem push_swap {L : List Int} {m : Sm} (hk : m.kind = 1) (hp : m.pc = 3) : sstp L m = swapS L m m.item := by
  simp [sstp, hk, hp]
theorem pop_swap {L : List Int} {m : Sm} (hk : m.kind = 2) (hp : m.pc = 3) : sstp L m = swapS L m m.link := by
  simp [sstp, hk, hp]
end Go.Proofs.YthoiaffeenhfgaaGreat

namespace Go.Proofs.YthoiaffeenhfgaaGreat
set_option linter.unusedVariables false
set_option linter.unusedSimpArgs false
structure Pg where
  sp : Sk
  po : Sk
  tk : Int → Int → Int
  mn : Int → Int
structure Gp (n N : Nat) (g : Pg) : Prop where
  s : Gk n N g.sp
  p : Gk n N g.po
  links : g.po.links = g.sp.links
  hne : g.sp.head ≠ g.po.head
  t : ∀ x j : Int, 1 ≤ x → x ≤ n → 0 ≤ j → j < 4 → 0 ≤ g.tk x j ∧ g.tk x j < N ∧ g.tk x j ≠ g.sp.head ∧ g.tk x j ≠ g.po.head
  tl : ∀ x j y : Int, 1 ≤ x → x ≤ n → 0 ≤ j → j < 4 → 1 ≤ y → y ≤ n → g.tk x j ≠ atOf g.sp.links y
  tm : ∀ x j y : Int, 1 ≤ x → x ≤ n → 0 ≤ j → j < 4 → 1 ≤ y → y ≤ n → g.tk x j ≠ g.mn y
  ti : ∀ x j y i : Int, 1 ≤ x → x ≤ n → 0 ≤ j → j < 4 → 1 ≤ y → y ≤ n → 0 ≤ i → i < 4 → g.tk x j = g.tk y i → x = y ∧ j = i
  m : ∀ x : Int, 1 ≤ x → x ≤ n → 0 ≤ g.mn x ∧ g.mn x < N ∧ g.mn x ≠ g.sp.head ∧ g.mn x ≠ g.po.head
  ml : ∀ x y : Int, 1 ≤ x → x ≤ n → 1 ≤ y → y ≤ n → g.mn x ≠ atOf g.sp.links y
  mi : ∀ x y : Int, 1 ≤ x → x ≤ n → 1 ≤ y → y ≤ n → g.mn x = g.mn y → x = y
structure Pm where
  kind : Nat
  pc : Nat
  ts : List Int
  j : Int
  p : Int
  x : Sm
def pstp (g : Pg) (L : List Int) (m : Pm) : List Int × Pm :=
  if m.pc = 1 then
    ((sstp L m.x).1,
     if (sstp L m.x).2.pc = 0 then (if (sstp L m.x).2.item = 0 then { m with x := mPop g.sp, p := 0 } else { m with x := (sstp L m.x).2, p := (sstp L m.x).2.item, pc := 2 })
     else { m with x := (sstp L m.x).2 })
  else if m.pc = 2 then
    (ptq L (g.tk m.p m.j) (m.ts.getD m.j.toNat 0), { m with j := m.j + 1, pc := if m.j + 1 = m.ts.length then 3 else 2 })
  else if m.pc = 3 then
    (ptq L (g.mn m.p) m.ts.length, { m with x := mPush g.po m.p, pc := 4 })
  else if m.pc = 4 then
    ((sstp L m.x).1,
     if (sstp L m.x).2.pc = 0 then { m with x := (sstp L m.x).2, p := (sstp L m.x).2.item, pc := 0 } else { m with x := (sstp L m.x).2 })
  else (L, m)
def mnone : Sm := ⟨0, 0, ⟨0, []⟩, 0, 0, 0, 0⟩
def pPut (g : Pg) (ts : List Int) : Pm := if ts = [] then ⟨1, 0, [], 0, 0, mnone⟩ else ⟨1, 1, ts.take 4, 0, 0, mPop g.sp⟩
def pTake (g : Pg) : Pm := ⟨2, 4, [], 0, 0, mPop g.po⟩
def pBack (n : Nat) (g : Pg) (p : Int) : Pm := if p < 1 ∨ (n : Int) < p then ⟨3, 0, [], 0, 0, mnone⟩ else ⟨3, 4, [], 0, 0, mPush g.sp p⟩
def pPacket (m : Pm) : Int := if 0 < m.pc then 0 else m.p
section
variable {n : Nat} {g : Pg} {L : List Int} {Ts Tp : Int} {Qs Qp : List Int}
end
end Go.Proofs.YthoiaffeenhfgaaGreat

namespace Go.Proofs.YthoiaffeenhfgaaGreat
set_option linter.unusedVariables false
set_option linter.unusedSimpArgs false
def pruns (g : Pg) : Nat → List Int → Pm → List Int × Pm
  | 0, L, m => (L, m)
  | k + 1, L, m => pruns g k (pstp g L m).1 (pstp g L m).2
section
variable {n : Nat} {g : Pg} {k : Sk} {L : List Int} {T : Int} {Q : List Int}
end
end Go.Proofs.YthoiaffeenhfgaaGreat

namespace Go.Proofs.YthoiaffeenhfgaaGreat.Dg
set_option linter.unusedVariables false
set_option maxRecDepth 100000
set_option linter.unusedSimpArgs false
structure En where
  top : Int
  bot : Int
  ent : Int
  room : Int
def roomOf (e : En) : Int := if e.room < 1 then 1 else e.room
def entOf (e : En) (n : Int) : Int := e.ent + n % roomOf e
def u64w (a : Int) : Int := a % 18446744073709551616
def ahead (a b : Int) : Int := if u64w (a - b) < 9223372036854775808 then u64w (a - b) else u64w (a - b) - 18446744073709551616
structure Mc where
  kind : Nat
  pc : Nat
  e : En
  b : Int
  t : Int
  w : Int
  won : Bool
  out : Int
def fin (m : Mc) (o x : Int) : Mc := { m with pc := 0, out := o, w := x }
def pushS (L : List Int) (m : Mc) : List Int × Mc :=
  if m.pc = 1 then (L, { m with pc := 2, b := ldq L m.e.bot })
  else if m.pc = 2 then (if roomOf m.e ≤ ahead m.b (ldq L m.e.top) then (L, fin m 2 0) else (L, { m with pc := 3, t := ldq L m.e.top }))
  else if m.pc = 3 then (ptq L (entOf m.e m.b) m.w, { m with pc := 4 })
  else (ptq L m.e.bot (u64w (m.b + 1)), fin m 1 0)
def popS (L : List Int) (m : Mc) : List Int × Mc :=
  if m.pc = 1 then (L, { m with pc := 2, b := u64w (ldq L m.e.bot - 1) })
  else if m.pc = 2 then (ptq L m.e.bot m.b, { m with pc := 3 })
  else if m.pc = 3 then (if 0 < ahead (ldq L m.e.top) m.b then (L, { m with pc := 7, t := ldq L m.e.top }) else (L, { m with pc := 4, t := ldq L m.e.top }))
  else if m.pc = 4 then (if 0 < ahead m.b m.t then (L, fin m 1 (ldq L (entOf m.e m.b))) else (L, { m with pc := 5, w := ldq L (entOf m.e m.b) }))
  else if m.pc = 5 then (if (0 ≤ m.e.top ∧ m.e.top < L.length) ∧ L.getD m.e.top.toNat 0 = m.t then (ptq L m.e.top (u64w (m.t + 1)), { m with pc := 6, won := true }) else (L, { m with pc := 6, won := false }))
  else if m.pc = 6 then (ptq L m.e.bot (u64w (m.b + 1)), if m.won = true then fin m 1 m.w else fin m 3 0)
  else (ptq L m.e.bot (u64w (m.b + 1)), fin m 3 0)
def stealS (L : List Int) (m : Mc) : List Int × Mc :=
  if m.pc = 1 then (L, { m with pc := 2, t := ldq L m.e.top })
  else if m.pc = 2 then (if ahead (ldq L m.e.bot) m.t ≤ 0 then (L, fin m 3 0) else (L, { m with pc := 3, b := ldq L m.e.bot }))
  else if m.pc = 3 then (L, { m with pc := 4, w := ldq L (entOf m.e m.t) })
  else (if (0 ≤ m.e.top ∧ m.e.top < L.length) ∧ L.getD m.e.top.toNat 0 = m.t then (ptq L m.e.top (u64w (m.t + 1)), fin m 1 m.w) else (L, fin m 4 0))
def stp (L : List Int) (m : Mc) : List Int × Mc :=
  if m.pc = 0 then (L, m) else if m.kind = 1 then pushS L m else if m.kind = 2 then popS L m else stealS L m
def mPush (e : En) (w : Int) : Mc := ⟨1, 1, e, 0, 0, w, false, 0⟩
def mPop (e : En) : Mc := ⟨2, 1, e, 0, 0, 0, false, 0⟩
def mSteal (e : En) : Mc := ⟨3, 1, e, 0, 0, 0, false, 0⟩
section
variable {n : Nat} {e : En} {L : List Int} {T β bc : Int} {Q : List Int}
end
def left (m : Mc) : Nat := if m.pc = 0 then 0 else if m.kind = 2 then (if m.pc = 7 then 1 else 7 - m.pc) else 5 - m.pc
end Go.Proofs.YthoiaffeenhfgaaGreat.Dg

namespace Go.Proofs.YthoiaffeenhfgaaGreat.Dg
set_option linter.unusedVariables false
set_option maxRecDepth 100000
set_option linter.unusedSimpArgs false
def runs : Nat → List Int → Mc → List Int × Mc
  | 0, L, m => (L, m)
  | k + 1, L, m => runs k (stp L m).1 (stp L m).2
end Go.Proofs.YthoiaffeenhfgaaGreat.Dg

namespace Go.Proofs.YthoiaffeenhfgaaGreat
set_option linter.unusedVariables false
set_option linter.unusedSimpArgs false
structure Am where
  pc : Nat
  task : Int
  d : Dg.Mc
  p : Pm
  sp : Bool
def astp (g : Pg) (L : List Int) (m : Am) : List Int × Am :=
  if m.pc = 1 then
    ((Dg.stp L m.d).1, if (Dg.stp L m.d).2.pc = 0 then (if (Dg.stp L m.d).2.out = 2 then { m with d := (Dg.stp L m.d).2, pc := 2, sp := true, p := pPut g [m.task] } else { m with d := (Dg.stp L m.d).2, pc := 0 })
      else { m with d := (Dg.stp L m.d).2 })
  else if m.pc = 2 then
    ((pstp g L m.p).1, if (pstp g L m.p).2.pc = 0 then { m with p := (pstp g L m.p).2, pc := 0 } else { m with p := (pstp g L m.p).2 })
  else (L, m)
def pnone : Pm := ⟨0, 0, [], 0, 0, mnone⟩
def aNew (e : Dg.En) (t : Int) : Am := ⟨1, t, Dg.mPush e t, pnone, false⟩
section
variable {n r : Nat} {g : Pg} {e f : Dg.En} {L : List Int} {i : Int} {A : List Int} {a b : Am} {pa pb la lb ra rb : Int}
end
end Go.Proofs.YthoiaffeenhfgaaGreat

namespace Go.Proofs.YthoiaffeenhfgaaGreat
set_option linter.unusedVariables false
set_option linter.unusedSimpArgs false
def aruns (g : Pg) : Nat → List Int → Am → List Int × Am
  | 0, L, m => (L, m)
  | k + 1, L, m => aruns g k (astp g L m).1 (astp g L m).2
section
variable {n r : Nat} {g : Pg} {e : Dg.En} {L : List Int} {i x : Int} {l Q : List Int}
end
end Go.Proofs.YthoiaffeenhfgaaGreat

namespace Go.Proofs.YthoiaffeenhfgaaGreat
set_option linter.unusedVariables false
set_option linter.unusedSimpArgs false
structure Bg where
  p : Int
  t : Int
  n : Int
def bg0 : Bg := ⟨0, 0, 0⟩
structure Km where
  pc : Nat
  i : Int
  draw : Int
  bag : Bg
  d : Dg.Mc
  p : Pm
  task : Int
  found : Bool
def kback (all v : Int) : Int := if v + 1 = all then 0 else v + 1
def kvic (all i draw : Int) : Int := if all < 2 then -1 else if draw % all = i then kback all (draw % all) else draw % all
def kask (g : Pg) (m : Km) : Km := { m with p := pTake g, pc := 4 }
def kbag (n : Nat) (g : Pg) (m : Km) : Km :=
  if m.bag.p = 0 ∧ m.bag.t = 0 ∧ m.bag.n = 0 then kask g m
  else if m.bag.p ≠ 0 ∧ m.bag.t < m.bag.n then { m with pc := 2 }
  else if m.bag.p < 1 ∨ (n : Int) < m.bag.p then kask g { m with bag := bg0 }
  else { m with bag := bg0, p := pBack n g m.bag.p, pc := 3 }
def kfin (m : Km) (x : Int) : Km := { m with pc := 0, task := x, found := true }
def kvict (ev : Int → Dg.En) (all : Int) (m : Km) : Km :=
  if kvic all m.i m.draw < 0 then { m with pc := 0 } else { m with pc := 6, d := Dg.mSteal (ev (kvic all m.i m.draw)) }
def k4 (x : Int) : Int := if x < 4 then x else 4
def kown (n : Nat) (g : Pg) (m : Km) (d : Dg.Mc) : Km :=
  if d.pc = 0 then (if d.out = 1 then kfin { m with d := d } d.w else if m.pc = 1 then kbag n g { m with d := d } else { m with d := d, pc := 0 })
  else { m with d := d }
def kpak (g : Pg) (ev : Int → Dg.En) (all : Int) (m : Km) (p : Pm) : Km :=
  if p.pc = 0 then (if m.pc = 3 then kask g { m with p := p } else if p.p = 0 then kvict ev all { m with p := p } else { m with p := p, pc := 5 })
  else { m with p := p }
def kstp (n : Nat) (g : Pg) (ev : Int → Dg.En) (all : Int) (L : List Int) (m : Km) : List Int × Km :=
  if m.pc = 1 ∨ m.pc = 6 then ((Dg.stp L m.d).1, kown n g m (Dg.stp L m.d).2)
  else if m.pc = 2 then (L, kfin { m with bag := ⟨m.bag.p, m.bag.t + 1, m.bag.n⟩ } (ldq L (g.tk m.bag.p m.bag.t)))
  else if m.pc = 3 ∨ m.pc = 4 then ((pstp g L m.p).1, kpak g ev all m (pstp g L m.p).2)
  else if m.pc = 5 then (L, kbag n g { m with bag := ⟨m.p.p, 0, k4 (ldq L (g.mn m.p.p))⟩ })
  else (L, m)
def kbd (x : Int) : Int := if x < 0 then 0 else if x < 4 then x else 4
def kNew (e : Dg.En) (i : Int) (b : Bg) (draw : Int) : Km := ⟨1, i, draw, ⟨b.p, kbd b.t, kbd b.n⟩, Dg.mPop e, pnone, 0, false⟩
def kNone (i : Int) (b : Bg) (draw : Int) : Km := ⟨0, i, draw, b, Dg.mPop ⟨0, 0, 0, 0⟩, pnone, 0, false⟩
section
variable {n : Nat} {g : Pg} {ev : Int → Dg.En} {all : Int}
theorem kstp_done {m : Km} (h : m.pc = 0) (L : List Int) : kstp n g ev all L m = (L, m) := by simp [kstp, h]
end
section
variable {n : Nat} {g : Pg}
end
section
variable {n r : Nat} {g : Pg} {e : Dg.En} {L : List Int} {i x : Int} {Qp out Q : List Int} {l : List (List Int)} {ev : Int → Dg.En} {all : Int} {me draw : Int}
end
end Go.Proofs.YthoiaffeenhfgaaGreat

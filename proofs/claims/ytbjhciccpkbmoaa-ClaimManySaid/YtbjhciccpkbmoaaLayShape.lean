/- What a map is made of: lists of things, grown by one. -/
import Derived.Test.YtbjhciccpkbmoaaLayRooms
namespace Go.Proofs.Ytbjhciccpkbmoaa.Lay
open Go.RowKit
set_option linter.unusedVariables false

/-- What a map is made of. -/
def roomsN (c : Cfg) : List Nat := (ksOf c).map fun k => (slotsOf k).toNat
def shOf (c : Cfg) : Sh := ⟨c.mu.toNat, c.mr.toNat, c.dq.toNat, (packN c).toNat, roomsN c⟩
theorem roomsN_len (c : Cfg) : (roomsN c).length = (ksOf c).length := by simp [roomsN]
theorem roomsN_get (c : Cfg) (k : Nat) (h : k < (ksOf c).length) : (((roomsN c).getD k 0 : Nat) : Int) = slotsOf ((ksOf c).getD k 0) := by
  have := slots_bd ((ksOf c).getD k 0)
  simp only [roomsN, List.getD, List.getElem?_map, List.getElem?_eq_getElem h, Option.map_some, Option.getD_some] at *
  omega

def singlesTo (n : Nat) : List Th := (List.range n).map fun k : Nat => ⟨k, 0, 0⟩
theorem singles_succ (n : Nat) : singlesTo (n + 1) = singlesTo n ++ [⟨(n : Int), 0, 0⟩] := by simp [singlesTo, List.range_succ]
theorem acks_succ (n : Nat) : acks (n + 1) = acks n ++ [⟨6, (n : Int), 0⟩] := by simp [acks, List.range_succ]
theorem heads_succ (n : Nat) : heads (n + 1) = heads n ++ [⟨7, (n : Int), 0⟩] := by simp [heads, List.range_succ]
theorem entries_succ (i n : Nat) : entries i (n + 1) = entries i n ++ [⟨10, (i : Int), (n : Int)⟩] := by simp [entries, List.range_succ]
def tasksI (p : Int) (n : Nat) : List Th := (List.range n).map fun j : Nat => ⟨13, p, j⟩
def slotsI (v : Int) (n : Nat) : List Th := (List.range n).map fun j : Nat => ⟨18, v, j⟩
theorem tasks_succ (p : Int) (n : Nat) : tasksI p (n + 1) = tasksI p n ++ [⟨13, p, (n : Int)⟩] := by simp [tasksI, List.range_succ]
theorem slotsI_succ (v : Int) (n : Nat) : slotsI v (n + 1) = slotsI v n ++ [⟨18, v, (n : Int)⟩] := by simp [slotsI, List.range_succ]
theorem packs_succ (n : Nat) : packsTo (n + 1) = packsTo n ++ ([⟨11, (n : Int) + 1, 0⟩] ++ ([⟨12, (n : Int) + 1, 0⟩] ++ tasksI ((n : Int) + 1) 4)) := by
  simp [packsTo, pack1, tasks, tasksI]
theorem nodes_succ (r : List Nat) (n : Nat) : nodesTo r (n + 1) = nodesTo r n ++ ([⟨14, (n : Int) + 1, 0⟩] ++ ([⟨15, (n : Int) + 1, 0⟩] ++ ([⟨16, (n : Int) + 1, 0⟩] ++ ([⟨17, (n : Int) + 1, 0⟩] ++ slotsI ((n : Int) + 1) (r.getD n 0))))) := by
  simp [nodesTo, node1, slots, slotsI]
theorem marks_succ (D n : Nat) : marksTo D (n + 1) = marksTo D n ++ ([⟨8, (n : Int), 0⟩] ++ ([⟨9, (n : Int), 0⟩] ++ entries n D)) := by
  simp [marksTo, mark1]

theorem off_le (r : List Nat) (h : ∀ x ∈ r, x ≤ 16) : ∀ n, n ≤ r.length → off r n ≤ 20 * n
  | 0, _ => by simp [off]
  | n + 1, hn => by
    have ih := off_le r h n (by omega)
    have : r.getD n 0 ≤ 16 := h _ (by rw [List.getD_eq_getElem?_getD, List.getElem?_eq_getElem (by omega)]; exact List.getElem_mem _)
    simp only [off]; omega
theorem roomsN_le (c : Cfg) : ∀ x ∈ roomsN c, x ≤ 16 := by
  intro x hx
  simp only [roomsN, List.mem_map] at hx
  obtain ⟨k, _, rfl⟩ := hx
  have := slots_bd k; omega

end Go.Proofs.Ytbjhciccpkbmoaa.Lay

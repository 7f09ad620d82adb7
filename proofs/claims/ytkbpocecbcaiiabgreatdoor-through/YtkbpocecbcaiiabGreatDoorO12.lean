import Derived.Test.YtkbpocecbcaiiabGreatDoorO10
import Derived.Test.YtkbpocecbcaiiabGreatDoorO11
namespace Go.Proofs.YtkbpocecbcaiiabGreatDoor
open Go.RowKit
def cntT (l : List Bool) : Nat := (l.filter (· == true)).length
def Lay.posR (L : Lay) (i : Nat) : Nat := L.sw.length + cntT (L.sw.take i)
def okO (s : ByteArray) (i : Nat) : Bool := pk s i == 48 || pk s i == 49
def isRep (c : Nat) : Bool := c == 43 || c == 45 || c == 63
def Lay.okR (L : Lay) (s : ByteArray) (i : Nat) : Bool := !L.sw.getD i false || isRep (pk s (L.posR i))
def Lay.okB (L : Lay) (s : ByteArray) (i : Nat) : Bool := okO s i && L.okR s i
def Lay.okS (L : Lay) (s : ByteArray) : Bool := (List.range L.sw.length).all (L.okB s)
def Lay.bgn (L : Lay) : Nat := L.sw.length + cntT L.sw
def Lay.okP (L : Lay) (s : ByteArray) (j : Nat) : Bool := L.cmdB (pk s (L.bgn + 2 * j)) (pk s (L.bgn + 2 * j + 1))
def Lay.okC (L : Lay) (s : ByteArray) : Bool := decide ((s.size - L.bgn) % 2 = 0) && (List.range ((s.size - L.bgn) / 2)).all (L.okP s)
def Lay.frameB (L : Lay) (s : ByteArray) : Bool := decide (s.size <= 64) && L.okS s && L.okC s
def Lay.repF (L : Lay) (s : ByteArray) (i : Nat) : Nat := if L.sw.getD i false then pk s (L.posR i) else 0
def Lay.frOf (L : Lay) (s : ByteArray) : Fr := ⟨(List.range L.sw.length).map (fun i => pk s i == 49), (List.range L.sw.length).map (L.repF s), s.extract L.bgn s.size⟩
theorem cntT_succ (l : List Bool) (k : Nat) (h : k < l.length) : cntT (l.take (k + 1)) = cntT (l.take k) + if l[k] then 1 else 0 := by
 unfold cntT
 rw [List.take_succ_eq_append_getElem h, List.filter_append, List.length_append]
 cases l[k] <;> rfl
theorem pk_drop (s : ByteArray) (b i : Nat) (h : b + i < s.size) (h' : i < (s.extract b s.size).size) : (s.extract b s.size)[i].toNat = pk s (b + i) := by
 rw [pk_in s (b + i) h]
 congr 1
 show (s.extract b s.size).data[i]'(by exact h') = s.data[b + i]'(by exact h)
 simp [ByteArray.data_extract]
theorem z2v (s : ByteArray) (b : Nat) : (s.extract b s.size).size = s.size - b := by
 simp [ByteArray.size_extract]
end Go.Proofs.YtkbpocecbcaiiabGreatDoor

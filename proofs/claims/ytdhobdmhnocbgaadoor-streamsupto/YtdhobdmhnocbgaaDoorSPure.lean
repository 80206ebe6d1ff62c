/-
  The plain side: what is read of a message's bytes, as functions on byte arrays. Nothing of the program is named here.
-/
import Derived.Below
namespace Go.Proofs.YtdhobdmhnocbgaaDoor.Zr

/-- The byte at a place; 0 behind the end. -/
def bt (b : ByteArray) (i : Nat) : Nat := (b.data.getD i 0).toNat

theorem bt_lt (b : ByteArray) (i : Nat) : bt b i < 256 := by unfold bt; exact UInt8.toNat_lt _

theorem bt_get (b : ByteArray) (i : Nat) (h : i < b.size) : b[i].toNat = bt b i := by
  show (b.data[i]).toNat = (b.data.getD i 0).toNat
  simp [Array.getD, h]

/-- What one run of a name comes to. -/
structure Run where
  labels : ByteArray
  next : Int
  pointed : Bool
  to : Int
  fail : Int

def Run.bad (e : Int) : Run := ⟨⟨#[]⟩, 0, false, 0, e⟩

/-- The end of a run at a byte that is neither 0 nor a label's length. -/
def ptr (b : ByteArray) (start k : Nat) : Run :=
  if bt b k < 192 then Run.bad 3
  else if b.size ≤ k + 1 then Run.bad 2
  else if start ≤ 256 * (bt b k - 192) + bt b (k + 1) then Run.bad 3
  else ⟨b.extract start k, (k : Int) + 2, true, ((256 * (bt b k - 192) + bt b (k + 1) : Nat) : Int), 0⟩

/-- A run from the place k on, that began at start. -/
def scan (b : ByteArray) (start : Nat) (room : Int) : Nat → Nat → Run
  | 0, _ => Run.bad 2
  | f + 1, k =>
    if b.size ≤ k then Run.bad 2
    else if bt b k = 0 then ⟨b.extract start k, (k : Int) + 1, false, 0, 0⟩
    else if 63 < bt b k then ptr b start k
    else if b.size < k + 1 + bt b k then Run.bad 2
    else if room < ((k + 1 + bt b k : Nat) : Int) - start then Run.bad 3
    else scan b start room f (k + 1 + bt b k)

def runOf (b : ByteArray) (start : Nat) (room : Int) : Run := scan b start room (b.size + 1) start

/-- The name that stands at a place, whole; how many bytes it takes. -/
def nm (b : ByteArray) : Nat → Nat → Nat → Nat → Except Int (ByteArray × Nat)
  | 0, _, _, _ => .error 2
  | f + 1, k, run, front =>
    if b.size ≤ k then .error 2
    else if bt b k = 0 then .ok (⟨#[0]⟩, 1)
    else if 63 < bt b k then
      if bt b k < 192 then .error 3
      else if b.size ≤ k + 1 then .error 2
      else if run ≤ 256 * (bt b k - 192) + bt b (k + 1) then .error 3
      else match nm b f (256 * (bt b k - 192) + bt b (k + 1)) (256 * (bt b k - 192) + bt b (k + 1)) front with
        | .ok (s, _) => .ok (s, 2)
        | .error e => .error e
    else if b.size < k + 1 + bt b k then .error 2
    else if 255 < front + 1 + bt b k + 1 then .error 3
    else match nm b f (k + 1 + bt b k) run (front + 1 + bt b k) with
      | .ok (s, t) => .ok (b.extract k (k + 1 + bt b k) ++ s, 1 + bt b k + t)
      | .error e => .error e

/-- So much fuel is enough. -/
def enough (b : ByteArray) (k run : Nat) : Nat := run * (b.size + 2) + (b.size + 2 - k)

/-- The name at a place, of which front bytes stand ahead already. -/
def nmAt (b : ByteArray) (k run front : Nat) : Except Int (ByteArray × Nat) := nm b (enough b k run + 1) k run front

/-- The number that k bytes from a place on spell, the high byte first. -/
def num (b : ByteArray) (i : Nat) : Nat → Nat
  | 0 => 0
  | k + 1 => 256 * num b i k + bt b (i + k)

theorem num_lt (b : ByteArray) (i k : Nat) : num b i k < 256 ^ k := by
  induction k with
  | zero => simp [num]
  | succ k ih => have := bt_lt b (i + k); simp only [num, Nat.pow_succ]; omega

theorem num_lt4 (b : ByteArray) (i k : Nat) (h : k ≤ 4) : num b i k < 4294967296 := by
  have h1 := num_lt b i k
  have h2 : 256 ^ k ≤ 256 ^ 4 := Nat.pow_le_pow_right (by omega) h
  omega

theorem bt_extract (b : ByteArray) (i n j : Nat) (h : j < n) (hn : i + n ≤ b.size) : bt (b.extract i (i + n)) j = bt b (i + j) := by
  have h1 : j < (b.extract i (i + n)).size := by simp [ByteArray.size_extract]; omega
  rw [← bt_get _ _ h1, ← bt_get b (i + j) (by omega)]
  simp [ByteArray.getElem_extract]

end Go.Proofs.YtdhobdmhnocbgaaDoor.Zr

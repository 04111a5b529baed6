/-
  SHA-256 as a plain function over lists: what both the program and the reference compute.
-/
import Derived.Test.YtoooemlcackepaaDoorU32
namespace Go.Proofs.YtoooemlcackepaaDoor
set_option linter.unusedVariables false
set_option linter.unusedSimpArgs false

/-- four bytes as a word -/
def word4 (a b c d : UInt8) : UInt32 := UInt32.ofNat (((a.toNat * 16777216 ||| b.toNat * 65536) ||| c.toNat * 256) ||| d.toNat)

def s0 (x : UInt32) : UInt32 := wxor (wxor (rotr x 7) (rotr x 18)) (shr x 3)
def s1 (x : UInt32) : UInt32 := wxor (wxor (rotr x 17) (rotr x 19)) (shr x 10)
def S0 (x : UInt32) : UInt32 := wxor (wxor (rotr x 2) (rotr x 13)) (rotr x 22)
def S1 (x : UInt32) : UInt32 := wxor (wxor (rotr x 6) (rotr x 11)) (rotr x 25)

/-- the first t words of a block -/
def head16 (b : List UInt8) : Nat → List UInt32
  | 0 => []
  | t + 1 => head16 b t ++ [word4 (b.getD (4 * t) 0) (b.getD (4 * t + 1) 0) (b.getD (4 * t + 2) 0) (b.getD (4 * t + 3) 0)]

/-- the word behind ws, which has t + 16 words -/
def nextW (ws : List UInt32) (t : Nat) : UInt32 := wadd (wadd (wadd (s1 (ws.getD (t + 14) 0)) (ws.getD (t + 9) 0)) (s0 (ws.getD (t + 1) 0))) (ws.getD t 0)

/-- the first 16 + t words -/
def ext (b : List UInt8) : Nat → List UInt32
  | 0 => head16 b 16
  | t + 1 => ext b t ++ [nextW (ext b t) t]

theorem head16_succ (b : List UInt8) (t : Nat) : head16 b (t + 1) = head16 b t ++ [word4 (b.getD (4 * t) 0) (b.getD (4 * t + 1) 0) (b.getD (4 * t + 2) 0) (b.getD (4 * t + 3) 0)] := rfl

theorem head16_length (b : List UInt8) (t : Nat) : (head16 b t).length = t := by
  induction t with
  | zero => rfl
  | succ t ih => simp [head16, ih]

theorem ext_length (b : List UInt8) (t : Nat) : (ext b t).length = 16 + t := by
  induction t with
  | zero => exact head16_length b 16
  | succ t ih => simp [ext, ih]; omega

/-- eight words -/
structure H8 where
  a : UInt32
  b : UInt32
  c : UInt32
  d : UInt32
  e : UInt32
  f : UInt32
  g : UInt32
  h : UInt32

def H8.t1 (s : H8) (k w : UInt32) : UInt32 := wadd (wadd (wadd (wadd s.h (S1 s.e)) (wxor (wand s.e s.f) (wand (wnot s.e) s.g))) k) w
def H8.t2 (s : H8) : UInt32 := wadd (S0 s.a) (wxor (wxor (wand s.a s.b) (wand s.a s.c)) (wand s.b s.c))

def H8.rnd (s : H8) (k w : UInt32) : H8 := ⟨wadd (s.t1 k w) s.t2, s.a, s.b, s.c, wadd s.d (s.t1 k w), s.e, s.f, s.g⟩

def H8.add (s t : H8) : H8 := ⟨wadd s.a t.a, wadd s.b t.b, wadd s.c t.c, wadd s.d t.d, wadd s.e t.e, wadd s.f t.f, wadd s.g t.g, wadd s.h t.h⟩

def H8.list (s : H8) : List UInt32 := [s.a, s.b, s.c, s.d, s.e, s.f, s.g, s.h]

def kTab : List UInt32 := [1116352408, 1899447441, 3049323471, 3921009573, 961987163, 1508970993, 2453635748, 2870763221, 3624381080, 310598401, 607225278, 1426881987, 1925078388, 2162078206, 2614888103, 3248222580, 3835390401, 4022224774, 264347078, 604807628, 770255983, 1249150122, 1555081692, 1996064986, 2554220882, 2821834349, 2952996808, 3210313671, 3336571891, 3584528711, 113926993, 338241895, 666307205, 773529912, 1294757372, 1396182291, 1695183700, 1986661051, 2177026350, 2456956037, 2730485921, 2820302411, 3259730800, 3345764771, 3516065817, 3600352804, 4094571909, 275423344, 430227734, 506948616, 659060556, 883997877, 958139571, 1322822218, 1537002063, 1747873779, 1955562222, 2024104815, 2227730452, 2361852424, 2428436474, 2756734187, 3204031479, 3329325298]

def h0 : H8 := ⟨1779033703, 3144134277, 1013904242, 2773480762, 1359893119, 2600822924, 528734635, 1541459225⟩

/-- behind n rounds -/
def H8.rounds (s : H8) (ws : List UInt32) : Nat → H8
  | 0 => s
  | n + 1 => (s.rounds ws n).rnd (kTab.getD n 0) (ws.getD n 0)

/-- behind one more block -/
def H8.mix (s : H8) (b : List UInt8) : H8 := s.add (s.rounds (ext b 48) 64)

/-- the block number k -/
def chunk (l : List UInt8) (k : Nat) : List UInt8 := (l.drop (64 * k)).take 64

/-- the hash behind k blocks -/
def hashTo (l : List UInt8) : Nat → H8
  | 0 => h0
  | k + 1 => (hashTo l k).mix (chunk l k)

theorem hashTo_succ (l : List UInt8) (k : Nat) : hashTo l (k + 1) = (hashTo l k).add ((hashTo l k).rounds (ext (chunk l k) 48) 64) := rfl

/-- a word's bytes -/
def wbytes (x : UInt32) : List UInt8 := [UInt8.ofNat (x.toNat / 16777216), UInt8.ofNat (x.toNat / 65536), UInt8.ofNat (x.toNat / 256), UInt8.ofNat x.toNat]

/-- words' bytes -/
def wsbytes (ws : List UInt32) : List UInt8 := ws.flatMap wbytes

def be64 (n : Nat) : List UInt8 := [UInt8.ofNat (n / 2 ^ 56), UInt8.ofNat (n / 2 ^ 48), UInt8.ofNat (n / 2 ^ 40), UInt8.ofNat (n / 2 ^ 32), UInt8.ofNat (n / 2 ^ 24), UInt8.ofNat (n / 2 ^ 16), UInt8.ofNat (n / 2 ^ 8), UInt8.ofNat n]

/-- what follows n bytes -/
def padOf (n : Nat) : List UInt8 := 128 :: List.replicate (63 - (n + 8) % 64) 0 ++ be64 (8 * n)

def sha256 (l : List UInt8) : List UInt8 := wsbytes (hashTo (l ++ padOf l.length) ((l ++ padOf l.length).length / 64)).list

theorem wsbytes_length (ws : List UInt32) : (wsbytes ws).length = 4 * ws.length := by
  induction ws with
  | nil => rfl
  | cons x r ih => simp [wsbytes, wbytes] at ih ⊢; omega

theorem sha256_length (l : List UInt8) : (sha256 l).length = 32 := by
  unfold sha256; rw [wsbytes_length]; rfl

theorem padOf_length (n : Nat) : (padOf n).length = 72 - (n + 8) % 64 := by
  unfold padOf; simp [be64]; omega

theorem padded_mod (l : List UInt8) : (l ++ padOf l.length).length % 64 = 0 := by
  rw [List.length_append, padOf_length]; omega

theorem chunk_length (l : List UInt8) (k : Nat) (h : 64 * k + 64 ≤ l.length) : (chunk l k).length = 64 := by
  unfold chunk; simp; omega

theorem chunk_getD (l : List UInt8) (k i : Nat) (hi : i < 64) : (chunk l k).getD i 0 = l.getD (64 * k + i) 0 := by
  unfold chunk
  simp only [List.getD_eq_getElem?_getD, List.getElem?_take, List.getElem?_drop, if_pos hi]

/-- the document's example -/
theorem sha256_abc : sha256 [97, 98, 99] = [186, 120, 22, 191, 143, 1, 207, 234, 65, 65, 64, 222, 93, 174, 34, 35, 176, 3, 97, 163, 150, 23, 122, 156, 180, 16, 255, 97, 242, 0, 21, 173] := by
  decide +kernel

end Go.Proofs.YtoooemlcackepaaDoor

/- SHA-256 in plain words, over words of 32 bits; how the arithmetic of the translated code is spelt at them. -/
import Derived.Laws.BitsAllLaws
import Derived.Laws.Shifts
namespace Go.Proofs.YtcniajbfgfikjaaDoor

/-- A fact that no tactic looks into (Hid is a definition, which some unfold). -/
structure Box (p : Prop) : Prop where
  out : p
/-- A word as an integer: of its bounds nothing is to be seen. -/
def vU (x : UInt32) : Int := (x.toNat : Int)
def vW (x : UInt32) : Value := .int .u32 (vU x)
theorem vU_lt (x : UInt32) : 0 ≤ vU x ∧ vU x < 4294967296 := by
  have := x.toNat_lt
  unfold vU; omega
theorem vU_inj {x y : UInt32} (h : vU x = vU y) : x = y := by
  unfold vU at h
  exact UInt32.toNat_inj.1 (by omega)
theorem vU_xor (x y : UInt32) : bits .xor .u32 (vU x) (vU y) = vU (x ^^^ y) := by
  unfold vU; rw [u32_xor_nat _ _ x.toNat_lt y.toNat_lt, UInt32.toNat_xor]
theorem vU_and (x y : UInt32) : bits .and .u32 (vU x) (vU y) = vU (x &&& y) := by
  unfold vU; rw [u32_and_nat _ _ x.toNat_lt y.toNat_lt, UInt32.toNat_and]
theorem vU_or (x y : UInt32) : bits .or .u32 (vU x) (vU y) = vU (x ||| y) := by
  unfold vU; rw [u32_or_nat _ _ x.toNat_lt y.toNat_lt, UInt32.toNat_or]
theorem vU_add (x y : UInt32) : IntKind.u32.wrap (vU x + vU y) = vU (x + y) := by
  unfold vU; rw [IntKind.wrap_u32', UInt32.toNat_add]; omega
theorem vU_not (x : UInt32) : IntKind.u32.wrap (-vU x - 1) = vU (~~~x) := by
  unfold vU; rw [IntKind.wrap_u32', UInt32.toNat_not]
  have := x.toNat_lt
  simp only [UInt32.size]; omega
theorem vU_shr (x : UInt32) (n : Nat) (hn : n < 32) : vU x / ((2 ^ n : Nat) : Int) = vU (x >>> UInt32.ofNat n) := by
  unfold vU
  rw [UInt32.toNat_shiftRight, UInt32.toNat_ofNat', Nat.mod_eq_of_lt (show n < 2 ^ 32 by omega), Nat.mod_eq_of_lt hn, Nat.shiftRight_eq_div_pow]
  norm_cast
theorem vU_shl (x : UInt32) (n : Nat) (hn : n < 32) : IntKind.u32.wrap (vU x * ((2 ^ n : Nat) : Int)) = vU (x <<< UInt32.ofNat n) := by
  unfold vU
  rw [IntKind.wrap_u32', UInt32.toNat_shiftLeft, UInt32.toNat_ofNat', Nat.mod_eq_of_lt (show n < 2 ^ 32 by omega), Nat.mod_eq_of_lt hn, Nat.shiftLeft_eq]
  generalize (2 : Nat) ^ n = p
  rw [show (2 : Nat) ^ 32 = 4294967296 by decide, Int.natCast_emod, Int.natCast_mul]
  rfl

theorem vU_shr' (x : UInt32) (n : Nat) (hn : n < 32) : vU x / (2 : Int) ^ n = vU (x >>> UInt32.ofNat n) := by
  rw [← vU_shr x n hn]; norm_cast
theorem vU_shl' (x : UInt32) (n : Nat) (hn : n < 32) : vU x * (2 : Int) ^ n % 4294967296 = vU (x <<< UInt32.ofNat n) := by
  have e : (2 : Int) ^ n = ((2 ^ n : Nat) : Int) := by norm_cast
  rw [← vU_shl x n hn, IntKind.wrap_u32', e]
theorem vU_add' (x y : UInt32) : (vU x + vU y) % 4294967296 = vU (x + y) := by rw [← vU_add, IntKind.wrap_u32']

def rotr (x : UInt32) (n : Nat) : UInt32 := x >>> UInt32.ofNat n ||| x <<< UInt32.ofNat (32 - n)
def sum3 (x : UInt32) (i j k : Nat) : UInt32 := rotr x i ^^^ rotr x j ^^^ rotr x k
def chS (e f g : UInt32) : UInt32 := (e &&& f) ^^^ (~~~e &&& g)
def majS (a b c : UInt32) : UInt32 := (a &&& b) ^^^ (a &&& c) ^^^ (b &&& c)
def sg0 (x : UInt32) : UInt32 := rotr x 7 ^^^ rotr x 18 ^^^ (x >>> 3)
def sg1 (x : UInt32) : UInt32 := rotr x 17 ^^^ rotr x 19 ^^^ (x >>> 10)

structure St where
  (a b c d e f g h : UInt32)
def St.cells (s : St) : Array Value := #[vW s.a, vW s.b, vW s.c, vW s.d, vW s.e, vW s.f, vW s.g, vW s.h]
def kk : List UInt32 := [1116352408, 1899447441, 3049323471, 3921009573, 961987163, 1508970993, 2453635748, 2870763221, 3624381080, 310598401, 607225278, 1426881987, 1925078388, 2162078206, 2614888103, 3248222580, 3835390401, 4022224774, 264347078, 604807628, 770255983, 1249150122, 1555081692, 1996064986, 2554220882, 2821834349, 2952996808, 3210313671, 3336571891, 3584528711, 113926993, 338241895, 666307205, 773529912, 1294757372, 1396182291, 1695183700, 1986661051, 2177026350, 2456956037, 2730485921, 2820302411, 3259730800, 3345764771, 3516065817, 3600352804, 4094571909, 275423344, 430227734, 506948616, 659060556, 883997877, 958139571, 1322822218, 1537002063, 1747873779, 1955562222, 2024104815, 2227730452, 2361852424, 2428436474, 2756734187, 3204031479, 3329325298]
def initS : St := ⟨1779033703, 3144134277, 1013904242, 2773480762, 1359893119, 2600822924, 528734635, 1541459225⟩
def t1S (s : St) (k w : UInt32) : UInt32 := s.h + sum3 s.e 6 11 25 + chS s.e s.f s.g + k + w
def t2S (s : St) : UInt32 := sum3 s.a 2 13 22 + majS s.a s.b s.c
def rnd (s : St) (k w : UInt32) : St := ⟨t1S s k w + t2S s, s.a, s.b, s.c, s.d + t1S s k w, s.e, s.f, s.g⟩
/-- i rounds, over the constants K and the words W. -/
def rnds (K W : List UInt32) (s : St) : Nat → St
  | 0 => s
  | i + 1 => rnd (rnds K W s i) (K.getD i 0) (W.getD i 0)
def St.add (s t : St) : St := ⟨s.a + t.a, s.b + t.b, s.c + t.c, s.d + t.d, s.e + t.e, s.f + t.f, s.g + t.g, s.h + t.h⟩

/-- Four bytes as a word, the first one the greatest. -/
def w4 (l : List UInt8) : UInt32 := l.foldl (fun x c => (x <<< 8) ||| c.toUInt32) 0
/-- The next word of a schedule. -/
def nextW (l : List UInt32) : UInt32 :=
  l.getD (l.length - 16) 0 + l.getD (l.length - 7) 0 + sg0 (l.getD (l.length - 15) 0) + sg1 (l.getD (l.length - 2) 0)
def sch16 (b : List UInt8) : List UInt32 := (List.range 16).map fun i => w4 ((b.drop (4 * i)).take 4)
def schN (l : List UInt32) : Nat → List UInt32
  | 0 => l
  | n + 1 => schN l n ++ [nextW (schN l n)]
def sched (b : List UInt8) : List UInt32 := schN (sch16 b) 48
theorem schN_len (l : List UInt32) : ∀ n, (schN l n).length = l.length + n
  | 0 => rfl
  | n + 1 => by rw [schN, List.length_append, schN_len l n]; rfl
theorem sch16_len (b : List UInt8) : (sch16 b).length = 16 := by unfold sch16; simp
def blockS (s : St) (b : List UInt8) : St := s.add (rnds kk (sched b) s 64)
/-- The state after the first n blocks. -/
def fullB (s : St) (l : List UInt8) : Nat → St
  | 0 => s
  | n + 1 => blockS (fullB s l n) ((l.drop (64 * n)).take 64)
/-- The state after all whole blocks, and the bytes that are left. -/
def stS (l : List UInt8) : St := fullB initS l (l.length / 64)
def tailS (l : List UInt8) : List UInt8 := l.drop (64 * (l.length / 64))
end Go.Proofs.YtcniajbfgfikjaaDoor

/- Contracts of the small functions of package ascii and of its reference: one byte, and loops over the bytes of a string. Contracts of Lower and Fold, of package ascii and of its reference. Plain facts on lists of bytes: trimming from both ends. Slices of strings in memory: one that is read, one that the call appends to, one that is kept beside it. The numbers that the shelf's contracts of Go's library (package strings, package strconv) have in this seat's translation: nothing is claimed here by itself. Contracts of Fold, Value, Trim, of package ascii and of its reference. Plain facts on lists of bytes: cutting at a byte, and the elements of comma-separated lists. Contracts of Same, Split and List, of package ascii and of its reference. Opening arguments: a byte, a slice of bytes. Opening an argument that is a slice of strings. Slices of bytes in memory: one that the call appends to; slices of numbers that are read. A region that draws its order, whose operations all leave the world in a class, but for the last one, which waits for all of them. A region that draws its order, by what each operation leaves: one fact an operation, whatever the order. FNV-1a in plain words, and the contracts of mix and Write, of package hash and of its reference. -/
import Derived.Test.YtflhjpokjdjbpaaGreatDoorRows
import Derived.WalkKit
import Derived.WalkSpells
import Derived.WalkLawsBesides
import Derived.BigQuiet
import Derived.Deep.QuietTactic
import Derived.Lib.Bytealg
import Derived.Lib.IndexLaws
import Derived.Lib.Hide
import Derived.Laws.IdiomStrings
import Derived.Lib.SlTrimSet
import Derived.Lib.IndexBytes
import Derived.Lib.Split
import Derived.Deep.AppendLies
import Derived.Shelf.Strings.SlTrimAscii
import Derived.Shelf.Strings.SplitShaped
import Derived.Shelf.LaysM
import Derived.Shelf.Strings.BuilderK
import Derived.Shelf.Strconv.Itoa4
import Derived.Shelf.Strings.Prefix
import Derived.Shelf.Bytes.SlIndexWhole
import Derived.Test.YtflhjpokjdjbpaaGreatDoorProg
import Derived.Lib.SplitLaws
import Derived.WalkSmall
import Derived.ProofKit
import Derived.OpenShut
import Derived.Lib.Strings
import Derived.SliceStrings
import Derived.Deep.Quiet
import Derived.Tactics
import Derived.KernelRfl
import Derived.Below
import Derived.Laws.Bits64
set_option maxRecDepth 100000
set_option maxHeartbeats 4000000
namespace Go.Proofs.YtflhjpokjdjbpaaGreatDoor
open Go.RowKit
theorem qq {a b:Bool} (h:a=b):Ending.returned (.bool a) = .returned (.bool b):=by rw [h]
theorem qbu {k:IntKind} {a b:Int} (h:a=b):Ending.returned (.int k a) = .returned (.int k b):=by rw [h]
theorem qb6 {a b:ByteArray} (h:a=b):Ending.returned (.string a) = .returned (.string b):=by rw [h]
def upB (c:Int):Bool:=decide (65≤c) && decide (c≤90)
def digB (c:Int):Bool:=decide (48≤c) && decide (c≤57)
def loB (c:Int):Bool:=decide (97≤c) && decide (c≤122)
def qzs:ByteArray:=⟨#[33,35,36,37,38,39,42,43,45,46,94,95,96,124,126]⟩
def hasS (s:ByteArray) (c:UInt8):Bool:=s.data.toList.contains c
def tokB (c:UInt8):Bool:=upB c.toNat || loB c.toNat || digB c.toNat || hasS qzs c
def tokS (s:ByteArray):Bool:=s.data.toList.all tokB && !s.data.toList.isEmpty
theorem qan (s:ByteArray) (k:Nat) (h:k<s.size):s.data.toList.take (k+1)=s.data.toList.take k++[s[k]]:=by
 rw [List.take_succ_eq_append_getElem (by simpa using h)]; rfl
theorem qfg (s:ByteArray) (k:Nat) (h:k≤s.size) (h2:¬ k<s.size):s.data.toList.take k=s.data.toList:=by
 rw [List.take_of_length_le]; simp; omega
theorem qp7 (s:ByteArray) (k:Nat) (h:k<s.size):s[k] ∈ s.data.toList:=by
 show s.data[k] ∈ s.data.toList
 simp
theorem qb2 (s:ByteArray):s.toList.isEmpty=s.data.isEmpty:=by
 rw [ByteArray.toList_eq s]; simp
theorem qm7 (c:Int) (w:World) (h0:0≤c) (h1:c≤255) :
  Calls Tryz.prog 174 #[.int .u8 c] w fun e w'=>e = .returned (.bool (upB c))∧w=w':=by
 go_enter Tryz.func174,Tryz.ntmps174
 go_wp2
 all_goals go_ret
 all_goals exact ⟨qq (by unfold upB; rw [Bool.eq_iff_iff]; simp; omega),rfl⟩
theorem qdq (c:Int) (w:World) (h0:0≤c) (h1:c≤255) :
  Calls Tryz.prog 95 #[.int .u8 c] w fun e w'=>e = .returned (.bool (digB c))∧w=w':=by
 go_enter Tryz.func95,Tryz.ntmps95
 go_wp2
 all_goals go_ret
 all_goals exact ⟨qq (by unfold digB; rw [Bool.eq_iff_iff]; simp; omega),rfl⟩
theorem jee {a b:UInt8} (h:((a.toNat:Int) == (b.toNat:Int))=true):a=b:=by
 apply UInt8.toNat_inj.1; simp at h; omega
theorem jf2 (s:ByteArray) (c:UInt8) (w:World) (hs:s.size≤maxLen) :
  Calls Tryz.prog 99 #[.string s,.int .u8 c.toNat] w fun e w'=>e = .returned (.bool (hasS s c))∧w=w':=by
 unfold maxLen at hs;go_enter Tryz.func99,Tryz.ntmps99
 go_wp2
 go_loop [5] (fun i=>∃ k:Nat,k≤s.size∧i = .int .i64 k∧Hid (∀ x ∈ s.data.toList.take k,¬ x=c)) (fun i=>s.size-(intOf i).toNat)
 case atStart=>exact ⟨0,Nat.zero_le _,rfl,Lib.hid (by simp)⟩
 case round =>
  obtain ⟨k,hk,rfl,HP⟩:=hrel;by_cases hlt:k<s.size
  · by_cases hc:s[k]=c
    · have HC:=Lib.hid hc
      have hb:((s[k].toNat:Int) == (c.toNat:Int))=true:=by simp [hc]
      clear hc;go_wp2
      go_ret;exact ⟨qq (by unfold hasS; have:=qp7 s k hlt; rw [HC.out] at this; symm; simpa using this),rfl⟩
    · have HC:=Lib.hid hc
      have hb:((s[k].toNat:Int) == (c.toNat:Int))=false:=by
       rw [Bool.eq_false_iff]; intro h; exact hc (jee h)
      clear hc;go_wp2
      go_round
      case rel=>exact ⟨k+1,by omega,by go_num,Lib.hid (by rw [qan s k hlt]; intro x hx; rcases List.mem_append.1 hx with h | h; exact HP.out x h; simp at h; rw [h]; exact HC.out)⟩
      case measure=>simp [intOf]; omega
  · go_wp2
    go_ret;exact ⟨qq (by have:=HP.out; rw [qfg s k hk hlt] at this; unfold hasS; symm; rw [Bool.eq_false_iff]; intro h; exact this c (by simpa using h) rfl),rfl⟩
theorem qcg (s:ByteArray) (c:UInt8) (w:World) :
  Calls Tryz.prog 181 #[.string s,.int .u8 c.toNat] w fun e w'=>e = .returned (.int .i64 (Lib.indexByte s.data.toList c))∧w=w':=by
 go_enter Tryz.func181,Tryz.ntmps181
 go_wp2
 rw [run_callFunc_extern Tryz.func194 (by kernel_rfl) (by kernel_rfl) (by kernel_rfl) (e:=Extern.BytealgIndexByte.indexByte) (by kernel_rfl),Lib.run_indexByteString];simp only [Result.andThen];rw [Oper.upon_value];go_wp2
 go_ret;exact ⟨qbu (by simp),rfl⟩
theorem qpi (s:ByteArray) (c:UInt8) (w:World) :
  Calls Tryz.prog 175 #[.string s,.int .u8 c.toNat] w fun e w'=>e = .returned (.int .i64 (Lib.indexByte s.data.toList c))∧w=w':=by
 go_enter Tryz.func175,Tryz.ntmps175
 go_wp2_with (go_at_call 181; refine (qcg _ _ _).mono ?_; rintro e w' ⟨rfl,rfl⟩)
 go_ret;exact ⟨rfl,rfl⟩
theorem qps (s:ByteArray) (c:UInt8):decide (0≤Lib.indexByte s.data.toList c)=hasS s c:=by
 have hge:=Lib.indexByte_ge s.data.toList c;unfold hasS;by_cases h:Lib.indexByte s.data.toList c = -1
 · have:=Lib.indexByte_none h
   rw [h,Bool.eq_iff_iff];simp only [Int.reduceNeg,decide_eq_true_eq,List.contains_iff_mem];constructor
   · intro h; omega
   · intro hm; obtain ⟨k,hk⟩:=List.mem_iff_getElem?.1 hm; exact absurd hk (this k)
 · obtain ⟨o,ho⟩ : ∃ o:Nat,Lib.indexByte s.data.toList c=o:=⟨(Lib.indexByte s.data.toList c).toNat,by omega⟩
   have:=(Lib.indexByte_some ho).1;rw [ho,Bool.eq_iff_iff];simp only [decide_eq_true_eq,List.contains_iff_mem];exact ⟨fun _=>List.mem_of_getElem? this,fun _=>by omega⟩
theorem qga (c:UInt8) (w:World) :
  Calls Tryz.prog 160 #[.int .u8 c.toNat] w fun e w'=>e = .returned (.bool (tokB c))∧w=w':=by
 have hi:=qps qzs c;have HI:=Lib.hid hi;clear hi;have b1:(c.toNat:Int)≤255:=by have:=c.toNat_lt; omega
 go_enter Tryz.func160,Tryz.ntmps160
 go_wp2_with (first | (go_at_call 175; refine (qpi qzs _ _).mono ?_; rintro e w' ⟨rfl,rfl⟩) | (go_at_call 174; go_in))
 all_goals go_ret
 all_goals exact ⟨qq (by
  unfold tokB;rw [← HI.out];generalize Lib.indexByte qzs.data.toList c=n;rw [Bool.eq_iff_iff];simp [upB,loB,digB];omega),rfl⟩
theorem jbg {s:ByteArray} {k:Nat} (hlt:k<s.size) (hc:tokB s[k]=false):false=tokS s:=by
 unfold tokS;have:s.data.toList.all tokB=false:=by
  rw [Bool.eq_false_iff]; intro h;have:=List.all_eq_true.1 h _ (qp7 s k hlt); rw [hc] at this; cases this
 rw [this]; rfl
theorem qev (s:ByteArray) (w:World) (hs:s.size≤maxLen) :
  Calls Tryz.prog 138 #[.string s] w fun e w'=>e = .returned (.bool (tokS s))∧w=w':=by
 unfold maxLen at hs;go_enter Tryz.func138,Tryz.ntmps138
 go_wp2
 go_loop [6] (fun i=>∃ k:Nat,k≤s.size∧i = .int .i64 k∧Hid ((s.data.toList.take k).all tokB=true)) (fun i=>s.size-(intOf i).toNat)
 case atStart=>exact ⟨0,Nat.zero_le _,rfl,Lib.hid (by simp)⟩
 case round =>
  obtain ⟨k,hk,rfl,HP⟩:=hrel;by_cases hlt:k<s.size
  · by_cases hc:tokB s[k]=true
    · go_wp2_with (go_at_call 160; refine (qga _ _).mono ?_; rintro e w' ⟨rfl,rfl⟩)
      go_round
      case rel=>exact ⟨k+1,by omega,by go_num,Lib.hid (by rw [qan s k hlt,List.all_append,HP.out]; simpa using hc)⟩
      case measure=>simp [intOf]; omega
    · have hc':tokB s[k]=false:=by simpa using hc
      clear hc;go_wp2_with (go_at_call 160; refine (qga _ _).mono ?_; rintro e w' ⟨rfl,rfl⟩)
      go_ret;exact ⟨qq (jbg hlt hc'),rfl⟩
  · go_wp2
    go_ret;exact ⟨qq (by have:=HP.out; rw [qfg s k hk hlt] at this; unfold tokS; rw [this]; simp [qb2]),rfl⟩
theorem qai (s : ByteArray) (w : World) (hs : s.size ≤ maxLen) :
    Calls Tryz.prog 74 #[.string s] w fun e w'=>e = .returned (.bool (tokS s))∧w=w':=by
  unfold maxLen at hs;go_enter Tryz.func74,Tryz.ntmps74
  go_wp2
  go_loop [3] (fun i=>∃ k:Nat,k≤s.size∧i = .int .i64 k∧Hid ((s.data.toList.take k).all tokB=true)) (fun i=>s.size-(intOf i).toNat)
  case atStart=>exact ⟨0,Nat.zero_le _,rfl,Lib.hid (by simp)⟩
  case round =>
    obtain ⟨k,hk,rfl,HP⟩:=hrel;by_cases hlt:k<s.size
    · have b1:(s[k].toNat:Int)≤255:=by have:=s[k].toNat_lt; omega
      by_cases hd:digB (s[k].toNat:Int)=true <;> by_cases hh:hasS qzs s[k]=true <;> try simp only [Bool.not_eq_true] at hd hh
      all_goals go_wp2_with (first | (go_at_call 99; refine (jf2 qzs _ _ (by decide)).mono ?_; rintro e w' ⟨rfl,rfl⟩) | (go_at_call 95; refine (qdq _ _ (by omega) (by omega)).mono ?_; rintro e w' ⟨rfl,rfl⟩))
      all_goals first
        | (go_round
           case rel=>exact ⟨k+1,by omega,by go_num,Lib.hid (by rw [qan s k hlt,List.all_append,HP.out]; first | (simp [tokB,upB,loB,hd,hh]; done) | (simp [tokB,upB,loB,hd,hh]; omega) | (exfalso; rename_i hx; simp at hx; omega))⟩
           case measure=>simp [intOf]; omega)
        | (go_ret
           exact ⟨qq (jbg hlt (by simp [tokB,upB,loB,hd,hh]; try omega)),rfl⟩)
    · go_wp2
      go_ret;exact ⟨qq (by have:=HP.out; rw [qfg s k hk hlt] at this; unfold tokS; rw [this]; simp [qb2]),rfl⟩
def lowB (c:UInt8):UInt8:=if upB c.toNat then c+32 else c
def lowS (s:ByteArray):ByteArray:=⟨(s.data.toList.map lowB).toArray⟩
def qab (a b:ByteArray):Bool:=(lowS a).toList == (lowS b).toList
def qjj (w:World) (B:Nat) (l:List UInt8):Prop :=
 ∀ j (hj:j<l.length),w.cell? ⟨B,j,none⟩=some (.int .u8 (l[j].toNat:Int))∧w.frozen? ⟨B,j,none⟩=false
theorem qjj.set {w:World} {B:Nat} {l:List UInt8} (h:qjj w B l) {k:Nat} (hk:k<l.length) (c:UInt8) :
  qjj (w.setCell ⟨B,k,none⟩ (.int .u8 (c.toNat:Int))) B (l.set k c):=by
 intro j hj;have hj':j<l.length:=by simpa using hj
 obtain ⟨h1,h2⟩:=h j hj';obtain ⟨k1,_⟩:=h k hk;constructor
 · by_cases e:k=j
   · subst e
     rw [World.cell?_setCell_same _ _ _ k1]; simp
   · rw [World.cell?_setCell_other _ _ _ _ (by intro hh; apply e; cases hh; rfl)]
     rw [h1,List.getElem_set_ne e]
 · rw [← h2]; exact World.frozen?_setCell ..
theorem qhn (w:World) (s:ByteArray) (cap:Nat) :
  qjj (w.alloc (.cells (bytesRow s cap) 5 ((bytesRow s cap).size,(bytesRow s cap).size+1))).drew w.heap.size s.data.toList:=by
 intro j hj;have hj':j<s.data.size:=by simpa using hj
 constructor
 · show (w.alloc _).cell? _=_
   rw [World.cell?_alloc_mark,bytesRow_at s _ j hj']; simp
 · show (w.alloc _).frozen? _=_
   rw [World.frozen?_alloc_mark];have:j<(bytesRow s cap).size:=by
    have h:=bytesRow_at s cap j hj';exact (Array.getElem?_eq_some_iff.1 h).1
   simp; omega
def qce (s:ByteArray) (k:Nat):List UInt8:=(s.data.toList.take k).map lowB++s.data.toList.drop k
theorem qal (s:ByteArray) (k:Nat):(qce s k).length=s.size:=by
 unfold qce;have:s.data.toList.length=s.size:=by simp
 rw [List.length_append,List.length_map,List.length_take,List.length_drop]; omega
theorem qm0 (s:ByteArray) (k:Nat) (h:k<s.size):(qce s k)[k]'(by rw [qal]; exact h)=s[k]:=by
 unfold qce;have hl:((s.data.toList.take k).map lowB).length=k:=by simp; omega
 rw [List.getElem_append_right (by omega),List.getElem_drop];have e:k+(k-((s.data.toList.take k).map lowB).length)=k:=by omega
 simp only [e];show s.data.toList[k]=s.data[k]
 simp
theorem qjt (s:ByteArray) (k:Nat) (h:k<s.size):qce s (k+1)=(qce s k).set k (lowB s[k]):=by
 unfold qce;have hl:((s.data.toList.take k).map lowB).length=k:=by simp; omega
 have hd:s.data.toList.drop k=s[k] :: s.data.toList.drop (k+1):=by
  rw [List.drop_eq_getElem_cons (by simpa using h)]; rfl
 rw [hd,List.set_append_right _ _ (by omega),hl,Nat.sub_self,List.set_cons_zero,qan s k h]
 simp
theorem qlm (s:ByteArray) (k:Nat) (h:k<s.size) (hb:upB s[k].toNat=false):qce s (k+1)=qce s k:=by
 rw [qjt s k h];have:lowB s[k]=(qce s k)[k]'(by rw [qal]; exact h):=by rw [qm0 s k h]; unfold lowB; rw [hb]; rfl
 rw [this,List.set_getElem_self]
theorem qln (s:ByteArray):qce s 0=s.data.toList:=by simp [qce]
theorem qo2 (s:ByteArray) (k:Nat) (h:k≤s.size) (h2:¬ k<s.size):qce s k=(s.data.toList.map lowB):=by
 have e:k=s.size:=by omega
 unfold qce;rw [qfg s k h h2,List.drop_of_length_le (by simp; omega)]; simp
theorem qxg (c:UInt8) (h:upB c.toNat=true):((lowB c).toNat:Int)=(c.toNat:Int)-65+97:=by
 unfold lowB; rw [if_pos h];unfold upB at h; simp at h;rw [UInt8.toNat_add];have:(32:UInt8).toNat=32:=rfl;omega
theorem jbo (c:UInt8) (h:upB c.toNat=true):((lowB c).toNat:Int)=(c.toNat:Int)+32:=by
 rw [qxg c h]; omega
theorem qic (s:ByteArray) (w:World) (hs:s.size≤maxLen) :
  Calls Tryz.prog 163 #[.string s] w fun e w'=>e = .returned (.string (lowS s))∧Below w.heap.size w w':=by
 unfold maxLen at hs;have hcv:=fun (w:World) (s:ByteArray)=>run_bytes_of_string (P:=Tryz.prog) w 9 23 5 s Tryz.underlying9 Tryz.underlying23 Tryz.underlying5;go_enter Tryz.func163,Tryz.ntmps163
 go_wp2
 generalize grownCap w s.size 0 5=cap;have hn:=Lib.hid (qhn w s cap);go_loopw [10] (fun i wr=>∃ k:Nat,k≤s.size∧i = .int .i64 k∧Hid (qjj wr w.heap.size (qce s k))∧Below w.heap.size w wr) (fun i _=>s.size-(intOf i).toNat)
 case atStart=>exact ⟨0,Nat.zero_le _,rfl,Lib.hid (by rw [qln]; exact hn.out),((Below.refl _ w).alloc (Nat.le_refl _) _).drew⟩
 case round =>
  obtain ⟨k,hk,rfl,HB,hbel⟩:=hrel;by_cases hlt:k<s.size
  · obtain ⟨c1,c2⟩:=HB.out k (by rw [qal]; exact hlt)
    rw [qm0 s k hlt] at c1;have b1:(s[k].toNat:Int)≤255:=by have:=s[k].toNat_lt; omega
    by_cases hu:upB s[k].toNat=true
    · have hl:=Lib.hid (qxg s[k] hu)
      have b2:65≤(s[k].toNat:Int)∧(s[k].toNat:Int)≤90:=by unfold upB at hu; simpa using hu
      obtain ⟨b3,b4⟩:=b2;go_wp2_with (go_at_call 174; refine (qm7 _ _ (by omega) (by omega)).mono ?_; rintro e w' ⟨rfl,rfl⟩)
      go_roundw
      case rel=>exact ⟨k+1,by omega,by go_num,Lib.hid (by rw [qjt s k hlt]; have:=HB.out.set (by rw [qal]; exact hlt) (lowB s[k]); rw [hl.out] at this; exact this),hbel.setCell (by simp) _⟩
      case measure=>simp [intOf]; omega
    · have hu':upB s[k].toNat=false:=by simpa using hu
      clear hu;go_wp2_with (go_at_call 174; refine (qm7 _ _ (by omega) (by omega)).mono ?_; rintro e w' ⟨rfl,rfl⟩)
      go_roundw
      case rel=>exact ⟨k+1,by omega,by go_num,Lib.hid (by rw [qlm s k hlt hu']; exact HB.out),hbel⟩
      case measure=>simp [intOf]; omega
  · have hback:=run_convert_bytes_back (P:=Tryz.prog) wr 23 9 5 ⟨w.heap.size,0,none⟩ cap (qce s k) Tryz.underlying23 Tryz.underlying5 Tryz.underlying9 (fun j hj=>by
     rw [Addr.add_lit,Nat.zero_add]; exact (HB.out j hj).1)
    rw [qal] at hback;go_wp2
    go_ret;exact ⟨qb6 (by rw [qo2 s k hk hlt]; rfl),hbel⟩
theorem qkk (s:ByteArray) (w:World) (hs:s.size≤maxLen) :
  Calls Tryz.prog 118 #[.string s] w fun e w'=>e = .returned (.string (lowS s))∧Below w.heap.size w w':=by
 unfold maxLen at hs;have hcv:=fun (w:World) (s:ByteArray)=>run_bytes_of_string (P:=Tryz.prog) w 9 23 5 s Tryz.underlying9 Tryz.underlying23 Tryz.underlying5;go_enter Tryz.func118,Tryz.ntmps118
 go_wp2
 generalize grownCap w s.size 0 5=cap;have hn:=Lib.hid (qhn w s cap);go_loopw [4] (fun i wr=>∃ k:Nat,k≤s.size∧i = .int .i64 k∧Hid (qjj wr w.heap.size (qce s k))∧Below w.heap.size w wr) (fun i _=>s.size-(intOf i).toNat)
 case atStart=>exact ⟨0,Nat.zero_le _,rfl,Lib.hid (by rw [qln]; exact hn.out),((Below.refl _ w).alloc (Nat.le_refl _) _).drew⟩
 case round =>
  obtain ⟨k,hk,rfl,HB,hbel⟩:=hrel;by_cases hlt:k<s.size
  · obtain ⟨c1,c2⟩:=HB.out k (by rw [qal]; exact hlt)
    rw [qm0 s k hlt] at c1;have b1:(s[k].toNat:Int)≤255:=by have:=s[k].toNat_lt; omega
    by_cases hu:upB s[k].toNat=true
    · have hl:=Lib.hid (jbo s[k] hu)
      have b2:65≤(s[k].toNat:Int)∧(s[k].toNat:Int)≤90:=by unfold upB at hu; simpa using hu
      obtain ⟨b3,b4⟩:=b2;have HU:=Lib.hid hu; clear hu;go_wp2
      go_roundw
      case rel=>exact ⟨k+1,by omega,by go_num,Lib.hid (by rw [qjt s k hlt]; have:=HB.out.set (by rw [qal]; exact hlt) (lowB s[k]); rw [hl.out] at this; exact this),hbel.setCell (by simp) _⟩
      case measure=>simp [intOf]; omega
    · have hu':upB s[k].toNat=false:=by simpa using hu
      clear hu;have HU:=Lib.hid hu';have b2:(s[k].toNat:Int)<65∨90<(s[k].toNat:Int):=by unfold upB at hu'; simp at hu'; omega
      clear hu';rcases b2 with b2 | b2
      all_goals
       go_wp2
       go_roundw
       case rel=>exact ⟨k+1,by omega,by go_num,Lib.hid (by rw [qlm s k hlt HU.out]; exact HB.out),hbel⟩
       case measure=>simp [intOf]; omega
  · have hback:=run_convert_bytes_back (P:=Tryz.prog) wr 23 9 5 ⟨w.heap.size,0,none⟩ cap (qce s k) Tryz.underlying23 Tryz.underlying5 Tryz.underlying9 (fun j hj=>by
     rw [Addr.add_lit,Nat.zero_add]; exact (HB.out j hj).1)
    rw [qal] at hback;go_wp2
    go_ret;exact ⟨qb6 (by rw [qo2 s k hk hlt]; rfl),hbel⟩
end Go.Proofs.YtflhjpokjdjbpaaGreatDoor
namespace Go.Proofs.YtflhjpokjdjbpaaGreatDoor
open Go
def jbz:List UInt8:=[32,9]
def blankB (c:UInt8):Bool:=jbz.contains c
def qcz (p:UInt8→Bool) (l:List UInt8):List UInt8:=(l.reverse.dropWhile p).reverse
theorem qjq (p:UInt8→Bool) (a:UInt8) (t:List UInt8):qcz p (a :: t)=if (qcz p t).isEmpty then [a].dropWhile p else a :: qcz p t:=by
 unfold qcz;rw [List.reverse_cons,List.dropWhile_append];have:(t.reverse.dropWhile p).reverse.isEmpty=(t.reverse.dropWhile p).isEmpty:=by simp
 rw [this]
 split
 · cases h:p a <;> simp [List.dropWhile,h]
 · simp
theorem qle (p:UInt8→Bool):∀ t:List UInt8,(qcz p t).isEmpty=t.all p
 | []=>rfl
 | a :: t=>by
  rw [qjq,List.all_cons,qle p t];cases ht:t.all p <;> cases h:p a <;> simp [List.dropWhile,h]
theorem qj2 (p:UInt8→Bool):∀ t:List UInt8,t.all p=true→t.dropWhile p=[]
 | [],_=>rfl
 | a :: t,h=>by
  rw [List.all_cons,Bool.and_eq_true] at h;rw [List.dropWhile_cons,if_pos h.1]; exact qj2 p t h.2
theorem qet (p:UInt8→Bool):∀ l:List UInt8,(qcz p l).dropWhile p=qcz p (l.dropWhile p)
 | []=>rfl
 | a :: t=>by
  cases h:p a
  · have e:(a :: t).dropWhile p=a :: t:=by rw [List.dropWhile_cons,if_neg (by simp [h])]
    rw [e,qjq]
    split
    · simp [List.dropWhile,h]
    · rw [List.dropWhile_cons,if_neg (by simp [h])]
  · have e:(a :: t).dropWhile p=t.dropWhile p:=by rw [List.dropWhile_cons,if_pos h]
    rw [e,qjq,qle]
    split
    · rename_i ht
      rw [qj2 p t ht]; simp [List.dropWhile,h,qcz]
    · rw [List.dropWhile_cons,if_pos h]; exact qet p t
theorem qef (p:UInt8→Bool):∀ l:List UInt8,(l.dropWhile p).dropWhile p=l.dropWhile p
 | []=>rfl
 | a :: t=>by
  cases h:p a
  · rw [List.dropWhile_cons,if_neg (by simp [h]),List.dropWhile_cons,if_neg (by simp [h])]
  · rw [List.dropWhile_cons,if_pos h]; exact qef p t
theorem qz3 (p:UInt8→Bool) (l:List UInt8):qcz p (qcz p l)=qcz p l:=by
 unfold qcz; rw [List.reverse_reverse,qef]
def qeb (l:List UInt8):List UInt8:=(qcz blankB l).dropWhile blankB
theorem qyd (l:List UInt8):qeb (qeb l)=qeb l:=by
 unfold qeb;rw [qet,qef,← qet,qz3]
theorem qw7 (l:List UInt8) (c:UInt8) (h:blankB c=true):qeb (c :: l)=qeb l:=by
 unfold qeb; rw [qet,qet,List.dropWhile_cons,if_pos h]
theorem qd8 (p:UInt8→Bool):∀ l:List UInt8,(l.dropWhile p).length≤l.length
 | []=>Nat.le_refl _
 | a :: t=>by
  rw [List.dropWhile_cons]; split
  · have:=qd8 p t; simp; omega
  · exact Nat.le_refl _
theorem qtk (l:List UInt8):(qeb l).length≤l.length:=by
 unfold qeb;have h1:=qd8 blankB (qcz blankB l);have h2:(qcz blankB l).length≤l.length:=by
  unfold qcz; rw [List.length_reverse]; have:=qd8 blankB l.reverse; simpa using this
 omega
def jf (s:ByteArray):ByteArray:=⟨(qeb s.data.toList).toArray⟩
theorem qbs (s:ByteArray):(jf s).data.toList=qeb s.data.toList:=by simp [jf]
theorem qbv (s:ByteArray):(jf s).size≤s.size:=by
 have:=qtk s.data.toList;have h1:(jf s).size=(qeb s.data.toList).length:=by show (jf s).data.size=_; simp [jf]
 have h2:s.size=s.data.toList.length:=by simp
 omega
theorem qd5 {a b:ByteArray} (h:a.data.toList=b.data.toList):a=b:=by
 cases a; cases b; simp at h; simp [h]
theorem qvw (s:ByteArray):jf (jf s)=jf s:=qd5 (by rw [qbs,qbs,qyd])
theorem jbh (t:ByteArray) (h:0<t.size) (hb:blankB t[0]=true):(t.extract 1 t.size).data.toList.dropWhile blankB=t.data.toList.dropWhile blankB:=by
 rw [Lib.extract_to_end];have e:t.data.toList=t[0] :: t.data.toList.drop 1:=by
  have:0<t.data.toList.length:=by simpa using h
  rw [← List.drop_zero (l:=t.data.toList),List.drop_eq_getElem_cons this]; simp; rfl
 conv=>rhs; rw [e]
 rw [List.dropWhile_cons,if_pos hb]
theorem jdt (t:ByteArray) (hb:∀ h:0<t.size,blankB t[0]=false):t.data.toList.dropWhile blankB=t.data.toList:=by
  by_cases h:0<t.size
  · have e : t.data.toList = t[0] :: t.data.toList.drop 1 := by
      have:0<t.data.toList.length:=by simpa using h
      rw [← List.drop_zero (l:=t.data.toList),List.drop_eq_getElem_cons this]; simp; rfl
    rw [e,List.dropWhile_cons,if_neg (by simp [hb h])]
  · have : t.data.toList = [] := by apply List.eq_nil_of_length_eq_zero; have hl : t.data.toList.length = t.size := by simp
                                    omega
    rw [this]; rfl
theorem qup (t:ByteArray) (h:0<t.size):t.data.toList=t.data.toList.take (t.size-1)++[t[t.size-1]]:=by
 have h1:t.size-1<t.data.toList.length:=by simp; omega
 have:t.data.toList.take (t.size-1+1)=t.data.toList:=by rw [List.take_of_length_le]; simp; omega
 rw [List.take_succ_eq_append_getElem h1] at this;exact this.symm
theorem qyw (t:ByteArray) (h:0<t.size) (hb:blankB t[t.size-1]=true):qcz blankB (t.extract 0 (t.size-1)).data.toList=qcz blankB t.data.toList:=by
 rw [Lib.extract_from_zero]
 conv=>rhs; rw [qup t h]
 unfold qcz;rw [List.reverse_append]; simp only [List.reverse_cons,List.reverse_nil,List.nil_append,List.cons_append];rw [List.dropWhile_cons,if_pos hb]
theorem jaq (t:ByteArray) (hb:∀ h:0<t.size,blankB t[t.size-1]=false):qcz blankB t.data.toList=t.data.toList:=by
  by_cases h:0<t.size
  · conv=>lhs; rw [qup t h]
    unfold qcz;rw [List.reverse_append]; simp only [List.reverse_cons,List.reverse_nil,List.nil_append,List.cons_append];rw [List.dropWhile_cons,if_neg (by simp [hb h])];rw [List.reverse_cons,List.reverse_reverse]; exact (qup t h).symm
  · have : t.data.toList = [] := by apply List.eq_nil_of_length_eq_zero; have hl : t.data.toList.length = t.size := by simp
                                    omega
    rw [this]; rfl
end Go.Proofs.YtflhjpokjdjbpaaGreatDoor
namespace Go.Proofs.YtflhjpokjdjbpaaGreatDoor
open Go.RowKit
theorem qbk {w:World} {a:Addr} {v:Value} (h:w.cell? a=some v):a.block<w.heap.size:=by
 rcases Nat.lt_or_ge a.block w.heap.size with h' | h'
 · exact h'
 · simp [World.cell?,Array.getElem?_eq_none h'] at h
theorem qe {w w1 w2:World} (h:Below w.heap.size w w1) (k:Below w1.heap.size w1 w2):Below w.heap.size w w2:=h.trans (k.mono h.size)
theorem qp {w w':World} (h:Below w.heap.size w w') {a:Addr} {v:Value} (hc:w.cell? a=some v):w'.cell? a=some v:=by
 rw [h.cell (qbk hc)]; exact hc
def ky (w:World) (a:Option Addr) (l:List ByteArray):Prop :=
 ∀ j (hj:j<l.length),∃ b off,a=some ⟨b,off,none⟩∧w.cell? ⟨b,off+j,none⟩=some (.string l[j])
theorem ky.keep {w w':World} {a:Option Addr} {l:List ByteArray} (h:ky w a l) (hb:Below w.heap.size w w'):ky w' a l:=fun j hj=>by
 obtain ⟨b,off,e,hc⟩:=h j hj;exact ⟨b,off,e,qp hb hc⟩
theorem ky.nil (w:World) (a:Option Addr):ky w a []:=fun _ hj=>absurd hj (Nat.not_lt_zero _)
def qhk (w:World) (l:List ByteArray) (e:Ending) (w':World):Prop :=
 ∃ a cap,e = .returned (.slice a l.length cap)∧ky w' a l∧Below w.heap.size w w'
def qxf (w:World) (l:List ByteArray) (e:Ending) (w':World):Prop :=
 ∃ g cap,e = .returned (.slice (some ⟨g,0,none⟩) l.length cap)∧w.heap.size≤g∧g<w'.heap.size∧ky w' (some ⟨g,0,none⟩) l∧Below w.heap.size w w'
theorem Tryz.info9:(Tryz.prog.info? 9).map (fun i=>(i.zero,i.size,i.bytes))=some (some (.string ⟨#[]⟩),1,16):=by kernel_rfl
def Acc (w0 w:World) (v:Value) (l:List ByteArray):Prop :=
 w.ownsRow w0.heap.size 9 1 v l.length (l.map Value.string)∧Below w0.heap.size w0 w
def qlr (w:World) (v:Value) (P:Nat) (parts:List ByteArray):Prop :=
 ky w (some ⟨P,0,none⟩) parts∧v.ownBlock≠some P∧P<w.heap.size
theorem Acc.start (w:World):Acc w w (.slice none 0 0) []:=⟨World.ownsRow_nil _ _ _ _,Below.refl _ _⟩
theorem qg7 {w w':World} {base:Nat} {e:TypeId} {size n:Nat} {v:Value} {xs:List Value} (h:w.ownsRow base e size v n xs) (hb:Below w.heap.size w w'):w'.ownsRow base e size v n xs:=by
 obtain ⟨h1,h2⟩:=h;refine ⟨h1,?_⟩;rcases h2 with h2 | ⟨g,cap,cur,hv,hg,hc,r⟩
 · exact .inl h2
 · have hlt:g<w.heap.size:=by
    rcases Nat.lt_or_ge g w.heap.size with h' | h'
    · exact h'
    · rw [Array.getElem?_eq_none h'] at hc; cases hc
   exact .inr ⟨g,cap,cur,hv,hg,by rw [hb.block g hlt]; exact hc,r⟩
theorem Acc.keep {w0 w w':World} {v:Value} {l:List ByteArray} (h:Acc w0 w v l) (hb:Below w.heap.size w w'):Acc w0 w' v l :=
 ⟨qg7 h.1 hb,h.2.trans (hb.mono h.2.size)⟩
theorem qlr.keep {w w':World} {v:Value} {P:Nat} {parts:List ByteArray} (h:qlr w v P parts) (hb:Below w.heap.size w w'):qlr w' v P parts :=
 ⟨h.1.keep hb,h.2.1,Nat.lt_of_lt_of_le h.2.2 hb.size⟩
theorem Acc.lt {w0 w:World} {v:Value} {l:List ByteArray} (h:Acc w0 w v l) {k:Nat} (hk:v.ownBlock=some k):k<w.heap.size:=(World.ownsRow.lt h.1 k hk).2
theorem qlr.fresh {w0 w w':World} {v:Value} {l:List ByteArray} (h:Acc w0 w v l) {P:Nat} {parts:List ByteArray} (hP:w.heap.size≤P) (hlt:P<w'.heap.size) (hs:ky w' (some ⟨P,0,none⟩) parts):qlr w' v P parts :=
 ⟨hs,fun e=>by have:=h.lt e; omega,hlt⟩
theorem Acc.shape {w0 w:World} {v:Value} {l:List ByteArray} (h:Acc w0 w v l):∃ a cap,v = .slice a l.length cap∧ky w a l:=by
 obtain ⟨⟨h1,h2⟩,_⟩:=h;rcases h2 with ⟨rfl,h2⟩ | ⟨g,cap,cur,rfl,hg,hc,hcap,hm,hsz,ht⟩
 · have:l=[]:=List.eq_nil_of_length_eq_zero h2
   subst this;exact ⟨none,0,rfl,ky.nil _ _⟩
 · refine ⟨_,cap,rfl,fun j hj=>⟨g,0,rfl,?_⟩⟩
   have e:cur.toList[j]? = some (Value.string l[j]):=by
    have:=congrArg (fun x=>x[j]?) ht;simp only [Nat.mul_one] at this;rw [List.getElem?_take_of_lt hj,List.getElem?_map,List.getElem?_eq_getElem hj] at this;exact this
   simp only [World.cell?,hc,Nat.zero_add];simpa using e
def qo9 (w:World) (l:List ByteArray) (e:Ending) (w':World):Prop:=∃ v,e = .returned v∧Acc w w' v l
theorem qo9.strs {w w':World} {l:List ByteArray} {e:Ending} (h:qo9 w l e w'):qhk w l e w':=by
 obtain ⟨v,he,h⟩:=h;obtain ⟨a,cap,rfl,hs⟩:=h.shape;exact ⟨a,cap,he,hs,h.2⟩
theorem Acc.lift {w w1 w2:World} {v:Value} {l:List ByteArray} (h:Below w.heap.size w w1) (k:Acc w1 w2 v l):Acc w w2 v l:=by
 refine ⟨?_,qe h k.2⟩;obtain ⟨⟨h1,h2⟩,_⟩:=k;refine ⟨h1,?_⟩;rcases h2 with h2 | ⟨g,cap,cur,hv,hg,r⟩
 · exact .inl h2
 · exact .inr ⟨g,cap,cur,hv,Nat.le_trans h.size hg,r⟩
theorem Acc.isNew {w0 w:World} {v:Value} {l:List ByteArray} (h:Acc w0 w v l) (hne:l≠[]):∃ g cap,v = .slice (some ⟨g,0,none⟩) l.length cap∧w0.heap.size≤g∧g<w.heap.size∧ky w (some ⟨g,0,none⟩) l:=by
 obtain ⟨a,cap,hv,hs⟩:=h.shape;have hpos:0<l.length:=by cases l with
  | nil=>exact absurd rfl hne
  | cons _ _=>simp
 obtain ⟨⟨h1,h2⟩,hb⟩:=h;rcases h2 with ⟨_,h2⟩ | ⟨g,cap',cur,hv',hg,hc,_⟩
 · omega
 · rw [hv] at hv'; cases hv'
   have hlt:g<w.heap.size:=by
    rcases Nat.lt_or_ge g w.heap.size with h' | h'
    · exact h'
    · rw [Array.getElem?_eq_none h'] at hc; cases hc
   exact ⟨g,cap,hv,hg,hlt,hs⟩
section
variable {ops:Array Oper} {rest:List Oper} {o:Oper} {act:Act} {Q:Exit→Act→World→Prop}
theorem qa7 (w:World) (hgd:o.guard=none) (s x:Operand) (ho:o.op = .call { callee:=.builtin .append,args:=#[s,x],argTypes:=#[57,57] })
  {w0:World} {v:Value} {l:List ByteArray} (hs:act.eval s=v) (h:Acc w0 w v l) {b c:Nat} (hx:act.eval x = .slice (some ⟨b,0,none⟩) 1 c) {y:ByteArray} (hy:w.cell? ⟨b,0,none⟩=some (.string y))
  (hn:l.length+1≤8796093022208)
  (K:∀ g cap w',Acc w0 w' (.slice (some ⟨g,0,none⟩) (l.length+1) cap) (l++[y])→(∀ P parts,qlr w v P parts→qlr w' (.slice (some ⟨g,0,none⟩) (l.length+1) cap) P parts) →
   wpList Tryz.prog ops Q rest (act.put o.dst (.slice (some ⟨g,0,none⟩) (l.length+1) cap)) w'):wpList Tryz.prog ops Q (o :: rest) act w:=by
 obtain ⟨i0,hi,hz0,hz1,hz2⟩:=info_parts Tryz.info9;refine wpList_append_lies w hgd s x 57 ho w0.heap.size 9 i0 (.string ⟨#[]⟩) 1 16 Tryz.underlying57 hi hz0 hz1 hz2 rfl (by decide) v l.length (l.map Value.string) hs h.1 ⟨b,0,none⟩ 1 c [.string y] hx rfl ?_ ?_ (by decide) (by unfold maxLen; omega) (by omega) h.2.size w.heap.size rfl ?_
 · intro j u hj
   match j,hj with
   | 0,hj=>simp at hj; subst hj; rw [Addr.add_lit]; exact hy
   | j+1,hj=>simp at hj
 · intro u hu; simp at hu; subst hu; rfl
 · intro g cap w' hown hgrow hg hlt
   have hacc:Acc w0 w' (.slice (some ⟨g,0,none⟩) (l.length+1) cap) (l++[y]):=by
    refine ⟨by simpa using hown,h.2.grown hgrow h.2.size fun k hk=>?_⟩;exact (World.ownsRow.lt h.1 k hk).1
   refine K g cap w' hacc (fun P parts hP=>⟨fun j hj=>?_,?_,?_⟩)
   · obtain ⟨b',off,e,hc⟩:=hP.1 j hj
     cases e
     exact ⟨P,0,rfl,hgrow.cell hc (fun e=>hP.2.1 e.symm)⟩
   · intro e
     have:g=P:=by simpa [Value.ownBlock] using e
     subst this;rcases hg with hg | hg
     · exact hP.2.1 hg
     · have:=hP.2.2; omega
   · exact Nat.lt_of_lt_of_le hP.2.2 hgrow.size
end
end Go.Proofs.YtflhjpokjdjbpaaGreatDoor
namespace Go.Proofs
open Go.Shelf
def Tryz.lays160_ren:Go.Shelf.Ren:=⟨fun | 160=>172 | 232=>186 | 231=>185 | 227=>187 | 234=>189 | 233=>188 | 236=>191 | 235=>190 | 228=>196 | 271=>198 | 151=>197 | 197=>171 | 120=>200 | 152=>199 | 260=>184 | 137=>175 | 119=>201 | 224=>105 | 225=>182 | 217=>181 | 266=>194 | n=>n,fun | 9=>9 | 4=>4 | 3=>3 | 5=>5 | 117=>192 | 116=>191 | 0=>0 | 124=>195 | 21=>21 | 105=>184 | 46=>58 | 119=>197 | 139=>200 | 138=>199 | n=>n,fun | 3=>1 | 4=>2 | n=>n⟩
theorem Tryz.lays160:Go.Proofs.Lays.n160 Tryz.prog Tryz.lays160_ren:={
 mixed:=by kernel_rfl
 f119:=Tryz.func201.trans (congrArg some (by kernel_rfl))
 f120:=Tryz.func200.trans (congrArg some (by kernel_rfl))
 f137:=Tryz.func175.trans (congrArg some (by kernel_rfl))
 f151:=Tryz.func197.trans (congrArg some (by kernel_rfl))
 f152:=Tryz.func199.trans (congrArg some (by kernel_rfl))
 f160:=Tryz.func172.trans (congrArg some (by kernel_rfl))
 f197:=Tryz.func171.trans (congrArg some (by kernel_rfl))
 f217:=Tryz.func181.trans (congrArg some (by kernel_rfl))
 f224:=Tryz.func105.trans (congrArg some (by kernel_rfl))
 f225:=Tryz.func182.trans (congrArg some (by kernel_rfl))
 f227:=Tryz.func187.trans (congrArg some (by kernel_rfl))
 f228:=Tryz.func196.trans (congrArg some (by kernel_rfl))
 f231:=Tryz.func185.trans (congrArg some (by kernel_rfl))
 f232:=Tryz.func186.trans (congrArg some (by kernel_rfl))
 f233:=Tryz.func188.trans (congrArg some (by kernel_rfl))
 f234:=Tryz.func189.trans (congrArg some (by kernel_rfl))
 f235:=Tryz.func190.trans (congrArg some (by kernel_rfl))
 f236:=Tryz.func191.trans (congrArg some (by kernel_rfl))
 f260:=Tryz.func184.trans (congrArg some (by kernel_rfl))
 f266:=Tryz.func194.trans (congrArg some (by kernel_rfl))
 f271:=Tryz.func198.trans (congrArg some (by kernel_rfl))
 t0:=Tryz.underlying0
 a0:=Tryz.isAgg0
 z0:=Tryz.sizeOf0
 v0:=Tryz.zeroValue0
 t3:=Tryz.underlying3
 a3:=Tryz.isAgg3
 z3:=Tryz.sizeOf3
 v3:=Tryz.zeroValue3
 t4:=Tryz.underlying4
 a4:=Tryz.isAgg4
 z4:=Tryz.sizeOf4
 v4:=Tryz.zeroValue4
 t5:=Tryz.underlying5
 a5:=Tryz.isAgg5
 z5:=Tryz.sizeOf5
 v5:=Tryz.zeroValue5
 t9:=Tryz.underlying9
 a9:=Tryz.isAgg9
 z9:=Tryz.sizeOf9
 v9:=Tryz.zeroValue9
 t21:=Tryz.underlying21
 a21:=Tryz.isAgg21
 z21:=Tryz.sizeOf21
 v21:=Tryz.zeroValue21
 t46:=Tryz.underlying58
 a46:=Tryz.isAgg58
 z46:=Tryz.sizeOf58
 v46:=Tryz.zeroValue58
 t105:=Tryz.underlying184
 a105:=Tryz.isAgg184
 z105:=Tryz.sizeOf184
 v105:=Tryz.zeroValue184
 t116:=Tryz.underlying191
 a116:=Tryz.isAgg191
 z116:=Tryz.sizeOf191
 t117:=Tryz.underlying192
 a117:=Tryz.isAgg192
 z117:=Tryz.sizeOf192
 v117:=Tryz.zeroValue192
 t119:=Tryz.underlying197
 a119:=Tryz.isAgg197
 z119:=Tryz.sizeOf197
 t124:=Tryz.underlying195
 a124:=Tryz.isAgg195
 z124:=Tryz.sizeOf195
 v124:=Tryz.zeroValue195
 t138:=Tryz.underlying199
 a138:=Tryz.isAgg199
 z138:=Tryz.sizeOf199
 v138:=Tryz.zeroValue199
 t139:=Tryz.underlying200
 a139:=Tryz.isAgg200
 z139:=Tryz.sizeOf200
 v139:=Tryz.zeroValue200
 g3:=by kernel_rfl
 g4:=by kernel_rfl }
def Tryz.lays146_ren:Go.Shelf.Ren:=⟨fun | 146=>165 | 221=>135 | 268=>156 | 138=>134 | 143=>155 | 195=>153 | 197=>171 | 218=>154 | 219=>170 | 260=>184 | 217=>181 | 225=>182 | 224=>105 | 267=>183 | 266=>194 | 314=>195 | n=>n,fun | 9=>9 | 31=>57 | 3=>3 | 4=>4 | 0=>0 | 105=>184 | 21=>21 | 5=>5 | 46=>58 | 119=>197 | 139=>200 | 138=>199 | 146=>156 | 51=>155 | n=>n,fun | 1=>0 | 3=>1 | 4=>2 | n=>n⟩
theorem Tryz.lays146:Go.Proofs.Lays.n146 Tryz.prog Tryz.lays146_ren:={
 mixed:=by kernel_rfl
 f138:=Tryz.func134.trans (congrArg some (by kernel_rfl))
 f143:=Tryz.func155.trans (congrArg some (by kernel_rfl))
 f146:=Tryz.func165.trans (congrArg some (by kernel_rfl))
 f195:=Tryz.func153.trans (congrArg some (by kernel_rfl))
 f197:=Tryz.func171.trans (congrArg some (by kernel_rfl))
 f217:=Tryz.func181.trans (congrArg some (by kernel_rfl))
 f218:=Tryz.func154.trans (congrArg some (by kernel_rfl))
 f219:=Tryz.func170.trans (congrArg some (by kernel_rfl))
 f221:=Tryz.func135.trans (congrArg some (by kernel_rfl))
 f224:=Tryz.func105.trans (congrArg some (by kernel_rfl))
 f225:=Tryz.func182.trans (congrArg some (by kernel_rfl))
 f260:=Tryz.func184.trans (congrArg some (by kernel_rfl))
 f266:=Tryz.func194.trans (congrArg some (by kernel_rfl))
 f267:=Tryz.func183.trans (congrArg some (by kernel_rfl))
 f268:=Tryz.func156.trans (congrArg some (by kernel_rfl))
 f314:=Tryz.func195.trans (congrArg some (by kernel_rfl))
 t0:=Tryz.underlying0
 a0:=Tryz.isAgg0
 z0:=Tryz.sizeOf0
 v0:=Tryz.zeroValue0
 t3:=Tryz.underlying3
 a3:=Tryz.isAgg3
 z3:=Tryz.sizeOf3
 v3:=Tryz.zeroValue3
 t4:=Tryz.underlying4
 a4:=Tryz.isAgg4
 z4:=Tryz.sizeOf4
 v4:=Tryz.zeroValue4
 t5:=Tryz.underlying5
 a5:=Tryz.isAgg5
 z5:=Tryz.sizeOf5
 v5:=Tryz.zeroValue5
 t9:=Tryz.underlying9
 a9:=Tryz.isAgg9
 z9:=Tryz.sizeOf9
 v9:=Tryz.zeroValue9
 t21:=Tryz.underlying21
 a21:=Tryz.isAgg21
 z21:=Tryz.sizeOf21
 v21:=Tryz.zeroValue21
 t31:=Tryz.underlying57
 a31:=Tryz.isAgg57
 z31:=Tryz.sizeOf57
 v31:=Tryz.zeroValue57
 t46:=Tryz.underlying58
 a46:=Tryz.isAgg58
 z46:=Tryz.sizeOf58
 v46:=Tryz.zeroValue58
 t51:=Tryz.underlying155
 a51:=Tryz.isAgg155
 z51:=Tryz.sizeOf155
 v51:=Tryz.zeroValue155
 t105:=Tryz.underlying184
 a105:=Tryz.isAgg184
 z105:=Tryz.sizeOf184
 v105:=Tryz.zeroValue184
 t119:=Tryz.underlying197
 a119:=Tryz.isAgg197
 z119:=Tryz.sizeOf197
 t138:=Tryz.underlying199
 a138:=Tryz.isAgg199
 z138:=Tryz.sizeOf199
 v138:=Tryz.zeroValue199
 t139:=Tryz.underlying200
 a139:=Tryz.isAgg200
 z139:=Tryz.sizeOf200
 v139:=Tryz.zeroValue200
 t146:=Tryz.underlying156
 a146:=Tryz.isAgg156
 z146:=Tryz.sizeOf156
 v146:=Tryz.zeroValue156
 g1:=by kernel_rfl
 g3:=by kernel_rfl
 g4:=by kernel_rfl }
def Tryz.laysM147_ren:Go.Shelf.Ren:=⟨fun | 147=>122 | 221=>135 | 268=>156 | 138=>134 | 143=>155 | 195=>153 | 197=>171 | 218=>154 | 219=>170 | 260=>184 | 217=>181 | 225=>182 | 224=>105 | 267=>183 | 266=>194 | 314=>195 | n=>n,fun | 9=>9 | 3=>3 | 31=>57 | 4=>4 | 0=>0 | 105=>184 | 21=>21 | 5=>5 | 46=>58 | 119=>197 | 139=>200 | 138=>199 | 146=>156 | 51=>155 | n=>n,fun | 1=>0 | 3=>1 | 4=>2 | n=>n⟩
theorem Tryz.laysM147:Go.Proofs.LaysM.n147 Tryz.prog Tryz.laysM147_ren:={
 mixed:=by kernel_rfl
 f138:=Tryz.func134.trans (congrArg some (by kernel_rfl))
 f143:=Tryz.func155.trans (congrArg some (by kernel_rfl))
 f147:=Tryz.func122.trans (congrArg some (by kernel_rfl))
 f195:=Tryz.func153.trans (congrArg some (by kernel_rfl))
 f197:=Tryz.func171.trans (congrArg some (by kernel_rfl))
 f217:=Tryz.func181.trans (congrArg some (by kernel_rfl))
 f218:=Tryz.func154.trans (congrArg some (by kernel_rfl))
 f219:=Tryz.func170.trans (congrArg some (by kernel_rfl))
 f221:=Tryz.func135.trans (congrArg some (by kernel_rfl))
 f224:=Tryz.func105.trans (congrArg some (by kernel_rfl))
 f225:=Tryz.func182.trans (congrArg some (by kernel_rfl))
 f260:=Tryz.func184.trans (congrArg some (by kernel_rfl))
 f266:=Tryz.func194.trans (congrArg some (by kernel_rfl))
 f267:=Tryz.func183.trans (congrArg some (by kernel_rfl))
 f268:=Tryz.func156.trans (congrArg some (by kernel_rfl))
 f314:=Tryz.func195.trans (congrArg some (by kernel_rfl))
 t0:=Tryz.underlying0
 a0:=Tryz.isAgg0
 z0:=Tryz.sizeOf0
 v0:=Tryz.zeroValue0
 t3:=Tryz.underlying3
 a3:=Tryz.isAgg3
 z3:=Tryz.sizeOf3
 v3:=Tryz.zeroValue3
 t4:=Tryz.underlying4
 a4:=Tryz.isAgg4
 z4:=Tryz.sizeOf4
 v4:=Tryz.zeroValue4
 t5:=Tryz.underlying5
 a5:=Tryz.isAgg5
 z5:=Tryz.sizeOf5
 v5:=Tryz.zeroValue5
 t9:=Tryz.underlying9
 a9:=Tryz.isAgg9
 z9:=Tryz.sizeOf9
 v9:=Tryz.zeroValue9
 t21:=Tryz.underlying21
 a21:=Tryz.isAgg21
 z21:=Tryz.sizeOf21
 v21:=Tryz.zeroValue21
 t31:=Tryz.underlying57
 a31:=Tryz.isAgg57
 z31:=Tryz.sizeOf57
 v31:=Tryz.zeroValue57
 t46:=Tryz.underlying58
 a46:=Tryz.isAgg58
 z46:=Tryz.sizeOf58
 v46:=Tryz.zeroValue58
 t51:=Tryz.underlying155
 a51:=Tryz.isAgg155
 z51:=Tryz.sizeOf155
 v51:=Tryz.zeroValue155
 t105:=Tryz.underlying184
 a105:=Tryz.isAgg184
 z105:=Tryz.sizeOf184
 v105:=Tryz.zeroValue184
 t119:=Tryz.underlying197
 a119:=Tryz.isAgg197
 z119:=Tryz.sizeOf197
 t138:=Tryz.underlying199
 a138:=Tryz.isAgg199
 z138:=Tryz.sizeOf199
 v138:=Tryz.zeroValue199
 t139:=Tryz.underlying200
 a139:=Tryz.isAgg200
 z139:=Tryz.sizeOf200
 v139:=Tryz.zeroValue200
 t146:=Tryz.underlying156
 a146:=Tryz.isAgg156
 z146:=Tryz.sizeOf156
 v146:=Tryz.zeroValue156
 g1:=by kernel_rfl
 g3:=by kernel_rfl
 g4:=by kernel_rfl
 i0:=by kernel_rfl
 i3:=by kernel_rfl
 i4:=by kernel_rfl
 i5:=by kernel_rfl
 i9:=by kernel_rfl
 i21:=by kernel_rfl
 i31:=by kernel_rfl
 i46:=by kernel_rfl
 i51:=by kernel_rfl
 i105:=by kernel_rfl
 i138:=by kernel_rfl
 i139:=by kernel_rfl
 i146:=by kernel_rfl
 m1:=by kernel_rfl
 s1_3:=fun w h=>Go.Proofs.cell_of_shapedOpen_int (zero:=#[.int .i64 0]) (t:=3) h (of_decide_eq_true (by kernel_rfl)) (by kernel_rfl) rfl (by kernel_rfl) (by kernel_rfl) Tryz.underlying3
 m3:=by kernel_rfl
 m4:=by kernel_rfl }
def Tryz.lays138_ren:Go.Shelf.Ren:=⟨fun | 138=>134 | 195=>153 | 218=>154 | 143=>155 | 219=>170 | 217=>181 | 225=>182 | 224=>105 | 267=>183 | 266=>194 | 314=>195 | n=>n,fun | 9=>9 | 3=>3 | 4=>4 | 5=>5 | 0=>0 | 46=>58 | 146=>156 | 51=>155 | n=>n,fun | 1=>0 | n=>n⟩
theorem Tryz.lays138:Go.Proofs.Lays.n138 Tryz.prog Tryz.lays138_ren:={
 mixed:=by kernel_rfl
 f138:=Tryz.func134.trans (congrArg some (by kernel_rfl))
 f143:=Tryz.func155.trans (congrArg some (by kernel_rfl))
 f195:=Tryz.func153.trans (congrArg some (by kernel_rfl))
 f217:=Tryz.func181.trans (congrArg some (by kernel_rfl))
 f218:=Tryz.func154.trans (congrArg some (by kernel_rfl))
 f219:=Tryz.func170.trans (congrArg some (by kernel_rfl))
 f224:=Tryz.func105.trans (congrArg some (by kernel_rfl))
 f225:=Tryz.func182.trans (congrArg some (by kernel_rfl))
 f266:=Tryz.func194.trans (congrArg some (by kernel_rfl))
 f267:=Tryz.func183.trans (congrArg some (by kernel_rfl))
 f314:=Tryz.func195.trans (congrArg some (by kernel_rfl))
 t0:=Tryz.underlying0
 a0:=Tryz.isAgg0
 z0:=Tryz.sizeOf0
 v0:=Tryz.zeroValue0
 t3:=Tryz.underlying3
 a3:=Tryz.isAgg3
 z3:=Tryz.sizeOf3
 v3:=Tryz.zeroValue3
 t4:=Tryz.underlying4
 a4:=Tryz.isAgg4
 z4:=Tryz.sizeOf4
 v4:=Tryz.zeroValue4
 t5:=Tryz.underlying5
 a5:=Tryz.isAgg5
 z5:=Tryz.sizeOf5
 v5:=Tryz.zeroValue5
 t9:=Tryz.underlying9
 a9:=Tryz.isAgg9
 z9:=Tryz.sizeOf9
 v9:=Tryz.zeroValue9
 t46:=Tryz.underlying58
 a46:=Tryz.isAgg58
 z46:=Tryz.sizeOf58
 v46:=Tryz.zeroValue58
 t51:=Tryz.underlying155
 a51:=Tryz.isAgg155
 z51:=Tryz.sizeOf155
 v51:=Tryz.zeroValue155
 t146:=Tryz.underlying156
 a146:=Tryz.isAgg156
 z146:=Tryz.sizeOf156
 v146:=Tryz.zeroValue156
 g1:=by kernel_rfl }
def Tryz.lays102_ren:Go.Shelf.Ren:=⟨fun | 102=>123 | 209=>136 | 207=>157 | n=>n,fun | 9=>9 | 4=>4 | 3=>3 | n=>n,fun | n=>n⟩
theorem Tryz.lays102:Go.Proofs.Lays.n102 Tryz.prog Tryz.lays102_ren:={
 mixed:=by kernel_rfl
 f102:=Tryz.func123.trans (congrArg some (by kernel_rfl))
 f207:=Tryz.func157.trans (congrArg some (by kernel_rfl))
 f209:=Tryz.func136.trans (congrArg some (by kernel_rfl))
 t3:=Tryz.underlying3
 a3:=Tryz.isAgg3
 z3:=Tryz.sizeOf3
 v3:=Tryz.zeroValue3
 t4:=Tryz.underlying4
 a4:=Tryz.isAgg4
 z4:=Tryz.sizeOf4
 v4:=Tryz.zeroValue4
 t9:=Tryz.underlying9
 a9:=Tryz.isAgg9
 z9:=Tryz.sizeOf9
 v9:=Tryz.zeroValue9 }
def Tryz.lays185_ren:Go.Shelf.Ren:=⟨fun | 185=>77 | 187=>102 | 115=>103 | 253=>104 | 224=>105 | 254=>106 | 255=>119 | 291=>120 | n=>n,fun | 37=>23 | 3=>3 | 4=>4 | 0=>0 | 5=>5 | 46=>58 | 9=>9 | 146=>156 | 51=>155 | n=>n,fun | 1=>0 | n=>n⟩
theorem Tryz.lays185:Go.Proofs.Lays.n185 Tryz.prog Tryz.lays185_ren:={
 mixed:=by kernel_rfl
 f115:=Tryz.func103.trans (congrArg some (by kernel_rfl))
 f185:=Tryz.func77.trans (congrArg some (by kernel_rfl))
 f187:=Tryz.func102.trans (congrArg some (by kernel_rfl))
 f224:=Tryz.func105.trans (congrArg some (by kernel_rfl))
 f253:=Tryz.func104.trans (congrArg some (by kernel_rfl))
 f254:=Tryz.func106.trans (congrArg some (by kernel_rfl))
 f255:=Tryz.func119.trans (congrArg some (by kernel_rfl))
 f291:=Tryz.func120.trans (congrArg some (by kernel_rfl))
 t0:=Tryz.underlying0
 a0:=Tryz.isAgg0
 z0:=Tryz.sizeOf0
 v0:=Tryz.zeroValue0
 t3:=Tryz.underlying3
 a3:=Tryz.isAgg3
 z3:=Tryz.sizeOf3
 v3:=Tryz.zeroValue3
 t4:=Tryz.underlying4
 a4:=Tryz.isAgg4
 z4:=Tryz.sizeOf4
 v4:=Tryz.zeroValue4
 t5:=Tryz.underlying5
 a5:=Tryz.isAgg5
 z5:=Tryz.sizeOf5
 v5:=Tryz.zeroValue5
 t9:=Tryz.underlying9
 a9:=Tryz.isAgg9
 z9:=Tryz.sizeOf9
 v9:=Tryz.zeroValue9
 t37:=Tryz.underlying23
 a37:=Tryz.isAgg23
 z37:=Tryz.sizeOf23
 v37:=Tryz.zeroValue23
 t46:=Tryz.underlying58
 a46:=Tryz.isAgg58
 z46:=Tryz.sizeOf58
 v46:=Tryz.zeroValue58
 t51:=Tryz.underlying155
 a51:=Tryz.isAgg155
 z51:=Tryz.sizeOf155
 v51:=Tryz.zeroValue155
 t146:=Tryz.underlying156
 a146:=Tryz.isAgg156
 z146:=Tryz.sizeOf156
 v146:=Tryz.zeroValue156
 g1:=by kernel_rfl }
end Go.Proofs
namespace Go.Proofs.YtflhjpokjdjbpaaGreatDoor
open Go.RowKit
theorem jd7 (a b:ByteArray) (w:World) (ha:a.size≤maxLen) (hb:b.size≤maxLen) :
  Calls Tryz.prog 145 #[.string a,.string b] w fun e w'=>e = .returned (.bool (qab a b))∧Below w.heap.size w w':=by
 go_enter Tryz.func145,Tryz.ntmps145
 go_wp2_with fail;refine (qic a _ ha).mono ?_;rintro e w1 ⟨rfl,hb1⟩;go_wp2_with fail;refine (qic b _ hb).mono ?_;rintro e w2 ⟨rfl,hb2⟩;go_wp2_with fail;go_ret;exact ⟨qq rfl,qe hb1 hb2⟩
theorem qhj (a b:ByteArray) (w:World) (ha:a.size≤maxLen) (hb:b.size≤maxLen) :
  Calls Tryz.prog 93 #[.string a,.string b] w fun e w'=>e = .returned (.bool (qab a b))∧Below w.heap.size w w':=by
 go_enter Tryz.func93,Tryz.ntmps93
 go_wp2_with fail;refine (qkk a _ ha).mono ?_;rintro e w1 ⟨rfl,hb1⟩;go_wp2_with fail;refine (qkk b _ hb).mono ?_;rintro e w2 ⟨rfl,hb2⟩;go_wp2_with fail;go_ret;exact ⟨qq rfl,qe hb1 hb2⟩
theorem qwh (s:ByteArray) (w:World) (hs:s.size≤maxLen) :
  Calls Tryz.prog 172 #[.string s,.string ⟨#[32,9]⟩] w fun e w'=>e = .returned (.string (jf s))∧Below w.heap.size w w' :=
 (Any.strings_Trim_laid Tryz.lays160 (by kernel_rfl) s ⟨#[32,9]⟩ w hs (by decide) (ascii_of_all (by decide))).mono fun _ _ ⟨he,hw⟩=>⟨he,hw⟩
theorem qiv (s:ByteArray) (w:World) (hs:s.size≤maxLen) :
  Calls Tryz.prog 158 #[.string s] w fun e w'=>e = .returned (.string (jf s))∧Below w.heap.size w w':=by
 go_enter Tryz.func158,Tryz.ntmps158
 go_wp2_with fail;refine (qwh s _ hs).mono ?_;rintro e w1 ⟨rfl,hb1⟩;go_wp2_with fail;go_ret;exact ⟨rfl,hb1⟩
theorem qil (c:UInt8) (w:World) :
  Calls Tryz.prog 97 #[.int .u8 c.toNat] w fun e w'=>e = .returned (.bool (blankB c))∧w=w':=by
 have h0:blankB c=(((c.toNat:Int) == 32) || ((c.toNat:Int) == 9)):=by
  unfold blankB jbz;rw [Bool.eq_iff_iff];simp only [List.contains_cons,List.contains_nil,Bool.or_false,Bool.or_eq_true,beq_iff_eq,← UInt8.toNat_inj];have h1:(32:UInt8).toNat=32:=rfl;have h2:(9:UInt8).toNat=9:=rfl;omega
 have H0:=Lib.hid h0;clear h0;go_enter Tryz.func97,Tryz.ntmps97
 go_wp2
 all_goals go_ret
 all_goals exact ⟨qq (by rw [H0.out]; try simp [*]),rfl⟩
def qwz:Value→Nat | .string s=>s.size | _=>0
theorem qfi (s:ByteArray) (w:World) (hs:s.size≤maxLen) :
  Calls Tryz.prog 71 #[.string s] w fun e w'=>e = .returned (.string (jf s))∧w=w':=by
 unfold maxLen at hs;go_enter Tryz.func71,Tryz.ntmps71
 go_wp2
 go_loop [0] (fun v=>∃ t:ByteArray,v = .string t∧t.size≤s.size∧Hid (t.data.toList.dropWhile blankB=s.data.toList.dropWhile blankB)) (fun v=>qwz v)
 case atStart=>exact ⟨s,rfl,Nat.le_refl _,Lib.hid rfl⟩
 case round =>
  obtain ⟨t,rfl,hts,HT⟩:=hrel;by_cases hgo:∃ h:0<t.size,blankB t[0]=true
  · obtain ⟨hlt,hb⟩:=hgo
    have HB:=Lib.hid hb;have hsz:(t.extract 1 t.size).size=t.size-1:=by simp
    have HS:=Lib.hid hsz;clear hsz;go_wp2_with (go_at_call 97; refine (qil _ _).mono ?_; rintro e w' ⟨rfl,rfl⟩)
    go_round
    case rel=>exact ⟨_,rfl,by rw [HS.out]; omega,Lib.hid (by rw [jbh t hlt HB.out]; exact HT.out)⟩
    case measure=>simp only [qwz]; rw [HS.out]; omega
  · have hE:t.data.toList=s.data.toList.dropWhile blankB:=by
     rw [← HT.out]; symm; apply jdt;intro h; by_cases hb:blankB t[0]=true
     · exact absurd ⟨h,hb⟩ hgo
     · simpa using hb
    have HE:=Lib.hid hE;clear hE HT;have hcase:¬ 0<t.size ∨ ∃ h:0<t.size,blankB t[0]=false:=by
     by_cases h:0<t.size
     · right; exact ⟨h,by by_cases hb:blankB t[0]=true; exact absurd ⟨h,hb⟩ hgo; simpa using hb⟩
     · left; exact h
    clear hgo;rcases hcase with hz | ⟨hlt,hb⟩
    all_goals
     go_wp2_with (go_at_call 97; refine (qil _ _).mono ?_; rintro e w' ⟨rfl,rfl⟩)
     go_loop [0] (fun v=>∃ t':ByteArray,v = .string t'∧t'.size≤s.size∧Hid (qcz blankB t'.data.toList=qcz blankB t.data.toList)) (fun v=>qwz v)
     case atStart=>exact ⟨t,rfl,hts,Lib.hid rfl⟩
     case round =>
      obtain ⟨t',rfl,hts',HT'⟩:=hrel;by_cases hgo:∃ h:0<t'.size,blankB t'[t'.size-1]=true
      · obtain ⟨hlt',hb'⟩:=hgo
        have HB':=Lib.hid hb';have hsz:(t'.extract 0 (t'.size-1)).size=t'.size-1:=by simp
        have HS:=Lib.hid hsz;clear hsz;go_wp2_with (go_at_call 97; refine (qil _ _).mono ?_; rintro e w' ⟨rfl,rfl⟩)
        go_round
        case rel=>exact ⟨_,rfl,by rw [HS.out]; omega,Lib.hid (by rw [qyw t' hlt' HB'.out]; exact HT'.out)⟩
        case measure=>simp only [qwz]; rw [HS.out]; omega
      · have hE':t'.data.toList=qeb s.data.toList:=by
         unfold qeb;rw [qet,← HE.out,← HT'.out]; symm; apply jaq;intro h; by_cases hb:blankB t'[t'.size-1]=true
         · exact absurd ⟨h,hb⟩ hgo
         · simpa using hb
        have HE':=Lib.hid hE';clear hE' HT';have hcase:¬ 0<t'.size ∨ ∃ h:0<t'.size,blankB t'[t'.size-1]=false:=by
         by_cases h:0<t'.size
         · right; exact ⟨h,by by_cases hb:blankB t'[t'.size-1]=true; exact absurd ⟨h,hb⟩ hgo; simpa using hb⟩
         · left; exact h
        clear hgo;rcases hcase with hz' | ⟨hlt',hb'⟩
        all_goals
         go_wp2_with (go_at_call 97; refine (qil _ _).mono ?_; rintro e w' ⟨rfl,rfl⟩)
         go_ret;exact ⟨qb6 (qd5 (by rw [qbs]; exact HE'.out)),rfl⟩
def valB (c:UInt8):Bool:=decide ((c.toNat:Int)=9) || (decide (32≤(c.toNat:Int)) && !decide ((c.toNat:Int)=127))
def visS (s:ByteArray):Bool:=s.data.toList.all valB
def valS (s:ByteArray):Bool:=visS s && ((jf s).toList == s.toList)
theorem qfy (c:UInt8) (w:World) :
  Calls Tryz.prog 192 #[.int .u8 c.toNat] w fun e w'=>e = .returned (.bool (valB c))∧w=w':=by
 go_enter Tryz.func192,Tryz.ntmps192
 go_wp2
 all_goals go_ret
 all_goals exact ⟨qq (by unfold valB; rw [Bool.eq_iff_iff]; simp; omega),rfl⟩
theorem qv3 {s:ByteArray} {k:Nat} (hlt:k<s.size) (hc:valB s[k]=false):visS s=false:=by
 unfold visS;rw [Bool.eq_false_iff]; intro h;have:=List.all_eq_true.1 h _ (qp7 s k hlt); rw [hc] at this; cases this
theorem qpx {s:ByteArray} {k:Nat} (hk:k≤s.size) (hlt:¬ k<s.size) (h:(s.data.toList.take k).all valB=true):visS s=true:=by
 rw [qfg s k hk hlt] at h; exact h
theorem qtc (s:ByteArray) (w:World) (hs0:s.size≤maxLen) :
  Calls Tryz.prog 173 #[.string s] w fun e w'=>e = .returned (.bool (valS s))∧Below w.heap.size w w':=by
 have hs:=hs0;unfold maxLen at hs;have HS0:=Lib.hid hs0;clear hs0;go_enter Tryz.func173,Tryz.ntmps173
 go_wp2
 go_loop [6] (fun i=>∃ k:Nat,k≤s.size∧i = .int .i64 k∧Hid ((s.data.toList.take k).all valB=true)) (fun i=>s.size-(intOf i).toNat)
 case atStart=>exact ⟨0,Nat.zero_le _,rfl,Lib.hid (by simp)⟩
 case round =>
  obtain ⟨k,hk,rfl,HP⟩:=hrel;by_cases hlt:k<s.size
  · by_cases hc:valB s[k]=true
    · go_wp2_with (go_at_call 192; refine (qfy _ _).mono ?_; rintro e w' ⟨rfl,rfl⟩)
      go_round
      case rel=>exact ⟨k+1,by omega,by go_num,Lib.hid (by rw [qan s k hlt,List.all_append,HP.out]; simpa using hc)⟩
      case measure=>simp [intOf]; omega
    · have hc':valB s[k]=false:=by simpa using hc
      clear hc;go_wp2_with (go_at_call 192; refine (qfy _ _).mono ?_; rintro e w' ⟨rfl,rfl⟩)
      go_ret;exact ⟨qq (by unfold valS; rw [qv3 hlt hc']; rfl),Below.refl _ _⟩
  · go_wp2_with fail
    refine (qiv s _ HS0.out).mono ?_;rintro e w1 ⟨rfl,hb1⟩;go_wp2_with fail;go_ret;exact ⟨qq (by unfold valS; rw [qpx hk hlt HP.out,Bool.true_and,Bool.beq_comm]),hb1⟩
theorem qax (s : ByteArray) (w : World) (hs : s.size ≤ maxLen) :
    Calls Tryz.prog 72 #[.string s] w fun e w'=>e = .returned (.bool (visS s))∧w=w':=by
  unfold maxLen at hs;go_enter Tryz.func72,Tryz.ntmps72
  go_wp2
  go_loop [3] (fun i=>∃ k:Nat,k≤s.size∧i = .int .i64 k∧Hid ((s.data.toList.take k).all valB=true)) (fun i=>s.size-(intOf i).toNat)
  case atStart=>exact ⟨0,Nat.zero_le _,rfl,Lib.hid (by simp)⟩
  case round =>
    obtain ⟨k,hk,rfl,HP⟩:=hrel;by_cases hlt:k<s.size
    · have b1:(s[k].toNat:Int)≤255:=by have:=s[k].toNat_lt; omega
      have hcase : Hid (valB s[k] = true) ∧ (s[k].toNat : Int) = 9 ∨ Hid (valB s[k] = true) ∧ ¬ (s[k].toNat : Int) = 9 ∧ 32 ≤ (s[k].toNat : Int) ∧ ¬ (s[k].toNat : Int) = 127
          ∨ Hid (valB s[k]=false)∧¬ (s[k].toNat:Int)=9∧(s[k].toNat:Int)<32∨Hid (valB s[k]=false)∧(s[k].toNat:Int)=127:=by
        unfold Hid valB;by_cases h9:(s[k].toNat:Int)=9 <;> by_cases h32:32≤(s[k].toNat:Int) <;> by_cases h127:(s[k].toNat:Int)=127 <;> simp [h9,h32,h127] <;> omega
      rcases hcase with ⟨HC,h9⟩ | ⟨HC,h9,h32,h127⟩ | ⟨HC,h9,h32⟩ | ⟨HC,h127⟩
      all_goals try have n9:((s[k].toNat:Int) != 9)=true:=by rw [bne_iff_ne]; omega
      all_goals try have e127:((s[k].toNat:Int) == 127)=false:=by rw [beq_eq_false_iff_ne]; omega
      all_goals
        go_wp2
        first
        | (go_round
           case rel=>exact ⟨k+1,by omega,by go_num,Lib.hid (by rw [qan s k hlt,List.all_append,HP.out]; have:=HC.out; simpa using this)⟩
           case measure=>simp [intOf]; omega)
        | (go_ret
           exact ⟨qq (qv3 hlt HC.out).symm,rfl⟩)
    · go_wp2
      go_ret;exact ⟨qq (qpx hk hlt HP.out).symm,rfl⟩
theorem qty (s:ByteArray) (w:World) (hs:s.size≤maxLen) :
  Calls Tryz.prog 98 #[.string s] w fun e w'=>e = .returned (.bool (valS s))∧w=w':=by
 go_enter Tryz.func98,Tryz.ntmps98
 by_cases hv:visS s=true
 · go_wp2_with fail
   refine (qax s _ hs).mono ?_;rintro e w1 ⟨rfl,rfl⟩;go_wp2_with fail;refine (qfi s _ hs).mono ?_;rintro e w1 ⟨rfl,rfl⟩;go_wp2_with fail;go_ret;exact ⟨qq (by unfold valS; rw [hv,Bool.true_and]),rfl⟩
 · have hv':visS s=false:=by simpa using hv
   clear hv;go_wp2_with fail;refine (qax s _ hs).mono ?_;rintro e w1 ⟨rfl,rfl⟩;go_wp2_with fail;go_ret;exact ⟨qq (by unfold valS; rw [hv']; rfl),rfl⟩
end Go.Proofs.YtflhjpokjdjbpaaGreatDoor
namespace Go.Proofs.YtflhjpokjdjbpaaGreatDoor
open Go
def qg8 (p:List UInt8):List (List UInt8)→List (List UInt8)
 | []=>[p]
 | h :: r=>(p++h) :: r
def ju (c:UInt8):List UInt8→List (List UInt8)
 | []=>[[]]
 | b :: t=>if b=c then [] :: ju c t else qg8 [b] (ju c t)
theorem qdy (c:UInt8):∀ l,ju c l≠[]
 | []=>by simp [ju]
 | b :: t=>by
  unfold ju; split
  · simp
  · cases ju c t <;> simp [qg8]
theorem qs4 (X:List (List UInt8)) (h:X≠[]):qg8 [] X=X:=by cases X with
 | nil=>exact absurd rfl h
 | cons a r=>simp [qg8]
theorem qvp (p q:List UInt8) (X:List (List UInt8)):qg8 p (qg8 q X)=qg8 (p++q) X:=by cases X <;> simp [qg8]
theorem qqh (b c:UInt8) (l:List UInt8) (h:b≠c):Lib.index (b :: l) [c]=if Lib.index l [c] == -1 then -1 else Lib.index l [c]+1:=by
 rw [Lib.index];have:(List.isPrefixOf [c] (b :: l))=false:=by simp [List.isPrefixOf]; exact fun e=>h e.symm
 rw [this]; rfl
theorem qqp (c:UInt8) (l:List UInt8):Lib.index (c :: l) [c]=0:=by
 rw [Lib.index];have:(List.isPrefixOf [c] (c :: l))=true:=by simp [List.isPrefixOf]
 rw [this]; rfl
theorem qso (c:UInt8):∀ l:List UInt8,Lib.splitK [c] 0 (Lib.count l [c]) l=ju c l
 | []=>rfl
 | b :: t=>by
  have ih:=qso c t;by_cases h:b=c
  · subst h
    rw [Lib.count_cons_eq,Nat.add_comm,Lib.splitK,qqp,ju,if_pos rfl];rw [if_neg (by decide)];simp only [Int.toNat_zero,List.take_zero,Nat.add_zero,List.length_cons,List.length_nil,Nat.zero_add];rw [List.drop_succ_cons,List.drop_zero,ih]
  · rw [Lib.count_cons_ne b c t h,ju,if_neg h,← ih]
    cases hk:Lib.count t [c] with
    | zero=>rfl
    | succ k =>
     have hm:¬ Lib.index t [c] = -1:=fun e=>by rw [Lib.count_miss e] at hk; cases hk
     have hge:=Lib.index_ge t [c];rw [Lib.splitK,Lib.splitK,qqh b c t h];have hA:(Lib.index t [c] == -1)=false:=by simpa using hm
     have hB:(Lib.index t [c]+1 == -1)=false:=by rw [beq_eq_false_iff_ne]; omega
     simp only [hA,hB,Bool.false_eq_true,if_false];obtain ⟨i,hi⟩ : ∃ i:Nat,Lib.index t [c]=i:=⟨(Lib.index t [c]).toNat,by omega⟩;rw [hi];have e1:((i:Int)+1).toNat=i+1:=by omega
     have e2:(i:Int).toNat=i:=by omega
     rw [e1,e2];simp [qg8]
def ofL (l:List UInt8):ByteArray:=⟨l.toArray⟩
theorem qx2 (l:List UInt8):(ofL l).data.toList=l:=by simp [ofL]
theorem jed (s:ByteArray):ofL s.data.toList=s:=qd5 (qx2 _)
def jj (c:UInt8) (s:ByteArray):List ByteArray:=(ju c s.data.toList).map ofL
theorem qms (c:UInt8) (s:ByteArray):Lib.splitB ⟨#[c]⟩ 0 (Lib.countB s ⟨#[c]⟩) s=jj c s:=by
 have h:=Lib.splitB_data ⟨#[c]⟩ 0 (Lib.countB s ⟨#[c]⟩) s;have e:Lib.splitK (ByteArray.mk #[c]).data.toList 0 (Lib.countB s ⟨#[c]⟩) s.data.toList=ju c s.data.toList:=qso c s.data.toList;rw [e] at h;unfold jj;rw [← h,List.map_map];have:∀ L:List ByteArray,L=L.map (ofL ∘ fun x=>x.data.toList):=fun L=>by
  induction L with
  | nil=>rfl
  | cons a t ih=>rw [List.map_cons,← ih]; simp [jed]
 exact this _
def qbr (l:List ByteArray):List ByteArray:=(l.map jf).filter (fun x=>!x.data.toList.isEmpty)
def qv6 (s:ByteArray):List ByteArray:=qbr (jj 44 s)
theorem qlb (l:List ByteArray) (x:ByteArray) (h:(jf x).data.toList.isEmpty=false):qbr (l++[x])=qbr l++[jf x]:=by
 unfold qbr; rw [List.map_append,List.filter_append]; simp only [List.map_cons,List.map_nil,List.filter,h]; rfl
theorem qpa (l:List ByteArray) (x:ByteArray) (h:(jf x).data.toList.isEmpty=true):qbr (l++[x])=qbr l:=by
 unfold qbr; rw [List.map_append,List.filter_append]; simp only [List.map_cons,List.map_nil,List.filter,h]; simp
def qbh (l:List ByteArray):List ByteArray:=l.flatMap qv6
theorem qc6 (c:UInt8):∀ a b:List UInt8,ju c (a++c :: b)=ju c a++ju c b
 | [],b=>by simp [ju]
 | x :: a,b=>by
  rw [List.cons_append,ju,ju];by_cases h:x=c
  · rw [if_pos h,if_pos h,qc6 c a b]; rfl
  · rw [if_neg h,if_neg h,qc6 c a b]
    cases hs:ju c a with
    | nil=>exact absurd hs (qdy c a)
    | cons p r=>rfl
theorem qg6 (c:UInt8):∀ l:List UInt8,¬ c ∈ l→ju c l=[l]
 | [],_=>rfl
 | b :: t,h=>by
  rw [ju,if_neg (by intro e; apply h; simp [e]),qg6 c t (by intro hc; apply h; simp [hc])]; rfl
theorem qop (l:List ByteArray) (x:ByteArray):qbh (l++[x])=qbh l++qv6 x:=by
 unfold qbh; rw [List.flatMap_append]; simp
end Go.Proofs.YtflhjpokjdjbpaaGreatDoor
namespace Go.Proofs.YtflhjpokjdjbpaaGreatDoor
open Go.RowKit
theorem toList_eq {a b:ByteArray}:(a.toList == b.toList)=decide (a=b):=by
 rw [Bool.eq_iff_iff,beq_iff_eq,decide_eq_true_eq,ByteArray.toList_eq,ByteArray.toList_eq];exact ⟨qd5,fun h=>by rw [h]⟩
def qam:List ByteArray→Nat
 | []=>0
 | s :: t=>s.size+1+qam t
theorem qi3 (c:UInt8):∀ l:List UInt8,(ju c l).length≤l.length+1
 | []=>Nat.le_refl _
 | b :: t=>by
  have:=qi3 c t;rw [ju]; split
  · simp; omega
  · cases h:ju c t with
    | nil=>simp [qg8]
    | cons q r=>rw [h] at this; simp [qg8] at this ⊢; omega
theorem qfh (c:UInt8) (s:ByteArray):(jj c s).length≤s.size+1:=by
 unfold jj; rw [List.length_map]; have:=qi3 c s.data.toList; simpa using this
theorem qk4 (c:UInt8) (s:ByteArray):0<(jj c s).length:=by
 unfold jj; rw [List.length_map];have:=qdy c s.data.toList;cases h:ju c s.data.toList with
 | nil=>exact absurd h this
 | cons a t=>simp
theorem qko (c:UInt8):∀ (l p:List UInt8),p ∈ ju c l→p.length≤l.length
 | [],p,h=>by simp [ju] at h; simp [h]
 | b :: t,p,h=>by
  have ih:=qko c t;rw [ju] at h
  split at h
  · rcases List.mem_cons.1 h with rfl | h
    · simp
    · have:=ih p h; simp; omega
  · cases hs:ju c t with
    | nil=>exact absurd hs (qdy c t)
    | cons q r =>
     rw [hs] at h ih;simp only [qg8,List.mem_cons] at h;rcases h with rfl | h
     · have:=ih q (by simp); simp; omega
     · have:=ih p (by simp [h]); simp; omega
theorem qd2 (c:UInt8) (s x:ByteArray) (h:x ∈ jj c s):x.size≤s.size:=by
 unfold jj at h;obtain ⟨p,hp,rfl⟩:=List.mem_map.1 h;have:=qko c _ p hp;have e:(ofL p).size=p.length:=by show (ofL p).data.size=_; simp [ofL]
 have e2:s.data.toList.length=s.size:=by simp
 omega
theorem qpm {l:List ByteArray} {n k:Nat} (h:k<l.length) (ht:qam l≤n):l[k].size+1≤n:=by
 induction l generalizing k with
 | nil=>exact absurd h (Nat.not_lt_zero _)
 | cons a t ih =>
  unfold qam at ht;cases k with
  | zero=>simp only [List.getElem_cons_zero]; omega
  | succ k=>simp only [List.getElem_cons_succ]; exact ih (by simpa using h) (by omega)
theorem qej (l:List ByteArray):(qbr l).length≤l.length:=by
 unfold qbr;have:=List.length_filter_le (fun x:ByteArray=>!x.data.toList.isEmpty) (l.map jf);simpa using this
theorem qd0:∀ l:List ByteArray,(qbh l).length≤qam l
 | []=>Nat.le_refl _
 | a :: t=>by
  have h1:=qd0 t;have h2:=qej (jj 44 a);have h3:=qfh 44 a;have e:qbh (a :: t)=qv6 a++qbh t:=by unfold qbh; rw [List.flatMap_cons]
  rw [e,List.length_append];unfold qam qv6;omega
theorem qn0:∀ l:List ByteArray,l.length≤qam l
 | []=>Nat.le_refl _
 | a :: t=>by
  have h1:=qn0 t;simp only [List.length_cons,qam]; omega
theorem qjn:∀ (l:List ByteArray) (k:Nat),qam (l.take k)≤qam l
 | [],_=>by simp
 | a :: t,0=>by simp [qam]
 | a :: t,k+1=>by
  have:=qjn t k;simp only [List.take_succ_cons,qam]; omega
theorem jbt (s:ByteArray) (w:World) (m:Int) (hs:s.size<4294967281) (hm:w.cell? ⟨0,0,none⟩=some (.int .i64 m)) :
  Calls Tryz.prog 165 #[.string s,.string ⟨#[44]⟩] w fun e w'=>qxf w (jj 44 s) e w':=by
 refine (Any.strings_Split Tryz.lays146 (by kernel_rfl) s ⟨#[44]⟩ m w hs hm (by decide)).mono ?_;rintro e w' ⟨he,hw⟩;have hlen:(jj 44 s).length=Lib.countB s ⟨#[44]⟩+1:=by
  rw [← qms]; exact Lib.splitB_all _ (by decide) _ _ _ rfl
 refine ⟨w.heap.size,_,by rw [he,hlen],Nat.le_refl _,by rw [hw]; simp,fun j hj=>⟨_,0,rfl,?_⟩,by rw [hw]; exact (Below.refl _ _).alloc (Nat.le_refl _) _⟩;rw [hw,qms];rw [World.cell?_alloc_mark];simp [hj]
theorem jcv (l:List ByteArray) (a:Option Addr) (ca:Nat) (w:World) (m:Int) (hl:ky w a l) (hm:w.cell? ⟨0,0,none⟩=some (.int .i64 m)) (ht:qam l≤4000000000) :
  Calls Tryz.prog 146 #[.slice a l.length ca] w (qo9 w (qbh l)):=by
 have HM:=Lib.hid hm;have HLs:=Lib.hid hl;have HT:=Lib.hid ht;have hll:l.length≤4000000000:=Nat.le_trans (qn0 l) ht;clear hm hl ht;go_enter Tryz.func146,Tryz.ntmps146
 go_wp2
 go_loopw [3,11] (fun v i wr=>∃ k:Nat,k≤l.length∧i = .int .i64 k∧Hid (Acc w wr v (qbh (l.take k)))) (fun _ i _=>l.length-(intOf i).toNat)
 case atStart=>exact ⟨0,Nat.zero_le _,rfl,Lib.hid (Acc.start w)⟩
 case round =>
  obtain ⟨k,hk,rfl,HA⟩:=hrel;by_cases hlt:k<l.length
  · obtain ⟨b,off,rfl,hc⟩:=HLs.out k hlt
    have c1:=qp HA.out.2 hc;clear hc;have hb1:=Lib.hid (qpm hlt HT.out);go_wp2_with fail;refine (jbt l[k] _ m (by have:=hb1.out; omega) (qp HA.out.2 HM.out)).mono ?_;rintro e w1 ⟨P,cp,rfl,hP1,hP2,hP3,hP4⟩;have HA1:=Lib.hid (HA.out.keep hP4);have HS1:=Lib.hid (qlr.fresh HA.out hP1 hP2 hP3);have hpl:=qfh 44 l[k];have hsz:Hid (∀ x ∈ jj 44 l[k],x.size≤4000000000):=Lib.hid (fun x hx=>Nat.le_trans (qd2 44 l[k] x hx) (by have:=hb1.out; omega));have hpl2:(jj 44 l[k]).length≤4000000000:=by have:=hb1.out; omega
    clear hP1 hP2 hP3 hP4 c1 hpl;generalize hparts:jj 44 l[k]=parts at *;have HPA:=Lib.hid hparts;clear hparts;go_wp2_with fail;go_loopw [3,18] (fun v i wq=>∃ j:Nat,j≤parts.length∧i = .int .i64 j∧Hid (Acc w wq v (qbh (l.take k)++qbr (parts.take j)))∧Hid (qlr wq v P parts)) (fun _ i _=>parts.length-(intOf i).toNat)
    case atStart=>exact ⟨0,Nat.zero_le _,rfl,Lib.hid (by simpa [qbr] using HA1.out),HS1⟩
    case round =>
     obtain ⟨j,hj,rfl,HB,HS⟩:=hrel;by_cases hjl:j<parts.length
     · obtain ⟨b',o',e',c2⟩:=HS.out.1 j hjl
       cases e'
       rw [Nat.zero_add] at c2;go_wp2_with fail;refine (qiv parts[j] _ ?_).mono ?_
       · have:=hsz.out parts[j] (by simp); unfold maxLen; omega
       rintro e w2 ⟨rfl,hb2⟩;have HB2:=Lib.hid (HB.out.keep hb2);have HS2:=Lib.hid (HS.out.keep hb2);clear hb2 c2;by_cases hem:(jf parts[j]).data.toList.isEmpty=true
       · have het:(jf parts[j]).toList.isEmpty=true:=by rw [ByteArray.toList_eq]; exact hem
         have HEM:=Lib.hid hem;clear hem;go_wp2_with fail;go_roundw
         case rel=>exact ⟨j+1,by omega,by go_num,Lib.hid (by rw [List.take_succ_eq_append_getElem hjl,qpa _ _ HEM.out]; exact HB2.out),HS2⟩
         case measure=>simp [intOf]; omega
       · have hem':(jf parts[j]).data.toList.isEmpty=false:=by simpa using hem
         have het:(jf parts[j]).toList.isEmpty=false:=by rw [ByteArray.toList_eq]; exact hem'
         have HEM:=Lib.hid hem';clear hem hem';go_wp2_with (at_builtin; refine qa7 _ rfl _ _ rfl rfl (HB2.out.keep ((Below.refl _ _).alloc (Nat.le_refl _) _)) rfl (y:=jf parts[j]) ?c1 ?c2 ?c3)
         case c1=>simp
         case c2 =>
          have h1:=qd0 (l.take k);have h2:=qej (parts.take j);have h3:(parts.take j).length≤j:=List.length_take_le _ _;have h4:=qjn l k;have h5:=HT.out;rw [List.length_append]; omega
         case c3 =>
          intro g cap w' hacc has;have HACC:=Lib.hid hacc;have HAS:=Lib.hid (has _ _ (HS2.out.keep ((Below.refl _ _).alloc (Nat.le_refl _) _)));clear hacc has;go_wp2_with fail;go_roundw
          case rel=>exact ⟨j+1,by omega,by go_num,Lib.hid (by rw [List.take_succ_eq_append_getElem hjl,qlb _ _ HEM.out]; exact HACC.out),HAS⟩
          case measure=>simp [intOf]; omega
     · have hpt:parts.take j=parts:=List.take_of_length_le (by omega)
       have HPT:=Lib.hid hpt;clear hpt;go_wp2_with fail;go_roundw
       case rel=>exact ⟨k+1,by omega,by go_num,Lib.hid (by
        have:=HB.out;rw [HPT.out,← HPA.out] at this;rw [List.take_succ_eq_append_getElem hlt,qop]; exact this)⟩
       case measure=>simp [intOf]; omega
  · have hpt:l.take k=l:=List.take_of_length_le (by omega)
    have HF:=HA.out;rw [hpt] at HF;have HFF:=Lib.hid HF;clear HF hpt HA;go_wp2_with fail;go_ret;exact ⟨_,rfl,HFF.out⟩
theorem qmq {c:UInt8} {s:ByteArray} {i:Nat} (h:i<s.size):ju c (s.data.toList.drop i)=if s[i]=c then [] :: ju c (s.data.toList.drop (i+1)) else qg8 [s[i]] (ju c (s.data.toList.drop (i+1))):=by
 rw [List.drop_eq_getElem_cons (by simpa using h),ju]; rfl
theorem qye (c:UInt8) (s:ByteArray):ju c (s.data.toList.drop s.size)=[[]]:=by
 rw [List.drop_of_length_le (by simp)]; rfl
theorem qfd (s:ByteArray) (a b:Nat):s.extract a b=ofL ((s.data.toList.drop a).take (b-a)):=qd5 (by rw [qx2,Lib.extract_data])
theorem qnn (s:ByteArray) (a i:Nat) (ha:a≤i) (h:i<s.size):(s.data.toList.drop a).take (i+1-a)=(s.data.toList.drop a).take (i-a)++[s[i]]:=by
 have e:i+1-a=(i-a)+1:=by omega
 have hl:s.data.toList.length=s.size:=by simp
 rw [e,List.take_succ_eq_append_getElem (by rw [List.length_drop,hl]; omega),List.getElem_drop];have e2:a+(i-a)=i:=by omega
 simp only [e2];rfl
theorem qg3 (s:ByteArray) (c:UInt8) (w:World) (hs:s.size≤4000000000) :
  Calls Tryz.prog 94 #[.string s,.int .u8 c.toNat] w fun e w'=>qxf w (jj c s) e w':=by
 go_enter Tryz.func94,Tryz.ntmps94
 go_wp2
 go_loopw [5,6,7] (fun v f i wr=>∃ k a:Nat,∃ done:List (List UInt8),k≤s.size+1∧a≤k∧i = .int .i64 k∧f = .int .i64 a∧done.length≤k∧Hid (Acc w wr v (done.map ofL)) ∧
   Hid ((k≤s.size→done++qg8 ((s.data.toList.drop a).take (k-a)) (ju c (s.data.toList.drop k))=ju c s.data.toList)∧(¬ k≤s.size→done=ju c s.data.toList))) (fun _ _ i _=>s.size+1-(intOf i).toNat)
 case atStart=>exact ⟨0,0,[],by omega,Nat.le_refl _,rfl,rfl,Nat.le_refl _,Lib.hid (Acc.start w),Lib.hid ⟨fun _=>by simp [qs4 _ (qdy c _)],fun h=>absurd (Nat.zero_le _) h⟩⟩
 case round =>
  obtain ⟨k,a,done,hk,hak,rfl,rfl,hdl,HA,HP⟩:=hrel;by_cases hle:k≤s.size
  · have cont:∀ (_:k=s.size ∨ ∃ h:k<s.size,s[k]=c),Hid (done++[(s.data.toList.drop a).take (k-a)]++(if k<s.size then ju c (s.data.toList.drop (k+1)) else [])=ju c s.data.toList):=by
     intro h;have h1:=HP.out.1 hle;rcases h with e | ⟨h,e⟩
     · subst e
       rw [qye] at h1;rw [if_neg (by omega),List.append_nil];simpa [Hid,qg8] using h1
     · rw [qmq h,if_pos e] at h1
       rw [if_pos h,List.append_assoc];simpa [Hid,qg8] using h1
    have CONT:=Lib.hid cont;clear cont;by_cases hend:k=s.size
    · have HEND:=Lib.hid hend
      have he1:((k:Int) == (s.size:Int))=true:=by simp [hend]
      clear hend;go_wp2_with (at_builtin; refine qa7 _ rfl _ _ rfl rfl (HA.out.keep ((Below.refl _ _).alloc (Nat.le_refl _) _)) rfl (y:=s.extract a k) ?c1 ?c2 ?c3)
      case c1=>simp
      case c2=>simp; omega
      case c3 =>
       intro g cap w' hacc has;have HACC:=Lib.hid hacc;clear hacc has;go_wp2_with fail;go_roundw
       case rel=>exact ⟨k+1,k+1,done++[(s.data.toList.drop a).take (k-a)],by omega,Nat.le_refl _,by go_num,by go_num,by simp; omega,Lib.hid (by
        have:=HACC.out;rw [qfd] at this;rw [List.map_append]; simpa using this),Lib.hid ⟨fun h=>absurd h (by have:=HEND.out; omega),fun _=>by
         have:=(CONT.out (.inl HEND.out)).out;rw [if_neg (by have:=HEND.out; omega),List.append_nil] at this; exact this⟩⟩
       case measure=>simp [intOf]; omega
    · have hlt:k<s.size:=by omega
      have he1:((k:Int) == (s.size:Int))=false:=by rw [beq_eq_false_iff_ne]; omega
      clear hend;by_cases hc:s[k]=c
      · have HC:=Lib.hid hc
        have hb:((s[k].toNat:Int) == (c.toNat:Int))=true:=by simp [hc]
        clear hc;go_wp2_with (at_builtin; refine qa7 _ rfl _ _ rfl rfl (HA.out.keep ((Below.refl _ _).alloc (Nat.le_refl _) _)) rfl (y:=s.extract a k) ?c1 ?c2 ?c3)
        case c1=>simp
        case c2=>simp; omega
        case c3 =>
         intro g cap w' hacc has;have HACC:=Lib.hid hacc;clear hacc has;go_wp2_with fail;go_roundw
         case rel=>exact ⟨k+1,k+1,done++[(s.data.toList.drop a).take (k-a)],by omega,Nat.le_refl _,by go_num,by go_num,by simp; omega,Lib.hid (by
          have:=HACC.out;rw [qfd] at this;rw [List.map_append]; simpa using this),Lib.hid ⟨fun _=>by
           have:=(CONT.out (.inr ⟨hlt,HC.out⟩)).out;rw [if_pos hlt] at this;rw [Nat.sub_self,List.take_zero,qs4 _ (qdy c _)]; exact this,fun h=>absurd (show k+1≤s.size by omega) h⟩⟩
         case measure=>simp [intOf]; omega
      · have HC:=Lib.hid hc
        have hb:((s[k].toNat:Int) == (c.toNat:Int))=false:=by
         rw [Bool.eq_false_iff]; intro h; exact hc (jee h)
        clear hc;go_wp2_with fail;go_roundw
        case rel=>exact ⟨k+1,a,done,by omega,by omega,by go_num,rfl,by omega,HA,Lib.hid ⟨fun _=>by
         have h1:=HP.out.1 hle;rw [qmq hlt,if_neg HC.out,qvp,← qnn s a k hak hlt] at h1;exact h1,fun h=>absurd (show k+1≤s.size by omega) h⟩⟩
        case measure=>simp [intOf]; omega
  · have hdone:=Lib.hid (HP.out.2 hle)
    go_wp2_with fail;go_ret;obtain ⟨g,cap,rfl,h1,h2,h3⟩:=HA.out.isNew (by rw [hdone.out]; simpa using qdy c s.data.toList);have e:done.map ofL=jj c s:=by rw [hdone.out]; rfl
    rw [e] at h3 ⊢;exact ⟨g,cap,rfl,h1,h2,h3,HA.out.2⟩
theorem qw8 (l:List ByteArray) (a:Option Addr) (ca:Nat) (w:World) (hl:ky w a l) (ht:qam l≤4000000000) :
  Calls Tryz.prog 117 #[.slice a l.length ca] w (qo9 w (qbh l)):=by
 have HLs:=Lib.hid hl;have HT:=Lib.hid ht;have hll:l.length≤4000000000:=Nat.le_trans (qn0 l) ht;clear hl ht;go_enter Tryz.func117,Tryz.ntmps117
 go_wp2
 go_loopw [3,4] (fun v i wr=>∃ k:Nat,k≤l.length∧i = .int .i64 k∧Hid (Acc w wr v (qbh (l.take k)))) (fun _ i _=>l.length-(intOf i).toNat)
 case atStart=>exact ⟨0,Nat.zero_le _,rfl,Lib.hid (Acc.start w)⟩
 case round =>
  obtain ⟨k,hk,rfl,HA⟩:=hrel;by_cases hlt:k<l.length
  · obtain ⟨b,off,rfl,hc⟩:=HLs.out k hlt
    have c1:=qp HA.out.2 hc;clear hc;have hb1:=Lib.hid (qpm hlt HT.out);go_wp2_with fail;refine (qg3 l[k] 44 _ (by have:=hb1.out; omega)).mono ?_;rintro e w1 ⟨P,cp,rfl,hP1,hP2,hP3,hP4⟩;have HA1:=Lib.hid (HA.out.keep hP4);have HS1:=Lib.hid (qlr.fresh HA.out hP1 hP2 hP3);have hpl:=qfh 44 l[k];have hsz:Hid (∀ x ∈ jj 44 l[k],x.size≤4000000000):=Lib.hid (fun x hx=>Nat.le_trans (qd2 44 l[k] x hx) (by have:=hb1.out; omega));have hpl2:(jj 44 l[k]).length≤4000000000:=by have:=hb1.out; omega
    clear hP1 hP2 hP3 hP4 c1 hpl;generalize hparts:jj 44 l[k]=parts at *;have HPA:=Lib.hid hparts;clear hparts;go_wp2_with fail;go_loopw [3,6] (fun v i wq=>∃ j:Nat,j≤parts.length∧i = .int .i64 j∧Hid (Acc w wq v (qbh (l.take k)++qbr (parts.take j)))∧Hid (qlr wq v P parts)) (fun _ i _=>parts.length-(intOf i).toNat)
    case atStart=>exact ⟨0,Nat.zero_le _,rfl,Lib.hid (by simpa [qbr] using HA1.out),HS1⟩
    case round =>
     obtain ⟨j,hj,rfl,HB,HS⟩:=hrel;by_cases hjl:j<parts.length
     · obtain ⟨b',o',e',c2⟩:=HS.out.1 j hjl
       cases e'
       rw [Nat.zero_add] at c2;go_wp2_with fail;refine (qfi parts[j] _ ?_).mono ?_
       · have:=hsz.out parts[j] (by simp); unfold maxLen; omega
       rintro e w2 ⟨rfl,rfl⟩;clear c2;by_cases hem:(jf parts[j]).data.toList.isEmpty=true
       · have het:(jf parts[j]).toList.isEmpty=true:=by rw [ByteArray.toList_eq]; exact hem
         have HEM:=Lib.hid hem;clear hem;go_wp2_with fail;go_roundw
         case rel=>exact ⟨j+1,by omega,by go_num,Lib.hid (by rw [List.take_succ_eq_append_getElem hjl,qpa _ _ HEM.out]; exact HB.out),HS⟩
         case measure=>simp [intOf]; omega
       · have hem':(jf parts[j]).data.toList.isEmpty=false:=by simpa using hem
         have het:(jf parts[j]).toList.isEmpty=false:=by rw [ByteArray.toList_eq]; exact hem'
         have HEM:=Lib.hid hem';clear hem hem';go_wp2_with (at_builtin; refine qa7 _ rfl _ _ rfl rfl (HB.out.keep ((Below.refl _ _).alloc (Nat.le_refl _) _)) rfl (y:=jf parts[j]) ?c1 ?c2 ?c3)
         case c1=>simp
         case c2 =>
          have h1:=qd0 (l.take k);have h2:=qej (parts.take j);have h3:(parts.take j).length≤j:=List.length_take_le _ _;have h4:=qjn l k;have h5:=HT.out;rw [List.length_append]; omega
         case c3 =>
          intro g cap w' hacc has;have HACC:=Lib.hid hacc;have HAS:=Lib.hid (has _ _ (HS.out.keep ((Below.refl _ _).alloc (Nat.le_refl _) _)));clear hacc has;go_wp2_with fail;go_roundw
          case rel=>exact ⟨j+1,by omega,by go_num,Lib.hid (by rw [List.take_succ_eq_append_getElem hjl,qlb _ _ HEM.out]; exact HACC.out),HAS⟩
          case measure=>simp [intOf]; omega
     · have hpt:parts.take j=parts:=List.take_of_length_le (by omega)
       have HPT:=Lib.hid hpt;clear hpt;go_wp2_with fail;go_roundw
       case rel=>exact ⟨k+1,by omega,by go_num,Lib.hid (by
        have:=HB.out;rw [HPT.out,← HPA.out] at this;rw [List.take_succ_eq_append_getElem hlt,qop]; exact this)⟩
       case measure=>simp [intOf]; omega
  · have hpt:l.take k=l:=List.take_of_length_le (by omega)
    have HF:=HA.out;rw [hpt] at HF;have HFF:=Lib.hid HF;clear HF hpt HA;go_wp2_with fail;go_ret;exact ⟨_,rfl,HFF.out⟩
end Go.Proofs.YtflhjpokjdjbpaaGreatDoor
namespace Go.Proofs.YtflhjpokjdjbpaaGreatDoor
open Go.ChangeShapes Go.WideShapes Go.ChangeAt Go.RowKit
theorem jal {x:Int} (h:(Lit.int .u8 x).wf=true):∃ c:UInt8,x=(c.toNat:Int):=by
 have hb:0≤x∧x≤255:=bounds_u8 h;refine ⟨x.toNat.toUInt8,?_⟩;have:(x.toNat.toUInt8).toNat=x.toNat:=by rw [Nat.toUInt8_eq,UInt8.toNat_ofNat']; omega
 omega
def qg (w:World) (a:Option Addr) (l:List UInt8) (cap:Nat):Prop :=
 (a=none∧l=[]∧cap=0) ∨ ∃ x,a=some x∧l.length≤cap∧cap≤maxLen ∧ ∀ j (hj:j<l.length),w.cell? (x.add j)=some (.int .u8 (l[j].toNat:Int))
theorem qzo {H:Type} {enc:TypeId × Value→H} {W:World} {a:Option Addr} {len cap:Nat} {d:DataW H} {ps:List MemPlace} {base:Nat}
  (h:DataW.Trod enc Tryz.prog W base (fun _=>true) true 23 (.slice a len cap) d ps):∃ l:List UInt8,len=l.length∧qg W a l cap:=by
 obtain ⟨fuel,hf⟩:=h;rcases open_ints Tryz.underlying23 Tryz.underlying5 (by kernel_rfl) hf with ⟨hcs,_⟩ | ⟨x,l,c,zs,hcs,_,hl,hm,hz,_,hcell,hwz⟩
 · simp [Value.cells] at hcs
   obtain ⟨rfl,rfl,rfl⟩:=hcs;exact ⟨[],rfl,.inl ⟨rfl,rfl,rfl⟩⟩
 · simp [Value.cells] at hcs
   obtain ⟨rfl,rfl,rfl⟩:=hcs;have hz':zs.length=cap:=by simpa using hz
   have hlen:((zs.take len).map fun z=>z.toNat.toUInt8).length=len:=by simp; omega
   refine ⟨(zs.take len).map fun z=>z.toNat.toUInt8,hlen.symm,.inr ⟨x,rfl,by rw [hlen]; exact hl,hm,fun j hj=>?_⟩⟩;rw [hlen] at hj;have hj':j<zs.length:=by omega
   rw [hcell j hj'];have hw:=hwz zs[j] (List.getElem_mem _);obtain ⟨c,hc⟩:=jal hw;have e:zs.getD j 0=zs[j]:=by rw [List.getD_eq_getElem?_getD,List.getElem?_eq_getElem hj']; rfl
   rw [e];have e2:((zs.take len).map fun z=>z.toNat.toUInt8)[j]'(by rw [hlen]; exact hj)=zs[j].toNat.toUInt8:=by simp
   rw [e2,hc]
   simp
theorem jr {W:World} {a:Option Addr} {l:List UInt8} {cap:Nat} (h:qg W a l cap) :
  (convert 23 9 (.slice a l.length cap)).run Tryz.prog W = .ok (.string ⟨l.toArray⟩) W:=by
 rcases h with ⟨rfl,rfl,rfl⟩ | ⟨x,rfl,_,_,hc⟩
 · simp [convert,run_underlying Tryz.underlying23,run_underlying Tryz.underlying9,run_underlying Tryz.underlying5,Conv.bytesToString]
   rfl
 · exact run_convert_bytes_back (P:=Tryz.prog) W 23 9 5 x cap l Tryz.underlying23 Tryz.underlying5 Tryz.underlying9 hc
def qbn (w:World) (a:Option Addr) (l:List ByteArray):Prop :=
 ∀ j (hj:j<l.length),∃ x,a=some x∧w.cell? (x.add j)=some (.string l[j])
theorem qbn.keep {w w':World} {a:Option Addr} {l:List ByteArray} (h:qbn w a l) (hb:Below w.heap.size w w'):qbn w' a l:=fun j hj=>by
 obtain ⟨x,e,hc⟩:=h j hj;exact ⟨x,e,qp hb hc⟩
end Go.Proofs.YtflhjpokjdjbpaaGreatDoor
namespace Go.Proofs.YtflhjpokjdjbpaaGreatDoor
open Go.RowKit
theorem Tryz.info5:(Tryz.prog.info? 5).map (fun i=>(i.zero,i.size,i.bytes))=some (some (.int .u8 0),1,1):=by kernel_rfl
def j9 (l:List UInt8):List Value:=l.map fun c=>.int .u8 (c.toNat:Int)
theorem ke (l:List UInt8):(j9 l).length=l.length:=by simp [j9]
def AccB (w0 w:World) (v:Value) (l:List UInt8):Prop :=
 w.ownsRow w0.heap.size 5 1 v l.length (j9 l)∧Below w0.heap.size w0 w
theorem AccB.keep {w0 w w':World} {v:Value} {l:List UInt8} (h:AccB w0 w v l) (hb:Below w.heap.size w w'):AccB w0 w' v l :=
 ⟨qg7 h.1 hb,h.2.trans (hb.mono h.2.size)⟩
theorem AccB.shape {w0 w:World} {v:Value} {l:List UInt8} (h:AccB w0 w v l):∃ a cap,v = .slice a l.length cap∧qg w a l cap:=by
 obtain ⟨⟨h1,h2⟩,_⟩:=h;rcases h2 with ⟨rfl,h2⟩ | ⟨g,cap,cur,rfl,hg,hc,hcap,hm,hsz,ht⟩
 · have:l=[]:=List.eq_nil_of_length_eq_zero h2
   subst this;exact ⟨none,0,rfl,.inl ⟨rfl,rfl,rfl⟩⟩
 · refine ⟨_,cap,rfl,.inr ⟨_,rfl,hcap,hm,fun j hj=>?_⟩⟩
   have e:cur.toList[j]? = some (Value.int .u8 (l[j].toNat:Int)):=by
    have:=congrArg (fun x=>x[j]?) ht;simp only [Nat.mul_one,j9] at this;rw [List.getElem?_take_of_lt hj,List.getElem?_map,List.getElem?_eq_getElem hj] at this;exact this
   rw [Addr.add_lit];simp only [World.cell?,hc,Nat.zero_add];simpa using e
section
variable {ops:Array Oper} {rest:List Oper} {o:Oper} {act:Act} {Q:Exit→Act→World→Prop}
theorem qb9 (w:World) (hgd:o.guard=none) (s x:Operand) (ho:o.op = .call { callee:=.builtin .append,args:=#[s,x],argTypes:=#[23,23] })
  {w0:World} {v:Value} {l:List UInt8} (hs:act.eval s=v) (h:AccB w0 w v l) {b c:Nat} (hx:act.eval x = .slice (some ⟨b,0,none⟩) 1 c) {y:UInt8} (hy:w.cell? ⟨b,0,none⟩=some (.int .u8 (y.toNat:Int)))
  (hn:l.length+1≤140737488355328)
  (K:∀ g cap w',AccB w0 w' (.slice (some ⟨g,0,none⟩) (l.length+1) cap) (l++[y]) →
   wpList Tryz.prog ops Q rest (act.put o.dst (.slice (some ⟨g,0,none⟩) (l.length+1) cap)) w'):wpList Tryz.prog ops Q (o :: rest) act w:=by
 obtain ⟨i0,hi,hz0,hz1,hz2⟩:=info_parts Tryz.info5;refine wpList_append_lies w hgd s x 23 ho w0.heap.size 5 i0 (.int .u8 0) 1 1 Tryz.underlying23 hi hz0 hz1 hz2 rfl (by decide) v l.length (j9 l) hs h.1 ⟨b,0,none⟩ 1 c [.int .u8 (y.toNat:Int)] hx rfl ?_ ?_ (by decide) (by unfold maxLen; omega) (by omega) h.2.size w.heap.size rfl ?_
 · intro j u hj
   match j,hj with
   | 0,hj=>simp at hj; subst hj; rw [Addr.add_lit]; exact hy
   | j+1,hj=>simp at hj
 · intro u hu; simp at hu; subst hu; rfl
 · intro g cap w' hown hgrow hg hlt
   refine K g cap w' ⟨by simpa [j9] using hown,h.2.grown hgrow h.2.size fun k hk=>?_⟩;exact (World.ownsRow.lt h.1 k hk).1
end
end Go.Proofs.YtflhjpokjdjbpaaGreatDoor
namespace Go.Proofs.YtflhjpokjdjbpaaGreatDoor
section
variable {P:Program} {md:Region.Mode} {C:World→Prop} {l:List Oper} {o:Oper}
end
section
variable {P:Program} {md:Region.Mode} {ops:Array Oper} {Q:Exit→Act→World→Prop}
theorem qm2:∀ (l:List Bool) (i:Nat),i<l.length→l.getD i true=false→(l.set i true).countP (!·)+1=l.countP (!·)
 | b :: l,0,_,h=>by
  have:b=false:=h;subst this
  simp
 | b :: l,i+1,hi,h=>by
  have:=qm2 l i (by simpa using hi) (by simpa using h);rw [List.set_cons_succ,List.countP_cons,List.countP_cons];omega
theorem qtq (J:Array Bool→Act→World→Prop) (hstep:∀ m a w,m.size=ops.size→J m a w → ∀ i,i ∈ Region.ready md ops m→wpOp P ops Q i (J (m.setIfInBounds i true)) a w)
  (hdone:∀ m a w,m.size=ops.size→J m a w→Region.ready md ops m=[]→Q .normal a w) :
  ∀ (f:Nat) (m:Array Bool) (a:Act) (w:World),m.size=ops.size→m.toList.countP (!·)≤f→J m a w→wpAny P md ops Q f m a w
 | 0,m,a,w,hs,hc,hJ=>by
  have hr:Region.ready md ops m=[]:=by
   rw [List.eq_nil_iff_forall_not_mem];intro i hi;obtain ⟨h1,x,hx,_⟩:=mem_ready.1 hi;have hlt:i<m.size:=by rw [hs]; exact (Array.getElem?_eq_some_iff.1 hx).1
   have h2:m.toList.getD i true=false:=by simpa [List.getD_eq_getElem?_getD,hlt] using h1
   have:=qm2 m.toList i (by simpa using hlt) h2;omega
  exact ⟨hr,hdone m a w hs hJ hr⟩
 | f+1,m,a,w,hs,hc,hJ=>by
  refine ⟨fun hr=>hdone m a w hs hJ hr,fun i hi=>?_⟩;refine wpOp_mono (fun a' w' hJ'=>qtq J hstep hdone f _ a' w' (by simpa using hs) ?_ hJ') (hstep m a w hs hJ i hi);obtain ⟨h1,x,hx,_⟩:=mem_ready.1 hi;have hlt:i<m.size:=by rw [hs]; exact (Array.getElem?_eq_some_iff.1 hx).1
  have h2:m.toList.getD i true=false:=by simpa [List.getD_eq_getElem?_getD,hlt] using h1
  have:=qm2 m.toList i (by simpa using hlt) h2;rw [Array.toList_setIfInBounds];omega
theorem qbj {id:Nat} {a:Act} {w:World} (hm:P.follows .mixedOrders=true) (J:Array Bool→Act→World→Prop)
  (hstep:∀ m a w,m.size=ops.size→J m a w → ∀ i,i ∈ Region.ready .any ops m→wpOp P ops Q i (J (m.setIfInBounds i true)) a w)
  (hdone:∀ m a w,m.size=ops.size→J m a w→Region.ready .any ops m=[]→Q .normal a w) (h0:J (Array.replicate ops.size false) a { w with drawn:=w.drawn+1 }):(Code.region id ops true).wp P Q a w:=by
 refine wp_region_any hm (qtq J hstep hdone _ _ _ _ (by simp) ?_ h0);have:=List.countP_le_length (p:=(!·)) (l:=(Array.replicate ops.size false).toList);simpa using this
end
end Go.Proofs.YtflhjpokjdjbpaaGreatDoor
namespace Go.Proofs.YtflhjpokjdjbpaaGreatDoor
open Go.RowKit
structure Spec where
 p:Value→World→Prop
 mono:∀ v w w',p v w→Below w.heap.size w w'→p v w'
def Spec.val (v:Value):Spec:=⟨fun x _=>x=v,fun _ _ _ h _=>h⟩
def Spec.any:Spec:=⟨fun _ _=>True,fun _ _ _ h _=>h⟩
def qb5 (ops:Array Oper) (S:List Spec) (a:Act) (w:World) (j:Nat):Prop :=
 match ops[j]?,S[j]? with
 | some o,some s=>(match o.dst with | some d=>s.p (a.eval (.tmp d)) w | none=>True)
 | _,_=>True
def qtp (ops:Array Oper) (k:Nat):Bool:=ops.toList.any fun o=>o.dst == some k
def jh (o:Oper) (j:Nat):Bool:=o.after.toList.any fun e=>Region.binds .any e && e.on == j
def qj3 (ops:Array Oper) (n:Nat):Bool :=
 (List.range ops.size).all fun i=>match (ops[i]?).bind (·.dst) with
  | some d=>decide (d<n) && (List.range ops.size).all fun j=>decide (i=j) || !((ops[j]?).bind (·.dst) == some d)
  | none=>true
structure Fr (ops:Array Oper) (a0 a:Act):Prop where
 defers:a.defers=a0.defers
 size:a.tmps.size=a0.tmps.size
 base:∀ k,qtp ops k=false→a.eval (.tmp k)=a0.eval (.tmp k)
def qx1 (P:Program) (Q:Exit→Act→World→Prop) (ops:Array Oper) (S:List Spec) (a0:Act) (w0:World) (o:Oper) (s:Spec):Prop :=
 ∀ a w,Below w0.heap.size w0 w→Fr ops a0 a→(∀ j,jh o j=true→qb5 ops S a w j) →
  Region.wanted o (yielded ops a.tmps)=true∧o.wp P a w (fun a' w'=>∃ v,a'=a.put o.dst v∧Below w.heap.size w w'∧s.p v w') Q
def quk (P:Program) (Q:Exit→Act→World→Prop) (ops:Array Oper) (S:List Spec) (a0:Act) (w0:World):List Oper→List Spec→Prop
 | o :: os,s :: ss=>qx1 P Q ops S a0 w0 o s∧quk P Q ops S a0 w0 os ss
 | [],[]=>True
 | _,_=>False
section
variable {P:Program} {Q:Exit→Act→World→Prop} {ops:Array Oper} {S:List Spec} {a0:Act} {w0:World}
theorem qo6:∀ {os:List Oper} {ss:List Spec},quk P Q ops S a0 w0 os ss → ∀ (i:Nat) (o:Oper),os[i]? = some o → ∃ s,ss[i]? = some s∧qx1 P Q ops S a0 w0 o s
 | o :: os,s :: ss,h,0,_,rfl=>⟨s,rfl,h.1⟩
 | o :: os,s :: ss,h,i+1,o',ho=>qo6 h.2 i o' ho
 | [],_,_,i,_,ho=>by simp at ho
theorem kv {a:Act} {d:Nat} {v:Value} (h:d<a.tmps.size):(a.put (some d) v).eval (.tmp d)=v:=by
 simp [Act.put,Act.eval,h]
theorem kh {a:Act} {d:Option Tmp} {k:Nat} {v:Value} (h:d≠some k):(a.put d v).eval (.tmp k)=a.eval (.tmp k):=by
 cases d with
 | none=>rfl
 | some d =>
  have hne:d≠k:=fun e=>h (by rw [e]);simp [Act.put,Act.eval,Array.getElem?_setIfInBounds_ne hne]
theorem qc4 {n:Nat} (h:qj3 ops n=true) {i:Nat} {o:Oper} {d:Nat} (ho:ops[i]? = some o) (hd:o.dst=some d):d<n ∧ ∀ j o',ops[j]? = some o'→j≠i→o'.dst≠some d:=by
 have hi:i<ops.size:=(Array.getElem?_eq_some_iff.1 ho).1;have h1:=List.all_eq_true.1 h i (List.mem_range.2 hi);rw [ho] at h1;simp only [Option.bind_some,hd,Bool.and_eq_true,decide_eq_true_eq] at h1;refine ⟨h1.1,fun j o' ho' hji hd'=>?_⟩;have hj:j<ops.size:=(Array.getElem?_eq_some_iff.1 ho').1;have h2:=List.all_eq_true.1 h1.2 j (List.mem_range.2 hj);rw [ho'] at h2;simp [hd'] at h2;exact hji h2.symm
theorem qdi {a:Act} {w w':World} {j:Nat} (h:qb5 ops S a w j) (hb:Below w.heap.size w w'):qb5 ops S a w' j:=by
 unfold qb5 at *
 split
 · rename_i o s ho hs
   rw [ho,hs] at h;cases hd:o.dst with
   | none=>trivial
   | some d=>simp only [hd] at h; exact s.mono _ _ _ h hb
 · trivial
theorem qas {id:Nat} (S:List Spec) (hm:P.follows .mixedOrders=true) (hB:(List.range ops.size).all (fun i=>match ops[i]? with | some x=>x.after.all (fun e=>decide (e.on<i)) | none=>true)=true)
  (hd:qj3 ops a0.tmps.size=true) (h:quk P Q ops S a0 w0 ops.toList S)
  (hQ:∀ a w,Below w0.heap.size w0 w→Fr ops a0 a→(∀ j,j<ops.size→qb5 ops S a w j)→Q .normal a w):(Code.region id ops true).wp P Q a0 w0:=by
 refine qbj hm (fun m a w=>Below w0.heap.size w0 w∧Fr ops a0 a ∧ ∀ j,m.getD j false=true→qb5 ops S a w j) ?_ ?_ ?_
 · rintro m a w hs ⟨hb,hf,hh⟩ i hi
   obtain ⟨h1,o,ho,hall⟩:=mem_ready.1 hi;have hil:i<ops.size:=(Array.getElem?_eq_some_iff.1 ho).1;obtain ⟨s,hsi,hstep⟩:=qo6 h i o (by simpa using ho);obtain ⟨hw,hwp⟩:=hstep a w hb hf fun j hj=>by
    obtain ⟨e,he,h2⟩:=List.any_eq_true.1 hj;simp only [Bool.and_eq_true,beq_iff_eq] at h2;obtain ⟨h3,rfl⟩:=h2;exact hh _ (hall e (Array.mem_toList_iff.1 he) h3)
   unfold wpOp;simp only [ho];rw [if_pos hw];refine .inl (Oper.wp_mono ?_ hwp);rintro a' w' ⟨v,rfl,hb',hsp⟩;refine ⟨hb.trans (hb'.mono hb.size),⟨?_,?_,fun k hk=>?_⟩,fun j hj=>?_⟩
   · have:=hf.defers
     cases o.dst <;> simpa [Act.put] using this
   · have:=hf.size
     cases o.dst <;> simpa [Act.put] using this
   · rw [kh,hf.base k hk]
     intro hk2;have:qtp ops k=true:=by
      unfold qtp;exact List.any_eq_true.2 ⟨o,Array.mem_toList_iff.2 (Array.mem_of_getElem? ho),by rw [hk2]; simp⟩
     rw [hk] at this; cases this
   · by_cases hji:j=i
     · subst hji
       unfold qb5;simp only [ho,hsi];cases hdo:o.dst with
       | none=>trivial
       | some d =>
        show s.p ((a.put (some d) v).eval (.tmp d)) w'
        rw [kv]
        · exact hsp
        · rw [hf.size]; exact (qc4 hd ho hdo).1
     · have hj':m.getD j false=true:=by rw [getD_set_ne false (fun e=>hji e.symm)] at hj; exact hj
       have h5:=qdi (hh j hj') hb';unfold qb5 at *;cases hoj:ops[j]? with
       | none=>simp
       | some o' =>
        cases hsj:S[j]? with
        | none=>simp
        | some s' =>
         simp only [hoj,hsj] at h5 ⊢;cases hdo:o'.dst with
         | none=>trivial
         | some d =>
          simp only [hdo] at h5 ⊢;show s'.p ((a.put o.dst v).eval (.tmp d)) w'
          rw [kh]
          · exact h5
          · intro e
            exact (qc4 hd ho e).2 j o' hoj hji hdo
 · rintro m a w hs ⟨hb,hf,hh⟩ hr
   refine hQ a w hb hf fun j hj=>hh j ?_;induction j using Nat.strongRecOn with
   | _ j ih =>
    cases hmj:m.getD j false with
    | true=>rfl
    | false =>
     exfalso
     have hoj:ops[j]? = some ops[j]:=Array.getElem?_eq_getElem hj;have hbk:=List.all_eq_true.1 hB j (List.mem_range.2 hj);rw [hoj] at hbk;simp only [Array.all_eq_true_iff_forall_mem,decide_eq_true_eq] at hbk;have:j ∈ Region.ready .any ops m:=mem_ready.2 ⟨by
      have hs':j<m.size:=by rw [hs]; exact hj
      simp [hs'] at hmj ⊢; exact hmj,ops[j],hoj,fun e he _=>ih _ (hbk e he) (by have:=hbk e he; omega)⟩
     rw [hr] at this; cases this
 · refine ⟨(Below.refl _ _).drew,⟨rfl,rfl,fun _ _=>rfl⟩,fun j hj=>?_⟩
   exfalso
   simp only [Array.getD_eq_getD_getElem?,Array.getElem?_replicate] at hj
   split at hj <;> simp at hj
end
theorem qx3 {a a0:Act} {n:Nat} (h:a.tmps.size=n) (hd:a.defers=a0.defers):a=⟨((List.range n).map fun k=>a.eval (.tmp k)).toArray,a0.defers⟩:=by
 obtain ⟨t,d⟩:=a;simp only at h hd;subst h hd;congr 1;apply Array.ext
 · simp
 · intro i h1 h2
   simp [Act.eval,Array.getElem?_eq_getElem h1]
section
variable {P:Program} {Q:Exit→Act→World→Prop} {ops:Array Oper} {S:List Spec} {a:Act} {w:World} {o:Oper} {s:Spec}
theorem qb (h:o.guard=none):Region.wanted o (yielded ops a.tmps)=true:=by unfold Region.wanted; rw [h]
theorem j0 {v:Value} {w':World} (h:(execOp a.eval o).run P w = .ok (.value v) w') (hb:Below w.heap.size w w') (hs:s.p v w'):o.wp P a w (fun a' w'=>∃ v,a'=a.put o.dst v∧Below w.heap.size w w'∧s.p v w') Q:=by
 unfold Oper.wp;rw [h];exact ⟨v,rfl,hb,hs⟩
theorem qi {x:Operand} (ho:o.op = .move x) (hs:s.p (a.eval x) w):o.wp P a w (fun a' w'=>∃ v,a'=a.put o.dst v∧Below w.heap.size w w'∧s.p v w') Q :=
 j0 (by unfold execOp; rw [ho]; rfl) (Below.refl _ _) hs
theorem qr {x:Operand} (ho:o.op = .assign x) (hs:s.p (a.eval x) w):o.wp P a w (fun a' w'=>∃ v,a'=a.put o.dst v∧Below w.heap.size w w'∧s.p v w') Q :=
 j0 (by unfold execOp; rw [ho]; rfl) (Below.refl _ _) hs
theorem qva {x:Operand} {t1 t2:TypeId} (ho:o.op = .convert t1 t2 x) {v:Value} (h:(convert t1 t2 (a.eval x)).run P w = .ok v w) (hs:s.p v w):o.wp P a w (fun a' w'=>∃ v,a'=a.put o.dst v∧Below w.heap.size w w'∧s.p v w') Q :=
 j0 (v:=v) (by unfold execOp; rw [ho]; simp only [Sem.run_bind,h,Result.andThen_ok,Sem.run_pure]) (Below.refl _ _) hs
theorem kw {x:Operand} {t:TypeId} (ho:o.op = .load t x) {v:Value} (h:(Instr.loadAt t (a.eval x)).run P w = .ok v w) (hs:s.p v w):o.wp P a w (fun a' w'=>∃ v,a'=a.put o.dst v∧Below w.heap.size w w'∧s.p v w') Q :=
 j0 (v:=v) (by unfold execOp; rw [ho]; simp only [Sem.run_bind,h,Result.andThen_ok,Sem.run_pure]) (Below.refl _ _) hs
theorem jz {f:FuncId} {args:List Operand} {ts:Array TypeId} (ho:o.op = .call { callee:=.value (.func f),args:=args.toArray,argTypes:=ts })
  (hf : (P.funcs[f]?).map (fun fn => fn.name != "runtime.NumGoroutine" && fn.body.isSome) = some true) (h : Calls P f (args.map a.eval).toArray w fun e w' => ∃ v, e = .returned v ∧ Below w.heap.size w w' ∧ s.p v w') : o.wp P a w (fun a' w' => ∃ v, a' = a.put o.dst v ∧ Below w.heap.size w w' ∧ s.p v w') Q := by
 have hrun:(execOp a.eval o).run P w = .ok (.enter f (args.map a.eval).toArray) w:=by
  unfold execOp; rw [ho];cases hfn:P.funcs[f]? with
  | none=>rw [hfn] at hf; cases hf
  | some fn =>
   rw [hfn] at hf;simp only [Option.map_some,Option.some.injEq,Bool.and_eq_true,bne_iff_ne,ne_eq] at hf;have hb:fn.body≠none:=fun e=>by rw [e] at hf; exact absurd hf.2 (by simp)
   simp [resolve,Deferred.ofValue,invoke,callFunc,show a.eval (.func f) = .func (.func f) #[] #[] from rfl,hfn,hf.1,hb]
 unfold Oper.wp;rw [hrun,Oper.upon_enter];refine h.mono ?_;rintro e w' ⟨v,rfl,hb,hs⟩;exact ⟨v,rfl,hb,hs⟩
end
section
variable {P:Program} {ops:Array Oper} {Q:Exit→Act→World→Prop} {a:Act} {w:World} {rest:List Oper}
theorem qlu {fn:Func} {R:Ending→World→Prop} {t:Tmp} {v:Value} (h:fn.results=#[.tmp t]) (hd:a.defers=[]) (hv:a.eval (.tmp t)=v) (hR:R (.returned v) w):bodyPost P fn R .ret a w :=
 bodyPost_ret (results_tmp h _ _ _) hd (by rw [show a.tmps.getD t undef=v from hv]; exact hR)
theorem qed {dst:Option Tmp} {op:Op} {ty:TypeId} {pos:String} {after:Array Edge} {g:Option (Nat × Bool)} (hw:Region.wanted ⟨dst,op,ty,pos,after,g⟩ (yielded ops a.tmps)=true)
  (h:wpList P ops Q (⟨dst,op,ty,pos,after,none⟩ :: rest) a w):wpList P ops Q (⟨dst,op,ty,pos,after,g⟩ :: rest) a w:=by
 unfold wpList at h ⊢;rw [if_pos hw];rw [if_pos (by simp [Region.wanted])] at h;exact h
end
end Go.Proofs.YtflhjpokjdjbpaaGreatDoor
namespace Go.Proofs.YtflhjpokjdjbpaaGreatDoor
open Go.RowKit
def mixN (h:Nat) (c:Nat):Nat:=((h ^^^ c)*1099511628211) % 18446744073709551616
def mixL (h:Nat) (l:List UInt8):Nat:=l.foldl (fun h c=>mixN h c.toNat) h
theorem qvu (h c:Nat):mixN h c<18446744073709551616:=Nat.mod_lt _ (by decide)
theorem jad:∀ (l:List UInt8) (h:Nat),h<18446744073709551616→mixL h l<18446744073709551616
 | [],_,hh=>hh
 | c :: r,h,_=>jad r (mixN h c.toNat) (qvu _ _)
theorem qvv (h:Nat) (l r:List UInt8):mixL h (l++r)=mixL (mixL h l) r:=List.foldl_append ..
theorem qr1 (h:Nat):mixL h []=h:=rfl
theorem qtm (h:Nat) (c:UInt8) (r:List UInt8):mixL h (c :: r)=mixL (mixN h c.toNat) r:=rfl
theorem jcd (h:Nat) (l:List UInt8) (k:Nat) (hk:k<l.length):mixL h (l.take (k+1))=mixN (mixL h (l.take k)) l[k].toNat:=by
 rw [List.take_succ_eq_append_getElem hk,qvv,qtm,qr1]
theorem jg7:(18446744073709551616:Nat)=2 ^ 64:=by decide
theorem jfv (h c:Nat) (hh:h<18446744073709551616) (hc:c<18446744073709551616):h ^^^ c<18446744073709551616:=by
 rw [jg7] at hh hc ⊢;exact Nat.xor_lt_two_pow hh hc
theorem jck (h:Nat) (c:UInt8) (hh:h<18446744073709551616):bits BinOp.xor IntKind.u64 (h:Int) (c.toNat:Int)=((h ^^^ c.toNat:Nat):Int) :=
 bits_xor_u64_nat _ _ hh (by have:=c.toNat_lt; omega)
theorem jdo (X:Nat):IntKind.u64.wrap ((X:Int)*1099511628211)=(((X*1099511628211) % 18446744073709551616:Nat):Int):=by
 rw [IntKind.wrap_u64]; omega
def qqd (w:World) (a:Option Addr) (l:List UInt8):Prop :=
 ∀ j (hj:j<l.length),∃ x,a=some x∧w.cell? (x.add j)=some (.int .u8 (l[j].toNat:Int))
theorem qfl (h:Nat) (l:List UInt8) (a:Option Addr) (cap:Nat) (w:World) (hh:h<18446744073709551616) (hlen:l.length≤maxLen) (ha:qqd w a l) :
  Calls Tryz.prog 101 #[.int .u64 h,.slice a l.length cap] w fun e w'=>e = .returned (.int .u64 (mixL h l:Nat))∧w=w':=by
 unfold maxLen at hlen;have HA:=Lib.hid ha;clear ha;go_enter Tryz.func101,Tryz.ntmps101
 go_wp2
 go_loop [0,5] (fun n i=>∃ (k X:Nat),k≤l.length∧i = .int .i64 k∧n = .int .u64 X∧X<18446744073709551616∧Hid (X=mixL h (l.take k))) (fun _ i=>l.length-(intOf i).toNat)
 case atStart=>exact ⟨0,h,Nat.zero_le _,rfl,rfl,hh,Lib.hid (by rw [List.take_zero,qr1])⟩
 case round =>
  obtain ⟨k,X,hk,rfl,rfl,hX,HG⟩:=hrel;by_cases hlt:k<l.length
  · obtain ⟨x,rfl,hc⟩:=HA.out k hlt
    have b1:(l[k].toNat:Int)≤255:=by have:=l[k].toNat_lt; omega
    have hb:=jck X l[k] hX;have hxl:=jfv X l[k].toNat hX (by have:=l[k].toNat_lt; omega);have HN:Hid (mixN X l[k].toNat=((X ^^^ l[k].toNat)*1099511628211) % 18446744073709551616):=Lib.hid rfl;have HX:=Lib.hid (qvu X l[k].toNat);generalize X ^^^ l[k].toNat=Y at *;have hw:=jdo Y;go_wp2
    go_round
    case rel=>exact ⟨k+1,mixN X l[k].toNat,by omega,by go_num,congrArg (Value.int .u64) (by rw [HN.out]; omega),HX.out,Lib.hid (by rw [jcd h l k hlt,HG.out])⟩
    case measure=>simp [intOf]; omega
  · go_wp2
    go_ret;exact ⟨qbu (by rw [HG.out,List.take_of_length_le (by omega)]),rfl⟩
end Go.Proofs.YtflhjpokjdjbpaaGreatDoor

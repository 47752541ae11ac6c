/- The contracts of Sum, of package hash and of its reference. Appending a slice of bytes that came in to a slice of the call's own; the law HashWrite at open arguments; what the bound on the arguments gives. More of a region's single operations: comparisons, lengths, slices of slices that are built. A region that draws its order and stores once, by what each operation leaves. SHA-256 in plain words, over words of 32 bits; how the arithmetic of the translated code is spelt at them. Fields: Valid of package field and of its reference; a field's line. A set of names in a map: setOf, and whether a field's name is in it. Slices of fields in memory: read, appended to, opened among the arguments. Values, Has and Without, in the reference. Values, Without and Has of package field. Has of package field (a closure), Elements, SameFields. With: appends of whole slices of fields, slices.Grow and slices.Concat. slices.Concat, With of package field and of its reference, SameFields. Format, by the library's Builder and in the reference. A region that draws its order, whose one store comes behind all else: the rest goes on from there. Parse of package field: the index of a colon, strings.Cut. A region that draws its order, in phases: between its breaking operations the others come in whatever order. -/
import Derived.Test.YtflhjpokjdjbpaaGreatDoorPq1
import Derived.Lib.SlBytesConst
import Derived.Maps.AppendAt
import Derived.Laws.AppendOwnNone
import Derived.Great.BuildSlice
import Derived.Laws.Rows
import Derived.Laws.BitsAllLaws
import Derived.Laws.Shifts
import Derived.Maps.OwnOps
import Derived.Maps.OwnSet
import Derived.Deep.SlicePairs
import Derived.Lib.AppendZerosOnto
import Derived.Lib.AppendStr
import Derived.Laws.CopyOwn
import Derived.OwnWalk
set_option maxRecDepth 100000
set_option maxHeartbeats 4000000
namespace Go.Proofs.YtflhjpokjdjbpaaGreatDoor
open Go.RowKit
def sumN (h:Nat) (s:ByteArray):Nat:=mixN (mixL h s.data.toList) 0
def sumL (l:List ByteArray):Nat:=l.foldl sumN 14695981039346656037
theorem ja7 (h:Nat) (s:ByteArray):sumN h s<18446744073709551616:=qvu _ _
theorem jd8:sumL []=14695981039346656037:=by unfold sumL; rw [List.foldl_nil]
theorem jbk (l:List ByteArray) (k:Nat) (hk:k<l.length):sumL (l.take (k+1))=sumN (sumL (l.take k)) l[k]:=by
 unfold sumL;rw [List.take_succ_eq_append_getElem hk,List.foldl_append,List.foldl_cons,List.foldl_nil]
theorem qtt (w:World):Calls Tryz.prog 100 #[] w fun e w'=>e = .returned (.int .u64 14695981039346656037)∧w=w':=by
 go_enter Tryz.func100,Tryz.ntmps100
 go_wp2
 go_ret;exact ⟨rfl,rfl⟩
theorem quj (w:World) (s:ByteArray) (cap:Nat) :
  qqd (w.alloc (.cells (bytesRow s cap) 5 ((bytesRow s cap).size,(bytesRow s cap).size+1))).drew (some ⟨w.heap.size,0,none⟩) s.data.toList:=fun j hj=>by
 refine ⟨_,rfl,?_⟩;rw [Addr.add_lit,Nat.zero_add];exact (qhn w s cap j hj).1
theorem qxy (w:World) (c:UInt8) (fr:Nat × Nat):qqd (w.alloc (.cells #[.int .u8 (c.toNat:Int)] 5 fr)) (some ⟨w.heap.size,0,none⟩) [c]:=fun j hj=>by
 have:j=0:=by simpa using hj
 subst this;refine ⟨_,rfl,?_⟩;rw [Addr.add_lit,Nat.zero_add,World.cell?_alloc_mark]; rfl
theorem qp4 (s:ByteArray):s.data.toList.length=s.size:=by simp
theorem qs8 (h:Nat) (s:ByteArray) (a:Option Addr) (cap:Nat) (w:World) (hh:h<18446744073709551616) (hs:s.size≤maxLen) (ha:qqd w a s.data.toList) :
  Calls Tryz.prog 101 #[.int .u64 h,.slice a s.size cap] w fun e w'=>e = .returned (.int .u64 (mixL h s.data.toList:Nat))∧w=w':=by
 have:=qfl h s.data.toList a cap w hh (by rw [qp4]; exact hs) ha;rw [qp4] at this; exact this
theorem qq6 (h:Nat) (c:UInt8) (z:Int) (hz:z=(c.toNat:Int)) (w:World) (fr:Nat × Nat) (hh:h<18446744073709551616) :
  Calls Tryz.prog 101 #[.int .u64 h,.slice (some ⟨w.heap.size,0,none⟩) 1 1] (w.alloc (.cells #[.int .u8 z] 5 fr)) fun e w'=>e = .returned (.int .u64 (mixN h c.toNat:Nat))∧(w.alloc (.cells #[.int .u8 z] 5 fr))=w':=by
 subst hz;have:=qfl h [c] _ 1 _ hh (show 1≤maxLen by decide) (qxy w c fr);rw [qtm,qr1] at this;exact this
theorem qyo (l:List ByteArray) (a:Option Addr) (cap:Nat) (w:World) (hlen:l.length≤maxLen) (hz:∀ s ∈ l,s.size≤maxLen) (ha:qbn w a l) :
  Calls Tryz.prog 76 #[.slice a l.length cap] w fun e w'=>e = .returned (.int .u64 (sumL l:Nat))∧Below w.heap.size w w':=by
 unfold maxLen at hlen;have HA:=Lib.hid ha;have HZ:=Lib.hid hz;clear ha hz;have hcv:=fun (w:World) (s:ByteArray)=>run_bytes_of_string (P:=Tryz.prog) w 9 23 5 s Tryz.underlying9 Tryz.underlying23 Tryz.underlying5;go_enter Tryz.func76,Tryz.ntmps76
 go_wp2_with (go_at_call 100; refine (qtt _).mono ?_; rintro e w' ⟨rfl,rfl⟩)
 go_loopw [3,4] (fun n i wr=>∃ (k X:Nat),k≤l.length∧i = .int .i64 k∧n = .int .u64 X∧X<18446744073709551616∧Hid (X=sumL (l.take k))∧Hid (Below w.heap.size w wr)) (fun _ i _=>l.length-(intOf i).toNat)
 case atStart=>exact ⟨0,14695981039346656037,Nat.zero_le _,rfl,rfl,by decide,Lib.hid (by rw [List.take_zero,jd8]),Lib.hid (Below.refl _ _)⟩
 case round =>
  obtain ⟨k,X,hk,rfl,rfl,hX,HG,HB⟩:=hrel;by_cases hlt:k<l.length
  · obtain ⟨x,rfl,hc⟩:=HA.out.keep HB.out k hlt
    have hs:=HZ.out _ (List.getElem_mem hlt);have HS:=Lib.hid (jbk l k hlt);generalize l[k]=s at *;go_wp2_with fail;have HC:=Lib.hid (quj wr s (grownCap wr s.size 0 5));have HN:=Lib.hid (qe HB.out (((Below.refl wr.heap.size wr).alloc (Nat.le_refl _) (.cells (bytesRow s (grownCap wr s.size 0 5)) 5 ((bytesRow s (grownCap wr s.size 0 5)).size,(bytesRow s (grownCap wr s.size 0 5)).size+1))).drew));generalize (wr.alloc (.cells (bytesRow s (grownCap wr s.size 0 5)) 5 ((bytesRow s (grownCap wr s.size 0 5)).size,(bytesRow s (grownCap wr s.size 0 5)).size+1))).drew=W1 at *;refine (qs8 X s _ _ W1 hX hs HC.out).mono ?_;rintro e w1 ⟨rfl,rfl⟩;go_wp2_with fail;refine (qq6 _ 0 0 rfl W1 _ (jad _ _ hX)).mono ?_;rintro e w1 ⟨rfl,rfl⟩;go_wp2_with fail;go_roundw
    case rel=>exact ⟨k+1,sumN X s,by omega,by go_num,rfl,ja7 _ _,Lib.hid (by rw [HS.out,HG.out]),Lib.hid (HN.out.alloc HN.out.size _)⟩
    case measure=>simp [intOf]; omega
  · go_wp2
    go_ret;exact ⟨qbu (by rw [HG.out,List.take_of_length_le (by omega)]),HB.out⟩
end Go.Proofs.YtflhjpokjdjbpaaGreatDoor
namespace Go.Proofs.YtflhjpokjdjbpaaGreatDoor
open Go.ChangeShapes Go.WideShapes Go.ChangeAt Go.RowKit
theorem qg.keep {w w':World} {a:Option Addr} {l:List UInt8} {cap:Nat} (h:qg w a l cap) (hb:Below w.heap.size w w'):qg w' a l cap:=by
 rcases h with h | ⟨x,h1,h2,h3,h4⟩
 · exact .inl h
 · exact .inr ⟨x,h1,h2,h3,fun j hj=>qp hb (h4 j hj)⟩
theorem AccB.empty (w:World):AccB w (w.alloc (.cells #[] 5)) (.slice (some ⟨w.heap.size,0,none⟩) 0 0) []:=by
 refine ⟨⟨rfl,.inr ⟨w.heap.size,0,#[],rfl,Nat.le_refl _,?_,Nat.le_refl _,Nat.zero_le _,rfl,rfl⟩⟩,(Below.refl _ _).alloc (Nat.le_refl _) _⟩;show (w.heap.push _)[w.heap.size]? = _
 simp
section
variable {ops:Array Oper} {rest:List Oper} {o:Oper} {act:Act} {Q:Exit→Act→World→Prop}
theorem kn (w:World) (hgd:o.guard=none) (s x:Operand) (ho:o.op = .call { callee:=.builtin .append,args:=#[s,x],argTypes:=#[23,23] })
  {w0:World} {v:Value} {l:List UInt8} (hs:act.eval s=v) (h:AccB w0 w v l) {a:Option Addr} {r:List UInt8} {c:Nat} (hx:act.eval x = .slice a r.length c) (hr:qg w a r c)
  (hn:l.length+r.length≤140737488355328)
  (K:∀ v' w',AccB w0 w' v' (l++r)→wpList Tryz.prog ops Q rest (act.put o.dst v') w'):wpList Tryz.prog ops Q (o :: rest) act w:=by
 obtain ⟨i0,hi,hz0,hz1,hz2⟩:=info_parts Tryz.info5;rcases hr with ⟨rfl,rfl,rfl⟩ | ⟨ad,rfl,hr1,hr2,hr3⟩
 · refine wpList_append_own_none hgd s x 23 ho w0.heap.size 5 i0 1 Tryz.underlying23 hi v l.length (j9 l) hs h.1 hx (K _ _ ?_)
   rw [List.append_nil]; exact h
 · refine wpList_append_own_at w hgd s x 23 ho w0.heap.size 5 i0 (.int .u8 0) 1 1 Tryz.underlying23 hi hz0 hz1 hz2 rfl (by decide) v l.length (j9 l) hs h.1 ad r.length c (j9 r) hx (by rw [ke,Nat.mul_one]) ?_ ?_ (by unfold maxLen; omega) (by omega) h.2.size ?_
   · intro j u hj
     unfold j9 at hj;rw [List.getElem?_map] at hj;obtain ⟨c',hc',rfl⟩:=Option.map_eq_some_iff.1 hj;obtain ⟨hlt,rfl⟩:=List.getElem?_eq_some_iff.1 hc';exact hr3 j hlt
   · intro u hu
     unfold j9 at hu;obtain ⟨c',_,rfl⟩:=List.mem_map.1 hu;rfl
   · intro v' w' hown hgrow _ _
     refine K v' w' ⟨?_,h.2.grown hgrow h.2.size fun k hk=>(World.ownsRow.lt h.1 k hk).1⟩;rw [List.length_append];have e:j9 (l++r)=j9 l++j9 r:=by unfold j9; rw [List.map_append]
     rw [e]; exact hown
end
end Go.Proofs.YtflhjpokjdjbpaaGreatDoor
namespace Go.Proofs.YtflhjpokjdjbpaaGreatDoor
open Go.RowKit
def qcf (w:World) (v:Value) (l:List UInt8):Prop:=∃ a c,v = .slice a l.length c∧qg w a l c
theorem qcf.keep {w w':World} {v:Value} {l:List UInt8} (h:qcf w v l) (hb:Below w.heap.size w w'):qcf w' v l:=by
 obtain ⟨a,c,h1,h2⟩:=h;exact ⟨a,c,h1,h2.keep hb⟩
def Spec.bytes (l:List UInt8):Spec:=⟨fun v w=>qcf w v l,fun _ _ _ h hb=>h.keep hb⟩
section
variable {Q:Exit→Act→World→Prop} {a:Act} {w:World} {o:Oper} {s:Spec}
theorem qqr {x:Operand} (ho:o.op = .call { callee:=.builtin .len,args:=#[x],argTypes:=#[23] }) {ad:Option Addr} {n c:Nat} (hx:a.eval x = .slice ad n c) (hs:s.p (.int .i64 n) w) :
  o.wp Tryz.prog a w (fun a' w'=>∃ v,a'=a.put o.dst v∧Below w.heap.size w w'∧s.p v w') Q :=
 j0 (v:=.int .i64 n) (by
  unfold execOp;simp [ho,hx,resolve,invoke,builtin,Builtin.len_,run_underlying Tryz.underlying23]
  try rfl) (Below.refl _ _) hs
theorem qj6 {x:Operand} (ho:o.op = .convert 23 9 x) {l:List UInt8} (h:qcf w (a.eval x) l) (hs:s.p (.string ⟨l.toArray⟩) w) :
  o.wp Tryz.prog a w (fun a' w'=>∃ v,a'=a.put o.dst v∧Below w.heap.size w w'∧s.p v w') Q:=by
 obtain ⟨ad,c,h1,h2⟩:=h;refine qva ho ?_ hs;rw [h1];exact jr h2
end
end Go.Proofs.YtflhjpokjdjbpaaGreatDoor
namespace Go.Proofs.YtflhjpokjdjbpaaGreatDoor
open Go.RowKit
structure SpecQ extends Spec where
 q:Value→Prop
 weak:∀ v w,p v w→q v
def SpecQ.val (v:Value):SpecQ:=⟨.val v,fun x=>x=v,fun _ _ h=>h⟩
def SpecQ.of (s:Spec):SpecQ:=⟨s,fun _=>True,fun _ _ _=>trivial⟩
def qis (S:List (Option SpecQ)):List Spec:=S.map fun | some s=>s.toSpec | none=>.any
def qh7 (ops:Array Oper) (S:List (Option SpecQ)) (a:Act) (j:Nat):Prop :=
 match ops[j]?,S[j]? with
 | some o,some (some s)=>(match o.dst with | some d=>s.q (a.eval (.tmp d)) | none=>True)
 | _,_=>True
def jfl (P:Program) (Q:Exit→Act→World→Prop) (ops:Array Oper) (S:List (Option SpecQ)) (a0:Act) (o:Oper) (s:SpecQ):Prop :=
 ∀ a w,Fr ops a0 a→(∀ j,jh o j=true→qh7 ops S a j) →
  Region.wanted o (yielded ops a.tmps)=true∧o.wp P a w (fun a' w'=>w'=w ∧ ∃ v,a'=a.put o.dst v∧s.q v) Q
def qte (P:Program) (Q:Exit→Act→World→Prop) (ops:Array Oper) (S:List (Option SpecQ)) (a0:Act) (w0:World):List Oper→List (Option SpecQ)→Prop
 | o :: os,some s :: ss=>qx1 P Q ops (qis S) a0 w0 o s.toSpec∧qte P Q ops S a0 w0 os ss
 | _ :: os,none :: ss=>qte P Q ops S a0 w0 os ss
 | [],[]=>True
 | _,_=>False
def jcf (P:Program) (Q:Exit→Act→World→Prop) (ops:Array Oper) (S:List (Option SpecQ)) (a0:Act):List Nat→Prop
 | i :: r=>(match ops[i]?,S[i]? with | some o,some (some s)=>jfl P Q ops S a0 o s | _,_=>True)∧jcf P Q ops S a0 r
 | []=>True
def jf0 (ops:Array Oper) (st:Nat) (late:List Nat):Bool :=
 (List.range ops.size).all fun i=>decide (i=st) || late.contains i || (match ops[st]? with | some o=>jh o i | none=>false)
def jc0 (P:Program) (Q:Exit→Act→World→Prop) (ops:Array Oper) (S:List (Option SpecQ)) (a0:Act) (w0:World) (st:Nat) (Post:World→Prop):Prop :=
 match ops[st]? with
 | some o=>o.dst=none ∧ ∀ a w,Below w0.heap.size w0 w→Fr ops a0 a→(∀ j,jh o j=true→qb5 ops (qis S) a w j)→Region.wanted o (yielded ops a.tmps)=true∧o.wp P a w (fun a' w'=>a'=a∧Post w') Q
 | none=>False
section
variable {P:Program} {Q:Exit→Act→World→Prop} {ops:Array Oper} {S:List (Option SpecQ)} {a0:Act} {w0:World}
theorem qir:∀ {os:List Oper} {ss:List (Option SpecQ)},qte P Q ops S a0 w0 os ss → ∀ (i:Nat) (o:Oper),os[i]? = some o → ∃ s,ss[i]? = some s ∧ ∀ s',s=some s'→qx1 P Q ops (qis S) a0 w0 o s'.toSpec
 | o :: os,some s :: ss,h,0,_,rfl=>⟨some s,rfl,fun s' e=>by obtain rfl:=Option.some.inj e; exact h.1⟩
 | o :: os,some s :: ss,h,i+1,o',ho=>qir (os:=os) (ss:=ss) h.2 i o' ho
 | o :: os,none :: ss,h,0,_,rfl=>⟨none,rfl,fun s' e=>by cases e⟩
 | o :: os,none :: ss,h,i+1,o',ho=>qir (os:=os) (ss:=ss) h i o' ho
 | [],_,_,i,_,ho=>by simp at ho
theorem qt6:∀ {late:List Nat},jcf P Q ops S a0 late → ∀ i,i ∈ late → ∀ o s,ops[i]? = some o→S[i]? = some (some s)→jfl P Q ops S a0 o s
 | k :: r,h,i,hi,o,s,ho,hs=>by
  rcases List.mem_cons.1 hi with rfl | hi
  · have:=h.1; simp only [ho,hs] at this; exact this
  · exact qt6 h.2 i hi o s ho hs
theorem qje {j:Nat} {s:SpecQ} (h:S[j]? = some (some s)):(qis S)[j]? = some s.toSpec:=by unfold qis; rw [List.getElem?_map,h]; rfl
theorem qy7 {a:Act} {w:World} {j:Nat} (h:qb5 ops (qis S) a w j):qh7 ops S a j:=by
 unfold qh7
 split
 · rename_i o s ho hs
   unfold qb5 at h;rw [ho,qje hs] at h;cases hd:o.dst with
   | none=>trivial
   | some d=>simp only [hd] at h; exact s.weak _ _ h
 · trivial
theorem qt7 {a:Act} {o:Oper} {i:Nat} (ho:ops[i]? = some o) (hf:Fr ops a0 a) (v:Value):Fr ops a0 (a.put o.dst v):=by
 refine ⟨?_,?_,fun k hk=>?_⟩
 · have:=hf.defers
   cases o.dst <;> simpa [Act.put] using this
 · have:=hf.size
   cases o.dst <;> simpa [Act.put] using this
 · rw [kh,hf.base k hk]
   intro hk2;have:qtp ops k=true:=by
    unfold qtp;exact List.any_eq_true.2 ⟨o,Array.mem_toList_iff.2 (Array.mem_of_getElem? ho),by rw [hk2]; simp⟩
   rw [hk] at this; cases this
theorem qdu {a:Act} {o:Oper} {i j:Nat} {w:World} {T:List Spec} (hd:qj3 ops a0.tmps.size=true) (ho:ops[i]? = some o) (hji:j≠i) {v:Value} (h:qb5 ops T a w j):qb5 ops T (a.put o.dst v) w j:=by
 unfold qb5 at *;cases hoj:ops[j]? with
 | none=>simp
 | some o' =>
  cases hsj:T[j]? with
  | none=>simp
  | some s' =>
   simp only [hoj,hsj] at h ⊢;cases hdo:o'.dst with
   | none=>trivial
   | some d =>
    simp only [hdo] at h ⊢;show s'.p ((a.put o.dst v).eval (.tmp d)) w
    rw [kh]
    · exact h
    · intro e
      exact (qc4 hd ho e).2 j o' hoj hji hdo
theorem qyn {a:Act} {o:Oper} {i j:Nat} (hd:qj3 ops a0.tmps.size=true) (ho:ops[i]? = some o) (hji:j≠i) {v:Value} (h:qh7 ops S a j):qh7 ops S (a.put o.dst v) j:=by
 unfold qh7 at *;cases hoj:ops[j]? with
 | none=>simp
 | some o' =>
  cases hsj:S[j]? with
  | none=>simp
  | some s' =>
   cases s' with
   | none=>simp
   | some s' =>
    simp only [hoj,hsj] at h ⊢;cases hdo:o'.dst with
    | none=>trivial
    | some d =>
     simp only [hdo] at h ⊢;show s'.q ((a.put o.dst v).eval (.tmp d))
     rw [kh]
     · exact h
     · intro e
       exact (qc4 hd ho e).2 j o' hoj hji hdo
theorem qfu {id:Nat} (S:List (Option SpecQ)) (st:Nat) (late:List Nat) (Post:World→Prop) (hm:P.follows .mixedOrders=true)
  (hB:(List.range ops.size).all (fun i=>match ops[i]? with | some x=>x.after.all (fun e=>!Region.binds .any e || decide (e.on<i)) | none=>true)=true)
  (hd:qj3 ops a0.tmps.size=true) (hl:jf0 ops st late=true) (hst:S[st]? = some none) (hlen:S.length=ops.size) (hone:(List.range S.length).all (fun i=>decide (i=st) || (match S[i]? with | some (some _)=>true | _=>false))=true)
  (h:qte P Q ops S a0 w0 ops.toList S) (hL:jcf P Q ops S a0 late) (hS:jc0 P Q ops S a0 w0 st Post)
  (hQ:∀ a w,Post w→Fr ops a0 a→(∀ j,j<ops.size→qh7 ops S a j)→Q .normal a w):(Code.region id ops true).wp P Q a0 w0:=by
 have hstlt:st<ops.size:=by rw [← hlen]; exact (List.getElem?_eq_some_iff.1 hst).1
 have hosto:ops[st]? = some ops[st]:=Array.getElem?_eq_getElem hstlt;unfold jc0 at hS;rw [hosto] at hS;simp only at hS;refine qbj hm (fun m a w=>Fr ops a0 a∧((m.getD st false=false∧Below w0.heap.size w0 w ∧ ∀ j,m.getD j false=true→qb5 ops (qis S) a w j) ∨
  (m.getD st false=true∧Post w∧(∀ j,m.getD j false=true→qh7 ops S a j) ∧ ∀ j,jh ops[st] j=true→m.getD j false=true))) ?_ ?_ ?_
 · rintro m a w hs ⟨hf,hh⟩ i hi
   obtain ⟨h1,o,ho,hall⟩:=mem_ready.1 hi;have hil:i<ops.size:=(Array.getElem?_eq_some_iff.1 ho).1;have hmi:m.getD i false=false:=by
    have hs':i<m.size:=by rw [hs]; exact hil
    simp [hs'] at h1 ⊢; exact h1
   have hdeps:∀ j,jh o j=true→m.getD j false=true:=fun j hj=>by
    obtain ⟨e,he,h2⟩:=List.any_eq_true.1 hj;simp only [Bool.and_eq_true,beq_iff_eq] at h2;obtain ⟨h3,rfl⟩:=h2;exact hall e (Array.mem_toList_iff.1 he) h3
   unfold wpOp;simp only [ho];by_cases hist:i=st
   · subst hist
     have hoe:o=ops[i]:=Option.some.inj (ho.symm.trans hosto);subst hoe;rcases hh with ⟨_,hb,hh⟩ | ⟨h2,_⟩
     · obtain ⟨hdn,hS⟩:=hS
       obtain ⟨hw,hwp⟩:=hS a w hb hf fun j hj=>hh j (hdeps j hj);rw [if_pos hw];refine .inl (Oper.wp_mono ?_ hwp);rintro a' w' ⟨rfl,hp⟩;have hsz:i<m.size:=by rw [hs]; exact hil
       refine ⟨hf,.inr ⟨by simp [hsz],hp,fun j hj=>?_,fun j hj=>getD_set_true (hdeps j hj)⟩⟩;by_cases hji:j=i
       · subst hji
         unfold qh7;rw [hosto,hst]; trivial
       · rw [getD_set_ne false (fun e=>hji e.symm)] at hj
         exact qy7 (hh j hj)
     · rw [hmi] at h2; cases h2
   · have hsi:∃ s,S[i]? = some (some s):=by
      have:=List.all_eq_true.1 hone i (List.mem_range.2 (by rw [hlen]; exact hil));cases hq:S[i]? with
      | none=>rw [hq] at this; simp [hist] at this
      | some x =>
       cases x with
       | none=>rw [hq] at this; simp [hist] at this
       | some s=>exact ⟨s,rfl⟩
     obtain ⟨s,hsi⟩:=hsi;rcases hh with ⟨h2,hb,hh⟩ | ⟨h2,hp,hh,hall2⟩
     · obtain ⟨s',hs',hstep⟩:=qir h i o (by simpa using ho)
       obtain rfl:s'=some s:=Option.some.inj (hs'.symm.trans hsi);obtain ⟨hw,hwp⟩:=hstep s rfl a w hb hf fun j hj=>hh j (hdeps j hj);rw [if_pos hw];refine .inl (Oper.wp_mono ?_ hwp);rintro a' w' ⟨v,rfl,hb',hsp⟩;refine ⟨qt7 ho hf v,.inl ⟨by rw [getD_set_ne false hist]; exact h2,hb.trans (hb'.mono hb.size),fun j hj=>?_⟩⟩;by_cases hji:j=i
       · subst hji
         unfold qb5;simp only [ho,qje hsi];cases hdo:o.dst with
         | none=>trivial
         | some d =>
          show s.p ((a.put (some d) v).eval (.tmp d)) w'
          rw [kv]
          · exact hsp
          · rw [hf.size]; exact (qc4 hd ho hdo).1
       · have hj':m.getD j false=true:=by rw [getD_set_ne false (fun e=>hji e.symm)] at hj; exact hj
         exact qdu hd ho hji (qdi (hh j hj') hb')
     · have hlate:i ∈ late:=by
        have:=List.all_eq_true.1 hl i (List.mem_range.2 hil);rw [hosto] at this;simp only [Bool.or_eq_true,decide_eq_true_eq,List.contains_iff_mem] at this;rcases this with (h3 | h3) | h3
        · exact absurd h3 hist
        · exact h3
        · have:=hall2 i h3; rw [hmi] at this; cases this
       obtain ⟨hw,hwp⟩:=qt6 hL i hlate o s ho hsi a w hf fun j hj=>hh j (hdeps j hj);rw [if_pos hw];refine .inl (Oper.wp_mono ?_ hwp);rintro a' w' ⟨rfl,v,rfl,hq⟩;refine ⟨qt7 ho hf v,.inr ⟨getD_set_true h2,hp,fun j hj=>?_,fun j hj=>getD_set_true (hall2 j hj)⟩⟩;by_cases hji:j=i
       · subst hji
         unfold qh7;simp only [ho,hsi];cases hdo:o.dst with
         | none=>trivial
         | some d =>
          show s.q ((a.put (some d) v).eval (.tmp d))
          rw [kv]
          · exact hq
          · rw [hf.size]; exact (qc4 hd ho hdo).1
       · have hj':m.getD j false=true:=by rw [getD_set_ne false (fun e=>hji e.symm)] at hj; exact hj
         exact qyn hd ho hji (hh j hj')
 · rintro m a w hs ⟨hf,hh⟩ hr
   have hmarked:∀ j,j<ops.size→m.getD j false=true:=fun j=>by
    induction j using Nat.strongRecOn with
    | _ j ih =>
     intro hj;cases hmj:m.getD j false with
     | true=>rfl
     | false =>
      exfalso
      have hoj:ops[j]? = some ops[j]:=Array.getElem?_eq_getElem hj;have hbk:=List.all_eq_true.1 hB j (List.mem_range.2 hj);rw [hoj] at hbk;simp only [Array.all_eq_true_iff_forall_mem,Bool.or_eq_true,Bool.not_eq_true',decide_eq_true_eq] at hbk;have hlt:∀ e ∈ ops[j].after,Region.binds .any e=true→e.on<j:=fun e he hbd=>by
       rcases hbk e he with h | h
       · rw [hbd] at h; cases h
       · exact h
      have:j ∈ Region.ready .any ops m:=mem_ready.2 ⟨by
       have hs':j<m.size:=by rw [hs]; exact hj
       simp [hs'] at hmj ⊢; exact hmj,ops[j],hoj,fun e he hbd=>ih _ (hlt e he hbd) (by have:=hlt e he hbd; omega)⟩
      rw [hr] at this; cases this
   rcases hh with ⟨h2,_⟩ | ⟨_,hp,hh,_⟩
   · rw [hmarked st hstlt] at h2; cases h2
   · exact hQ a w hp hf fun j hj=>hh j (hmarked j hj)
 · refine ⟨⟨rfl,rfl,fun _ _=>rfl⟩,.inl ⟨?_,(Below.refl _ _).drew,fun j hj=>?_⟩⟩
   · simp only [Array.getD_eq_getD_getElem?,Array.getElem?_replicate]; split <;> rfl
   · exfalso
     simp only [Array.getD_eq_getD_getElem?,Array.getElem?_replicate] at hj
     split at hj <;> simp at hj
end
section
variable {P:Program} {Q:Exit→Act→World→Prop} {ops:Array Oper} {a:Act} {w:World} {o:Oper} {s:SpecQ}
theorem jcy {v:Value} (h:(execOp a.eval o).run P w = .ok (.value v) w) (hs:s.q v):o.wp P a w (fun a' w'=>w'=w ∧ ∃ v,a'=a.put o.dst v∧s.q v) Q:=by
 unfold Oper.wp;rw [h];exact ⟨rfl,v,rfl,hs⟩
theorem qml {x:Operand} (ho:o.op = .assign x) (hs:s.q (a.eval x)):o.wp P a w (fun a' w'=>w'=w ∧ ∃ v,a'=a.put o.dst v∧s.q v) Q :=
 jcy (by unfold execOp; rw [ho]; rfl) hs
end
end Go.Proofs.YtflhjpokjdjbpaaGreatDoor
namespace Go.Proofs.YtflhjpokjdjbpaaGreatDoor
structure Box (p:Prop):Prop where
 out:p
structure St where
 (a b c d e f g h:UInt32)
def w4 (l:List UInt8):UInt32:=l.foldl (fun x c=>(x <<< 8) ||| c.toUInt32) 0
end Go.Proofs.YtflhjpokjdjbpaaGreatDoor
namespace Go.Proofs.YtflhjpokjdjbpaaGreatDoor
open Go.RowKit
theorem qd (w:World) (o:Obj):Below w.heap.size w (w.alloc o):=(Below.refl _ _).alloc (Nat.le_refl _) _
def fldB (n v:ByteArray):Bool:=tokS n && valS v
theorem qq8 {n v:ByteArray} (h:tokS n=false):fldB n v=false:=by unfold fldB; rw [h]; rfl
theorem qqw {n v:ByteArray} (h:tokS n=true):fldB n v=valS v:=by unfold fldB; rw [h]; rfl
theorem qke (n v:ByteArray) (w:World) (hn:n.size≤maxLen) (hv:v.size≤maxLen) :
  Calls Tryz.prog 159 #[.agg #[.string n,.string v]] w fun e w'=>e = .returned (.bool (fldB n v))∧Below w.heap.size w w':=by
 go_enter Tryz.func159,Tryz.ntmps159
 by_cases ht:tokS n=true
 · have HT:=Box.mk ht
   go_wp2_with fail;refine (qev n _ hn).mono ?_;rintro e w1 ⟨rfl,rfl⟩;go_wp2_with fail;refine (qtc v _ hv).mono ?_;rintro e w1 ⟨rfl,hb⟩;clear ht;go_wp2_with fail;go_ret;exact ⟨qq (qqw HT.out).symm,qe (qd _ _) hb⟩
 · have ht':tokS n=false:=by simpa using ht
   have HT:=Box.mk ht';clear ht;go_wp2_with fail;refine (qev n _ hn).mono ?_;rintro e w1 ⟨rfl,rfl⟩;go_wp2_with fail;go_ret;exact ⟨qq (qq8 HT.out).symm,qd _ _⟩
theorem qa8 (n v:ByteArray) (w:World) (hn:n.size≤maxLen) (hv:v.size≤maxLen) :
  Calls Tryz.prog 73 #[.agg #[.string n,.string v]] w fun e w'=>e = .returned (.bool (fldB n v))∧Below w.heap.size w w':=by
 go_enter Tryz.func73,Tryz.ntmps73
 by_cases ht:tokS n=true
 · have HT:=Box.mk ht
   go_wp2_with fail;refine (qai n _ hn).mono ?_;rintro e w1 ⟨rfl,rfl⟩;go_wp2_with fail;refine (qty v _ hv).mono ?_;rintro e w1 ⟨rfl,rfl⟩;clear ht;go_wp2_with fail;go_ret;exact ⟨qq (qqw HT.out).symm,qd _ _⟩
 · have ht':tokS n=false:=by simpa using ht
   have HT:=Box.mk ht';clear ht;go_wp2_with fail;refine (qai n _ hn).mono ?_;rintro e w1 ⟨rfl,rfl⟩;go_wp2_with fail;go_ret;exact ⟨qq (qq8 HT.out).symm,qd _ _⟩
end Go.Proofs.YtflhjpokjdjbpaaGreatDoor
namespace Go.Proofs.YtflhjpokjdjbpaaGreatDoor
open Go.RowKit
open Go.Maps (Keyed string_keyed)
theorem je9:Keyed Tryz.prog 9:=string_keyed Tryz.underlying9
theorem jfu (w:World):(zeroValue 4).run Tryz.prog w = .ok (.bool false) w:=by kernel_rfl
def inS (s:ByteArray) (S:List ByteArray):Bool:=S.any fun x=>x.toList == s.toList
def qcd (w:World) (b n:Nat) (S:List ByteArray):Prop :=
 ∃ D:DataW Unit,w.ownsMap Tryz.prog 9 (plainElem Tryz.prog 4) b n D ∧ ∀ s:ByteArray,D.atKey (.string s.data.toList) (.lit (.bool false)) = .lit (.bool (inS s S))
theorem qcd.keep {w w':World} {b n:Nat} {S:List ByteArray} (h:qcd w b n S) (hb:Below w.heap.size w w'):qcd w' b n S:=by
 obtain ⟨D,h1,h2⟩:=h;have hlt:=h1.lt;obtain ⟨es,clock,hbk,F,hs,hD⟩:=h1;exact ⟨D,⟨es,clock,by rw [hb.block b hlt]; exact hbk,F,hs,hD⟩,h2⟩
theorem qcd.lt {w:World} {b n:Nat} {S:List ByteArray} (h:qcd w b n S):b<w.heap.size:=by
 obtain ⟨D,h1,_⟩:=h; exact h1.lt
theorem qcd.made (w:World):qcd (w.alloc (.map #[] 0)) w.heap.size 0 [] :=
 ⟨.map [],World.ownsMap_made _ _ _ _,fun s=>by simp [DataW.atKey,inS]⟩
section
variable {ops:Array Oper} {rest:List Oper} {o:Oper} {act:Act} {Q:Exit→Act→World→Prop}
theorem qcd.run {w:World} {b n:Nat} {S:List ByteArray} (h:qcd w b n S) (s:ByteArray) (hs:s.size≤maxLen) :
  (Instr.lookup 170 (.map (some b)) (.string s) false).run Tryz.prog w = .ok (.bool (inS s S)) w:=by
 obtain ⟨D,h1,h2⟩:=h;obtain ⟨v,ps,hrun,hv⟩:=h1.lookup (t:=170) (e:=4) je9 Tryz.underlying170 (jfu w) (plainElem_bool Tryz.underlying4 false) (key:=.string s) (kl:=.string s.data.toList) (WideMaps.keyOf_string_mk Tryz.underlying9 hs);rw [h2 s] at hv;have:v = .bool (inS s S):=by
  unfold plainElem at hv;rw [Tryz.underlying4] at hv;generalize inS s S=r at *;cases v <;> simp at hv
  rw [hv.1]
 rw [hrun,this]
theorem qj5 (w:World) (hg:o.guard=none) (m x:Operand) (hop:o.op=Op.mapUpdate 170 m x (.const (.bool true))) {b n:Nat} {S:List ByteArray} {s:ByteArray}
  (hm:act.eval m = .map (some b)) (hS:qcd w b n S) (hn:n<maxLen) (hx:act.eval x = .string s) (hs:s.size≤maxLen)
  (hK:∀ w',qcd w' b (n+1) (S++[s])→w.grownBy w' (some b)→wpList Tryz.prog ops Q rest (act.put o.dst undef) w'):wpList Tryz.prog ops Q (o :: rest) act w:=by
 obtain ⟨D,h1,h2⟩:=hS;refine wpList_mapUpdate_own w hg m x (.const (.bool true)) 170 hop 9 4 je9 Tryz.underlying170 _ b n D hm h1 hn (.string s) (.bool true) (.string s.data.toList) hx rfl (WideMaps.keyOf_string_mk Tryz.underlying9 hs)
  (.lit (.bool true)) [] (plainElem_bool Tryz.underlying4 true) ?_
 intro w' h3 h4;refine hK w' ⟨_,h3,fun s'=>?_⟩ h4;by_cases he:s'=s
 · subst he
   rw [Maps.atKey_put_same (h1.isMap) (show WideAt.IsKeyLit (.string s'.data.toList) from trivial)];simp [inS]
 · rw [Maps.atKey_put_other (fun e=>he (qd5 (by injection e)))]
   rw [h2 s'];have:(s.toList == s'.toList)=false:=by rw [toList_eq]; simp; exact fun e=>he e.symm
   simp [inS,this]
end
theorem qp1 (s:ByteArray):(lowS s).size=s.size:=by
 show (lowS s).data.size=s.data.size
 simp [lowS]
def jfn (w:World) (S:List ByteArray) (e:Ending) (w':World):Prop :=
 ∃ b n,e = .returned (.map (some b))∧qcd w' b n S∧Below w.heap.size w w'
theorem qu1 (l:List ByteArray) (a:Option Addr) (cap:Nat) (w:World) (h:qbn w a l) (hz:∀ s ∈ l,s.size≤maxLen) (hl:l.length≤140737488355328) :
  Calls Tryz.prog 141 #[.slice a l.length cap] w (jfn w (l.map lowS)):=by
 have H0:=Box.mk h;have HZ:=Box.mk hz;clear h hz;have hmm:=@run_makeMap Tryz.prog;go_enter Tryz.func141,Tryz.ntmps141
 go_wp2_with fail;obtain ⟨W,hW⟩ : ∃ W,W=w.alloc (.map #[] 0):=⟨_,rfl⟩;have HS:=Box.mk (qcd.made w);have HB:=Box.mk (qd w (.map #[] 0));rw [← hW] at HS HB ⊢;clear hW;generalize hb:w.heap.size=b at HS ⊢;have HBS:=Box.mk hb;clear hb;go_loopw [9] (fun iv wr=>∃ k:Nat,k≤l.length∧iv = .int .i64 k∧Box (qcd wr b k ((l.take k).map lowS)∧Below w.heap.size w wr)) (fun iv _=>l.length-(intOf iv).toNat)
 case atStart=>exact ⟨0,Nat.zero_le _,rfl,⟨by simpa using HS.out,HB.out⟩⟩
 case round =>
  clear HS HB;obtain ⟨k,hk,rfl,HM⟩:=hrel;by_cases hlt:k<l.length
  · obtain ⟨x,rfl,hx⟩:=(H0.out.keep HM.out.2) k hlt
    have HT:=Box.mk (show (l.take (k+1)).map lowS=(l.take k).map lowS++[lowS l[k]] by rw [List.take_succ_eq_append_getElem hlt,List.map_append]; rfl);have HSZ:=Box.mk (HZ.out _ (List.getElem_mem hlt));generalize l[k]=s at *;go_wp2_with fail;refine (qic s _ HSZ.out).mono ?_;rintro e w1 ⟨rfl,hb1⟩;have HS1:=Box.mk (HM.out.1.keep hb1);have HB1:=Box.mk (qe HM.out.2 hb1);have HLZ:=Box.mk (show (lowS s).size≤maxLen by rw [qp1]; exact HSZ.out);clear hb1;go_wp2_with (at_mapUpdate; refine qj5 _ rfl _ _ rfl rfl HS1.out (by unfold maxLen; omega) rfl HLZ.out ?c1)
    case c1 =>
     intro w2 hs2 hg2;have HM2:=Box.mk (show qcd w2 b (k+1) ((l.take (k+1)).map lowS)∧Below w.heap.size w w2 from ⟨by rw [HT.out,List.map_take]; exact hs2,HB1.out.grown hg2 HB1.out.size (fun j hj=>by injection hj with hj; have:=HBS.out; omega)⟩);clear hs2 hg2 HS1 HB1 HT;go_wp2_with fail;go_roundw
     case rel=>exact ⟨k+1,by omega,by go_num,HM2⟩
     case measure=>simp [intOf]; omega
  · have HE:=Box.mk (show qcd wr b k (l.map lowS) by have:=HM.out.1; rw [List.take_of_length_le (by omega)] at this; exact this)
    go_wp2_with fail;go_ret;exact ⟨b,k,rfl,HE.out,HM.out.2⟩
theorem qmk (n v:ByteArray) (b m:Nat) (S:List ByteArray) (w:World) (h:qcd w b m S) (hn:n.size≤maxLen) :
  Calls Tryz.prog 142 #[.agg #[.string n,.string v],.map (some b)] w fun e w'=>e = .returned (.bool (inS (lowS n) S))∧Below w.heap.size w w':=by
 have H0:=Box.mk (h.keep (qd w (.cells #[.string n,.string v] 173)));clear h;go_enter Tryz.func142,Tryz.ntmps142
 go_wp2_with fail;refine (qic n _ hn).mono ?_;rintro e w1 ⟨rfl,hb⟩;have hrun:=(H0.out.keep hb).run (lowS n) (by rw [qp1]; exact hn);have HB:=Box.mk (qe (qd w (.cells #[.string n,.string v] 173)) hb);clear hb;generalize hr:inS (lowS n) S=r at *;have HR:=Box.mk hr;clear hr;go_wp2_with fail;go_ret;exact ⟨qq HR.out.symm,HB.out⟩
end Go.Proofs.YtflhjpokjdjbpaaGreatDoor
namespace Go.Proofs.YtflhjpokjdjbpaaGreatDoor
open Go.ChangeShapes Go.WideShapes Go.ChangeAt Go.RowKit
abbrev Fld:=ByteArray × ByteArray
def qaj (l:List Fld):List Value:=l.flatMap fun f=>[.string f.1,.string f.2]
theorem qdh (l:List Fld):(qaj l).length=l.length*2:=by
 induction l with
 | nil=>rfl
 | cons a t ih =>
  have:qaj (a :: t) = .string a.1 :: .string a.2 :: qaj t:=rfl;rw [this]; simp only [List.length_cons,ih]; omega
theorem qdj (a b:List Fld):qaj (a++b)=qaj a++qaj b:=by unfold qaj; rw [List.flatMap_append]
theorem qgk:∀ (l:List Fld) (j:Nat) (hj:j<l.length),(qaj l)[j*2]? = some (.string l[j].1)∧(qaj l)[j*2+1]? = some (.string l[j].2)
 | a :: t,0,_=>⟨rfl,rfl⟩
 | a :: t,j+1,hj=>by
  have ih:=qgk t j (by simpa using hj);have e:qaj (a :: t) = .string a.1 :: .string a.2 :: qaj t:=rfl;rw [e,show (j+1)*2=j*2+1+1 by omega,show j*2+1+1+1=(j*2+1)+1+1 by omega];simpa using ih
theorem qjb (l:List Fld):∀ u ∈ qaj l,u.oneCell'=true:=by
 intro u hu;unfold qaj at hu;obtain ⟨f,_,hf⟩:=List.mem_flatMap.1 hu;simp at hf;rcases hf with rfl | rfl <;> rfl
theorem qd3 {w:World} {x:Addr} {i:Nat} {v:Value} (h:w.cell? (x.add (i+1))=some v):w.cell? ⟨(x.add i).block,(x.add i).off+1,none⟩=some v:=by
 rw [← Go.Deep.add_add] at h;rw [← h]; rfl
def qm (w:World) (a:Option Addr) (l:List Fld):Prop :=
 ∀ j (hj:j<l.length),∃ x,a=some x∧w.cell? (x.add (j*2))=some (.string l[j].1)∧w.cell? (x.add (j*2+1))=some (.string l[j].2)
theorem qm.keep {w w':World} {a:Option Addr} {l:List Fld} (h:qm w a l) (hb:Below w.heap.size w w'):qm w' a l:=fun j hj=>by
 obtain ⟨x,e,h1,h2⟩:=h j hj;exact ⟨x,e,qp hb h1,qp hb h2⟩
theorem qm.nil (w:World) (a:Option Addr):qm w a []:=fun _ hj=>absurd hj (Nat.not_lt_zero _)
theorem qm.cells {w:World} {x:Addr} {l:List Fld} (h:qm w (some x) l):∀ j u,(qaj l)[j]? = some u→w.cell? (x.add j)=some u:=fun j u hj=>by
 have hlt:j<l.length*2:=by rw [← qdh]; exact (List.getElem?_eq_some_iff.1 hj).1
 have hk:j / 2<l.length:=by omega
 obtain ⟨y,e,h1,h2⟩:=h (j / 2) hk;obtain rfl:=Option.some.inj e;obtain ⟨g1,g2⟩:=qgk l (j / 2) hk;rcases Nat.mod_two_eq_zero_or_one j with hm | hm
 · have:j / 2*2=j:=by omega
   rw [this] at h1 g1;rw [hj] at g1; rw [h1,← g1]
 · have:j / 2*2+1=j:=by omega
   rw [this] at h2 g2;rw [hj] at g2; rw [h2,← g2]
theorem qm.of_cells {w:World} {x:Addr} {l:List Fld} (h:∀ j u,(qaj l)[j]? = some u→w.cell? (x.add j)=some u):qm w (some x) l:=fun j hj =>
 ⟨x,rfl,h _ _ (qgk l j hj).1,h _ _ (qgk l j hj).2⟩
theorem Tryz.info78:(Tryz.prog.info? 78).map (fun i=>(i.zero,i.size,i.bytes))=some (some (.agg #[.string ⟨#[]⟩,.string ⟨#[]⟩]),2,32):=by kernel_rfl
def AccF (w0 w:World) (v:Value) (l:List Fld):Prop :=
 w.ownsRow w0.heap.size 78 2 v l.length (qaj l)∧Below w0.heap.size w0 w
theorem AccF.start (w:World):AccF w w (.slice none 0 0) []:=⟨World.ownsRow_nil _ _ _ _,Below.refl _ _⟩
theorem AccF.keep {w0 w w':World} {v:Value} {l:List Fld} (h:AccF w0 w v l) (hb:Below w.heap.size w w'):AccF w0 w' v l :=
 ⟨qg7 h.1 hb,h.2.trans (hb.mono h.2.size)⟩
theorem AccF.shape {w0 w:World} {v:Value} {l:List Fld} (h:AccF w0 w v l):∃ a cap,v = .slice a l.length cap∧qm w a l:=by
 obtain ⟨⟨h1,h2⟩,_⟩:=h;rcases h2 with ⟨rfl,h2⟩ | ⟨g,cap,cur,rfl,hg,hc,hcap,hm,hsz,ht⟩
 · have:l=[]:=List.eq_nil_of_length_eq_zero h2
   subst this;exact ⟨none,0,rfl,qm.nil _ _⟩
 · refine ⟨_,cap,rfl,qm.of_cells fun j u hj=>?_⟩
   have e:=congrArg (fun x=>x[j]?) ht;have hlt:j<l.length*2:=by rw [← qdh]; exact (List.getElem?_eq_some_iff.1 hj).1
   rw [hj,List.getElem?_take_of_lt hlt] at e;rw [Addr.add_lit];simp only [World.cell?,hc,Nat.zero_add];simpa using e
section
variable {ops:Array Oper} {rest:List Oper} {o:Oper} {act:Act} {Q:Exit→Act→World→Prop}
theorem qe5 (w:World) (hgd:o.guard=none) (s x:Operand) (ho:o.op = .call { callee:=.builtin .append,args:=#[s,x],argTypes:=#[27,27] })
  {w0:World} {v:Value} {l:List Fld} (hs:act.eval s=v) (h:AccF w0 w v l) {b c:Nat} (hx:act.eval x = .slice (some ⟨b,0,none⟩) 1 c) {y:Fld} (hy:w.cell? ⟨b,0,none⟩=some (.string y.1)) (hy2:w.cell? ⟨b,1,none⟩=some (.string y.2))
  (hn:l.length+1≤4398046511104)
  (K:∀ g cap w',AccF w0 w' (.slice (some ⟨g,0,none⟩) (l.length+1) cap) (l++[y]) →
   wpList Tryz.prog ops Q rest (act.put o.dst (.slice (some ⟨g,0,none⟩) (l.length+1) cap)) w'):wpList Tryz.prog ops Q (o :: rest) act w:=by
 obtain ⟨i0,hi,hz0,hz1,hz2⟩:=info_parts Tryz.info78;refine wpList_append_lies w hgd s x 27 ho w0.heap.size 78 i0 _ 2 32 Tryz.underlying27 hi hz0 hz1 hz2 rfl (by decide) v l.length (qaj l) hs h.1 ⟨b,0,none⟩ 1 c [.string y.1,.string y.2] hx rfl ?_ ?_ (by decide) (by unfold maxLen; omega) (by omega) h.2.size w.heap.size rfl ?_
 · intro j u hj
   match j,hj with
   | 0,hj=>simp at hj; subst hj; rw [Addr.add_lit]; exact hy
   | 1,hj=>simp at hj; subst hj; rw [Addr.add_lit]; exact hy2
   | j+2,hj=>simp at hj
 · intro u hu; simp at hu; rcases hu with rfl | rfl <;> rfl
 · intro g cap w' hown hgrow hg hlt
   refine K g cap w' ⟨?_,h.2.grown hgrow h.2.size fun k hk=>?_⟩
   · rw [List.length_append,qdj]; exact hown
   · exact (World.ownsRow.lt h.1 k hk).1
end
def qa6 (l:List Fld):Prop:=∀ f ∈ l,f.1.size≤maxLen∧f.2.size≤maxLen
end Go.Proofs.YtflhjpokjdjbpaaGreatDoor
namespace Go.Proofs.YtflhjpokjdjbpaaGreatDoor
open Go.RowKit
def qj (l:List Fld) (n:ByteArray):List ByteArray:=(l.filter fun f=>qab f.1 n).map (·.2)
theorem qlj (l:List Fld) (n:ByteArray) (k:Nat) (h:k<l.length) (hf:qab l[k].1 n=true):qj (l.take (k+1)) n=qj (l.take k) n++[l[k].2]:=by
 unfold qj;rw [List.take_succ_eq_append_getElem h,List.filter_append,List.map_append]; simp [hf]
theorem qo7 (l:List Fld) (n:ByteArray) (k:Nat) (h:k<l.length) (hf:qab l[k].1 n=false):qj (l.take (k+1)) n=qj (l.take k) n:=by
 unfold qj;rw [List.take_succ_eq_append_getElem h,List.filter_append,List.map_append]; simp [hf]
theorem qdx (l:List Fld) (n:ByteArray):(qj l n).length≤l.length:=by
 unfold qj; rw [List.length_map]; exact List.length_filter_le _ _
theorem qc7 (l:List Fld) (n:ByteArray) (a:Option Addr) (cap:Nat) (w:World) (h:qm w a l) (hz:qa6 l) (hn:n.size≤maxLen) (hl:l.length≤1000000) :
  Calls Tryz.prog 69 #[.slice a l.length cap,.string n] w (qhk w (qj l n)):=by
 have H0:=Box.mk h;have HZ:=Box.mk hz;clear h hz;go_enter Tryz.func69,Tryz.ntmps69
 go_wp2_with fail;go_loopw [5,6] (fun v iv wr=>∃ k:Nat,k≤l.length∧iv = .int .i64 k∧Box (Acc w wr v (qj (l.take k) n))) (fun _ iv _=>l.length-(intOf iv).toNat)
 case atStart=>exact ⟨0,Nat.zero_le _,rfl,⟨Acc.start w⟩⟩
 case round =>
  obtain ⟨k,hk,rfl,HM⟩:=hrel;by_cases hlt:k<l.length
  · obtain ⟨x,rfl,hx1,hx2⟩:=(H0.out.keep HM.out.2) k hlt
    have HSZ:=Box.mk (HZ.out _ (List.getElem_mem hlt));have hVL:=qdx (l.take k) n;have hVL2:(l.take k).length≤k:=List.length_take_le _ _;by_cases hf:qab l[k].1 n=true
    · have HT:=Box.mk (qlj l n k hlt hf)
      have HC2:=Box.mk hx2;generalize l[k]=f at *;go_wp2_with fail;refine (qhj f.1 n _ HSZ.out.1 hn).mono ?_;rintro e w1 ⟨rfl,hb1⟩;have hc2:=qd3 (qp hb1 HC2.out);have HM1:=Box.mk (HM.out.keep hb1);clear hb1 hx2;go_wp2_with (at_builtin; refine qa7 _ rfl _ _ rfl rfl (HM1.out.keep ((Below.refl _ _).alloc (Nat.le_refl _) _)) rfl (y:=f.2) ?c1 ?c2 ?c3)
      case c1=>simp
      case c2=>omega
      case c3 =>
       intro g cap' w' hacc _;have HACC:=Box.mk (show Acc w w' (.slice (some ⟨g,0,none⟩) ((qj (l.take k) n).length+1) cap') (qj (l.take (k+1)) n) by rw [HT.out]; exact hacc);clear hacc HM1 HT;go_wp2_with fail;go_roundw
       case rel=>exact ⟨k+1,by omega,by go_num,HACC⟩
       case measure=>simp [intOf]; omega
    · have hf':qab l[k].1 n=false:=by simpa using hf
      have HT:=Box.mk (qo7 l n k hlt hf');clear hf;generalize l[k]=f at *;go_wp2_with fail;refine (qhj f.1 n _ HSZ.out.1 hn).mono ?_;rintro e w1 ⟨rfl,hb1⟩;have HM1:=Box.mk (show Acc w w1 _ (qj (l.take (k+1)) n) by rw [HT.out]; exact HM.out.keep hb1);clear hb1;go_wp2_with fail;go_roundw
      case rel=>exact ⟨k+1,by omega,by go_num,HM1⟩
      case measure=>simp [intOf]; omega
  · have HE:=Box.mk (show Acc w wr _ (qj l n) by have:=HM.out; rw [List.take_of_length_le (by omega)] at this; exact this)
    go_wp2_with fail;obtain ⟨a',cap',rfl,hs⟩:=HE.out.shape;go_ret;exact ⟨a',cap',rfl,hs,HE.out.2⟩
theorem qw4 (l:List Fld) (n:ByteArray):(decide (0<(qj l n).length))=l.any fun f=>qab f.1 n:=by
 unfold qj;rw [List.length_map,Bool.eq_iff_iff,decide_eq_true_eq,List.any_eq_true];constructor
 · intro h
   have h':0<(l.filter fun f=>qab f.1 n).length:=by omega
   obtain ⟨f,hf⟩:=List.exists_mem_of_length_pos h';rw [List.mem_filter] at hf;exact ⟨f,hf.1,hf.2⟩
 · rintro ⟨f,h1,h2⟩
   have:f ∈ l.filter fun f=>qab f.1 n:=List.mem_filter.2 ⟨h1,h2⟩;have:=List.length_pos_of_mem this;omega
def hasL (l:List Fld) (n:ByteArray):Bool:=l.any fun f=>qab f.1 n
theorem qz1 (l:List Fld) (n:ByteArray) (a:Option Addr) (cap:Nat) (w:World) (h:qm w a l) (hz:qa6 l) (hn:n.size≤maxLen) (hl:l.length≤1000000) :
  Calls Tryz.prog 91 #[.slice a l.length cap,.string n] w fun e w'=>e = .returned (.bool (hasL l n))∧Below w.heap.size w w':=by
 have H0:=Box.mk h;clear h;have HV:=Box.mk (qw4 l n);go_enter Tryz.func91,Tryz.ntmps91
 go_wp2_with fail;refine (qc7 l n a cap _ H0.out hz hn hl).mono ?_;rintro e w1 ⟨a',cap',rfl,hs,hb⟩;have hVL:=qdx l n;clear hs;go_wp2_with fail;go_ret;exact ⟨qq HV.out,hb⟩
def qw3 (l:List ByteArray) (s:ByteArray):Bool:=l.any fun x=>qab x s
theorem jf4 (s:ByteArray) (ns:List ByteArray):inS (lowS s) (ns.map lowS)=qw3 ns s:=by
 unfold inS qw3 qab;rw [List.any_map]; rfl
theorem qvz (s n:ByteArray):inS (lowS s) ([n].map lowS)=qab s n:=by
 rw [jf4];unfold qw3 qab;simp only [List.any_cons,List.any_nil,Bool.or_false];exact Bool.beq_comm
theorem jm (w:World) (cs:Array Value) (t:TypeId) (j:Nat):(w.alloc (.cells cs t (0,0))).cell? ⟨w.heap.size,j,none⟩=cs[j]? :=
 cell_of_row _ _ _ _ _ _ (heap_alloc_new w (.cells cs t (0,0)))
theorem qpc (w:World) (n:ByteArray) (t:TypeId):qbn (w.alloc (.cells #[.string n] t)) (some ⟨w.heap.size,0,none⟩) [n]:=fun j hj=>by
 obtain rfl:j=0:=by simpa using hj
 exact ⟨_,rfl,by rw [Addr.add_lit,jm]; rfl⟩
theorem qk {w w1:World} (h:Below w.heap.size w w1) (o:Obj):Below w.heap.size w (w1.alloc o):=qe h (qd w1 o)
theorem qcd.grown {w w':World} {b n:Nat} {S:List ByteArray} {row:Option Nat} (h:qcd w b n S) (hg:w.grownBy w' row) (hne:row≠some b):qcd w' b n S:=by
 obtain ⟨D,h1,h2⟩:=h;exact ⟨D,h1.kept hg (fun e=>hne e.symm),h2⟩
section
variable {ops:Array Oper} {rest:List Oper} {o:Oper} {act:Act} {Q:Exit→Act→World→Prop}
theorem qgv (w:World) (hgd:o.guard=none) (s x:Operand) (ho:o.op = .call { callee:=.builtin .append,args:=#[s,x],argTypes:=#[57,57] })
  {w0:World} {v:Value} {l:List ByteArray} (hs:act.eval s=v) (h:Acc w0 w v l) {b c:Nat} (hx:act.eval x = .slice (some ⟨b,0,none⟩) 1 c) {y:ByteArray} (hy:w.cell? ⟨b,0,none⟩=some (.string y))
  {q m:Nat} {S:List ByteArray} (hS:qcd w q m S) (hne:v.ownBlock≠some q) (hn:l.length+1≤8796093022208)
  (K:∀ v' w',Acc w0 w' v' (l++[y])→qcd w' q m S→v'.ownBlock≠some q→wpList Tryz.prog ops Q rest (act.put o.dst v') w'):wpList Tryz.prog ops Q (o :: rest) act w:=by
 obtain ⟨i0,hi,hz0,hz1,hz2⟩:=info_parts Tryz.info9;refine wpList_append_lies w hgd s x 57 ho w0.heap.size 9 i0 (.string ⟨#[]⟩) 1 16 Tryz.underlying57 hi hz0 hz1 hz2 rfl (by decide) v l.length (l.map Value.string) hs h.1 ⟨b,0,none⟩ 1 c [.string y] hx rfl ?_ ?_ (by decide) (by unfold maxLen; omega) (by omega) h.2.size w.heap.size rfl ?_
 · intro j u hj
   match j,hj with
   | 0,hj=>simp at hj; subst hj; rw [Addr.add_lit]; exact hy
   | j+1,hj=>simp at hj
 · intro u hu; simp at hu; subst hu; rfl
 · intro g cap w' hown hgrow hg hlt
   refine K _ w' ⟨by simpa using hown,h.2.grown hgrow h.2.size fun k hk=>(World.ownsRow.lt h.1 k hk).1⟩ (hS.grown hgrow hne) (fun e=>?_);have:g=q:=by simpa [Value.ownBlock] using e
   subst this;rcases hg with hg | hg
   · exact hne hg
   · have:=hS.lt; omega
end
theorem qsz (n:ByteArray):([n]:List ByteArray).length≤140737488355328:=by show 1≤140737488355328; decide
theorem qhq (l:List Fld) (n:ByteArray) (a:Option Addr) (cap:Nat) (w:World) (h:qm w a l) (hz:qa6 l) (hn:n.size≤maxLen) (hl:l.length≤1000000) :
  Calls Tryz.prog 126 #[.slice a l.length cap,.string n] w (qhk w (qj l n)):=by
 have H0:=Box.mk h;have HZ:=Box.mk hz;clear h hz;go_enter Tryz.func126,Tryz.ntmps126
 go_wp2_with fail;refine (qu1 [n] _ _ _ (qpc w n _) (by simpa using hn) (qsz n)).mono ?_;rintro e w1 ⟨b,m,rfl,hS,hb⟩;have HS:=Box.mk hS;have HB:=Box.mk (qe (qd w (.cells #[.string n] 9)) hb);clear hS hb;have HA0:=Box.mk (show Acc w w1 (.slice none 0 0) (qj (l.take 0) n) from ⟨World.ownsRow_nil _ _ _ _,HB.out⟩);go_wp2_with fail;go_loopw [5,14] (fun v iv wr=>∃ k:Nat,k≤l.length∧iv = .int .i64 k∧Box (Acc w wr v (qj (l.take k) n)∧qcd wr b m ([n].map lowS)∧v.ownBlock≠some b)) (fun _ iv _=>l.length-(intOf iv).toNat)
 case atStart=>exact ⟨0,Nat.zero_le _,rfl,⟨HA0.out,HS.out,by simp [Value.ownBlock]⟩⟩
 case round =>
  clear HS HB HA0;obtain ⟨k,hk,rfl,HM⟩:=hrel;by_cases hlt:k<l.length
  · obtain ⟨x,rfl,hx1,hx2⟩:=(H0.out.keep HM.out.1.2) k hlt
    have hx2:=qd3 hx2;have HSZ:=Box.mk (HZ.out _ (List.getElem_mem hlt));have hVL:=qdx (l.take k) n;have hVL2:(l.take k).length≤k:=List.length_take_le _ _;by_cases hf:qab l[k].1 n=true
    · have HT:=Box.mk (qlj l n k hlt hf)
      have HIN:=Box.mk (show inS (lowS l[k].1) ([n].map lowS)=true by rw [qvz]; exact hf);clear hf;generalize l[k]=f at *;go_wp2_with fail;refine (qmk f.1 f.2 b m _ _ (HM.out.2.1.keep (qd wr (.cells #[.string f.1,.string f.2] 78))) HSZ.out.1).mono ?_;rintro e w2 ⟨he,hb1⟩;rw [HIN.out] at he;subst he;have hc2:w2.cell? ⟨wr.heap.size,1,none⟩=some (.string f.2):=qp hb1 (by rw [jm]; rfl);have HB2:=Box.mk (qe (qd wr (.cells #[.string f.1,.string f.2] 78)) hb1);have HA2:=Box.mk (HM.out.1.keep HB2.out);have HS2:=Box.mk (HM.out.2.1.keep HB2.out);clear hb1 HIN;go_wp2_with (at_builtin; refine qgv _ rfl _ _ rfl rfl (HA2.out.keep ((Below.refl _ _).alloc (Nat.le_refl _) _)) rfl (y:=f.2) ?c1 (HS2.out.keep ((Below.refl _ _).alloc (Nat.le_refl _) _)) HM.out.2.2 ?c2 ?c3)
      case c1=>simp
      case c2=>omega
      case c3 =>
       intro v' w' hacc hs' hne;have HACC:=Box.mk (show Acc w w' v' (qj (l.take (k+1)) n)∧qcd w' b m ([n].map lowS)∧v'.ownBlock≠some b by rw [HT.out]; exact ⟨hacc,hs',hne⟩);clear hacc hs' hne HT HA2 HS2 HB2 HM;go_wp2_with fail;go_roundw
       case rel=>exact ⟨k+1,by omega,by go_num,HACC⟩
       case measure=>simp [intOf]; omega
    · have hf':qab l[k].1 n=false:=by simpa using hf
      have HT:=Box.mk (qo7 l n k hlt hf');have HIN:=Box.mk (show inS (lowS l[k].1) ([n].map lowS)=false by rw [qvz]; exact hf');clear hf hf';generalize l[k]=f at *;go_wp2_with fail;refine (qmk f.1 f.2 b m _ _ (HM.out.2.1.keep (qd wr (.cells #[.string f.1,.string f.2] 78))) HSZ.out.1).mono ?_;rintro e w2 ⟨he,hb1⟩;rw [HIN.out] at he;subst he;have HB2:=Box.mk (qe (qd wr (.cells #[.string f.1,.string f.2] 78)) hb1);have HM2:=Box.mk (show Acc w w2 _ (qj (l.take (k+1)) n)∧qcd w2 b m ([n].map lowS)∧_ by rw [HT.out]; exact ⟨HM.out.1.keep HB2.out,HM.out.2.1.keep HB2.out,HM.out.2.2⟩);clear hb1 HIN HT HB2;go_wp2_with fail;go_roundw
      case rel=>exact ⟨k+1,by omega,by go_num,HM2⟩
      case measure=>simp [intOf]; omega
  · have HE:=Box.mk (show Acc w wr _ (qj l n) by have:=HM.out.1; rw [List.take_of_length_le (by omega)] at this; exact this)
    go_wp2_with fail;obtain ⟨a',cap',rfl,hs⟩:=HE.out.shape;go_ret;exact ⟨a',cap',rfl,hs,HE.out.2⟩
end Go.Proofs.YtflhjpokjdjbpaaGreatDoor
namespace Go.Proofs.YtflhjpokjdjbpaaGreatDoor
open Go.RowKit
theorem qh2 (f:Fld) (c b m:Nat) (S:List ByteArray) (w:World) (hc:w.cell? ⟨c,0,none⟩=some (.map (some b))) (h:qcd w b m S) (hn:f.1.size≤maxLen) :
  Calls Tryz.prog 144 #[.agg #[.string f.1,.string f.2],.pointer (some ⟨c,0,none⟩)] w fun e w'=>e = .returned (.bool (inS (lowS f.1) S))∧Below w.heap.size w w':=by
 have H0:=Box.mk (h.keep (qd w (.cells #[.string f.1,.string f.2] 78)));have hc':=qp (qd w (.cells #[.string f.1,.string f.2] 78)) hc;clear h hc;go_enter Tryz.func144,Tryz.ntmps144
 go_wp2_with fail;refine (qmk f.1 f.2 b m S _ H0.out hn).mono ?_;rintro e w1 ⟨rfl,hb⟩;have HB:=Box.mk (qe (qd w (.cells #[.string f.1,.string f.2] 78)) hb);clear hb;generalize hr:inS (lowS f.1) S=r at *;have HR:=Box.mk hr;clear hr;go_wp2_with fail;go_ret;exact ⟨qq HR.out.symm,HB.out⟩
theorem qq5 (l:List Fld) (S:List ByteArray) (a:Option Addr) (cap c b m:Nat) (w:World) (h:qm w a l) (hz:qa6 l) (hc:w.cell? ⟨c,0,none⟩=some (.map (some b))) (hS:qcd w b m S) (hl:l.length≤1000000) :
  Calls Tryz.prog 164 #[.slice a l.length cap,.func (.func 144) #[] #[.pointer (some ⟨c,0,none⟩)]] w
   fun e w'=>∃ i:Int,e = .returned (.int .i64 i)∧decide (0≤i)=l.any (fun f=>inS (lowS f.1) S)∧Below w.heap.size w w':=by
 have H0:=Box.mk h;have HZ:=Box.mk hz;have HC:=Box.mk hc;have HS:=Box.mk hS;clear h hz hc hS;go_enter Tryz.func164,Tryz.ntmps164
 go_wp2_with fail;go_loopw [8] (fun iv wr=>∃ k:Nat,k≤l.length∧iv = .int .i64 k∧Box (Below w.heap.size w wr ∧ ∀ f ∈ l.take k,inS (lowS f.1) S=false)) (fun iv _=>l.length-(intOf iv).toNat)
 case atStart=>exact ⟨0,Nat.zero_le _,rfl,⟨Below.refl _ _,by simp⟩⟩
 case round =>
  obtain ⟨k,hk,rfl,HM⟩:=hrel;by_cases hlt:k<l.length
  · obtain ⟨x,rfl,hx1,hx2⟩:=(H0.out.keep HM.out.1) k hlt
    have hx2:=qd3 hx2;have HSZ:=Box.mk (HZ.out _ (List.getElem_mem hlt));have HMEM:=Box.mk (List.getElem_mem hlt);have HTK:=Box.mk (show l.take (k+1)=l.take k++[l[k]] from List.take_succ_eq_append_getElem hlt);generalize l[k]=f at *;have HC1:=Box.mk (qp HM.out.1 HC.out);by_cases hin:inS (lowS f.1) S=true
    · have HIN:=Box.mk hin
      have HR:=Box.mk (show l.any (fun f=>inS (lowS f.1) S)=true from List.any_eq_true.2 ⟨f,HMEM.out,hin⟩);clear hin;go_wp2_with fail;refine (qh2 f c b m S _ HC1.out (HS.out.keep HM.out.1) HSZ.out.1).mono ?_;rintro e w1 ⟨he,hb1⟩;rw [HIN.out] at he;subst he;have HB1:=Box.mk (qe HM.out.1 hb1);clear hb1;go_wp2_with fail;go_ret;exact ⟨(k:Int),rfl,by rw [HR.out]; simp,HB1.out⟩
    · have HIN:=Box.mk (show inS (lowS f.1) S=false by simpa using hin)
      clear hin;go_wp2_with fail;refine (qh2 f c b m S _ HC1.out (HS.out.keep HM.out.1) HSZ.out.1).mono ?_;rintro e w1 ⟨he,hb1⟩;rw [HIN.out] at he;subst he;have HM1:=Box.mk (show Below w.heap.size w w1 ∧ ∀ f ∈ l.take (k+1),inS (lowS f.1) S=false from ⟨qe HM.out.1 hb1,by
       rw [HTK.out];intro y hy;rcases List.mem_append.1 hy with h | h
       · exact HM.out.2 y h
       · simp at h; rw [h]; exact HIN.out⟩)
      clear hb1;go_wp2_with fail;go_roundw
      case rel=>exact ⟨k+1,by omega,by go_num,HM1⟩
      case measure=>simp [intOf]; omega
  · have HR:=Box.mk (show l.any (fun f=>inS (lowS f.1) S)=false by
     have:=HM.out.2;rw [List.take_of_length_le (by omega)] at this;rw [List.any_eq_false];intro y hy; rw [this y hy]; simp)
    go_wp2_with fail;go_ret;exact ⟨-1,rfl,by rw [HR.out]; rfl,HM.out.1⟩
theorem qkq (l:List Fld) (S:List ByteArray) (a:Option Addr) (cap c b m:Nat) (w:World) (h:qm w a l) (hz:qa6 l) (hc:w.cell? ⟨c,0,none⟩=some (.map (some b))) (hS:qcd w b m S) (hl:l.length≤1000000) :
  Calls Tryz.prog 143 #[.slice a l.length cap,.func (.func 144) #[] #[.pointer (some ⟨c,0,none⟩)]] w
   fun e w'=>e = .returned (.bool (l.any (fun f=>inS (lowS f.1) S)))∧Below w.heap.size w w':=by
 have H0:=Box.mk h;have HC:=Box.mk hc;clear h hc;go_enter Tryz.func143,Tryz.ntmps143
 go_wp2_with fail;refine (qq5 l S a cap c b m _ H0.out hz HC.out hS hl).mono ?_;rintro e w1 ⟨i,rfl,hi,hb⟩;have HI:=Box.mk hi;clear hi;go_wp2_with fail;go_ret;exact ⟨qq HI.out,hb⟩
theorem jd9 (l:List Fld) (n:ByteArray):(l.any fun f=>inS (lowS f.1) ([n].map lowS))=hasL l n:=by
 unfold hasL;congr 1;funext f
 rw [qvz]
theorem jdw (l:List Fld) (n:ByteArray) (a:Option Addr) (cap:Nat) (w:World) (h:qm w a l) (hz:qa6 l) (hn:n.size≤maxLen) (hl:l.length≤1000000) :
  Calls Tryz.prog 127 #[.slice a l.length cap,.string n] w fun e w'=>e = .returned (.bool (hasL l n))∧Below w.heap.size w w':=by
 have H0:=Box.mk h;clear h;go_enter Tryz.func127,Tryz.ntmps127
 go_wp2_with fail;refine (qu1 [n] _ _ _ (qpc w n _) (by simpa using hn) (qsz n)).mono ?_;rintro e w1 ⟨b,m,rfl,hS,hb⟩;have HB1:=Box.mk (qe (qd w (.cells #[.string n] 9)) hb);have HS:=Box.mk hS;clear hS hb;go_wp2_with fail;have HB2:=Box.mk (qe HB1.out (qd w1 (.cells #[.map (some b)] 170)));have hcn:(w1.alloc (.cells #[.map (some b)] 170)).cell? ⟨w1.heap.size,0,none⟩=some (.map (some b)):=by rw [jm]; rfl
 have HS2:=Box.mk (HS.out.keep (qd w1 (.cells #[.map (some b)] 170)));have HH:=Box.mk (jd9 l n);generalize [n].map lowS=S at *;refine (qkq l S a cap _ b m _ (H0.out.keep HB2.out) hz hcn HS2.out hl).mono ?_;rintro e w3 ⟨he,hb3⟩;rw [HH.out] at he;subst he;have HB3:=Box.mk (qe HB2.out hb3);clear hb3 hcn;go_wp2_with fail;go_ret;exact ⟨rfl,HB3.out⟩
section
variable (w:World) (m:Int)
theorem qpy (l:List Fld) (n:ByteArray) (a:Option Addr) (cap:Nat) (h:qm w a l) (hz:qa6 l) (hn:n.size≤maxLen) (hl:l.length≤1000000) (hm:w.cell? ⟨0,0,none⟩=some (.int .i64 m)) (ht:qam (qj l n)≤4000000000) :
  Calls Tryz.prog 129 #[.slice a l.length cap,.string n] w (qo9 w (qbh (qj l n))):=by
 have H0:=Box.mk h;have HM:=Box.mk hm;clear h hm;go_enter Tryz.func129,Tryz.ntmps129
 go_wp2_with fail;refine (qhq l n a cap _ H0.out hz hn hl).mono ?_;rintro e w1 ⟨a',cap',rfl,hs,hb⟩;have HB:=Box.mk hb;clear hb;go_wp2_with fail;refine (jcv _ a' cap' _ m hs (qp HB.out HM.out) ht).mono ?_;rintro e w2 ⟨v2,rfl,hs2⟩;have HS2:=Box.mk (Acc.lift HB.out hs2);clear hs2 hs;go_wp2_with fail;go_ret;exact ⟨v2,rfl,HS2.out⟩
theorem qmp (l:List Fld) (n:ByteArray) (a:Option Addr) (cap:Nat) (h:qm w a l) (hz:qa6 l) (hn:n.size≤maxLen) (hl:l.length≤1000000) (ht:qam (qj l n)≤4000000000) :
  Calls Tryz.prog 92 #[.slice a l.length cap,.string n] w (qo9 w (qbh (qj l n))):=by
 have H0:=Box.mk h;clear h;go_enter Tryz.func92,Tryz.ntmps92
 go_wp2_with fail;refine (qc7 l n a cap _ H0.out hz hn hl).mono ?_;rintro e w1 ⟨a',cap',rfl,hs,hb⟩;have HB:=Box.mk hb;clear hb;go_wp2_with fail;refine (qw8 _ a' cap' _ hs ht).mono ?_;rintro e w2 ⟨v2,rfl,hs2⟩;have HS2:=Box.mk (Acc.lift HB.out hs2);clear hs2 hs;go_wp2_with fail;go_ret;exact ⟨v2,rfl,HS2.out⟩
theorem qpu (l:List Fld) (n:ByteArray) (a:Option Addr) (cap:Nat) (h:qm w a l) (hz:qa6 l) (hn:n.size≤maxLen) (hl:l.length≤1000000) (hm:w.cell? ⟨0,0,none⟩=some (.int .i64 m)) (ht:qam (qj l n)≤4000000000) :
  Calls Tryz.prog 129 #[.slice a l.length cap,.string n] w (qhk w (qbh (qj l n))) :=
 (qpy w m l n a cap h hz hn hl hm ht).mono fun _ _ h=>h.strs
theorem qlt (l:List Fld) (n:ByteArray) (a:Option Addr) (cap:Nat) (h:qm w a l) (hz:qa6 l) (hn:n.size≤maxLen) (hl:l.length≤1000000) (ht:qam (qj l n)≤4000000000) :
  Calls Tryz.prog 92 #[.slice a l.length cap,.string n] w (qhk w (qbh (qj l n))) :=
 (qmp w l n a cap h hz hn hl ht).mono fun _ _ h=>h.strs
end
end Go.Proofs.YtflhjpokjdjbpaaGreatDoor
namespace Go.Proofs.YtflhjpokjdjbpaaGreatDoor
open Go.RowKit
def qfo (w:World) (a:Option Addr) (l:List Fld) (c:Nat):Prop:=qm w a l∧(a=none→l=[]∧c=0)
theorem qfo.keep {w w':World} {a:Option Addr} {l:List Fld} {c:Nat} (h:qfo w a l c) (hb:Below w.heap.size w w'):qfo w' a l c:=⟨h.1.keep hb,h.2⟩
theorem AccF.empty (w:World):AccF w (w.alloc (.cells #[] 78)) (.slice (some ⟨w.heap.size,0,none⟩) 0 0) []:=by
 refine ⟨⟨rfl,.inr ⟨w.heap.size,0,#[],rfl,Nat.le_refl _,?_,Nat.le_refl _,Nat.zero_le _,rfl,rfl⟩⟩,(Below.refl _ _).alloc (Nat.le_refl _) _⟩;show (w.heap.push _)[w.heap.size]? = _
 simp
theorem AccF.shapeC {w0 w:World} {v:Value} {l:List Fld} (h:AccF w0 w v l):∃ a cap,v = .slice a l.length cap∧qfo w a l cap:=by
 obtain ⟨a,cap,e,hs⟩:=h.shape;refine ⟨a,cap,e,hs,fun ha=>?_⟩;subst ha;obtain ⟨⟨h1,h2⟩,_⟩:=h;rcases h2 with ⟨rfl,h2⟩ | ⟨g,cap',cur,rfl,_⟩
 · injection e with e1 e2 e3
   exact ⟨List.eq_nil_of_length_eq_zero h2,e3.symm⟩
 · injection e with e1; cases e1
section
variable {ops:Array Oper} {rest:List Oper} {o:Oper} {act:Act} {Q:Exit→Act→World→Prop}
theorem kt (w:World) (hgd:o.guard=none) (s x:Operand) (ho:o.op = .call { callee:=.builtin .append,args:=#[s,x],argTypes:=#[27,27] })
  {w0:World} {v:Value} {l:List Fld} (hs:act.eval s=v) (h:AccF w0 w v l) {a:Option Addr} {r:List Fld} {c:Nat} (hx:act.eval x = .slice a r.length c) (hr:qfo w a r c)
  (hn:l.length+r.length≤4398046511104)
  (K:∀ v' w',AccF w0 w' v' (l++r)→wpList Tryz.prog ops Q rest (act.put o.dst v') w'):wpList Tryz.prog ops Q (o :: rest) act w:=by
 obtain ⟨i0,hi,hz0,hz1,hz2⟩:=info_parts Tryz.info78;cases a with
 | none =>
  obtain ⟨rfl,rfl⟩:=hr.2 rfl;refine wpList_append_own_none hgd s x 27 ho w0.heap.size 78 i0 2 Tryz.underlying27 hi v l.length (qaj l) hs h.1 hx (K _ _ ?_);rw [List.append_nil]; exact h
 | some ad =>
  refine wpList_append_own_at w hgd s x 27 ho w0.heap.size 78 i0 _ 2 32 Tryz.underlying27 hi hz0 hz1 hz2 rfl (by decide) v l.length (qaj l) hs h.1 ad r.length c (qaj r) hx (qdh r) (hr.1.cells) (qjb r) (by unfold maxLen; omega) (by omega) h.2.size ?_;intro v' w' hown hgrow _ _;refine K v' w' ⟨?_,h.2.grown hgrow h.2.size fun k hk=>(World.ownsRow.lt h.1 k hk).1⟩;rw [List.length_append,qdj]; exact hown
end
end Go.Proofs.YtflhjpokjdjbpaaGreatDoor
namespace Go.Proofs.YtflhjpokjdjbpaaGreatDoor
open Go.RowKit
def qpz (x y:List Fld):Bool:=decide (x=y)
theorem jby {x y:List Fld} (h:¬ x.length=y.length):qpz x y=false:=by
 unfold qpz; rw [decide_eq_false_iff_not]; intro e; exact h (by rw [e])
theorem jdq {x y:List Fld} {k:Nat} (h1:k<x.length) (h2:k<y.length) (h:¬ x[k]=y[k]):qpz x y=false:=by
 unfold qpz; rw [decide_eq_false_iff_not]; intro e; subst e; exact h rfl
theorem jbq {x y:List Fld} (hl:x.length=y.length) (h:∀ j (h1:j<x.length) (h2:j<y.length),x[j]=y[j]):qpz x y=true:=by
 unfold qpz; rw [decide_eq_true_eq]; exact List.ext_getElem hl h
theorem qyh (x:List Fld):qpz x x=true:=by unfold qpz; simp
theorem qnh (x y:List Fld) (a b:Option Addr) (ca cb:Nat) (w:World) (hx:qm w a x) (hy:qm w b y) (_hxl:x.length≤2000000) (_hyl:y.length≤2000000) :
  Calls Tryz.prog 48 #[.slice a x.length ca,.slice b y.length cb] w fun e w'=>e = .returned (.bool (qpz x y))∧Below w.heap.size w w':=by
 have HX:=Box.mk hx;have HY:=Box.mk hy;clear hx hy;go_enter Tryz.func48,Tryz.ntmps48
 by_cases hl:x.length=y.length
 · have HL:=Box.mk hl
   have hl1:((x.length:Int) != (y.length:Int))=false:=by simp [hl]
   have hl2:x.length≤y.length:=by omega
   clear hl;go_wp2
   go_loopw [5] (fun i wr=>∃ k:Nat,k≤x.length∧i = .int .i64 k∧Box (∀ j (h1:j<x.length) (h2:j<y.length),j<k→x[j]=y[j])∧Box (Below w.heap.size w wr)) (fun i _=>x.length-(intOf i).toNat)
   case atStart=>exact ⟨0,Nat.zero_le _,rfl,⟨by intro j _ _ h; omega⟩,⟨Below.refl _ _⟩⟩
   case round =>
    obtain ⟨k,hk,rfl,HP,HB⟩:=hrel;by_cases hlt:k<x.length
    · have hlt2:k<y.length:=by omega
      obtain ⟨x1,rfl,c1,c2⟩:=(HX.out.keep HB.out) k hlt;obtain ⟨y1,rfl,d1,d2⟩:=(HY.out.keep HB.out) k hlt2;have c2:=qd3 c2;have d2:=qd3 d2;by_cases he:x[k]=y[k]
      · have HE:=Box.mk (show ∀ j (h1:j<x.length) (h2:j<y.length),j<k+1→x[j]=y[j] from fun j h1 h2 hj=>by
         by_cases e:j=k
         · subst e; exact he
         · exact HP.out j h1 h2 (by omega))
        have e1:(x[k].1.toList == y[k].1.toList)=true:=by rw [he]; simp
        have e2:(x[k].2.toList == y[k].2.toList)=true:=by rw [he]; simp
        clear he;generalize x[k]=f at *;generalize y[k]=g at *;go_wp2_with fail;go_quiet (fail)
        go_wp2
        go_roundw
        case rel=>exact ⟨k+1,by omega,by go_num,HE,⟨below_drewN HB.out _⟩⟩
        case measure=>simp [intOf]; omega
      · have HN:=Box.mk (jdq hlt hlt2 he)
        by_cases e1:(x[k].1.toList == y[k].1.toList)=true
        · have e2:(x[k].2.toList == y[k].2.toList)=false:=by
           rw [toList_eq]; simp only [decide_eq_false_iff_not];intro h2;rw [toList_eq] at e1;exact he (Prod.ext (of_decide_eq_true e1) h2)
          clear he;generalize x[k]=f at *;generalize y[k]=g at *;go_wp2_with fail;go_quiet (fail)
          go_wp2
          go_ret;exact ⟨qq HN.out.symm,below_drewN HB.out _⟩
        · have e1':(x[k].1.toList == y[k].1.toList)=false:=by simpa using e1
          clear he e1;generalize x[k]=f at *;generalize y[k]=g at *;go_wp2_with fail;go_quiet (fail)
          go_wp2
          go_ret;exact ⟨qq HN.out.symm,below_drewN HB.out _⟩
    · go_wp2
      go_ret;exact ⟨qq (jbq HL.out fun j h1 h2=>HP.out j h1 h2 (by omega)).symm,HB.out⟩
 · have hl1:((x.length:Int) != (y.length:Int))=true:=by rw [bne_iff_ne]; omega
   have HL:=Box.mk hl;clear hl;go_wp2
   go_ret;exact ⟨qq (jby HL.out).symm,Below.refl _ _⟩
theorem qov (w:World) (o:Obj) (cs:Array Value) (t:TypeId) (j:Nat):((w.alloc o).alloc (.cells cs t (0,0))).cell? ⟨w.heap.size+1,j,none⟩=cs[j]?:=by
 have h:=jm (w.alloc o) cs t j;rw [show (w.alloc o).heap.size=w.heap.size+1 by simp] at h;exact h
def qjl (f:Fld):List UInt8:=f.1.data.toList++[58,32]++f.2.data.toList++[13,10]
def kz (l:List Fld):List UInt8:=l.flatMap qjl
def allB (l:List Fld):Bool:=l.all fun f=>fldB f.1 f.2
def fmtF (l:List Fld):ByteArray:=if allB l then ⟨(kz l).toArray⟩ else ⟨#[]⟩
theorem jdn (f:Fld):(f.1++⟨#[58,32]⟩++f.2++⟨#[13,10]⟩ : ByteArray).data.toList=qjl f:=by
 unfold qjl;simp only [ByteArray.data_append,Array.toList_append]
theorem qm6 (l:List Fld) (k:Nat) (h:k<l.length):kz (l.take (k+1))=kz (l.take k)++qjl l[k]:=by
 unfold kz;rw [List.take_succ_eq_append_getElem h,List.flatMap_append]; simp
theorem qs2 (f:Fld):(qjl f).length=f.1.size+f.2.size+4:=by
 unfold qjl;simp only [List.length_append,List.length_cons,List.length_nil,Array.length_toList];generalize e1:f.1.data.size=n1;generalize e2:f.2.data.size=n2;have g1:f.1.size=n1:=e1;have g2:f.2.size=n2:=e2;rw [g1,g2]; omega
def qbe (l:List Fld):Prop:=∀ f ∈ l,f.1.size≤1048576∧f.2.size≤1048576
theorem qo8 (l:List Fld) (h:qbe l) (k:Nat):(kz (l.take k)).length≤k*2097156:=by
 induction k with
 | zero=>simp [kz]
 | succ k ih =>
  by_cases hk:k<l.length
  · rw [qm6 l k hk,List.length_append,qs2]
    have:=h _ (List.getElem_mem hk);omega
  · rw [List.take_of_length_le (by omega)]
    rw [List.take_of_length_le (by omega)] at ih;exact Nat.le_trans ih (Nat.mul_le_mul_right _ (Nat.le_succ k))
theorem jeg {l:List Fld} {k:Nat} (hk:k<l.length) (h:fldB l[k].1 l[k].2=false):fmtF l=⟨#[]⟩:=by
 unfold fmtF;rw [if_neg];intro ha;have:=List.all_eq_true.1 ha _ (List.getElem_mem hk);rw [h] at this; cases this
theorem jcj {l:List Fld} {k:Nat} (hk:k≤l.length) (hk2:¬ k<l.length) (h:∀ f ∈ l.take k,fldB f.1 f.2=true):fmtF l=⟨(kz l).toArray⟩:=by
 unfold fmtF;rw [List.take_of_length_le (by omega)] at h;have:allB l=true:=List.all_eq_true.2 h;rw [if_pos this]
theorem qto {l:List Fld} {k:Nat} (hk:k<l.length) (h:∀ f ∈ l.take k,fldB f.1 f.2=true) (hf:fldB l[k].1 l[k].2=true):∀ f ∈ l.take (k+1),fldB f.1 f.2=true:=by
 rw [List.take_succ_eq_append_getElem hk];intro y hy;rcases List.mem_append.1 hy with h1 | h1
 · exact h y h1
 · simp at h1; rw [h1]; exact hf
theorem qbm {n:Nat} (h:n≤1048576):n≤maxLen:=by unfold maxLen; omega
theorem jt (a b:ByteArray):(a++b).data.toList=a.data.toList++b.data.toList:=by rw [ByteArray.data_append]; simp
theorem qip (l:List Fld) (a:Option Addr) (cap:Nat) (w:World) (h:qm w a l) (hz:qbe l) (hl:l.length≤1000000) :
  Calls Tryz.prog 54 #[.slice a l.length cap] w fun e w'=>e = .returned (.string (fmtF l))∧Below w.heap.size w w':=by
 have H0:=Box.mk h;have HZ:=Box.mk hz;clear h hz;go_enter Tryz.func54,Tryz.ntmps54
 go_wp2_with fail;go_loopw [3,4] (fun v iv wr=>∃ k:Nat,k≤l.length∧iv = .int .i64 k ∧ ∃ s:ByteArray,v = .string s∧s.size≤k*2097156∧Box (s.data.toList=kz (l.take k)∧Below w.heap.size w wr ∧ ∀ f ∈ l.take k,fldB f.1 f.2=true)) (fun _ iv _=>l.length-(intOf iv).toNat)
 case atStart=>exact ⟨0,Nat.zero_le _,rfl,⟨#[]⟩,rfl,Nat.zero_le _,⟨by simp [kz],Below.refl _ _,by simp⟩⟩
 case round =>
  obtain ⟨k,hk,rfl,s,rfl,hs,HM⟩:=hrel;by_cases hlt:k<l.length
  · obtain ⟨x,rfl,hx1,hx2⟩:=(H0.out.keep HM.out.2.1) k hlt
    have HX:=Box.mk (And.intro hx1 hx2);have hx2:=qd3 hx2;have HSZ:=Box.mk (HZ.out _ (List.getElem_mem hlt));have HST:=Box.mk (qm6 l k hlt);by_cases hv:fldB l[k].1 l[k].2=true
    · have HALL:=Box.mk (qto hlt HM.out.2.2 hv)
      have HV:=Box.mk hv;clear hv;generalize l[k]=f at *;have HLE:=Box.mk (jdn f);go_wp2_with fail;refine (qa8 f.1 f.2 _ (qbm HSZ.out.1) (qbm HSZ.out.2)).mono ?_;rintro e w1 ⟨he,hb1⟩;rw [HV.out] at he;subst he;have hc1:=qp hb1 HX.out.1;have hc2:=qd3 (qp hb1 HX.out.2);have HB1:=Box.mk (qe HM.out.2.1 hb1);have z1:=HSZ.out.1;have z2:=HSZ.out.2;have g1:(s++f.1).size=s.size+f.1.size:=by rw [ByteArray.size_append]
      have g2:(s++f.1++⟨#[58,32]⟩).size=s.size+f.1.size+2:=by rw [ByteArray.size_append,g1]; rfl
      have g3:(s++f.1++⟨#[58,32]⟩++f.2).size=s.size+f.1.size+2+f.2.size:=by rw [ByteArray.size_append,g2]
      have G4:=Box.mk (show (s++f.1++⟨#[58,32]⟩++f.2++⟨#[13,10]⟩).size=s.size+f.1.size+2+f.2.size+2 by rw [ByteArray.size_append,g3]; rfl);have HNEW:=Box.mk (show (s++f.1++⟨#[58,32]⟩++f.2++⟨#[13,10]⟩).data.toList=kz (l.take (k+1)) by
       rw [HST.out,← HLE.out,← HM.out.1];simp only [jt,List.append_assoc])
      clear hb1 hx1 hx2;go_wp2_with fail;go_quiet (fail)
      go_wp2
      go_roundw
      case rel=>exact ⟨k+1,by omega,by go_num,_,rfl,by rw [G4.out]; omega,⟨HNEW.out,below_drewN HB1.out _,HALL.out⟩⟩
      case measure=>simp [intOf]; omega
    · have HV:=Box.mk (show fldB l[k].1 l[k].2=false by simpa using hv)
      have HE:=Box.mk (jeg hlt HV.out);clear hv;generalize l[k]=f at *;go_wp2_with fail;refine (qa8 f.1 f.2 _ (qbm HSZ.out.1) (qbm HSZ.out.2)).mono ?_;rintro e w1 ⟨he,hb1⟩;rw [HV.out] at he;subst he;have HB1:=Box.mk (qe HM.out.2.1 hb1);clear hb1;go_wp2_with fail;go_ret;exact ⟨qb6 HE.out.symm,HB1.out⟩
  · have HE:=Box.mk (jcj hk hlt HM.out.2.2)
    have HS:=Box.mk (show s=⟨(kz l).toArray⟩ from qd5 (by have:=HM.out.1; rw [List.take_of_length_le (by omega)] at this; rw [this]));go_wp2_with fail;go_ret;exact ⟨qb6 (by rw [HE.out,HS.out]),HM.out.2.1⟩
def jec (P:Program) (Q:Exit→Act→World→Prop) (ops:Array Oper) (S:List (Option SpecQ)) (a0:Act) (w0:World) (st:Nat):Prop :=
 match ops[st]? with
 | some o=>∀ a w,Below w0.heap.size w0 w→Fr ops a0 a→(∀ j,j<ops.size→j≠st→qb5 ops (qis S) a w j)→Region.wanted o (yielded ops a.tmps)=true∧o.wp P a w (fun a' w'=>Q .normal a' w') Q
 | none=>False
section
variable {P:Program} {Q:Exit→Act→World→Prop} {ops:Array Oper} {S:List (Option SpecQ)} {a0:Act} {w0:World}
theorem qnr {id:Nat} (S:List (Option SpecQ)) (st:Nat) (hm:P.follows .mixedOrders=true)
  (hB:(List.range ops.size).all (fun i=>match ops[i]? with | some x=>x.after.all (fun e=>!Region.binds .any e || decide (e.on<i)) | none=>true)=true)
  (hd:qj3 ops a0.tmps.size=true) (hl:jf0 ops st []=true) (hst:S[st]? = some none) (hlen:S.length=ops.size) (hone:(List.range S.length).all (fun i=>decide (i=st) || (match S[i]? with | some (some _)=>true | _=>false))=true)
  (h:qte P Q ops S a0 w0 ops.toList S) (hS:jec P Q ops S a0 w0 st):(Code.region id ops true).wp P Q a0 w0:=by
 have hstlt:st<ops.size:=by rw [← hlen]; exact (List.getElem?_eq_some_iff.1 hst).1
 have hosto:ops[st]? = some ops[st]:=Array.getElem?_eq_getElem hstlt;unfold jec at hS;rw [hosto] at hS;simp only at hS;have hwait:∀ i,i<ops.size→i≠st→jh ops[st] i=true:=fun i hi hne=>by
  have:=List.all_eq_true.1 hl i (List.mem_range.2 hi);rw [hosto] at this;simp only [Bool.or_eq_true,decide_eq_true_eq,List.contains_nil,Bool.false_eq_true,or_false] at this;rcases this with h3 | h3
  · exact absurd h3 hne
  · exact h3
 refine qbj hm (fun m a w=>(m.getD st false=false∧Fr ops a0 a∧Below w0.heap.size w0 w ∧ ∀ j,m.getD j false=true→qb5 ops (qis S) a w j) ∨
  (m.getD st false=true∧Q .normal a w ∧ ∀ j,jh ops[st] j=true→m.getD j false=true)) ?_ ?_ ?_
 · rintro m a w hs hh i hi
   obtain ⟨h1,o,ho,hall⟩:=mem_ready.1 hi;have hil:i<ops.size:=(Array.getElem?_eq_some_iff.1 ho).1;have hmi:m.getD i false=false:=by
    have hs':i<m.size:=by rw [hs]; exact hil
    simp [hs'] at h1 ⊢; exact h1
   have hdeps:∀ j,jh o j=true→m.getD j false=true:=fun j hj=>by
    obtain ⟨e,he,h2⟩:=List.any_eq_true.1 hj;simp only [Bool.and_eq_true,beq_iff_eq] at h2;obtain ⟨h3,rfl⟩:=h2;exact hall e (Array.mem_toList_iff.1 he) h3
   unfold wpOp;simp only [ho];by_cases hist:i=st
   · subst hist
     have hoe:o=ops[i]:=Option.some.inj (ho.symm.trans hosto);subst hoe;rcases hh with ⟨_,hf,hb,hh⟩ | ⟨h2,_⟩
     · obtain ⟨hw,hwp⟩:=hS a w hb hf fun j hj hne=>hh j (hdeps j (hwait j hj hne))
       rw [if_pos hw];refine .inl (Oper.wp_mono ?_ hwp);intro a' w' hq;have hsz:i<m.size:=by rw [hs]; exact hil
       exact .inr ⟨by simp [hsz],hq,fun j hj=>getD_set_true (hdeps j hj)⟩
     · rw [hmi] at h2; cases h2
   · have hsi:∃ s,S[i]? = some (some s):=by
      have:=List.all_eq_true.1 hone i (List.mem_range.2 (by rw [hlen]; exact hil));cases hq:S[i]? with
      | none=>rw [hq] at this; simp [hist] at this
      | some x =>
       cases x with
       | none=>rw [hq] at this; simp [hist] at this
       | some s=>exact ⟨s,rfl⟩
     obtain ⟨s,hsi⟩:=hsi;rcases hh with ⟨h2,hf,hb,hh⟩ | ⟨h2,hp,hall2⟩
     · obtain ⟨s',hs',hstep⟩:=qir h i o (by simpa using ho)
       obtain rfl:s'=some s:=Option.some.inj (hs'.symm.trans hsi);obtain ⟨hw,hwp⟩:=hstep s rfl a w hb hf fun j hj=>hh j (hdeps j hj);rw [if_pos hw];refine .inl (Oper.wp_mono ?_ hwp);rintro a' w' ⟨v,rfl,hb',hsp⟩;refine .inl ⟨by rw [getD_set_ne false hist]; exact h2,qt7 ho hf v,hb.trans (hb'.mono hb.size),fun j hj=>?_⟩;by_cases hji:j=i
       · subst hji
         unfold qb5;simp only [ho,qje hsi];cases hdo:o.dst with
         | none=>trivial
         | some d =>
          show s.p ((a.put (some d) v).eval (.tmp d)) w'
          rw [kv]
          · exact hsp
          · rw [hf.size]; exact (qc4 hd ho hdo).1
       · have hj':m.getD j false=true:=by rw [getD_set_ne false (fun e=>hji e.symm)] at hj; exact hj
         exact qdu hd ho hji (qdi (hh j hj') hb')
     · have:=hall2 i (hwait i hil hist)
       rw [hmi] at this; cases this
 · rintro m a w hs hh hr
   have hmarked:∀ j,j<ops.size→m.getD j false=true:=fun j=>by
    induction j using Nat.strongRecOn with
    | _ j ih =>
     intro hj;cases hmj:m.getD j false with
     | true=>rfl
     | false =>
      exfalso
      have hoj:ops[j]? = some ops[j]:=Array.getElem?_eq_getElem hj;have hbk:=List.all_eq_true.1 hB j (List.mem_range.2 hj);rw [hoj] at hbk;simp only [Array.all_eq_true_iff_forall_mem,Bool.or_eq_true,Bool.not_eq_true',decide_eq_true_eq] at hbk;have hlt:∀ e ∈ ops[j].after,Region.binds .any e=true→e.on<j:=fun e he hbd=>by
       rcases hbk e he with h | h
       · rw [hbd] at h; cases h
       · exact h
      have:j ∈ Region.ready .any ops m:=mem_ready.2 ⟨by
       have hs':j<m.size:=by rw [hs]; exact hj
       simp [hs'] at hmj ⊢; exact hmj,ops[j],hoj,fun e he hbd=>ih _ (hlt e he hbd) (by have:=hlt e he hbd; omega)⟩
      rw [hr] at this; cases this
   rcases hh with ⟨h2,_⟩ | ⟨_,hp,_⟩
   · rw [hmarked st hstlt] at h2; cases h2
   · exact hp
 · refine .inl ⟨?_,⟨rfl,rfl,fun _ _=>rfl⟩,(Below.refl _ _).drew,fun j hj=>?_⟩
   · simp only [Array.getD_eq_getD_getElem?,Array.getElem?_replicate]; split <;> rfl
   · exfalso
     simp only [Array.getD_eq_getD_getElem?,Array.getElem?_replicate] at hj
     split at hj <;> simp at hj
end
end Go.Proofs.YtflhjpokjdjbpaaGreatDoor
namespace Go.Proofs.YtflhjpokjdjbpaaGreatDoor
open Go.RowKit
def qac (s:ByteArray):Int:=Lib.indexByte s.data.toList 58
theorem qzu (s:ByteArray) (h:(⟨#[58]⟩ : ByteArray)=s):qac s=0:=by subst h; rfl
theorem qlc (s c:ByteArray) (w:World) (hz:c.size=1) (h0:∀ h,c[0]'h=(58:UInt8)) (hc:c=⟨#[58]⟩) :
  Calls Tryz.prog 170 #[.string s,.string c] w fun e w'=>e = .returned (.int .i64 (qac s))∧w=w':=by
 by_cases he:c=s
 · have HE:=Box.mk (qzu s (by rw [← hc]; exact he))
   have h1:(c.toList == s.toList)=true:=by rw [toList_eq]; simp [he]
   clear he hc;go_enter Tryz.func170,Tryz.ntmps170
   go_wp2_with fail;go_ret;exact ⟨qbu HE.out.symm,rfl⟩
 · have h1:(c.toList == s.toList)=false:=by rw [toList_eq]; simp [he]
   clear he hc;go_enter Tryz.func170,Tryz.ntmps170
   go_wp2_with fail;refine (qcg s 58 _).mono ?_;rintro e w1 ⟨rfl,rfl⟩;go_wp2_with fail;go_ret;exact ⟨rfl,rfl⟩
theorem qm3 (s:ByteArray):-1≤qac s:=Lib.indexByte_ge _ _
theorem qtg (s:ByteArray) {k:Nat} (h:qac s=k):k<s.size:=by
 have:=(Lib.indexByte_some h).1;have:=(List.getElem?_eq_some_iff.1 this).1;simpa using this
theorem quf (s c:ByteArray) (k:Nat) (w:World) (hs:s.size≤maxLen) (hz:c.size=1) (h0:∀ h,c[0]'h=(58:UInt8)) (hc:c=⟨#[58]⟩) (hk:qac s=k) :
  Calls Tryz.prog 167 #[.string s,.string c] w fun e w'=>e = .returned (.tuple #[.string (s.extract 0 k),.string (s.extract (k+1) s.size),.bool true])∧Below w.heap.size w w':=by
 have hlt:=qtg s hk;unfold maxLen at hs;have HK:=Box.mk hk;have H0:=Box.mk (And.intro h0 hc);clear hk h0 hc;go_enter Tryz.func167,Tryz.ntmps167
 go_wp2_with fail;refine (qlc s c _ hz H0.out.1 H0.out.2).mono ?_;rintro e w1 ⟨he,rfl⟩;rw [HK.out] at he;subst he;go_wp2_with fail;go_quiet (fail)
 go_wp2
 go_ret3;exact ⟨rfl,below_drewN (Below.refl _ _) _⟩
theorem qyf (s c:ByteArray) (w:World) (hz:c.size=1) (h0:∀ h,c[0]'h=(58:UInt8)) (hc:c=⟨#[58]⟩) (hk:qac s = -1) :
  Calls Tryz.prog 167 #[.string s,.string c] w fun e w'=>e = .returned (.tuple #[.string s,.string ⟨#[]⟩,.bool false])∧Below w.heap.size w w':=by
 have HK:=Box.mk hk;have H0:=Box.mk (And.intro h0 hc);clear hk h0 hc;go_enter Tryz.func167,Tryz.ntmps167
 go_wp2_with fail;refine (qlc s c _ hz H0.out.1 H0.out.2).mono ?_;rintro e w1 ⟨he,rfl⟩;rw [HK.out] at he;subst he;go_wp2_with fail;go_ret3;exact ⟨rfl,Below.refl _ _⟩
theorem jeo (s:ByteArray) (k:Nat) (w:World) (hs:s.size≤maxLen) (hk:qac s=k) :
  Calls Tryz.prog 148 #[.string s,.string ⟨#[58]⟩] w fun e w'=>e = .returned (.tuple #[.string (s.extract 0 k),.string (s.extract (k+1) s.size),.bool true])∧Below w.heap.size w w':=by
 have HK:=Box.mk hk;clear hk;go_enter Tryz.func148,Tryz.ntmps148
 go_wp2_with fail;refine (quf s _ k _ hs rfl (fun _=>rfl) rfl HK.out).mono ?_;rintro e w1 ⟨rfl,hb⟩;have HB:=Box.mk hb;clear hb;go_wp2_with fail;go_ret3;exact ⟨rfl,HB.out⟩
theorem jfx (s:ByteArray) (w:World) (hk:qac s = -1) :
  Calls Tryz.prog 148 #[.string s,.string ⟨#[58]⟩] w fun e w'=>e = .returned (.tuple #[.string s,.string ⟨#[]⟩,.bool false])∧Below w.heap.size w w':=by
 have HK:=Box.mk hk;clear hk;go_enter Tryz.func148,Tryz.ntmps148
 go_wp2_with fail;refine (qyf s _ _ rfl (fun _=>rfl) rfl HK.out).mono ?_;rintro e w1 ⟨rfl,hb⟩;have HB:=Box.mk hb;clear hb;go_wp2_with fail;go_ret3;exact ⟨rfl,HB.out⟩
def kr (s:ByteArray):Option Fld :=
 if 0≤qac s then
  (if fldB (s.extract 0 (qac s).toNat) (jf (s.extract ((qac s).toNat+1) s.size)) then some (s.extract 0 (qac s).toNat,jf (s.extract ((qac s).toNat+1) s.size)) else none)
 else none
def qh1:Option Fld→Value
 | some f=>.tuple #[.agg #[.string f.1,.string f.2],.int .i64 0]
 | none=>.tuple #[.agg #[.string ⟨#[]⟩,.string ⟨#[]⟩],.int .i64 2]
theorem qrg {s:ByteArray} (h:qac s = -1):kr s=none:=by unfold kr; rw [h]; rfl
theorem qmf {s:ByteArray} {k:Nat} (h:qac s=k):kr s=if fldB (s.extract 0 k) (jf (s.extract (k+1) s.size)) then some (s.extract 0 k,jf (s.extract (k+1) s.size)) else none:=by
 unfold kr; rw [h]; simp
theorem qb4 (s:ByteArray) (i j:Nat):(s.extract i j).size≤s.size:=by
 rw [ByteArray.size_extract]; omega
theorem qf {P:Program} {fn:Func} {q p:Tmp} {ty:TypeId} (h:fn.results=#[.cell p ty,.tmp q]) (tmps:Array Value) (w:World) (g:Nat) (t:TypeId) (cs:Array Value) (fr:Nat × Nat) (d:TypeDesc)
  (hp:tmps.getD p undef = .pointer (some ⟨g,0,none⟩)) (hg:w.heap[g]? = some (.cells cs t fr))
  (hu:P.underlying ty=some d) (hd:(match d with | .struct _ | .array _ _=>true | _=>false)=true) (hi:(P.info? ty).map (·.size)=some cs.size) :
  (results fn tmps).run P w = .ok (.tuple #[.agg cs,tmps.getD q undef]) w:=by
 have hp':tmps[p]?.getD undef = .pointer (some ⟨g,0,none⟩):=by simpa using hp
 simp [results,h,hp',asAddr,run_loadVar_row w g t ty cs fr d hg hu hd hi]
theorem qhb:(Tryz.prog.info? 78).map (·.size)=some 2:=by kernel_rfl
theorem oneF (a b:ByteArray):(#[Value.string a,.string b]:Array Value).all (·.oneCell')=true:=by simp [Value.oneCell']
def FVar (w:World) (g:Nat) (n v:ByteArray):Prop:=w.heap[g]? = some (.cells #[.string n,.string v] 78 (0,0))
theorem FVar.keep {w w':World} {g:Nat} {n v:ByteArray} (h:FVar w g n v) (hb:Below w.heap.size w w'):FVar w' g n v:=by
 unfold FVar at *;rw [hb.block g (Array.getElem?_eq_some_iff.1 h).1]; exact h
theorem FVar.new (w:World) (n v:ByteArray):FVar (w.alloc (.cells #[.string n,.string v] 78)) w.heap.size n v:=heap_alloc_new _ _
theorem FVar.c0 {w:World} {g:Nat} {n v:ByteArray} (h:FVar w g n v):w.cell? ⟨g,0,none⟩=some (.string n):=by rw [cell_of_row _ _ _ _ _ _ h]; rfl
theorem FVar.c1 {w:World} {g:Nat} {n v:ByteArray} (h:FVar w g n v):w.cell? ⟨g,1,none⟩=some (.string v):=by rw [cell_of_row _ _ _ _ _ _ h]; rfl
theorem FVar.lt {w:World} {g:Nat} {n v:ByteArray} (h:FVar w g n v):g<w.heap.size:=(Array.getElem?_eq_some_iff.1 h).1
theorem qoo (s:ByteArray) (w:World) (hs:s.size≤maxLen) :
  Calls Tryz.prog 137 #[.string s] w fun e w'=>e = .returned (qh1 (kr s))∧Below w.heap.size w w':=by
 have hge:=qm3 s;by_cases hc:qac s = -1
 · have HP:=Box.mk (qrg hc)
   have HC:=Box.mk hc;clear hc hge;go_enter Tryz.func137,Tryz.ntmps137
   go_wp2_with fail;refine (jfx s _ HC.out).mono ?_;rintro e w1 ⟨rfl,hb1⟩;have HB1:=Box.mk (qe (qd w (.cells #[.string ⟨#[]⟩,.string ⟨#[]⟩] 78)) hb1);have HR1:=Box.mk ((FVar.new w ⟨#[]⟩ ⟨#[]⟩).keep hb1);clear hb1;go_wp2_with fail;refine (qiv _ _ (by decide)).mono ?_;rintro e w2 ⟨rfl,hb2⟩;have hb3:=qe hb2 (qd w2 (.cells #[.string s,.string (jf ⟨#[]⟩)] 173));have HB2:=Box.mk (qe HB1.out hb3);have HR2:=Box.mk (HR1.out.keep hb3);clear hb2 hb3 HB1 HR1;go_wp2_with (refine wpList_store_row rfl 78 _ _ rfl w.heap.size #[.string ⟨#[]⟩,.string ⟨#[]⟩] rfl rfl 78 _ HR2.out qhb rfl (oneF _ _) ?_)
   (try simp only [Exit.inBlock,Exit.then])
   refine bodyPost_ret (qf rfl _ _ w.heap.size _ _ _ _ rfl (setRow_heap _ _ _ _ _ _ HR2.out) Tryz.underlying78 rfl qhb) rfl ?_;exact ⟨by rw [HP.out]; rfl,below_setRow HB2.out (Nat.le_refl _) _⟩
 · obtain ⟨k,hk⟩ : ∃ k:Nat,qac s=k:=⟨(qac s).toNat,by omega⟩
   have HC:=Box.mk hk;have HP0:=Box.mk (qmf hk);have HZ:=Box.mk (And.intro (Nat.le_trans (qb4 s 0 k) hs) (Nat.le_trans (qb4 s (k+1) s.size) hs));clear hc hge hk;go_enter Tryz.func137,Tryz.ntmps137
   go_wp2_with fail;refine (jeo s k _ hs HC.out).mono ?_;rintro e w1 ⟨rfl,hb1⟩;have HB1:=Box.mk (qe (qd w (.cells #[.string ⟨#[]⟩,.string ⟨#[]⟩] 78)) hb1);have HR1:=Box.mk ((FVar.new w ⟨#[]⟩ ⟨#[]⟩).keep hb1);clear hb1;generalize s.extract 0 k=n at *;generalize s.extract (k+1) s.size=v0 at *;go_wp2_with fail;refine (qiv v0 _ HZ.out.2).mono ?_;rintro e w2 ⟨rfl,hb2⟩;have hvz:=Box.mk (Nat.le_trans (qbv v0) HZ.out.2);generalize jf v0=v at *;have hb3:=qe hb2 (qd w2 (.cells #[.string n,.string v] 173));have HB2:=Box.mk (qe HB1.out hb3);have HR2:=Box.mk (HR1.out.keep hb3);clear hb2 hb3 HB1 HR1;by_cases hv:fldB n v=true
   · have HP:=Box.mk (show kr s=some (n,v) by rw [HP0.out,if_pos hv])
     have HV:=Box.mk hv;clear hv HP0;go_wp2_with fail;refine (qke n v _ HZ.out.1 hvz.out).mono ?_;rintro e w3 ⟨he,hb3⟩;rw [HV.out] at he;subst he;have HB3:=Box.mk (qe HB2.out hb3);have HR3:=Box.mk (HR2.out.keep hb3);have hc0:w3.cell? ⟨w2.heap.size,0,none⟩=some (.string n):=qp hb3 (by rw [jm]; rfl);have hc1:w3.cell? ⟨w2.heap.size,1,none⟩=some (.string v):=qp hb3 (by rw [jm]; rfl);clear hb3 HB2 HR2;go_wp2_with (refine wpList_store_row rfl 78 _ _ rfl w.heap.size #[.string n,.string v] rfl rfl 78 _ HR3.out qhb rfl (oneF _ _) ?_)
     (try simp only [Exit.inBlock,Exit.then])
     refine bodyPost_ret (qf rfl _ _ w.heap.size _ _ _ _ rfl (setRow_heap _ _ _ _ _ _ HR3.out) Tryz.underlying78 rfl qhb) rfl ?_;exact ⟨by rw [HP.out]; rfl,below_setRow HB3.out (Nat.le_refl _) _⟩
   · have HP:=Box.mk (show kr s=none by rw [HP0.out,if_neg hv])
     have HV:=Box.mk (show fldB n v=false by simpa using hv);clear hv HP0;go_wp2_with fail;refine (qke n v _ HZ.out.1 hvz.out).mono ?_;rintro e w3 ⟨he,hb3⟩;rw [HV.out] at he;subst he;have HB3:=Box.mk (qe HB2.out hb3);have HR3:=Box.mk (HR2.out.keep hb3);clear hb3 HB2 HR2;go_wp2_with (refine wpList_store_row rfl 78 _ _ rfl w.heap.size #[.string ⟨#[]⟩,.string ⟨#[]⟩] rfl rfl 78 _ HR3.out qhb rfl (oneF _ _) ?_)
     (try simp only [Exit.inBlock,Exit.then])
     refine bodyPost_ret (qf rfl _ _ w.heap.size _ _ _ _ rfl (setRow_heap _ _ _ _ _ _ HR3.out) Tryz.underlying78 rfl qhb) rfl ?_;exact ⟨by rw [HP.out]; rfl,below_setRow HB3.out (Nat.le_refl _) _⟩
def qd6 (ops:Array Oper):Nat→Nat→Nat→Bool
 | 0,_,_=>false
 | f+1,c,i=>match ops[c]? with
  | some o=>jh o i || (List.range c).any fun k=>jh o k && qd6 ops f k i
  | none=>false
def jfr (P:Program) (Q:Exit→Act→World→Prop) (ops:Array Oper) (S:List Spec) (Inv:World→Prop) (a0:Act) (o:Oper) (s:Spec):Prop :=
 ∀ a w,Inv w→Fr ops a0 a→(∀ j,jh o j=true→qb5 ops S a w j) →
  Region.wanted o (yielded ops a.tmps)=true∧o.wp P a w (fun a' w'=>∃ v,a'=a.put o.dst v∧Below w.heap.size w w'∧s.p v w') Q
def qwd (P:Program) (Q:Exit→Act→World→Prop) (ops:Array Oper) (S:List Spec) (Inv:World→Prop) (a0:Act):List Nat→Prop
 | i :: r=>(match ops[i]?,S[i]? with | some o,some s=>jfr P Q ops S Inv a0 o s | _,_=>False)∧qwd P Q ops S Inv a0 r
 | []=>True
def Over (ops:Array Oper) (a:Act) (w w':World) (c:Nat):Nat→List Spec→List Spec→Prop
 | k,s :: ss,t :: ts=>(k=c ∨ ∀ v,(∀ o d,ops[k]? = some o→o.dst=some d→v=a.eval (.tmp d))→s.p v w→t.p v w')∧Over ops a w w' c (k+1) ss ts
 | _,[],[]=>True
 | _,_,_=>False
def jbr (P:Program) (Q:Exit→Act→World→Prop) (ops:Array Oper) (S S':List Spec) (Inv Inv':World→Prop) (a0:Act) (c:Nat):Prop :=
 match ops[c]?,S'[c]? with
 | some o,some s=>∀ a w,Inv w→Fr ops a0 a→(∀ j,jh o j=true→qb5 ops S a w j) →
   Region.wanted o (yielded ops a.tmps)=true∧o.wp P a w (fun a' w'=>∃ v,a'=a.put o.dst v∧Inv' w'∧s.p v w'∧Over ops a w w' c 0 S S') Q
 | _,_=>False
def je5 (ops:Array Oper) (chain:List Nat) (M:Nat) (sides:List Nat) (p:Nat):Bool :=
 (List.range ops.size).all fun i=>chain.contains i || sides.contains i || (List.range M).any fun q=>match chain[q]? with
  | some c=>if q<p then qd6 ops ops.size c i else qd6 ops ops.size i c
  | none=>false
def je0 (ops:Array Oper) (chain:List Nat):Bool :=
 (List.range chain.length).all fun p=>(List.range chain.length).all fun q=>decide (q≤p) || (match chain[p]?,chain[q]? with | some c,some d=>qd6 ops ops.size d c && decide (c≠d) && decide (d<ops.size) && decide (c<ops.size) | _,_=>false)
section
variable {P:Program} {Q:Exit→Act→World→Prop} {ops:Array Oper} {a0:Act} {w0:World}
theorem qoc {S:List Spec} {Inv:World→Prop}:∀ {l:List Nat},qwd P Q ops S Inv a0 l → ∀ i,i ∈ l → ∀ o,ops[i]? = some o → ∃ s,S[i]? = some s∧jfr P Q ops S Inv a0 o s
 | k :: r,h,i,hi,o,ho=>by
  rcases List.mem_cons.1 hi with rfl | hi
  · have:=h.1
    rw [ho] at this;cases hs:S[i]? with
    | none=>rw [hs] at this; exact this.elim
    | some s=>rw [hs] at this; exact ⟨s,rfl,this⟩
  · exact qoc h.2 i hi o ho
theorem qvs {a:Act} {w w':World} {c:Nat}:∀ {ss ts:List Spec} {k:Nat},Over ops a w w' c k ss ts → ∀ j t,ts[j]? = some t→k+j≠c → ∃ s,ss[j]? = some s ∧ ∀ v,(∀ o d,ops[k+j]? = some o→o.dst=some d→v=a.eval (.tmp d))→s.p v w→t.p v w'
 | s :: ss,t :: ts,k,h,0,t',ht,hne=>by
  simp at ht; subst ht;rcases h.1 with h1 | h1
  · exact absurd h1 (by simpa using hne)
  · exact ⟨s,rfl,h1⟩
 | s :: ss,t :: ts,k,h,j+1,t',ht,hne=>by
  have e:k+1+j=k+(j+1):=by omega
  have:=qvs (k:=k+1) h.2 j t' (by simpa using ht) (by omega);rw [e] at this; exact this
 | [],[],_,_,j,t',ht,_=>by simp at ht
 | s :: ss,[],_,h,j,t',ht,_=>by simp at ht
 | [],t :: ts,_,h,j,t',ht,_=>h.elim
theorem qdb {m:Array Bool} (hcl:∀ j o,ops[j]? = some o→m.getD j false=true → ∀ i,jh o i=true→m.getD i false=true) :
  ∀ (f c i:Nat),qd6 ops f c i=true→m.getD c false=true→m.getD i false=true
 | 0,_,_,h,_=>by simp [qd6] at h
 | f+1,c,i,h,hc=>by
  unfold qd6 at h;cases ho:ops[c]? with
  | none=>rw [ho] at h; cases h
  | some o =>
   rw [ho] at h;simp only [Bool.or_eq_true,List.any_eq_true,Bool.and_eq_true] at h;rcases h with h | ⟨k,_,h1,h2⟩
   · exact hcl c o ho hc i h
   · exact qdb hcl f k i h2 (hcl c o ho hc k h1)
theorem qe8 {m:Array Bool} (hcl:∀ j o,ops[j]? = some o→m.getD j false=true → ∀ i,jh o i=true→m.getD i false=true) {c i:Nat} {o:Oper} (ho:ops[c]? = some o)
  (hd:∀ j,jh o j=true→m.getD j false=true) {f:Nat} (h:qd6 ops f c i=true):m.getD i false=true:=by
 cases f with
 | zero=>simp [qd6] at h
 | succ f =>
  unfold qd6 at h;rw [ho] at h;simp only [Bool.or_eq_true,List.any_eq_true,Bool.and_eq_true] at h;rcases h with h | ⟨k,_,h1,h2⟩
  · exact hd i h
  · exact qdb hcl f k i h2 (hd k h1)
theorem qz {id:Nat} (chain:List Nat) (sides:Nat→List Nat) (S:Nat→List Spec) (Inv:Nat→World→Prop) (hm:P.follows .mixedOrders=true)
  (hB:(List.range ops.size).all (fun i=>match ops[i]? with | some x=>x.after.all (fun e=>!Region.binds .any e || decide (e.on<i)) | none=>true)=true)
  (hd:qj3 ops a0.tmps.size=true) (hc:je0 ops chain=true) (hlt:chain.all (fun c=>decide (c<ops.size))=true) (hsB:(List.range (chain.length+1)).all (fun p=>je5 ops chain chain.length (sides p) p)=true)
  (hI:∀ p w w',Inv p w→Below w.heap.size w w'→Inv p w') (h0:Inv 0 w0) (hS:∀ p,p≤chain.length→qwd P Q ops (S p) (Inv p) a0 (sides p))
  (hC:∀ p (hp:p<chain.length),jbr P Q ops (S p) (S (p+1)) (Inv p) (Inv (p+1)) a0 chain[p])
  (hQ:∀ a w,Inv chain.length w→Fr ops a0 a→(∀ j,j<ops.size→qb5 ops (S chain.length) a w j)→Q .normal a w):(Code.region id ops true).wp P Q a0 w0:=by
 have hchain:∀ p q (hp:p<chain.length) (hq:q<chain.length),p<q→qd6 ops ops.size chain[q] chain[p]=true∧chain[p]≠chain[q]:=fun p q hp hq hpq=>by
  have h1:=List.all_eq_true.1 (List.all_eq_true.1 hc p (List.mem_range.2 hp)) q (List.mem_range.2 hq);simp only [List.getElem?_eq_getElem hp,List.getElem?_eq_getElem hq,Bool.or_eq_true,Bool.and_eq_true,decide_eq_true_eq] at h1;rcases h1 with h1 | h1
  · omega
  · exact ⟨h1.1.1.1,h1.1.1.2⟩
 refine qbj hm (fun m a w=>Fr ops a0 a∧(∀ j o,ops[j]? = some o→m.getD j false=true → ∀ i,jh o i=true→m.getD i false=true) ∧
  ∃ p,p≤chain.length∧(∀ q (hq:q<chain.length),m.getD chain[q] false=decide (q<p))∧Inv p w ∧ ∀ j,m.getD j false=true→qb5 ops (S p) a w j) ?_ ?_ ?_
 · rintro m a w hs ⟨hf,hcl,p,hp,hph,hinv,hh⟩ i hi
   obtain ⟨h1,o,ho,hall⟩:=mem_ready.1 hi;have hil:i<ops.size:=(Array.getElem?_eq_some_iff.1 ho).1;have him:i<m.size:=by rw [hs]; exact hil
   have hmi:m.getD i false=false:=by simp [him] at h1 ⊢; exact h1
   have hdeps:∀ j,jh o j=true→m.getD j false=true:=fun j hj=>by
    obtain ⟨e,he,h2⟩:=List.any_eq_true.1 hj;simp only [Bool.and_eq_true,beq_iff_eq] at h2;obtain ⟨h3,rfl⟩:=h2;exact hall e (Array.mem_toList_iff.1 he) h3
   have hcl':∀ j o,ops[j]? = some o→(m.setIfInBounds i true).getD j false=true → ∀ k,jh o k=true→(m.setIfInBounds i true).getD k false=true:=fun j oj hoj hj k hk=>by
    by_cases hji:j=i
    · subst hji
      obtain rfl:o=oj:=Option.some.inj (ho.symm.trans hoj);exact getD_set_true (hdeps k hk)
    · rw [getD_set_ne false (fun e=>hji e.symm)] at hj
      exact getD_set_true (hcl j oj hoj hj k hk)
   unfold wpOp;simp only [ho];by_cases hic:i ∈ chain
   · obtain ⟨q,hq,rfl⟩:=List.getElem_of_mem hic
     have hqp:p≤q:=by
      have:=hph q hq;rw [hmi] at this;have:=of_decide_eq_false this.symm;omega
     have hqe:q=p:=by
      rcases Nat.lt_or_ge p q with h2 | h2
      · exfalso
        have h3:=qe8 hcl ho hdeps (hchain p q (by omega) hq h2).1;rw [hph p (by omega)] at h3;simp at h3
      · omega
     subst hqe;have hCp:=hC q hq;unfold jbr at hCp;rw [ho] at hCp;cases hsc:(S (q+1))[chain[q]]? with
     | none=>rw [hsc] at hCp; exact hCp.elim
     | some s =>
      rw [hsc] at hCp;simp only at hCp;obtain ⟨hw,hwp⟩:=hCp a w hinv hf fun j hj=>hh j (hdeps j hj);rw [if_pos hw];refine .inl (Oper.wp_mono ?_ hwp);rintro a' w' ⟨v,rfl,hinv',hsp,hov⟩;refine ⟨qt7 ho hf v,hcl',q+1,hq,fun r hr=>?_,hinv',fun j hj=>?_⟩
      · by_cases hrq:r=q
        · subst hrq
          simp [him]
        · have hne:chain[q]≠chain[r]:=by
           rcases Nat.lt_or_ge q r with h2 | h2
           · exact (hchain q r hq hr h2).2
           · exact fun e=>(hchain r q hr hq (by omega)).2 e.symm
          rw [getD_set_ne false hne,hph r hr];by_cases hrl:r<q
          · simp [hrl,show r<q+1 by omega]
          · simp [hrl,show ¬ r<q+1 by omega]
      · by_cases hji:j=chain[q]
        · subst hji
          unfold qb5;simp only [ho,hsc];cases hdo:o.dst with
          | none=>trivial
          | some d =>
           show s.p ((a.put (some d) v).eval (.tmp d)) w'
           rw [kv]
           · exact hsp
           · rw [hf.size]; exact (qc4 hd ho hdo).1
        · have hj':m.getD j false=true:=by rw [getD_set_ne false (fun e=>hji e.symm)] at hj; exact hj
          have h5:=qdu (a:=a) (v:=v) hd ho hji (hh j hj');unfold qb5 at *;cases hoj:ops[j]? with
          | none=>simp
          | some o' =>
           cases hsj:(S (q+1))[j]? with
           | none=>simp
           | some s' =>
            obtain ⟨s0,hs0,himp⟩:=qvs hov j s' hsj (by omega);simp only [hoj,hs0] at h5;simp only;cases hdo:o'.dst with
            | none=>trivial
            | some d =>
             simp only [hdo] at h5;refine himp _ (fun o2 d2 ho2 hd2=>?_) h5;rw [Nat.zero_add,hoj] at ho2;obtain rfl:=Option.some.inj ho2;rw [hdo] at hd2;obtain rfl:=Option.some.inj hd2;exact kh fun e=>(qc4 hd ho e).2 j o' hoj hji hdo
   · have hside:i ∈ sides p:=by
      have:=List.all_eq_true.1 (List.all_eq_true.1 hsB p (List.mem_range.2 (by omega))) i (List.mem_range.2 hil);simp only [Bool.or_eq_true,List.contains_iff_mem,List.any_eq_true] at this;rcases this with (h2 | h2) | ⟨q,hq,h2⟩
      · exact absurd h2 hic
      · exact h2
      · exfalso
        have hql:=List.mem_range.1 hq;rw [List.getElem?_eq_getElem hql] at h2;simp only at h2;by_cases hqp:q<p
        · rw [if_pos hqp] at h2
          have h3:=qdb hcl _ _ _ h2 (by rw [hph q hql]; simp [hqp]);rw [hmi] at h3; cases h3
        · rw [if_neg hqp] at h2
          have h3:=qe8 hcl ho hdeps h2;rw [hph q hql] at h3;simp [hqp] at h3
     obtain ⟨s,hsi,hstep⟩:=qoc (hS p hp) i hside o ho;obtain ⟨hw,hwp⟩:=hstep a w hinv hf fun j hj=>hh j (hdeps j hj);rw [if_pos hw];refine .inl (Oper.wp_mono ?_ hwp);rintro a' w' ⟨v,rfl,hb',hsp⟩;refine ⟨qt7 ho hf v,hcl',p,hp,fun r hr=>?_,hI p w w' hinv hb',fun j hj=>?_⟩
     · rw [getD_set_ne false (fun e=>hic (by rw [e]; exact List.getElem_mem hr)),hph r hr]
     · by_cases hji:j=i
       · subst hji
         unfold qb5;simp only [ho,hsi];cases hdo:o.dst with
         | none=>trivial
         | some d =>
          show s.p ((a.put (some d) v).eval (.tmp d)) w'
          rw [kv]
          · exact hsp
          · rw [hf.size]; exact (qc4 hd ho hdo).1
       · have hj':m.getD j false=true:=by rw [getD_set_ne false (fun e=>hji e.symm)] at hj; exact hj
         exact qdu hd ho hji (qdi (hh j hj') hb')
 · rintro m a w hs ⟨hf,hcl,p,hp,hph,hinv,hh⟩ hr
   have hmarked:∀ j,j<ops.size→m.getD j false=true:=fun j=>by
    induction j using Nat.strongRecOn with
    | _ j ih =>
     intro hj;cases hmj:m.getD j false with
     | true=>rfl
     | false =>
      exfalso
      have hoj:ops[j]? = some ops[j]:=Array.getElem?_eq_getElem hj;have hbk:=List.all_eq_true.1 hB j (List.mem_range.2 hj);rw [hoj] at hbk;simp only [Array.all_eq_true_iff_forall_mem,Bool.or_eq_true,Bool.not_eq_true',decide_eq_true_eq] at hbk;have hlt:∀ e ∈ ops[j].after,Region.binds .any e=true→e.on<j:=fun e he hbd=>by
       rcases hbk e he with h | h
       · rw [hbd] at h; cases h
       · exact h
      have:j ∈ Region.ready .any ops m:=mem_ready.2 ⟨by
       have hs':j<m.size:=by rw [hs]; exact hj
       simp [hs'] at hmj ⊢; exact hmj,ops[j],hoj,fun e he hbd=>ih _ (hlt e he hbd) (by have:=hlt e he hbd; omega)⟩
      rw [hr] at this; cases this
   have hpe:p=chain.length:=by
    rcases Nat.lt_or_ge p chain.length with h2 | h2
    · exfalso
      have h3:=hph p h2;have h4:=hmarked chain[p] (of_decide_eq_true (List.all_eq_true.1 hlt _ (List.getElem_mem h2)));rw [h4] at h3;simp at h3
    · omega
   subst hpe;exact hQ a w hinv hf fun j hj=>hh j (hmarked j hj)
 · have hz:∀ j,(Array.replicate ops.size false).getD j false=false:=fun j=>by
    simp only [Array.getD_eq_getD_getElem?,Array.getElem?_replicate]; split <;> rfl
   refine ⟨⟨rfl,rfl,fun _ _=>rfl⟩,fun j o _ hj=>(by rw [hz] at hj; cases hj),0,Nat.zero_le _,fun q _=>by rw [hz]; rfl,hI 0 w0 _ h0 (Below.refl _ _).drew,fun j hj=>(by rw [hz] at hj; cases hj)⟩
def kg (a:Act):List Oper→Act→Act
 | o :: os,b=>kg a os (match o.dst with | some d=>b.put (some d) (a.eval (.tmp d)) | none=>b)
 | [],b=>b
theorem qhp (a:Act):∀ (l:List Oper) (b:Act),(kg a l b).tmps.size=b.tmps.size
 | [],_=>rfl
 | o :: os,b=>by
  unfold kg;rw [qhp a os];cases o.dst <;> simp [Act.put]
theorem qex (a:Act):∀ (l:List Oper) (b:Act),(kg a l b).defers=b.defers
 | [],_=>rfl
 | o :: os,b=>by
  unfold kg;rw [qex a os];cases o.dst <;> simp [Act.put]
theorem qha (a:Act) (k:Nat):∀ (l:List Oper) (b:Act),b.tmps.size=a.tmps.size→(b.eval (.tmp k)=a.eval (.tmp k)∨(l.any fun o=>o.dst == some k)=true)→(kg a l b).eval (.tmp k)=a.eval (.tmp k)
 | [],b,_,h=>by
  rcases h with h | h
  · exact h
  · cases h
 | o :: os,b,hs,h=>by
  unfold kg;refine qha a k os _ (by cases o.dst <;> simpa [Act.put] using hs) ?_
  cases hd:o.dst with
  | none =>
   rcases h with h | h
   · exact .inl h
   · simp [hd] at h; exact .inr (by simpa using h)
  | some d =>
   by_cases hdk:d=k
   · subst hdk
     by_cases hlt:d<b.tmps.size
     · exact .inl (kv hlt)
     · left
       have h1:¬ d<a.tmps.size:=by rw [← hs]; exact hlt
       simp [Act.put,Act.eval,hlt,h1]
   · have e:(b.put (some d) (a.eval (.tmp d))).eval (.tmp k)=b.eval (.tmp k):=kh fun e=>hdk (Option.some.inj e)
     rcases h with h | h
     · exact .inl (e.trans h)
     · simp [hd,hdk] at h; exact .inr (by simpa using h)
theorem jl {a:Act} (h:Fr ops a0 a):a=kg a ops.toList a0:=by
 have h1:=qhp a ops.toList a0;have h2:=qex a ops.toList a0;have h3:∀ k,(kg a ops.toList a0).eval (.tmp k)=a.eval (.tmp k):=fun k=>qha a k _ _ h.size.symm (by
  cases hk:qtp ops k with
  | true=>exact .inr hk
  | false=>exact .inl (h.base k hk).symm)
 generalize kg a ops.toList a0=p at *;rw [qx3 (a:=a) (a0:=a0) h.size h.defers,qx3 (a:=p) (a0:=a0) h1 h2];congr 2;exact List.map_congr_left fun k _=>(h3 k).symm
end
end Go.Proofs.YtflhjpokjdjbpaaGreatDoor

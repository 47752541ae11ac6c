/- Parse of the reference. The source of numbers of the laws: Within, Next, Of. The fields that the laws make: Field, Fields, fields, name. Fields of the source; fields and name of the laws. fields, name and awake of the laws; Short. awake of the laws; the law FieldFormat. How much the values of a name hold together. The plain mathematics of numerals: digits, their value with a limit, and that a numeral is read as its number. Contracts of the functions that read a number, of package number and of its reference. Contracts of the functions of the reference that read and write a number. The contracts of awake and of the laws of layer 1. The contract of the law AsciiList. Frames of messages: what is said of them; the reference's frame, OfRequest, OfReply, Persistent. OfRequest, OfReply and Persistent of the reference. Contracts of the reference's functions that write a number. Targets and versions, in the reference. Split at the question mark, the version of a line, spoil; in the reference and the laws. -/
import Derived.Test.YtflhjpokjdjbpaaGreatDoorPq2
import Derived.Laws.Strings3
import Derived.Laws.Concat
import Derived.Lib.ItoaMem
import Derived.Deep.RegionHeld3
import Derived.IntWalk
set_option maxRecDepth 100000
set_option maxHeartbeats 4000000
namespace Go.Proofs.YtflhjpokjdjbpaaGreatDoor
open Go.RowKit
theorem qsr (s:ByteArray) (k:Nat) (hk:k<s.size) (h:s[k]=(58:UInt8)) (hp:∀ j,j<k→s.data.toList[j]? ≠ some 58):qac s=k:=by
 have hge:=qm3 s;have hkk:s.data.toList[k]? = some 58:=by
  rw [List.getElem?_eq_getElem (by simpa using hk)];exact congrArg some h
 by_cases h1:qac s = -1
 · exact absurd hkk (Lib.indexByte_none h1 k)
 · obtain ⟨o,ho⟩ : ∃ o:Nat,qac s=o:=⟨(qac s).toNat,by omega⟩
   have h2:=Lib.indexByte_some ho;rw [ho];congr 1;rcases Nat.lt_trichotomy o k with h3 | h3 | h3
   · exact absurd h2.1 (hp o h3)
   · exact h3
   · exact absurd hkk (h2.2 k h3)
theorem qwe (s:ByteArray) (k:Nat) (hk:k≤s.size) (hlt:¬ k<s.size) (hp:∀ j,j<k→s.data.toList[j]? ≠ some 58):qac s = -1:=by
 have hge:=qm3 s;by_cases h1:qac s = -1
 · exact h1
 · obtain ⟨o,ho⟩ : ∃ o:Nat,qac s=o:=⟨(qac s).toNat,by omega⟩
   have h2:=Lib.indexByte_some ho;have h3:=qtg s ho;exact absurd h2.1 (hp o (by omega))
section
variable {Q:Exit→Act→World→Prop} {a:Act} {w:World} {o:Oper} {s:Spec}
theorem qys {x y:Operand} (ho:o.op = .slice 9 x none (some y) none) {b:ByteArray} {k:Nat} (hx:a.eval x = .string b) (hy:a.eval y = .int .i64 k) (hk:k≤b.size) (hs:s.p (.string (b.extract 0 k)) w) :
  o.wp Tryz.prog a w (fun a' w'=>∃ v,a'=a.put o.dst v∧Below w.heap.size w w'∧s.p v w') Q:=by
 have hrun:(Instr.slice 9 (.string b) none (some (.int .i64 (k:Int))) none).run Tryz.prog w = .ok (.string (b.extract 0 k)) w:=by
  rw [run_slice_string_to_if w 9 b .i64 (k:Int) Tryz.underlying9,if_pos (by omega)];rfl
 refine j0 (v:=.string (b.extract 0 k)) ?_ (Below.refl _ _) hs;unfold execOp;simp only [ho,hx,hy,Option.map_some,Option.map_none,Sem.run_bind,run_sliceAt_string w _ _ _ _ _ Tryz.underlying9,hrun,Result.andThen_ok,Sem.run_pure]
theorem qtf {x y:Operand} (ho:o.op = .slice 9 x (some y) none none) {b:ByteArray} {k:Nat} (hx:a.eval x = .string b) (hy:a.eval y = .int .i64 k) (hk:k≤b.size) (hs:s.p (.string (b.extract k b.size)) w) :
  o.wp Tryz.prog a w (fun a' w'=>∃ v,a'=a.put o.dst v∧Below w.heap.size w w'∧s.p v w') Q:=by
 have hrun:(Instr.slice 9 (.string b) (some (.int .i64 (k:Int))) none none).run Tryz.prog w = .ok (.string (b.extract k b.size)) w:=by
  rw [run_slice_string_from_if w 9 b .i64 (k:Int) Tryz.underlying9,if_pos (by omega)];rfl
 refine j0 (v:=.string (b.extract k b.size)) ?_ (Below.refl _ _) hs;unfold execOp;simp only [ho,hx,hy,Option.map_some,Option.map_none,Sem.run_bind,run_sliceAt_string w _ _ _ _ _ Tryz.underlying9,hrun,Result.andThen_ok,Sem.run_pure]
theorem jdm {x y:Operand} {t:TypeId} (ho:o.op = .binOp .add 3 x y t) {m k:Nat} (hx:a.eval x = .int .i64 m) (hy:a.eval y = .int .i64 k) (hn:m+k≤9223372036854775807) (hs:s.p (.int .i64 ((m+k:Nat):Int)) w) :
  o.wp Tryz.prog a w (fun a' w'=>∃ v,a'=a.put o.dst v∧Below w.heap.size w w'∧s.p v w') Q :=
 j0 (v:=.int .i64 ((m+k:Nat):Int)) (by
  have e:IntKind.i64.wrap ((m:Int)+k)=((m+k:Nat):Int):=by
   simp only [IntKind.wrap,IntKind.bits,IntKind.signed]; simp; omega
  have h:(Op.intArith .add .i64 (m:Int) (k:Int)).run Tryz.prog w = .ok (.int .i64 ((m+k:Nat):Int)) w:=by
   unfold Op.intArith;rw [← e]; rfl
  unfold execOp;simp only [ho,hx,hy];simp [eqGuard,binOp,h,Result.andThen]) (Below.refl _ _) hs
theorem qjw {x y:Operand} (ho:o.op = .build 78 #[(0,x),(1,y)]) {b c:ByteArray} (hx:a.eval x = .string b) (hy:a.eval y = .string c) (hs:s.p (.agg #[.string b,.string c]) w) :
  o.wp Tryz.prog a w (fun a' w'=>∃ v,a'=a.put o.dst v∧Below w.heap.size w w'∧s.p v w') Q:=by
 refine j0 (v:=.agg #[.string b,.string c]) ?_ (Below.refl _ _) hs;have hb:=run_build (P:=Tryz.prog) w 78 #[(0,.string b),(1,.string c)] #[.string b,.string c] (by kernel_rfl);unfold execOp;simp only [ho,List.map_toArray,List.map_cons,List.map_nil,hx,hy,Sem.run_bind,hb,Result.andThen_ok,Sem.run_pure]
def FRow (B:Nat) (w:World) (v:Value):Prop:=∃ g,v = .pointer (some ⟨g,0,none⟩)∧B≤g∧FVar w g ⟨#[]⟩ ⟨#[]⟩
def Spec.frow (B:Nat):Spec:=⟨fun v w=>FRow B w v,fun v w w' h hb=>by
 obtain ⟨g,h1,h2,h3⟩:=h;exact ⟨g,h1,h2,h3.keep hb⟩⟩
theorem qyc (ho:o.op = .alloc 78) {B:Nat} (hB:B≤w.heap.size) (hs:∀ v w',FRow B w' v→s.p v w') :
  o.wp Tryz.prog a w (fun a' w'=>∃ v,a'=a.put o.dst v∧Below w.heap.size w w'∧s.p v w') Q:=by
 have hz:(Tryz.prog.info? 78).bind (·.zero)=some (.agg #[.string ⟨#[]⟩,.string ⟨#[]⟩]):=by kernel_rfl
 refine j0 (v:=.pointer (some ⟨w.heap.size,0,none⟩)) (w':=w.alloc (.cells #[.string ⟨#[]⟩,.string ⟨#[]⟩] 78)) ?_ (qd _ _) (hs _ _ ⟨_,rfl,hB,heap_alloc_new _ _⟩);cases hq:Tryz.prog.info? 78 with
 | none=>rw [hq] at hz; cases hz
 | some i =>
  rw [hq] at hz;simp only [Option.bind_some] at hz;unfold execOp;simp [ho,Instr.alloc,zeroValue,typeInfo,hq,hz,newRow,newVar,Value.cells]
end
theorem qkb (s:ByteArray) (w:World) (hs:s.size≤maxLen) :
  Calls Tryz.prog 90 #[.string s] w fun e w'=>e = .returned (qh1 (kr s))∧Below w.heap.size w w':=by
 have hs0:=Box.mk hs;unfold maxLen at hs;go_enter Tryz.func90,Tryz.ntmps90
 go_wp2_with fail;obtain ⟨W,hW⟩ : ∃ W,W=w.alloc (.cells #[.string ⟨#[]⟩,.string ⟨#[]⟩] 78):=⟨_,rfl⟩;have HB:=Box.mk (qd w (.cells #[.string ⟨#[]⟩,.string ⟨#[]⟩] 78));have HR:=Box.mk (FVar.new w ⟨#[]⟩ ⟨#[]⟩);rw [← hW] at HB HR ⊢;clear hW;generalize hg:w.heap.size=g at *;have HG:=Box.mk hg;clear hg;go_loop [4] (fun iv=>∃ k:Nat,k≤s.size∧iv = .int .i64 k∧Box (∀ j,j<k→s.data.toList[j]? ≠ some 58)) (fun iv=>s.size-(intOf iv).toNat)
 case atStart=>exact ⟨0,Nat.zero_le _,rfl,⟨fun j hj=>absurd hj (Nat.not_lt_zero _)⟩⟩
 case round =>
  obtain ⟨k,hk,rfl,HM⟩:=hrel;by_cases hlt:k<s.size
  · by_cases hc:s[k]=58
    · have HC:=Box.mk (qsr s k hlt hc HM.out)
      have HP0:=Box.mk (qmf HC.out);have HZ:=Box.mk (And.intro (Nat.le_trans (qb4 s 0 k) hs0.out) (Nat.le_trans (qb4 s (k+1) s.size) hs0.out));have hb:((s[k].toNat:Int) == 58)=true:=by rw [hc]; rfl
      clear hc;go_wp2_with fail;rename_i K hK _;refine qnr (S:=[some (.val (.string s)),some (.val (.int .i64 k)),some (.val (.string (s.extract 0 k))),some (.val (.string s)),some (.val (.int .i64 k)),some (.val (.int .i64 ((k+1:Nat):Int))),some (.val (.string (s.extract (k+1) s.size))),
       some (.val (.string (jf (s.extract (k+1) s.size)))),some (.val (.agg #[.string (s.extract 0 k),.string (jf (s.extract (k+1) s.size))])),some (.of (.frow W.heap.size)),none]) 10 (by kernel_rfl) (by kernel_rfl) (by kernel_rfl) (by kernel_rfl) rfl rfl rfl ?_ ?_
      · refine ⟨?_,?_,?_,?_,?_,?_,?_,?_,?_,?_,trivial⟩ <;> intro a w1 hb1 hf hd
        · exact ⟨qb rfl,qi rfl (hf.base 0 rfl)⟩
        · exact ⟨qb rfl,qi rfl (hf.base 4 rfl)⟩
        · exact ⟨qb rfl,qys rfl (hd 0 rfl) (hd 1 rfl) hk rfl⟩
        · exact ⟨qb rfl,qi rfl (hf.base 0 rfl)⟩
        · exact ⟨qb rfl,qi rfl (hf.base 4 rfl)⟩
        · exact ⟨qb rfl,jdm rfl (m:=k) (k:=1) (hd 4 rfl) rfl (by omega) rfl⟩
        · exact ⟨qb rfl,qtf rfl (hd 3 rfl) (hd 5 rfl) hlt rfl⟩
        · refine ⟨qb rfl,jz rfl (by kernel_rfl) ?_⟩
          show Calls _ _ #[a.eval (.tmp 22)] w1 _
          rw [show a.eval (.tmp 22) = .string (s.extract (k+1) s.size) from hd 6 rfl];refine (qfi _ w1 HZ.out.2).mono ?_;rintro e w' ⟨rfl,rfl⟩;exact ⟨_,rfl,Below.refl _ _,rfl⟩
        · exact ⟨qb rfl,qjw rfl (hd 2 rfl) (hd 7 rfl) rfl⟩
        · exact ⟨qb rfl,qyc rfl hb1.size fun v w' h=>h⟩
      · intro a2 w2 hb2 hf hh
        refine ⟨qb rfl,?_⟩;obtain ⟨q,e5,hqB,hq⟩:=hh 9 (by decide) (by decide);have e24:a2.eval (.tmp 24) = .agg #[.string (s.extract 0 k),.string (jf (s.extract (k+1) s.size))]:=hh 8 (by decide) (by decide);refine wp_store_row 78 _ _ rfl q #[.string (s.extract 0 k),.string (jf (s.extract (k+1) s.size))] e5 e24 78 _ hq qhb rfl (oneF _ _) ?_;have e5':a2.eval (.tmp 5) = .pointer (some ⟨q,0,none⟩):=e5;have HQ3:=Box.mk (show FVar (w2.setRow q #[.string (s.extract 0 k),.string (jf (s.extract (k+1) s.size))]) q (s.extract 0 k) (jf (s.extract (k+1) s.size)) from setRow_heap _ _ _ _ _ _ hq);have HB3:=Box.mk (below_setRow (g:=q) (qe (show Below w.heap.size w W by rw [HG.out]; exact HB.out) hb2) (by have:=(show Below w.heap.size w W by rw [HG.out]; exact HB.out).size; omega) #[.string (s.extract 0 k),.string (jf (s.extract (k+1) s.size))]);have HR3:=Box.mk (show FVar (w2.setRow q #[.string (s.extract 0 k),.string (jf (s.extract (k+1) s.size))]) g ⟨#[]⟩ ⟨#[]⟩ from (setRow_other w2 q g _ (by have:=HR.out.lt; omega)).trans (HR.out.keep hb2));refine hK a2 _ ?_;rw [jl hf];simp only [kg,e5',e24];clear hf hh e5 e24 e5' hq hb2 HR;generalize a2.eval (.tmp 16)=u16;generalize a2.eval (.tmp 17)=u17;generalize a2.eval (.tmp 18)=u18;generalize a2.eval (.tmp 19)=u19;generalize a2.eval (.tmp 20)=u20;generalize a2.eval (.tmp 21)=u21;generalize a2.eval (.tmp 22)=u22;generalize a2.eval (.tmp 23)=u23;clear a2;simp only [Act.put,List.setIfInBounds_toArray,List.set_cons_succ,List.set_cons_zero];generalize (w2.setRow q #[.string (s.extract 0 k),.string (jf (s.extract (k+1) s.size))])=w3 at *;have hvz:=Box.mk (Nat.le_trans (qbv (s.extract (k+1) s.size)) HZ.out.2);generalize s.extract 0 k=n at *;generalize jf (s.extract (k+1) s.size)=v at *;have hd0:=HQ3.out.c0;have hd1:=HQ3.out.c1;by_cases hv:fldB n v=true
        · have HP:=Box.mk (show kr s=some (n,v) by rw [HP0.out,if_pos hv])
          have HV:=Box.mk hv;clear hv HP0;go_wp2_with fail;refine (qa8 n v _ HZ.out.1 hvz.out).mono ?_;rintro e w4 ⟨he,hb4⟩;rw [HV.out] at he;subst he;have HB4:=Box.mk (qe HB3.out hb4);have HR4:=Box.mk (HR3.out.keep hb4);have hd0:=qp hb4 HQ3.out.c0;have hd1:=qp hb4 HQ3.out.c1;clear hb4;go_wp2_with (refine wpList_store_row rfl 78 _ _ rfl g #[.string n,.string v] rfl rfl 78 _ HR4.out qhb rfl (oneF _ _) ?_)
          (try simp only [Exit.inBlock,Exit.then])
          refine bodyPost_ret (qf rfl _ _ g _ _ _ _ rfl (setRow_heap _ _ _ _ _ _ HR4.out) Tryz.underlying78 rfl qhb) rfl ?_;exact ⟨by rw [HP.out]; rfl,below_setRow HB4.out (by have:=HG.out; omega) _⟩
        · have HP:=Box.mk (show kr s=none by rw [HP0.out,if_neg hv])
          have HV:=Box.mk (show fldB n v=false by simpa using hv);clear hv HP0;go_wp2_with fail;refine (qa8 n v _ HZ.out.1 hvz.out).mono ?_;rintro e w4 ⟨he,hb4⟩;rw [HV.out] at he;subst he;have HB4:=Box.mk (qe HB3.out hb4);have HR4:=Box.mk (HR3.out.keep hb4);clear hb4;go_wp2_with (refine wpList_store_row rfl 78 _ _ rfl g #[.string ⟨#[]⟩,.string ⟨#[]⟩] rfl rfl 78 _ HR4.out qhb rfl (oneF _ _) ?_)
          (try simp only [Exit.inBlock,Exit.then])
          refine bodyPost_ret (qf rfl _ _ g _ _ _ _ rfl (setRow_heap _ _ _ _ _ _ HR4.out) Tryz.underlying78 rfl qhb) rfl ?_;exact ⟨by rw [HP.out]; rfl,below_setRow HB4.out (by have:=HG.out; omega) _⟩
    · have hb:((s[k].toNat:Int) == 58)=false:=by
       rw [Bool.eq_false_iff]; intro h; exact hc (UInt8.toNat_inj.1 (by simp at h; show s[k].toNat=58; omega))
      have HM2:=Box.mk (show ∀ j,j<k+1→s.data.toList[j]? ≠ some 58 from fun j hj=>by
       by_cases e:j=k
       · subst e
         rw [List.getElem?_eq_getElem (by simpa using hlt)];intro h;exact hc (Option.some.inj h)
       · exact HM.out j (by omega))
      clear hc;go_wp2_with fail;go_round
      case rel=>exact ⟨k+1,by omega,by go_num,HM2⟩
      case measure=>simp [intOf]; omega
  · have HP:=Box.mk (qrg (qwe s k hk hlt HM.out))
    go_wp2_with (refine wpList_store_row rfl 78 _ _ rfl g #[.string ⟨#[]⟩,.string ⟨#[]⟩] rfl rfl 78 _ HR.out qhb rfl (oneF _ _) ?_)
    (try simp only [Exit.inBlock,Exit.then])
    refine bodyPost_ret (qf rfl _ _ g _ _ _ _ rfl (setRow_heap _ _ _ _ _ _ HR.out) Tryz.underlying78 rfl qhb) rfl ?_;exact ⟨by rw [HP.out]; rfl,below_setRow (show Below w.heap.size w W by rw [HG.out]; exact HB.out) (by have:=HG.out; omega) _⟩
end Go.Proofs.YtflhjpokjdjbpaaGreatDoor
namespace Go.Proofs.YtflhjpokjdjbpaaGreatDoor
open Go.RowKit
def qgu (w:World) (a:Option Addr) (n:Nat):Prop :=
 ∀ j,j<n → ∃ x z,a=some x∧w.cell? (x.add j)=some (.int .i64 z) ∧ -9223372036854775808≤z∧z≤9223372036854775807
theorem qgu.keep {w w':World} {a:Option Addr} {n:Nat} (h:qgu w a n) (hb:Below w.heap.size w w'):qgu w' a n:=fun j hj=>by
 obtain ⟨x,z,e,h1,h2⟩:=h j hj;exact ⟨x,z,e,qp hb h1,h2⟩
def Src (w:World) (g:Nat) (a:Option Addr) (n c:Nat):Prop :=
 (∃ i:Nat,i≤n∧w.heap[g]? = some (.cells #[.slice a n c,.int .i64 i] 51 (0,0)))∧n≤maxLen∧qgu w a n ∧ ∀ x,a=some x→0<n→x.block≠g
theorem Src.lt {w:World} {g:Nat} {a:Option Addr} {n c:Nat} (h:Src w g a n c):g<w.heap.size:=by
 obtain ⟨⟨i,_,h⟩,_⟩:=h;exact (Array.getElem?_eq_some_iff.1 h).1
theorem qcp (x:Addr) (j:Nat):(x.add j).block=x.block:=by unfold Addr.add; split <;> rfl
theorem qgu.grown {w w':World} {a:Option Addr} {n:Nat} {row:Option Nat} (h:qgu w a n) (hg:w.grownBy w' row) (hne:∀ x,a=some x→0<n→some x.block≠row):qgu w' a n:=fun j hj=>by
 obtain ⟨x,z,e,h1,h2⟩:=h j hj;refine ⟨x,z,e,?_,h2⟩;have hlt:=qbk h1;rw [World.cell?_of_block (hg.block _ hlt (by rw [qcp]; exact hne x e (by omega)))];exact h1
theorem Src.grown {w w':World} {g:Nat} {a:Option Addr} {n c:Nat} {row:Option Nat} (h:Src w g a n c) (hg:w.grownBy w' row) (hne:some g≠row) (hne2:∀ x,a=some x→0<n→some x.block≠row):Src w' g a n c:=by
 have hlt:=h.lt;obtain ⟨⟨i,hi,hr⟩,h2,h3,h4⟩:=h;exact ⟨⟨i,hi,by rw [hg.block g hlt hne]; exact hr⟩,h2,h3.grown hg hne2,h4⟩
theorem Src.keep {w w':World} {g:Nat} {a:Option Addr} {n c:Nat} (h:Src w g a n c) (hb:Below w.heap.size w w'):Src w' g a n c:=by
 have hlt:=h.lt;obtain ⟨⟨i,hi,hr⟩,h2,h3,h4⟩:=h;exact ⟨⟨i,hi,by rw [hb.block g hlt]; exact hr⟩,h2,h3.keep hb,h4⟩
theorem qh {w w1 w2:World} {row:Option Nat} (h:w.grownBy w1 row) (k:w1.grownBy w2 row):w.grownBy w2 row :=
 ⟨k.os.trans h.os,k.tape.trans h.tape,k.output.trans h.output,Nat.le_trans h.size k.size,fun i hi hne=>(k.block i (Nat.lt_of_lt_of_le hi h.size) hne).trans (h.block i hi hne)⟩
theorem j5 {w w1:World} {row:Option Nat} (h:Below w.heap.size w w1):w.grownBy w1 row :=
 ⟨h.os,h.tape,h.output,h.size,fun i hi _=>h.block i hi⟩
theorem ku {w w1 w2:World} {row:Option Nat} {q:Option Nat} (h:w.grownBy w1 row) (k:w1.grownBy w2 q) (hq:∀ i,q=some i→w.heap.size≤i):w.grownBy w2 row :=
 ⟨k.os.trans h.os,k.tape.trans h.tape,k.output.trans h.output,Nat.le_trans h.size k.size,fun i hi hne=>(k.block i (Nat.lt_of_lt_of_le hi h.size) (fun e=>by have:=hq i e.symm; omega)).trans (h.block i hi hne)⟩
def jei (z:Int) (n:Nat):Int:=(wrap64 (z.tmod n+n)).tmod n
theorem qci (z:Int) (n:Nat) (h0:0<n) (hn:n≤1000000000):∃ k:Nat,k<n∧jei z n=(k:Int):=by
 have h1:z.tmod n<n:=Int.tmod_lt_of_pos z (by omega);have h2:-(n:Int)<z.tmod n:=Int.lt_tmod_of_pos z (by omega);unfold jei;generalize z.tmod n=y at *;have e:wrap64 (y+n)=y+n:=by simp only [wrap64]; omega
 rw [e,Int.tmod_eq_emod_of_nonneg (by omega)];exact ⟨((y+n) % n).toNat,by have:=Int.emod_lt_of_pos (y+n) (show (0:Int)<n by omega); have:=Int.emod_nonneg (y+n) (show (n:Int)≠0 by omega); omega,by have:=Int.emod_nonneg (y+n) (show (n:Int)≠0 by omega); omega⟩
theorem qk2 (z:Int) (n:Nat) (w:World) (h0:0<n) (hn:n≤1000000000) :
  Calls Tryz.prog 6 #[.int .i64 z,.int .i64 n] w fun e w'=>e = .returned (.int .i64 (jei z n))∧w'=w:=by
 go_enter Tryz.func6,Tryz.ntmps6
 go_wp2
 go_ret;exact ⟨rfl,rfl⟩
theorem qbi (g m:Nat) (a:Option Addr) (n c:Nat) (w:World) (h:Src w g a n c) (h0:0<m) (hm:m≤1000000000) :
  Calls Tryz.prog 17 #[.pointer (some ⟨g,0,none⟩),.int .i64 m] w fun e w'=>∃ k:Nat,k<m∧e = .returned (.int .i64 k)∧Src w' g a n c∧w.grownBy w' (some g):=by
 have H0:=Box.mk h;obtain ⟨⟨i,hi,hr⟩,hn,h2,h3⟩:=h;have HR:=Box.mk hr;have HI:=Box.mk h2;have HA:=Box.mk h3;have HN:=Box.mk hn;have hc0:w.cell? ⟨g,0,none⟩=some (.slice a n c):=by rw [cell_of_row _ _ _ _ _ _ hr]; rfl
 have hc1:w.cell? ⟨g,1,none⟩=some (.int .i64 i):=by rw [cell_of_row _ _ _ _ _ _ hr]; rfl
 unfold maxLen at hn;clear hr h2 h3;go_enter Tryz.func17,Tryz.ntmps17
 by_cases hlt:i<n
 · obtain ⟨x,z,rfl,hz,z0,z1⟩:=HI.out i hlt
   have hne:=HA.out x rfl (by omega);have HNE:=Box.mk hne;clear hne;have hd:decide (n≤i)=false:=by simp; omega
   have HZ:=Box.mk hz;clear hz;go_wp2_with fail;go_quiet (fail)
   clear hd;obtain ⟨W,hW⟩ : ∃ W,W=w.drewN nq:=⟨_,rfl⟩;have HRW:=Box.mk (show W.heap[g]? = some (.cells #[.slice (some x) n c,.int .i64 i] 51 (0,0)) by rw [hW]; exact HR.out);rw [← hW];have hf:=frozen_of_row W g 1 _ _ HRW.out;have hc0:W.cell? ⟨g,0,none⟩=some (.slice (some x) n c):=by rw [cell_of_row _ _ _ _ _ _ HRW.out]; rfl
   have hc1:W.cell? ⟨g,1,none⟩=some (.int .i64 i):=by rw [cell_of_row _ _ _ _ _ _ HRW.out]; rfl
   have HGW:=Box.mk (show w.grownBy W (some g) by rw [hW]; exact ⟨rfl,rfl,rfl,Nat.le_refl _,fun _ _ _=>rfl⟩);clear hW;go_wp2_with fail;obtain ⟨W2,hW2⟩ : ∃ W2,W2=W.setCell ⟨g,1,none⟩ (.int .i64 ((i:Int)+1)):=⟨_,rfl⟩;have HR2:=Box.mk (show W2.heap[g]? = some (.cells #[.slice (some x) n c,.int .i64 ((i:Int)+1)] 51 (0,0)) by rw [hW2,heap_setCell_same _ _ _ _ _ _ HRW.out]; simp);have HG2:=Box.mk (show w.grownBy W2 (some g) from qh HGW.out (by
    rw [hW2];exact ⟨rfl,rfl,rfl,by simp [World.setCell],fun k _ hne=>heap_setCell_other W ⟨g,1,none⟩ k _ (fun e=>hne (by rw [e]))⟩))
   change Code.wp _ _ _ _ (W.setCell ⟨g,1,none⟩ (.int .i64 ((i:Int)+1)));rw [← hW2];clear hW2 hf hc0 hc1 HGW HRW;have hc0:W2.cell? ⟨g,0,none⟩=some (.slice (some x) n c):=by rw [cell_of_row _ _ _ _ _ _ HR2.out]; rfl
   have hc1:W2.cell? ⟨g,1,none⟩=some (.int .i64 ((i:Int)+1)):=by rw [cell_of_row _ _ _ _ _ _ HR2.out]; rfl
   have hz2:W2.cell? (x.add i)=some (.int .i64 z):=by
    rw [World.cell?_of_block (HG2.out.block _ (qbk HZ.out) (by rw [qcp]; exact fun e=>HNE.out (Option.some.inj e)))];exact HZ.out
   have HS:=Box.mk (show Src W2 g (some x) n c from ⟨⟨i+1,hlt,HR2.out⟩,HN.out,HI.out.grown HG2.out (fun y e h e2=>HA.out y e h (Option.some.inj e2)),HA.out⟩);obtain ⟨k,hk,hwk⟩:=qci z m h0 hm;have HWK:=Box.mk hwk;clear hwk;go_quiet ((go_at_call 6; exact Calls.quiet_of_same (qk2 _ _ _ h0 hm)))
   go_wp2
   go_ret;exact ⟨k,hk,qbu HWK.out,HS.out.keep (below_drewN (Below.refl _ _) _),qh HG2.out ⟨rfl,rfl,rfl,Nat.le_refl _,fun _ _ _=>rfl⟩⟩
 · have hd:decide (n≤i)=true:=by simp; omega
   go_wp2_with fail;go_quiet (fail)
   go_wp2
   go_ret;exact ⟨0,h0,rfl,H0.out.keep (below_drewN (Below.refl _ _) _),⟨rfl,rfl,rfl,Nat.le_refl _,fun _ _ _=>rfl⟩⟩
theorem jfj (g b:Nat) (l:List ByteArray) (cb:Nat) (a:Option Addr) (n c:Nat) (w:World) (h:Src w g a n c) (hl:qbn w (some ⟨b,0,none⟩) l) (hb:b≠g) (h0:0<l.length) (h1:l.length≤1000) :
  Calls Tryz.prog 18 #[.pointer (some ⟨g,0,none⟩),.slice (some ⟨b,0,none⟩) l.length cb] w fun e w'=>∃ s ∈ l,e = .returned (.string s)∧Src w' g a n c∧w.grownBy w' (some g):=by
 have HL:=Box.mk hl;have HB:=Box.mk hb;clear hl hb;go_enter Tryz.func18,Tryz.ntmps18
 go_wp2_with fail;refine (qbi g l.length a n c w h h0 (by omega)).mono ?_;rintro e w1 ⟨k,hk,rfl,hs,hg⟩;obtain ⟨x,hx,hc⟩:=HL.out k hk;obtain rfl:=Option.some.inj hx;have hc1:w1.cell? ((⟨b,0,none⟩ : Addr).add k)=some (.string l[k]):=by
  rw [World.cell?_of_block (hg.block _ (qbk hc) (by rw [qcp]; exact fun e=>HB.out (Option.some.inj e)))];exact hc
 rw [Addr.add_lit,Nat.zero_add] at hc1;have HS:=Box.mk hs;have HG:=Box.mk hg;have HMEM:=Box.mk (List.getElem_mem hk);clear hs hg hc hx;go_wp2_with fail;go_ret;exact ⟨_,HMEM.out,rfl,HS.out,HG.out⟩
def qh0:List ByteArray:=[⟨#[88,45,65]⟩,⟨#[120,45,97]⟩,⟨#[88,45,66]⟩,⟨#[65,99,99,101,112,116]⟩,⟨#[67,111,110,110,101,99,116,105,111,110]⟩,⟨#[86,105,97]⟩,⟨#[67,111,111,107,105,101]⟩,⟨#[84,69]⟩,⟨#[75,101,101,112,45,65,108,105,118,101]⟩,⟨#[88,45,70,111,114,119,97,114,100,101,100,45,70,111,114]⟩,⟨#[68,97,116,101]⟩,⟨#[69,84,97,103]⟩,⟨#[85,112,103,114,97,100,101]⟩,⟨#[88,45,83,104,97,100,111,119]⟩]
def qqu:List ByteArray:=[⟨#[]⟩,⟨#[49]⟩,⟨#[97,44,32,98]⟩,⟨#[120,45,97]⟩,⟨#[99,108,111,115,101]⟩,⟨#[107,101,101,112,45,97,108,105,118,101]⟩,⟨#[88,45,66,44,32,116,101]⟩,⟨#[99,111,104,111,114,116,61,48,49,50,51,52,53,54,55,56,57,97,98,99,100,101,102]⟩,⟨#[107,61,118,59,32,99,111,104,111,114,116,61,48,48,48,48,48,48,48,48,48,48,48,48,48,48,102,102]⟩,⟨#[49,46,49,32,111,116,104,101,114]⟩,⟨#[9,63,128,59,61]⟩]
theorem jab:(qh0.all fun s=>tokS s && decide (s.size≤1000))=true:=by decide +kernel
theorem qxa:(qqu.all fun s=>valS (jf s) && decide (s.size≤1000))=true:=by decide +kernel
theorem qch (w:World) (l:List ByteArray) (t:TypeId):qbn (w.alloc (.cells (l.map Value.string).toArray t)) (some ⟨w.heap.size,0,none⟩) l:=fun j hj =>
 ⟨_,rfl,by rw [Addr.add_lit,Nat.zero_add,jm]; simp [hj]⟩
theorem Src.low {w:World} {g:Nat} {a:Option Addr} {n c:Nat} (h:Src w g a n c):∀ x,a=some x→0<n→x.block<w.heap.size:=fun x e h0=>by
 obtain ⟨y,z,e2,hc,_⟩:=h.2.2.1 0 h0;rw [e] at e2;obtain rfl:=Option.some.inj e2;have:=qbk hc;rw [qcp] at this; exact this
theorem Src.other {w w':World} {g q:Nat} {a:Option Addr} {n c:Nat} (h:Src w g a n c) (hg:w.grownBy w' (some q)) (hq:g≠q) (hx:∀ x,a=some x→0<n→x.block≠q):Src w' g a n c :=
 h.grown hg (fun e=>hq (Option.some.inj e)) (fun x e h0 e2=>hx x e h0 (Option.some.inj e2))
theorem qgb (w:World) (g:Nat) (cs:Array Value):w.grownBy (w.setRow g cs) (some g) :=
 ⟨rfl,rfl,rfl,by simp [World.setRow],fun k _ hne=>setRow_other w g k cs (fun e=>hne (by rw [e]))⟩
theorem FVar.grown {w w':World} {g:Nat} {n v:ByteArray} {row:Option Nat} (h:FVar w g n v) (hg:w.grownBy w' row) (hne:some g≠row):FVar w' g n v:=by
 have hlt:=h.lt;unfold FVar at *;rw [hg.block g hlt hne]; exact h
theorem of_n (g b m:Nat) (l:List ByteArray) (cb:Nat) (a:Option Addr) (n c:Nat) (w:World) (h:Src w g a n c) (hl:qbn w (some ⟨b,0,none⟩) l) (hb:b≠g) (hm:l.length=m) (h0:0<m) (h1:m≤1000) :
  Calls Tryz.prog 18 #[.pointer (some ⟨g,0,none⟩),.slice (some ⟨b,0,none⟩) m cb] w fun e w'=>∃ s ∈ l,e = .returned (.string s)∧Src w' g a n c∧w.grownBy w' (some g):=by
 subst hm;exact jfj g b l cb a n c w h hl hb h0 h1
def qrt (f:Fld):Prop:=fldB f.1 f.2=true∧f.1.size≤1000∧f.2.size≤1000
theorem jej {s v:ByteArray} (hs:s ∈ qh0) (hv:v ∈ qqu):qrt (s,jf v):=by
 have h1:=List.all_eq_true.1 jab s hs;have h2:=List.all_eq_true.1 qxa v hv;simp only [Bool.and_eq_true,decide_eq_true_eq] at h1 h2;exact ⟨by rw [qqw h1.1]; exact h2.1,h1.2,Nat.le_trans (qbv v) h2.2⟩
def SrcF (f:Fld):Prop:=∃ s ∈ qh0,∃ v ∈ qqu,f=(s,jf v)
theorem SrcF.made {f:Fld} (h:SrcF f):qrt f:=by
 obtain ⟨s,hs,v,hv,rfl⟩:=h;exact jej hs hv
theorem qr5 (g:Nat) (a:Option Addr) (n c:Nat) (w:World) (h:Src w g a n c) :
  Calls Tryz.prog 49 #[.pointer (some ⟨g,0,none⟩)] w fun e w'=>∃ f,e = .returned (.agg #[.string f.1,.string f.2])∧SrcF f∧Src w' g a n c∧w.grownBy w' (some g):=by
 have H0:=Box.mk h;have HLOW:=Box.mk h.low;have hlt:=h.lt;clear h;go_enter Tryz.func49,Tryz.ntmps49
 go_wp2_with fail;obtain ⟨W,hW⟩ : ∃ W,W=(w.alloc (.cells #[.string ⟨#[]⟩,.string ⟨#[]⟩] 78)).alloc (.cells (qh0.map Value.string).toArray 9):=⟨_,rfl⟩;have HBW:=Box.mk (show Below w.heap.size w W by rw [hW]; exact qk (qd w _) _);have HQ:=Box.mk (show FVar W w.heap.size ⟨#[]⟩ ⟨#[]⟩ by rw [hW]; exact (FVar.new w ⟨#[]⟩ ⟨#[]⟩).keep (qd _ _));have HL:=Box.mk (show qbn W (some ⟨w.heap.size+1,0,none⟩) qh0 by
  have h1:=qch (w.alloc (.cells #[.string ⟨#[]⟩,.string ⟨#[]⟩] 78)) qh0 9;rw [World.size_alloc] at h1;rw [hW]; exact h1)
 have HS:=Box.mk (H0.out.keep HBW.out);change Calls _ _ _ ((w.alloc (.cells #[.string ⟨#[]⟩,.string ⟨#[]⟩] 78)).alloc (.cells (qh0.map Value.string).toArray 9)) _;rw [← hW];clear hW;refine (of_n g (w.heap.size+1) 14 qh0 14 a n c W HS.out HL.out (by omega) rfl (by decide) (by decide)).mono ?_;rintro e w1 ⟨s,hs,rfl,hsrc,hg1⟩;have HNM:=Box.mk hs;have HS1:=Box.mk hsrc;have HG1:=Box.mk (show w.grownBy w1 (some g) from qh (j5 HBW.out) hg1);have HQ1:=Box.mk (HQ.out.grown hg1 (fun e=>by have:=Option.some.inj e; omega));clear hs hsrc hg1 HS HL HQ HBW H0;go_wp2_with fail;obtain ⟨W,hW⟩ : ∃ W,W=w1.alloc (.cells (qqu.map Value.string).toArray 9):=⟨_,rfl⟩;have HBW:=Box.mk (show Below w1.heap.size w1 W by rw [hW]; exact qd w1 _);have HL:=Box.mk (show qbn W (some ⟨w1.heap.size,0,none⟩) qqu by rw [hW]; exact qch w1 qqu 9);have HS2:=Box.mk (HS1.out.keep HBW.out);have hlt1:=HS1.out.lt;change Calls _ _ _ (w1.alloc (.cells (qqu.map Value.string).toArray 9)) _;rw [← hW];clear hW;refine (of_n g w1.heap.size 11 qqu 11 a n c W HS2.out HL.out (by omega) rfl (by decide) (by decide)).mono ?_;rintro e w2 ⟨v,hv,rfl,hsrc,hg2⟩;have HVL:=Box.mk hv;have HS3:=Box.mk hsrc;have HG3:=Box.mk (show w.grownBy w2 (some g) from qh HG1.out (qh (j5 HBW.out) hg2));have HQ3:=Box.mk ((HQ1.out.keep HBW.out).grown hg2 (fun e=>by have:=Option.some.inj e; omega));have HMD:=Box.mk (show SrcF (s,jf v) from ⟨s,HNM.out,v,hv,rfl⟩);have HVZ:=Box.mk (show v.size≤maxLen by
  have h2:=List.all_eq_true.1 qxa v hv;simp only [Bool.and_eq_true,decide_eq_true_eq] at h2;unfold maxLen; omega)
 clear hv hsrc hg2 HS2 HL HQ1 HBW HS1 HG1 HNM HVL;go_wp2_with fail;refine (qfi v _ HVZ.out).mono ?_;rintro e w3 ⟨rfl,rfl⟩;generalize jf v=v' at *;go_wp2_with (refine wpList_store_row rfl 78 _ _ rfl w.heap.size #[.string s,.string v'] rfl rfl 78 _ HQ3.out qhb rfl (oneF _ _) ?_)
 (try simp only [Exit.inBlock,Exit.then])
 refine bodyPost_ret (results_cell_row rfl _ _ w.heap.size _ _ _ _ rfl (setRow_heap _ _ _ _ _ _ HQ3.out) Tryz.underlying78 rfl qhb) rfl ?_;have hnew:=qgb w2 w.heap.size #[.string s,.string v'];exact ⟨(s,v'),rfl,HMD.out,HS3.out.other hnew (by omega) (fun x e h0=>by have:=HLOW.out x e h0; omega),ku HG3.out hnew (fun i e=>by have:=Option.some.inj e; omega)⟩
def OwnF (B:Nat) (w:World) (v:Value) (l:List Fld):Prop:=w.ownsRow B 78 2 v l.length (qaj l)
theorem OwnF.start (B:Nat) (w:World):OwnF B w (.slice none 0 0) []:=World.ownsRow_nil _ _ _ _
theorem OwnF.lt {B:Nat} {w:World} {v:Value} {l:List Fld} (h:OwnF B w v l) {k:Nat} (hk:v.ownBlock=some k):B≤k∧k<w.heap.size:=World.ownsRow.lt h k hk
theorem OwnF.same {B:Nat} {w w':World} {v:Value} {l:List Fld} (h:OwnF B w v l) (hs:∀ k,v.ownBlock=some k→w'.heap[k]? = w.heap[k]?):OwnF B w' v l:=by
 obtain ⟨h1,h2⟩:=h;refine ⟨h1,?_⟩;rcases h2 with h2 | ⟨g,cap,cur,hv,hg,hc,r⟩
 · exact .inl h2
 · exact .inr ⟨g,cap,cur,hv,hg,by rw [hs g (by rw [hv]; rfl)]; exact hc,r⟩
theorem OwnF.keep {B:Nat} {w w':World} {v:Value} {l:List Fld} (h:OwnF B w v l) (hb:Below w.heap.size w w'):OwnF B w' v l :=
 h.same fun k hk=>hb.block k (h.lt hk).2
theorem OwnF.grown {B:Nat} {w w':World} {v:Value} {l:List Fld} {row:Option Nat} (h:OwnF B w v l) (hg:w.grownBy w' row) (hne:∀ k,v.ownBlock=some k→some k≠row):OwnF B w' v l :=
 h.same fun k hk=>hg.block k (h.lt hk).2 (hne k hk)
theorem OwnF.shape {B:Nat} {w:World} {v:Value} {l:List Fld} (h:OwnF B w v l):∃ a cap,v = .slice a l.length cap∧qfo w a l cap∧l.length≤cap:=by
 obtain ⟨h1,h2⟩:=h;rcases h2 with ⟨rfl,h2⟩ | ⟨g,cap,cur,rfl,hg,hc,hcap,hm,hsz,ht⟩
 · have:l=[]:=List.eq_nil_of_length_eq_zero h2
   subst this;exact ⟨none,0,rfl,⟨qm.nil _ _,fun _=>⟨rfl,rfl⟩⟩,Nat.le_refl _⟩
 · refine ⟨_,cap,rfl,⟨qm.of_cells fun j u hj=>?_,fun e=>by cases e⟩,hcap⟩
   have e:=congrArg (fun x=>x[j]?) ht;have hlt:j<l.length*2:=by rw [← qdh]; exact (List.getElem?_eq_some_iff.1 hj).1
   rw [hj,List.getElem?_take_of_lt hlt] at e;rw [Addr.add_lit];simp only [World.cell?,hc,Nat.zero_add];simpa using e
section
variable {ops:Array Oper} {rest:List Oper} {o:Oper} {act:Act} {Q:Exit→Act→World→Prop}
theorem qc1 (w:World) (hgd:o.guard=none) (s x:Operand) (ho:o.op = .call { callee:=.builtin .append,args:=#[s,x],argTypes:=#[27,27] })
  {B:Nat} {v:Value} {l:List Fld} (hs:act.eval s=v) (h:OwnF B w v l) {b c:Nat} (hx:act.eval x = .slice (some ⟨b,0,none⟩) 1 c) {y:Fld} (hy:w.cell? ⟨b,0,none⟩=some (.string y.1)) (hy2:w.cell? ⟨b,1,none⟩=some (.string y.2))
  (hn:l.length+1≤4398046511104) (hB:B≤w.heap.size)
  (K:∀ v' w',OwnF B w' v' (l++[y])→w.grownBy w' v.ownBlock→wpList Tryz.prog ops Q rest (act.put o.dst v') w'):wpList Tryz.prog ops Q (o :: rest) act w:=by
 obtain ⟨i0,hi,hz0,hz1,hz2⟩:=info_parts Tryz.info78;refine wpList_append_lies w hgd s x 27 ho B 78 i0 _ 2 32 Tryz.underlying27 hi hz0 hz1 hz2 rfl (by decide) v l.length (qaj l) hs h ⟨b,0,none⟩ 1 c [.string y.1,.string y.2] hx rfl ?_ ?_ (by decide) (by unfold maxLen; omega) (by omega) hB w.heap.size rfl ?_
 · intro j u hj
   match j,hj with
   | 0,hj=>simp at hj; subst hj; rw [Addr.add_lit]; exact hy
   | 1,hj=>simp at hj; subst hj; rw [Addr.add_lit]; exact hy2
   | j+2,hj=>simp at hj
 · intro u hu; simp at hu; rcases hu with rfl | rfl <;> rfl
 · intro g cap w' hown hgrow hg hlt
   refine K _ w' ?_ hgrow;unfold OwnF;rw [List.length_append,qdj]; exact hown
end
theorem qh3 (g m:Nat) (a:Option Addr) (n c:Nat) (w:World) (h:Src w g a n c) (hm:m≤1000) :
  Calls Tryz.prog 30 #[.pointer (some ⟨g,0,none⟩),.int .i64 m] w fun e w'=>∃ v l,e = .returned v∧OwnF w.heap.size w' v l∧l.length≤m∧(∀ f ∈ l,SrcF f)∧Src w' g a n c∧w.grownBy w' (some g):=by
 have H0:=Box.mk h;have HLOW:=Box.mk h.low;have hlt:=h.lt;clear h;go_enter Tryz.func30,Tryz.ntmps30
 go_wp2_with fail;refine (qbi g (m+1) a n c w H0.out (by omega) (by omega)).mono ?_;rintro e w1 ⟨k,hk,rfl,hsrc,hg1⟩;have HS1:=Box.mk hsrc;have HG1:=Box.mk hg1;clear hsrc hg1 H0;go_wp2_with fail;go_loopw [5,6] (fun v iv wr=>∃ j:Nat,j≤m∧iv = .int .i64 j ∧ ∃ l:List Fld,l.length+j≤m∧Box (OwnF w.heap.size wr v l∧(∀ f ∈ l,SrcF f)∧Src wr g a n c∧w.grownBy wr (some g))) (fun _ iv _=>(intOf iv).toNat)
 case atStart=>exact ⟨k,by omega,rfl,[],by simp; omega,⟨OwnF.start _ _,by simp,HS1.out,HG1.out⟩⟩
 case round =>
  clear HS1 HG1;obtain ⟨j,hj,rfl,l,hl,HM⟩:=hrel;by_cases hpos:0<j
  · go_wp2_with fail
    refine (qr5 g a n c wr HM.out.2.2.1).mono ?_;rintro e w2 ⟨f,rfl,hmd,hsrc,hg2⟩;have HO2:=Box.mk (HM.out.1.grown hg2 (fun q e e2=>by have:=(HM.out.1.lt e).1; have:=Option.some.inj e2; omega));have HS2:=Box.mk hsrc;have HG2:=Box.mk (qh HM.out.2.2.2 hg2);have HALL:=Box.mk (show ∀ y ∈ l++[f],SrcF y from fun y hy=>by
     rcases List.mem_append.1 hy with h1 | h1
     · exact HM.out.2.1 y h1
     · simp at h1; rw [h1]; exact hmd)
    have hsz:=HG2.out.size;clear hmd hsrc hg2 HM;go_wp2_with (at_builtin; refine qc1 _ rfl _ _ rfl rfl (HO2.out.keep ((Below.refl _ _).alloc (Nat.le_refl _) _)) rfl (y:=f) ?c1 ?c2 (by omega) (by simp; omega) ?c3)
    case c1=>simp
    case c2=>simp
    case c3 =>
     intro v' w3 hown hgrow;have HO3:=Box.mk hown;have hgrow2:w2.grownBy w3 u5.ownBlock:=⟨hgrow.os,hgrow.tape,hgrow.output,Nat.le_trans (by simp) hgrow.size,fun k hk hne=>by
      rw [hgrow.block k (by simp; omega) hne];exact (qd w2 _).block k hk⟩
     have HS3:=Box.mk (HS2.out.grown hgrow2 (fun e=>by have:=(HO2.out.lt e.symm).1; omega) (fun x e h0 e2=>by have:=(HO2.out.lt e2.symm).1; have:=HLOW.out x e h0; omega));have HG3:=Box.mk (ku HG2.out hgrow2 (fun i e=>(HO2.out.lt e).1));clear hown hgrow hgrow2 HO2 HS2 HG2;go_wp2_with fail;go_roundw
     case rel=>exact ⟨j-1,by omega,by go_num,l++[f],by simp; omega,⟨HO3.out,HALL.out,HS3.out,HG3.out⟩⟩
     case measure=>simp [intOf]; omega
  · obtain rfl:j=0:=by omega
    go_wp2_with fail;go_ret;exact ⟨_,l,rfl,HM.out.1,by omega,HM.out.2.1,HM.out.2.2.1,HM.out.2.2.2⟩
end Go.Proofs.YtflhjpokjdjbpaaGreatDoor
namespace Go.Proofs.YtflhjpokjdjbpaaGreatDoor
open Go.RowKit
theorem qgu.alloc {w:World} {a:Option Addr} {n:Nat} (h:qgu w a n) (o:Obj):qgu (w.alloc o) a n:=h.keep (qd w o)
theorem jes {w:World} {a:Option Addr} {n c:Nat} (h:qgu w a n) (hn:n≤maxLen):Src (w.alloc (.cells #[.slice a n c,.int .i64 0] 51)) w.heap.size a n c:=by
 refine ⟨⟨0,Nat.zero_le _,heap_alloc_new _ _⟩,hn,h.alloc _,fun x e h0=>?_⟩;obtain ⟨y,z,e2,hc,_⟩:=h 0 h0;rw [e] at e2;obtain rfl:=Option.some.inj e2;have:=qbk hc;rw [qcp] at this;omega
theorem qiw {w w1 w2:World} (h:Below w.heap.size w w1) (hg:w1.grownBy w2 (some w.heap.size)):Below w.heap.size w w2 :=
 h.grown hg h.size fun k e=>by have:=Option.some.inj e; omega
theorem qjv (w:World) (n v:ByteArray):qm (w.alloc (.cells #[.string n,.string v] 78)) (some ⟨w.heap.size,0,none⟩) [(n,v)]:=fun j hj=>by
 obtain rfl:j=0:=by simpa using hj
 exact ⟨_,rfl,by rw [Addr.add_lit,jm]; rfl,by rw [Addr.add_lit,jm]; rfl⟩
theorem qbe.short {l:List Fld} (h:qbe l):qa6 l:=fun f hf=>⟨qbm (h f hf).1,qbm (h f hf).2⟩
theorem qu0 {x:List Fld} (h:qbe x) (n:ByteArray):qam (qj x n)≤x.length*1048577:=by
 unfold qj;induction x with
 | nil=>exact Nat.zero_le _
 | cons f t ih =>
  have h1:=ih (fun g hg=>h g (List.mem_cons_of_mem _ hg));have h2:=(h f (List.mem_cons_self ..)).2;clear h ih;rw [List.filter_cons,List.length_cons,Nat.add_mul,Nat.one_mul]
  split
  · simp only [List.map_cons,qam]
    exact Nat.le_trans (Nat.add_le_add (Nat.add_le_add_right h2 1) h1) (Nat.le_of_eq (Nat.add_comm _ _))
  · exact Nat.le_trans h1 (Nat.le_add_right _ _)
def dv (c:Int):Int:=if 48≤c∧c≤57 then c-48 else if 97≤c∧c≤102 then c-87 else if 65≤c∧c≤70 then c-55 else 16
theorem qs6 (c:Int):0≤dv c∧dv c≤16:=by unfold dv; (repeat' split) <;> omega
def numB (b:Int) (c:UInt8):Bool:=decide (dv c.toNat<b)
def numS (b:Int) (s:ByteArray):Bool:=s.data.toList.all (numB b) && !s.data.toList.isEmpty
def pgo (b most:Int):Int→List UInt8→Int × Int
 | acc,[]=>(acc,0)
 | acc,c :: r=>if dv c.toNat > most∨acc > (most-dv c.toNat) / b then (0,3) else pgo b most (acc*b+dv c.toNat) r
def qo (b most:Int) (s:ByteArray):Int × Int:=if numS b s then pgo b most 0 s.data.toList else (0,2)
theorem qk6 {b most acc:Int} {c:UInt8} {r:List UInt8} (h:dv c.toNat > most∨acc > (most-dv c.toNat) / b):pgo b most acc (c :: r)=(0,3):=by rw [pgo,if_pos h]
theorem qxn {b most acc:Int} {c:UInt8} {r:List UInt8} (h1:dv c.toNat≤most) (h2:acc≤(most-dv c.toNat) / b):pgo b most acc (c :: r)=pgo b most (acc*b+dv c.toNat) r:=by rw [pgo,if_neg (by omega)]
theorem qb1 (s:ByteArray) (k:Nat) (h:k<s.size):s.data.toList.drop k=s[k] :: s.data.toList.drop (k+1):=by
 rw [List.drop_eq_getElem_cons (by simpa using h)]; rfl
def vgo (b:Int):Int→List UInt8→Int
 | acc,[]=>acc
 | acc,c :: r=>vgo b (acc*b+dv c.toNat) r
theorem qp0 (b:Int):∀ (l r:List UInt8) (acc:Int),vgo b acc (l++r)=vgo b (vgo b acc l) r
 | [],r,acc=>rfl
 | c :: l,r,acc=>by simp only [List.cons_append,vgo]; exact qp0 b l r _
theorem je8 (b acc:Int) (hb:1≤b) (ha:0≤acc):acc≤acc*b:=by
 have:=Int.mul_le_mul_of_nonneg_left hb ha; omega
theorem qwn (b:Int) (hb:1≤b):∀ (l:List UInt8) (acc:Int),0≤acc→acc≤vgo b acc l
 | [],acc,_=>Int.le_refl _
 | c :: l,acc,ha=>by
  have h1:=je8 b acc hb ha;have h2:=qs6 c.toNat;have h3:=qwn b hb l (acc*b+dv c.toNat) (by omega);rw [vgo]; omega
theorem qsv (b most:Int) (hb:1≤b):∀ (l:List UInt8) (acc:Int),0≤acc→(acc≤most∨l≠[])→pgo b most acc l=if vgo b acc l≤most then (vgo b acc l,0) else (0,3)
 | [],acc,ha,h=>by
  rcases h with h | h
  · rw [pgo,vgo,if_pos h]
  · exact absurd rfl h
 | c :: l,acc,ha,_=>by
  have h1:=je8 b acc hb ha;have h2:=qs6 c.toNat;have hge:=qwn b hb l (acc*b+dv c.toNat) (by omega);have hiff:acc≤(most-dv c.toNat) / b ↔ acc*b≤most-dv c.toNat:=Int.le_ediv_iff_mul_le (by omega);rw [pgo,vgo];by_cases h:dv c.toNat > most∨acc > (most-dv c.toNat) / b
  · rw [if_pos h,if_neg]
    rcases h with h | h
    · omega
    · have:¬ acc*b≤most-dv c.toNat:=fun hh=>by have:=hiff.2 hh; omega
      omega
  · have hm:acc*b≤most-dv c.toNat:=hiff.1 (by omega)
    rw [if_neg h];exact qsv b most hb l _ (by omega) (.inl (by omega))
def dgc (d:Nat):UInt8:=if d<10 then UInt8.ofNat (48+d) else UInt8.ofNat (87+d)
theorem jbl {d:Nat} (h:d<16):(dgc d).toNat=if d<10 then 48+d else 87+d:=by
 unfold dgc; split
 · rw [UInt8.toNat_ofNat']; omega
 · rw [UInt8.toNat_ofNat']; omega
theorem jb1 {d:Nat} (h:d<16):dv (dgc d).toNat=d:=by
 rw [jbl h]; unfold dv; by_cases h10:d<10
 · rw [if_pos h10,if_pos (by omega)]; omega
 · rw [if_neg h10,if_neg (by omega),if_pos (by omega)]; omega
def qli (b:Nat):Nat→Nat→List UInt8
 | 0,n=>[dgc (n % b)]
 | f+1,n=>if n<b then [dgc n] else qli b f (n / b)++[dgc (n % b)]
def digs (b n:Nat):List UInt8:=qli b n n
theorem qju (b:Nat) (hb:2≤b):∀ (f n:Nat),n≤f→qli b f n=qli b n n
  | 0, n, h => by obtain rfl : n = 0 := by omega
                  rfl
  | f+1,n,h=>by
    match n with
    | 0=>simp [qli,show 0<b by omega]
    | n+1 =>
      have hd:(n+1) / b≤n:=by
        have:(n+1) / b<n+1:=Nat.div_lt_self (by omega) (by omega);omega
      simp only [qli];rw [qju b hb f _ (by omega),qju b hb n _ hd]
theorem qeu {b n:Nat} (h:n<b):digs b n=[dgc n]:=by
 unfold digs
 match n with
 | 0=>rw [qli,Nat.zero_mod]
 | n+1=>rw [qli,if_pos h]
theorem qi2 {b n:Nat} (hb:2≤b) (h:¬ n<b):digs b n=digs b (n / b)++[dgc (n % b)]:=by
 unfold digs
 match n with
 | 0=>omega
 | n+1 =>
  have hd:(n+1) / b≤n:=by
   have:(n+1) / b<n+1:=Nat.div_lt_self (by omega) (by omega);omega
  rw [qli,if_neg h,qju b hb n _ hd]
theorem jb8 (b n:Nat):digs b n≠[]:=by
 unfold digs
 match n with
 | 0=>simp [qli]
 | n+1=>rw [qli]; split <;> simp
theorem qwo {b:Nat} (hb:2≤b) (hb16:b≤16) (n:Nat):(digs b n).all (numB b)=true:=by
 induction n using Nat.strongRecOn with
 | _ n ih =>
  have hd:∀ d,d<b→numB b (dgc d)=true:=fun d h=>by
   unfold numB; rw [jb1 (by omega)]; simpa using h
  by_cases h:n<b
  · rw [qeu h]; simpa using hd n h
  · rw [qi2 hb h,List.all_append,ih _ (Nat.div_lt_self (by omega) (by omega))]
    simpa using hd (n % b) (Nat.mod_lt _ (by omega))
theorem jd0 {b:Nat} (hb:2≤b) (hb16:b≤16) (n:Nat):vgo b 0 (digs b n)=n:=by
 induction n using Nat.strongRecOn with
 | _ n ih =>
  by_cases h:n<b
  · rw [qeu h,vgo,vgo,jb1 (by omega)]; omega
  · rw [qi2 hb h,qp0,ih _ (Nat.div_lt_self (by omega) (by omega)),vgo,vgo,jb1 (by have:=Nat.mod_lt n (show 0<b by omega); omega)]
    have:=Nat.div_add_mod n b;rw [Nat.mul_comm] at this
    exact_mod_cast this
def qeh (b n:Nat):ByteArray:=⟨(digs b n).toArray⟩
theorem qpw {b:Nat} (hb:2≤b) (hb16:b≤16) (n:Nat) (most:Int):qo b most (qeh b n)=if (n:Int)≤most then ((n:Int),0) else (0,3):=by
 have hn:numS b (qeh b n)=true:=by
  unfold numS qeh;rw [qwo hb hb16 n];simpa using jb8 b n
 unfold qo;rw [if_pos hn];show pgo b most 0 (digs b n)=_
 rw [qsv b most (by omega) _ 0 (Int.le_refl _) (.inr (jb8 b n)),jd0 hb hb16]
theorem qah {k:IntKind} {a b:Int} {p:Int × Int} (h:p=(a,b)):Ending.returned (.tuple #[.int .i64 a,.int k b]) = .returned (.tuple #[.int .i64 p.1,.int k p.2]):=by rw [h]
theorem qau (c:Int) (w:World) (h0:0≤c) (h1:c≤255) :
  Calls Tryz.prog 180 #[.int .u8 c] w fun e w'=>e = .returned (.int .i64 (dv c))∧w=w':=by
 go_enter Tryz.func180,Tryz.ntmps180
 go_wp2
 all_goals go_ret
 all_goals exact ⟨qbu (by unfold dv; (repeat' split) <;> omega),rfl⟩
def dr (b c:Int):Int:=if dv c<b then dv c else -1
theorem qa4 (c b:Int) (w:World) (h0:0≤c) (h1:c≤255) (hb1:2≤b) (hb2:b≤16) :
  Calls Tryz.prog 133 #[.int .u8 c,.int .i64 b] w fun e w'=>e = .returned (.int .i64 (dr b c))∧w=w':=by
 go_enter Tryz.func133,Tryz.ntmps133
 go_wp2_with (go_at_call 95; go_in)
 all_goals go_ret
 all_goals exact ⟨qbu (by unfold dr dv; (repeat' split) <;> omega),rfl⟩
theorem qu9 {b:Int} {s:ByteArray} {k:Nat} (hlt:k<s.size) (hc:numB b s[k]=false):numS b s=false:=by
 unfold numS;have:s.data.toList.all (numB b)=false:=by
  rw [Bool.eq_false_iff]; intro h;have:=List.all_eq_true.1 h _ (qp7 s k hlt); rw [hc] at this; cases this
 rw [this]; rfl
theorem qr6 {b:Int} {s:ByteArray} {k:Nat} (hk:k≤s.size) (hlt:¬ k<s.size) (h:(s.data.toList.take k).all (numB b)=true):numS b s = !s.data.toList.isEmpty:=by
 rw [qfg s k hk hlt] at h; unfold numS; rw [h]; rfl
theorem qff (s:ByteArray) (b:Int) (w:World) (hs:s.size≤maxLen) :
  Calls Tryz.prog 179 #[.string s,.int .i64 b] w fun e w'=>e = .returned (.bool (numS b s))∧w=w':=by
 unfold maxLen at hs;go_enter Tryz.func179,Tryz.ntmps179
 go_wp2
 go_loop [8] (fun i=>∃ k:Nat,k≤s.size∧i = .int .i64 k∧Hid ((s.data.toList.take k).all (numB b)=true)) (fun i=>s.size-(intOf i).toNat)
 case atStart=>exact ⟨0,Nat.zero_le _,rfl,Lib.hid (by simp)⟩
 case round =>
  obtain ⟨k,hk,rfl,HP⟩:=hrel;by_cases hlt:k<s.size
  · have b1:(s[k].toNat:Int)≤255:=by have:=s[k].toNat_lt; omega
    by_cases hc:b≤dv s[k].toNat
    · go_wp2_with (go_at_call 180; refine (qau _ _ (by omega) (by omega)).mono ?_; rintro e w' ⟨rfl,rfl⟩)
      go_ret;exact ⟨qq (qu9 hlt (by unfold numB; simpa using hc)).symm,rfl⟩
    · go_wp2_with (go_at_call 180; refine (qau _ _ (by omega) (by omega)).mono ?_; rintro e w' ⟨rfl,rfl⟩)
      go_round
      case rel=>exact ⟨k+1,by omega,by go_num,Lib.hid (by rw [qan s k hlt,List.all_append,HP.out]; unfold numB; simpa using hc)⟩
      case measure=>simp [intOf]; omega
  · go_wp2
    go_ret;exact ⟨qq (by rw [qr6 hk hlt HP.out]; simp [qb2]),rfl⟩
theorem qnc (s:ByteArray) (most:Int) (w:World) (hs:s.size≤maxLen) (hn:numS 10 s=true) (hm0:-9223372036854775808≤most) (hm1:most≤9223372036854775807) :
  Calls Tryz.prog 166 #[.string s,.int .i64 10,.int .i64 most] w fun e w'=>e = .returned (.tuple #[.int .i64 (qo 10 most s).1,.int .i64 (qo 10 most s).2])∧w=w':=by
 unfold maxLen at hs;have hp:qo 10 most s=pgo 10 most 0 s.data.toList:=by unfold qo; rw [if_pos hn]
 have HP:=Lib.hid hp;clear hp;go_enter Tryz.func166,Tryz.ntmps166
 go_wp2_with (go_at_call 179; refine (qff _ _ _ (by unfold maxLen; omega)).mono ?_; rintro e w' ⟨rfl,rfl⟩)
 go_loop [8,17] (fun n i=>∃ (k:Nat) (acc:Int),k≤s.size∧i = .int .i64 k∧n = .int .i64 acc∧0≤acc∧acc≤9223372036854775807∧Hid (qo 10 most s=pgo 10 most acc (s.data.toList.drop k))) (fun _ i=>s.size-(intOf i).toNat)
 case atStart=>exact ⟨0,0,Nat.zero_le _,rfl,rfl,by omega,by omega,Lib.hid (by rw [HP.out]; rfl)⟩
 case round =>
  obtain ⟨k,acc,hk,rfl,rfl,ha0,ha1,HG⟩:=hrel;by_cases hlt:k<s.size
  · have b1:(s[k].toNat:Int)≤255:=by have:=s[k].toNat_lt; omega
    have b2:=qs6 s[k].toNat;obtain ⟨b20,b21⟩:=b2;by_cases hd:dv s[k].toNat≤most
    · by_cases hq:acc≤(most-dv s[k].toNat) / 10
      · go_wp2_with (go_at_call 180; refine (qau _ _ (by omega) (by omega)).mono ?_; rintro e w' ⟨rfl,rfl⟩)
        go_round
        case rel=>exact ⟨k+1,_,by omega,by go_num,rfl,by omega,by omega,Lib.hid (by rw [HG.out,qb1 s k hlt,qxn hd hq])⟩
        case measure=>simp [intOf]; omega
      · go_wp2_with (go_at_call 180; refine (qau _ _ (by omega) (by omega)).mono ?_; rintro e w' ⟨rfl,rfl⟩)
        go_ret2;exact ⟨qah (by rw [HG.out,qb1 s k hlt,qk6 (.inr (by omega))]),rfl⟩
    · go_wp2_with (go_at_call 180; refine (qau _ _ (by omega) (by omega)).mono ?_; rintro e w' ⟨rfl,rfl⟩)
      go_ret2;exact ⟨qah (by rw [HG.out,qb1 s k hlt,qk6 (.inl (by omega))]),rfl⟩
  · go_wp2
    go_ret2;exact ⟨qah (by rw [HG.out,List.drop_of_length_le (by simp; omega)]; rfl),rfl⟩
theorem qnv (s:ByteArray) (most:Int) (w:World) (hs:s.size≤maxLen) (hn:numS 16 s=true) (hm0:-9223372036854775808≤most) (hm1:most≤9223372036854775807) :
  Calls Tryz.prog 166 #[.string s,.int .i64 16,.int .i64 most] w fun e w'=>e = .returned (.tuple #[.int .i64 (qo 16 most s).1,.int .i64 (qo 16 most s).2])∧w=w':=by
 unfold maxLen at hs;have hp:qo 16 most s=pgo 16 most 0 s.data.toList:=by unfold qo; rw [if_pos hn]
 have HP:=Lib.hid hp;clear hp;go_enter Tryz.func166,Tryz.ntmps166
 go_wp2_with (go_at_call 179; refine (qff _ _ _ (by unfold maxLen; omega)).mono ?_; rintro e w' ⟨rfl,rfl⟩)
 go_loop [8,17] (fun n i=>∃ (k:Nat) (acc:Int),k≤s.size∧i = .int .i64 k∧n = .int .i64 acc∧0≤acc∧acc≤9223372036854775807∧Hid (qo 16 most s=pgo 16 most acc (s.data.toList.drop k))) (fun _ i=>s.size-(intOf i).toNat)
 case atStart=>exact ⟨0,0,Nat.zero_le _,rfl,rfl,by omega,by omega,Lib.hid (by rw [HP.out]; rfl)⟩
 case round =>
  obtain ⟨k,acc,hk,rfl,rfl,ha0,ha1,HG⟩:=hrel;by_cases hlt:k<s.size
  · have b1:(s[k].toNat:Int)≤255:=by have:=s[k].toNat_lt; omega
    have b2:=qs6 s[k].toNat;obtain ⟨b20,b21⟩:=b2;by_cases hd:dv s[k].toNat≤most
    · by_cases hq:acc≤(most-dv s[k].toNat) / 16
      · go_wp2_with (go_at_call 180; refine (qau _ _ (by omega) (by omega)).mono ?_; rintro e w' ⟨rfl,rfl⟩)
        go_round
        case rel=>exact ⟨k+1,_,by omega,by go_num,rfl,by omega,by omega,Lib.hid (by rw [HG.out,qb1 s k hlt,qxn hd hq])⟩
        case measure=>simp [intOf]; omega
      · go_wp2_with (go_at_call 180; refine (qau _ _ (by omega) (by omega)).mono ?_; rintro e w' ⟨rfl,rfl⟩)
        go_ret2;exact ⟨qah (by rw [HG.out,qb1 s k hlt,qk6 (.inr (by omega))]),rfl⟩
    · go_wp2_with (go_at_call 180; refine (qau _ _ (by omega) (by omega)).mono ?_; rintro e w' ⟨rfl,rfl⟩)
      go_ret2;exact ⟨qah (by rw [HG.out,qb1 s k hlt,qk6 (.inl (by omega))]),rfl⟩
  · go_wp2
    go_ret2;exact ⟨qah (by rw [HG.out,List.drop_of_length_le (by simp; omega)]; rfl),rfl⟩
theorem qkh (s:ByteArray) (b most:Int) (w:World) (hs:s.size≤maxLen) (hb:b=10∨b=16) (hm0:-9223372036854775808≤most) (hm1:most≤9223372036854775807) :
  Calls Tryz.prog 166 #[.string s,.int .i64 b,.int .i64 most] w fun e w'=>e = .returned (.tuple #[.int .i64 (qo b most s).1,.int .i64 (qo b most s).2])∧w=w':=by
 by_cases hn:numS b s=true
 · rcases hb with rfl | rfl
   · exact qnc s most w hs hn hm0 hm1
   · exact qnv s most w hs hn hm0 hm1
 · unfold maxLen at hs
   have hn':numS b s=false:=by simpa using hn
   clear hn;have hp:qo b most s=(0,2):=by unfold qo; rw [hn']; rfl
   have HP:=Lib.hid hp;clear hp;go_enter Tryz.func166,Tryz.ntmps166
   go_wp2_with (go_at_call 179; refine (qff _ _ _ (by unfold maxLen; omega)).mono ?_; rintro e w' ⟨rfl,rfl⟩)
   go_ret2;exact ⟨qah HP.out,rfl⟩
theorem qfn (s:ByteArray) (most:Int) (w:World) (hs:s.size≤maxLen) (hm0:-9223372036854775808≤most) (hm1:most≤9223372036854775807) :
  Calls Tryz.prog 147 #[.string s,.int .i64 most] w fun e w'=>e = .returned (.tuple #[.int .i64 (qo 10 most s).1,.int .i64 (qo 10 most s).2])∧w=w':=by
 go_enter Tryz.func147,Tryz.ntmps147
 go_wp2_with (go_at_call 166; refine (qkh _ _ _ _ hs (by omega) hm0 hm1).mono ?_; rintro e w' ⟨rfl,rfl⟩)
 go_ret2;exact ⟨rfl,rfl⟩
theorem qt3 (s:ByteArray) (most:Int) (w:World) (hs:s.size≤maxLen) (hm0:-9223372036854775808≤most) (hm1:most≤9223372036854775807) :
  Calls Tryz.prog 169 #[.string s,.int .i64 most] w fun e w'=>e = .returned (.tuple #[.int .i64 (qo 16 most s).1,.int .i64 (qo 16 most s).2])∧w=w':=by
 go_enter Tryz.func169,Tryz.ntmps169
 go_wp2_with (go_at_call 166; refine (qkh _ _ _ _ hs (by omega) hm0 hm1).mono ?_; rintro e w' ⟨rfl,rfl⟩)
 go_ret2;exact ⟨rfl,rfl⟩
theorem jea {b c:Int} (h:¬ dv c<b):dr b c = -1:=by unfold dr; rw [if_neg h]
theorem qwt {b c:Int} (h:dv c<b):dr b c=dv c:=by unfold dr; rw [if_pos h]
theorem jch {b:Int} {s:ByteArray} (h:numS b s=true) {k:Nat} (hlt:k<s.size):dv s[k].toNat<b:=by
 unfold numS at h;have h1:s.data.toList.all (numB b)=true:=by simp only [Bool.and_eq_true] at h; exact h.1
 have:=List.all_eq_true.1 h1 _ (qp7 s k hlt);unfold numB at this; simpa using this
theorem qpg {b:Int} {s:ByteArray} (h:s.toList.isEmpty=true):numS b s=false:=by
 unfold numS; rw [qb2] at h;have:s.data.toList.isEmpty=true:=by simpa using h
 rw [this]; simp
theorem qqz (s:ByteArray) (most:Int) (w:World) (hs:s.size≤maxLen) (hm0:-9223372036854775808≤most) (hm1:most≤9223372036854775807) :
  Calls Tryz.prog 116 #[.string s,.int .i64 most,.int .i64 10] w fun e w'=>e = .returned (.tuple #[.int .i64 (qo 10 most s).1,.int .i64 (qo 10 most s).2])∧w=w':=by
 unfold maxLen at hs;by_cases hem:s.toList.isEmpty=true
 · have HP:=Lib.hid (show qo 10 most s=(0,2) by unfold qo; rw [qpg hem]; rfl)
   go_enter Tryz.func116,Tryz.ntmps116
   have hem2:s.toList=[]:=by simpa using hem
   go_wp2
   go_ret2;exact ⟨qah HP.out,rfl⟩
 · have hem':s.toList.isEmpty=false:=by simpa using hem
   have hem2:(!s.toList.isEmpty)=true:=by rw [hem']; rfl
   have HE:=Lib.hid hem';clear hem;go_enter Tryz.func116,Tryz.ntmps116
   go_wp2
   clear hem' hem2;go_loop [8] (fun i=>∃ k:Nat,k≤s.size∧i = .int .i64 k∧Hid ((s.data.toList.take k).all (numB 10)=true)) (fun i=>s.size-(intOf i).toNat)
   case atStart=>exact ⟨0,Nat.zero_le _,rfl,Lib.hid (by simp)⟩
   case round =>
    obtain ⟨k,hk,rfl,HP⟩:=hrel;by_cases hlt:k<s.size
    · have b1:(s[k].toNat:Int)≤255:=by have:=s[k].toNat_lt; omega
      have b2:=qs6 s[k].toNat;obtain ⟨b20,b21⟩:=b2;by_cases hc:dv s[k].toNat<10
      · have hr:=qwt hc
        go_wp2_with (go_at_call 133; refine (qa4 _ _ _ (by omega) (by omega) (by omega) (by omega)).mono ?_; rintro e w' ⟨rfl,rfl⟩)
        go_round
        case rel=>exact ⟨k+1,by omega,by go_num,Lib.hid (by rw [qan s k hlt,List.all_append,HP.out]; unfold numB; simpa using hc)⟩
        case measure=>simp [intOf]; omega
      · have hr:=jea hc
        go_wp2_with (go_at_call 133; refine (qa4 _ _ _ (by omega) (by omega) (by omega) (by omega)).mono ?_; rintro e w' ⟨rfl,rfl⟩)
        go_ret2;exact ⟨qah (by unfold qo; rw [qu9 hlt (by unfold numB; simpa using hc)]; rfl),rfl⟩
    · have hn:numS 10 s=true:=by rw [qr6 hk hlt HP.out]; have:=HE.out; rw [qb2] at this; simpa using this
      have HN:=Lib.hid hn;have HQ:=Lib.hid (show qo 10 most s=pgo 10 most 0 s.data.toList by unfold qo; rw [if_pos hn]);clear hn;go_wp2
      go_loop [9,10] (fun n i=>∃ (k:Nat) (acc:Int),k≤s.size∧i = .int .i64 k∧n = .int .i64 acc∧0≤acc∧acc≤9223372036854775807∧Hid (qo 10 most s=pgo 10 most acc (s.data.toList.drop k))) (fun _ i=>s.size-(intOf i).toNat)
      case atStart=>exact ⟨0,0,Nat.zero_le _,rfl,rfl,by omega,by omega,Lib.hid (by rw [HQ.out]; rfl)⟩
      case round =>
       obtain ⟨k,acc,hk,rfl,rfl,ha0,ha1,HG⟩:=hrel;by_cases hlt:k<s.size
       · have b1:(s[k].toNat:Int)≤255:=by have:=s[k].toNat_lt; omega
         have b2:=qs6 s[k].toNat;obtain ⟨b20,b21⟩:=b2;have hr:=qwt (jch HN.out hlt);by_cases hd:dv s[k].toNat≤most
         · by_cases hq:acc≤(most-dv s[k].toNat) / 10
           · go_wp2_with (go_at_call 133; refine (qa4 _ _ _ (by omega) (by omega) (by omega) (by omega)).mono ?_; rintro e w' ⟨rfl,rfl⟩)
             go_round
             case rel=>exact ⟨k+1,_,by omega,by go_num,rfl,by omega,by omega,Lib.hid (by rw [HG.out,qb1 s k hlt,qxn hd hq])⟩
             case measure=>simp [intOf]; omega
           · go_wp2_with (go_at_call 133; refine (qa4 _ _ _ (by omega) (by omega) (by omega) (by omega)).mono ?_; rintro e w' ⟨rfl,rfl⟩)
             go_ret2;exact ⟨qah (by rw [HG.out,qb1 s k hlt,qk6 (.inr (by omega))]),rfl⟩
         · go_wp2_with (go_at_call 133; refine (qa4 _ _ _ (by omega) (by omega) (by omega) (by omega)).mono ?_; rintro e w' ⟨rfl,rfl⟩)
           go_ret2;exact ⟨qah (by rw [HG.out,qb1 s k hlt,qk6 (.inl (by omega))]),rfl⟩
       · go_wp2
         go_ret2;exact ⟨qah (by rw [HG.out,List.drop_of_length_le (by simp; omega)]; rfl),rfl⟩
theorem qpk (s:ByteArray) (most:Int) (w:World) (hs:s.size≤maxLen) (hm0:-9223372036854775808≤most) (hm1:most≤9223372036854775807) :
  Calls Tryz.prog 116 #[.string s,.int .i64 most,.int .i64 16] w fun e w'=>e = .returned (.tuple #[.int .i64 (qo 16 most s).1,.int .i64 (qo 16 most s).2])∧w=w':=by
 unfold maxLen at hs;by_cases hem:s.toList.isEmpty=true
 · have HP:=Lib.hid (show qo 16 most s=(0,2) by unfold qo; rw [qpg hem]; rfl)
   go_enter Tryz.func116,Tryz.ntmps116
   have hem2:s.toList=[]:=by simpa using hem
   go_wp2
   go_ret2;exact ⟨qah HP.out,rfl⟩
 · have hem':s.toList.isEmpty=false:=by simpa using hem
   have hem2:(!s.toList.isEmpty)=true:=by rw [hem']; rfl
   have HE:=Lib.hid hem';clear hem;go_enter Tryz.func116,Tryz.ntmps116
   go_wp2
   clear hem' hem2;go_loop [8] (fun i=>∃ k:Nat,k≤s.size∧i = .int .i64 k∧Hid ((s.data.toList.take k).all (numB 16)=true)) (fun i=>s.size-(intOf i).toNat)
   case atStart=>exact ⟨0,Nat.zero_le _,rfl,Lib.hid (by simp)⟩
   case round =>
    obtain ⟨k,hk,rfl,HP⟩:=hrel;by_cases hlt:k<s.size
    · have b1:(s[k].toNat:Int)≤255:=by have:=s[k].toNat_lt; omega
      have b2:=qs6 s[k].toNat;obtain ⟨b20,b21⟩:=b2;by_cases hc:dv s[k].toNat<16
      · have hr:=qwt hc
        go_wp2_with (go_at_call 133; refine (qa4 _ _ _ (by omega) (by omega) (by omega) (by omega)).mono ?_; rintro e w' ⟨rfl,rfl⟩)
        go_round
        case rel=>exact ⟨k+1,by omega,by go_num,Lib.hid (by rw [qan s k hlt,List.all_append,HP.out]; unfold numB; simpa using hc)⟩
        case measure=>simp [intOf]; omega
      · have hr:=jea hc
        go_wp2_with (go_at_call 133; refine (qa4 _ _ _ (by omega) (by omega) (by omega) (by omega)).mono ?_; rintro e w' ⟨rfl,rfl⟩)
        go_ret2;exact ⟨qah (by unfold qo; rw [qu9 hlt (by unfold numB; simpa using hc)]; rfl),rfl⟩
    · have hn:numS 16 s=true:=by rw [qr6 hk hlt HP.out]; have:=HE.out; rw [qb2] at this; simpa using this
      have HN:=Lib.hid hn;have HQ:=Lib.hid (show qo 16 most s=pgo 16 most 0 s.data.toList by unfold qo; rw [if_pos hn]);clear hn;go_wp2
      go_loop [9,10] (fun n i=>∃ (k:Nat) (acc:Int),k≤s.size∧i = .int .i64 k∧n = .int .i64 acc∧0≤acc∧acc≤9223372036854775807∧Hid (qo 16 most s=pgo 16 most acc (s.data.toList.drop k))) (fun _ i=>s.size-(intOf i).toNat)
      case atStart=>exact ⟨0,0,Nat.zero_le _,rfl,rfl,by omega,by omega,Lib.hid (by rw [HQ.out]; rfl)⟩
      case round =>
       obtain ⟨k,acc,hk,rfl,rfl,ha0,ha1,HG⟩:=hrel;by_cases hlt:k<s.size
       · have b1:(s[k].toNat:Int)≤255:=by have:=s[k].toNat_lt; omega
         have b2:=qs6 s[k].toNat;obtain ⟨b20,b21⟩:=b2;have hr:=qwt (jch HN.out hlt);by_cases hd:dv s[k].toNat≤most
         · by_cases hq:acc≤(most-dv s[k].toNat) / 16
           · go_wp2_with (go_at_call 133; refine (qa4 _ _ _ (by omega) (by omega) (by omega) (by omega)).mono ?_; rintro e w' ⟨rfl,rfl⟩)
             go_round
             case rel=>exact ⟨k+1,_,by omega,by go_num,rfl,by omega,by omega,Lib.hid (by rw [HG.out,qb1 s k hlt,qxn hd hq])⟩
             case measure=>simp [intOf]; omega
           · go_wp2_with (go_at_call 133; refine (qa4 _ _ _ (by omega) (by omega) (by omega) (by omega)).mono ?_; rintro e w' ⟨rfl,rfl⟩)
             go_ret2;exact ⟨qah (by rw [HG.out,qb1 s k hlt,qk6 (.inr (by omega))]),rfl⟩
         · go_wp2_with (go_at_call 133; refine (qa4 _ _ _ (by omega) (by omega) (by omega) (by omega)).mono ?_; rintro e w' ⟨rfl,rfl⟩)
           go_ret2;exact ⟨qah (by rw [HG.out,qb1 s k hlt,qk6 (.inl (by omega))]),rfl⟩
       · go_wp2
         go_ret2;exact ⟨qah (by rw [HG.out,List.drop_of_length_le (by simp; omega)]; rfl),rfl⟩
theorem ka (s:ByteArray) (most:Int) (w:World) (hs:s.size≤maxLen) (hm0:-9223372036854775808≤most) (hm1:most≤9223372036854775807) :
  Calls Tryz.prog 89 #[.string s,.int .i64 most] w fun e w'=>e = .returned (.tuple #[.int .i64 (qo 10 most s).1,.int .i64 (qo 10 most s).2])∧w=w':=by
 go_enter Tryz.func89,Tryz.ntmps89
 go_wp2_with (go_at_call 116; refine (qqz _ _ _ hs hm0 hm1).mono ?_; rintro e w' ⟨rfl,rfl⟩)
 go_ret2;exact ⟨rfl,rfl⟩
theorem ql7 (s:ByteArray) (most:Int) (w:World) (hs:s.size≤maxLen) (hm0:-9223372036854775808≤most) (hm1:most≤9223372036854775807) :
  Calls Tryz.prog 96 #[.string s,.int .i64 most] w fun e w'=>e = .returned (.tuple #[.int .i64 (qo 16 most s).1,.int .i64 (qo 16 most s).2])∧w=w':=by
 go_enter Tryz.func96,Tryz.ntmps96
 go_wp2_with (go_at_call 116; refine (qpk _ _ _ hs hm0 hm1).mono ?_; rintro e w' ⟨rfl,rfl⟩)
 go_ret2;exact ⟨rfl,rfl⟩
theorem strsNew (w:World) (l:List ByteArray):ky (w.alloc (.cells (l.map Value.string).toArray 9)) (some ⟨w.heap.size,0,none⟩) l:=fun j hj=>⟨_,0,rfl,by
 rw [World.cell?_alloc_mark]; simp [hj]⟩
section
variable (w:World) (m:Int)
end
end Go.Proofs.YtflhjpokjdjbpaaGreatDoor
namespace Go.Proofs.YtflhjpokjdjbpaaGreatDoor
open Go.RowKit
theorem qkj (c:UInt8):∀ l:List UInt8,((ju c l).map (fun p=>p.length+1)).sum=l.length+1
 | []=>rfl
 | b :: t=>by
  have ih:=qkj c t;rw [ju]; split
  · simp; omega
  · cases h:ju c t with
    | nil=>exact absurd h (qdy c t)
    | cons q r=>rw [h] at ih; simp [qg8] at ih ⊢; omega
theorem jau (L:List (List UInt8)):qam (L.map ofL)=(L.map (fun p=>p.length+1)).sum:=by
 induction L with
 | nil=>rfl
 | cons a t ih =>
  have e:(ofL a).size=a.length:=by show (ofL a).data.size=_; simp [ofL]
  simp only [List.map_cons,qam,List.sum_cons,ih,e]
theorem qpt (l:List ByteArray):qam (qbr l)≤qam l:=by
 unfold qbr;induction l with
 | nil=>exact Nat.le_refl _
 | cons a t ih =>
  have h:=qbv a;simp only [List.map_cons,List.filter_cons]
  split <;> simp only [qam] <;> omega
theorem qrr (a b:List ByteArray):qam (a++b)=qam a+qam b:=by
 induction a with
 | nil=>simp [qam]
 | cons x t ih=>simp only [List.cons_append,qam,ih]; omega
theorem quc (a:ByteArray):qam (qv6 a)≤a.size+1:=by
 have h1:=qpt (jj 44 a);have h2:qam (jj 44 a)=a.size+1:=by
  unfold jj; rw [jau,qkj]; simp
 unfold qv6; omega
theorem qm9:∀ l:List ByteArray,qam (qbh l)≤qam l
 | []=>Nat.le_refl _
 | a :: t=>by
  have h1:=qm9 t;have h2:=quc a;have e:qbh (a :: t)=qv6 a++qbh t:=by unfold qbh; rw [List.flatMap_cons]
  rw [e,qrr]; simp only [qam]; omega
section
variable (w:World) (m:Int)
end
end Go.Proofs.YtflhjpokjdjbpaaGreatDoor
namespace Go.Proofs.YtflhjpokjdjbpaaGreatDoor
open Go.RowKit
def clN:ByteArray:=⟨#[99,111,110,116,101,110,116,45,108,101,110,103,116,104]⟩
def teN:ByteArray:=⟨#[116,114,97,110,115,102,101,114,45,101,110,99,111,100,105,110,103]⟩
def qe2:ByteArray:=⟨#[99,104,117,110,107,101,100]⟩
def qcs (x:List ByteArray):Bool:=match x with | [y]=>qab y qe2 | _=>false
def j3 (v:Int) (l:List Fld) (k0:Int):Int × Int × Int :=
 if hasL l teN=true then
  (if v=0∨0<(qj l clN).length∨qcs (qbh (qj l teN))=false then (0,0,5) else (3,0,0))
 else match qj l clN with
  | []=>(k0,0,0)
  | y :: r=>if 0<r.length∨(qo 10 1000000000 y).2=2 then (0,0,5) else if (qo 10 1000000000 y).2=0 then (2,(qo 10 1000000000 y).1,0) else (0,0,(qo 10 1000000000 y).2)
def qc2 (f:Int × Int × Int):Value:=.tuple #[.agg #[.int .i64 f.1,.int .i64 f.2.1],.int .i64 f.2.2]
theorem qm1 {v:Int} {l:List Fld} {k0:Int} (h:hasL l teN=true):j3 v l k0=if v=0∨0<(qj l clN).length∨qcs (qbh (qj l teN))=false then (0,0,5) else (3,0,0):=by
 unfold j3; rw [if_pos h]
theorem qhh {v:Int} {l:List Fld} {k0:Int} (h:hasL l teN=false) (h2:qj l clN=[]):j3 v l k0=(k0,0,0):=by
 unfold j3; rw [if_neg (by rw [h]; decide),h2]
theorem qgj {v:Int} {l:List Fld} {k0:Int} {y:ByteArray} {r:List ByteArray} (h:hasL l teN=false) (h2:qj l clN=y :: r) :
  j3 v l k0=if 0<r.length∨(qo 10 1000000000 y).2=2 then (0,0,5) else if (qo 10 1000000000 y).2=0 then (2,(qo 10 1000000000 y).1,0) else (0,0,(qo 10 1000000000 y).2):=by
 unfold j3; rw [if_neg (by rw [h]; decide),h2]
theorem qiq {l:List Fld} (h:qa6 l) {n y:ByteArray} (hy:y ∈ qj l n):y.size≤maxLen:=by
 unfold qj at hy;obtain ⟨f,hf,rfl⟩:=List.mem_map.1 hy;exact (h f (List.mem_filter.1 hf).1).2
def KVar (w:World) (g:Nat) (k n:Int):Prop:=w.heap[g]? = some (.cells #[.int .i64 k,.int .i64 n] 33 (0,0))
theorem KVar.keep {w w':World} {g:Nat} {k n:Int} (h:KVar w g k n) (hb:Below w.heap.size w w'):KVar w' g k n:=by
 unfold KVar at *;rw [hb.block g (Array.getElem?_eq_some_iff.1 h).1]; exact h
theorem jn:(Tryz.prog.info? 33).map (·.size)=some 2:=by kernel_rfl
theorem oneK (k n:Int):(#[.int .i64 k,.int .i64 n]:Array Value).all (·.oneCell')=true:=by simp [Value.oneCell']
theorem qzx {l:List ByteArray} {y:ByteArray} (h:y ∈ l):y.size+1≤qam l:=by
 obtain ⟨k,hk,rfl⟩:=List.getElem_of_mem h;exact qpm hk (Nat.le_refl _)
theorem qm4 {l:List ByteArray} {y:ByteArray} (h:y ∈ qbh l):y.size≤qam l:=by
 have h1:=qzx h;have h2:=qm9 l;omega
theorem qn5 {x:List ByteArray} (h:¬ x.length=1):qcs x=false:=by
 unfold qcs
 split
 · exact absurd rfl h
 · rfl
theorem qfw (v:Int) (l:List Fld) (k0:Int) (a:Option Addr) (cap:Nat) (w:World) (h:qm w a l) (hz:qa6 l) (hl:l.length≤1000000) (ht:qam (qj l teN)≤4000000000) :
  Calls Tryz.prog 67 #[.int .i64 v,.slice a l.length cap,.int .i64 k0] w fun e w'=>e = .returned (qc2 (j3 v l k0))∧Below w.heap.size w w':=by
 have HB:=Box.mk (qd w (.cells #[.int .i64 0,.int .i64 0] 33));have HR:=Box.mk (show KVar (w.alloc (.cells #[.int .i64 0,.int .i64 0] 33)) w.heap.size 0 0 from heap_alloc_new _ _);have H0:=Box.mk (And.intro (h.keep HB.out) (And.intro hz ht));have HVS:=Box.mk (fun (n y:ByteArray)=>qiq hz (n:=n) (y:=y));have hcl:(qj l clN).length≤1000000:=Nat.le_trans (qdx l clN) hl;clear h hz ht;go_enter Tryz.func67,Tryz.ntmps67
 go_wp2_with fail;refine (qc7 l clN a cap _ H0.out.1 H0.out.2.1 (by decide) hl).mono ?_;rintro e w1 ⟨a1,c1,rfl,hs1,hb1⟩;have HB1:=Box.mk (qe HB.out hb1);have HR1:=Box.mk (HR.out.keep hb1);have HS1:=Box.mk hs1;have HF1:=Box.mk (H0.out.1.keep hb1);clear hb1 hs1 HB HR;go_wp2_with fail;refine (qz1 l teN a cap _ HF1.out H0.out.2.1 (by decide) hl).mono ?_;rintro e w2 ⟨he,hb2⟩;have HB2:=Box.mk (qe HB1.out hb2);have HR2:=Box.mk (HR1.out.keep hb2);have HS2:=Box.mk (HS1.out.keep hb2);have HF2:=Box.mk (HF1.out.keep hb2);clear hb2 HB1 HR1 HS1 HF1;cases hte:hasL l teN with
 | true =>
  have HTE:=Box.mk hte;rw [HTE.out] at he;subst he;clear hte;go_wp2_with fail;refine (qlt _ l teN a cap HF2.out H0.out.2.1 (by decide) hl H0.out.2.2).mono ?_;rintro e w3 ⟨a3,c3,rfl,hs3,hb3⟩;have HB3:=Box.mk (qe HB2.out hb3);have HR3:=Box.mk (HR2.out.keep hb3);have HP0:=Box.mk (qm1 (v:=v) (k0:=k0) HTE.out);have hxl:(qbh (qj l teN)).length≤4000000000:=Nat.le_trans (qd0 _) H0.out.2.2;have HXZ:=Box.mk (show ∀ y ∈ qbh (qj l teN),y.size≤maxLen from fun y hy=>by
   have:=qm4 hy;have:=H0.out.2.2;unfold maxLen; omega)
  have HS3:=Box.mk hs3;clear hb3 HB2 HR2 HS2 HF2 hs3 HTE;generalize qj l clN=cl at *;generalize qbh (qj l teN)=x at *;by_cases hv:v=0
  · have HP:=Box.mk (show j3 v l k0=(0,0,5) by rw [HP0.out,if_pos (.inl hv)])
    have ev:(v == 0)=true:=by rw [hv]; rfl
    clear hv HP0;go_wp2_with (refine wpList_store_row rfl 33 _ _ rfl w.heap.size #[.int .i64 0,.int .i64 0] rfl rfl 33 _ HR3.out jn rfl (oneK _ _) ?_)
    (try simp only [Exit.inBlock,Exit.then])
    refine bodyPost_ret (qf rfl _ _ w.heap.size _ _ _ _ rfl (setRow_heap _ _ _ _ _ _ HR3.out) Tryz.underlying33 rfl jn) rfl ?_;exact ⟨by rw [HP.out]; rfl,below_setRow HB3.out (Nat.le_refl _) _⟩
  · have ev:(v == 0)=false:=by rw [beq_eq_false_iff_ne]; exact hv
    by_cases hc:0<cl.length
    · have HP:=Box.mk (show j3 v l k0=(0,0,5) by rw [HP0.out,if_pos (.inr (.inl hc))])
      clear hv HP0;go_wp2_with (refine wpList_store_row rfl 33 _ _ rfl w.heap.size #[.int .i64 0,.int .i64 0] rfl rfl 33 _ HR3.out jn rfl (oneK _ _) ?_)
      (try simp only [Exit.inBlock,Exit.then])
      refine bodyPost_ret (qf rfl _ _ w.heap.size _ _ _ _ rfl (setRow_heap _ _ _ _ _ _ HR3.out) Tryz.underlying33 rfl jn) rfl ?_;exact ⟨by rw [HP.out]; rfl,below_setRow HB3.out (Nat.le_refl _) _⟩
    · by_cases hx:x.length=1
      · obtain ⟨y,rfl⟩ : ∃ y,x=[y]:=by
         match x,hx with
         | [y],_=>exact ⟨y,rfl⟩
        have hyz:=HXZ.out y (by simp);obtain ⟨b3,o3,e3,hc3⟩:=HS3.out 0 (by simp);subst e3;simp only [List.getElem_cons_zero,Nat.add_zero] at hc3;have HP1:=Box.mk (show j3 v l k0=if qab y qe2=false then (0,0,5) else (3,0,0) by
         rw [HP0.out];by_cases hf:qab y qe2=false
         · rw [if_pos (.inr (.inr hf)),if_pos hf]
         · rw [if_neg hf,if_neg]
           rintro (h | h | h)
           · exact hv h
           · exact hc h
           · exact hf h)
        clear hv hx HP0 HXZ HS3;rw [show ([y]:List ByteArray).length=1 from rfl];go_wp2_with fail;refine (qhj y qe2 _ hyz (by decide)).mono ?_;rintro e w4 ⟨he,hb4⟩;have HB4:=Box.mk (qe HB3.out hb4);have HR4:=Box.mk (HR3.out.keep hb4);clear hb4 HB3 HR3 hc3;cases hf:qab y qe2 with
        | false =>
         have HP:=Box.mk (show j3 v l k0=(0,0,5) by rw [HP1.out,if_pos hf]);have HFF:=Box.mk hf;rw [HFF.out] at he;subst he;clear hf HP1;go_wp2_with (refine wpList_store_row rfl 33 _ _ rfl w.heap.size #[.int .i64 0,.int .i64 0] rfl rfl 33 _ HR4.out jn rfl (oneK _ _) ?_)
         (try simp only [Exit.inBlock,Exit.then])
         refine bodyPost_ret (qf rfl _ _ w.heap.size _ _ _ _ rfl (setRow_heap _ _ _ _ _ _ HR4.out) Tryz.underlying33 rfl jn) rfl ?_;exact ⟨by rw [HP.out]; rfl,below_setRow HB4.out (Nat.le_refl _) _⟩
        | true =>
         have HP:=Box.mk (show j3 v l k0=(3,0,0) by rw [HP1.out,if_neg (by rw [hf]; decide)]);have HFF:=Box.mk hf;rw [HFF.out] at he;subst he;clear hf HP1;go_wp2_with (refine wpList_store_row rfl 33 _ _ rfl w.heap.size #[.int .i64 3,.int .i64 0] rfl rfl 33 _ HR4.out jn rfl (oneK _ _) ?_)
         (try simp only [Exit.inBlock,Exit.then])
         refine bodyPost_ret (qf rfl _ _ w.heap.size _ _ _ _ rfl (setRow_heap _ _ _ _ _ _ HR4.out) Tryz.underlying33 rfl jn) rfl ?_;exact ⟨by rw [HP.out]; rfl,below_setRow HB4.out (Nat.le_refl _) _⟩
      · have HP:=Box.mk (show j3 v l k0=(0,0,5) by rw [HP0.out,if_pos (.inr (.inr (qn5 hx)))])
        have ex:(((x.length:Nat):Int) != 1)=true:=by rw [bne_iff_ne]; omega
        clear hv hx HP0 HXZ HS3;go_wp2_with (refine wpList_store_row rfl 33 _ _ rfl w.heap.size #[.int .i64 0,.int .i64 0] rfl rfl 33 _ HR3.out jn rfl (oneK _ _) ?_)
        (try simp only [Exit.inBlock,Exit.then])
        refine bodyPost_ret (qf rfl _ _ w.heap.size _ _ _ _ rfl (setRow_heap _ _ _ _ _ _ HR3.out) Tryz.underlying33 rfl jn) rfl ?_;exact ⟨by rw [HP.out]; rfl,below_setRow HB3.out (Nat.le_refl _) _⟩
 | false =>
  have HTE:=Box.mk hte;rw [HTE.out] at he;subst he;clear hte;cases hcv:qj l clN with
  | nil =>
   have HP:=Box.mk (qhh (v:=v) (k0:=k0) HTE.out hcv);rw [hcv] at hcl;rw [show ([]:List ByteArray).length=0 from rfl];clear hcv HS2 HF2 HTE HVS;go_wp2_with (refine wpList_store_row rfl 33 _ _ rfl w.heap.size #[.int .i64 k0,.int .i64 0] rfl rfl 33 _ HR2.out jn rfl (oneK _ _) ?_)
   (try simp only [Exit.inBlock,Exit.then])
   refine bodyPost_ret (qf rfl _ _ w.heap.size _ _ _ _ rfl (setRow_heap _ _ _ _ _ _ HR2.out) Tryz.underlying33 rfl jn) rfl ?_;exact ⟨by rw [HP.out]; rfl,below_setRow HB2.out (Nat.le_refl _) _⟩
  | cons y r =>
   have HP0:=Box.mk (qgj (v:=v) (k0:=k0) HTE.out hcv);have hyz:=HVS.out clN y (by rw [hcv]; simp);rw [hcv] at HS2 hcl;obtain ⟨b3,o3,e3,hc3⟩:=HS2.out 0 (by simp);subst e3;simp only [List.getElem_cons_zero,Nat.add_zero] at hc3;obtain ⟨q,hq⟩ : ∃ q,(y :: r).length=q:=⟨_,rfl⟩;have hq1:q=r.length+1:=by rw [← hq]; rfl
   rw [hq] at hcl ⊢;have hq0:0<q:=by omega
   have HQ:=Box.mk hq1;clear hcv HS2 HF2 HTE HVS hq hq1;go_wp2_with fail;refine (ka y 1000000000 _ hyz (by decide) (by decide)).mono ?_;rintro e w3 ⟨he,rfl⟩;generalize qo 10 1000000000 y=pp at *;obtain ⟨n,er⟩:=pp;simp only [] at HP0;subst he;by_cases h1:0<r.length
   · have HP:=Box.mk (show j3 v l k0=(0,0,5) by rw [HP0.out,if_pos (.inl h1)])
     have hq2:1<q:=by have:=HQ.out; omega
     clear HP0 h1;go_wp2_with (refine wpList_store_row rfl 33 _ _ rfl w.heap.size #[.int .i64 0,.int .i64 0] rfl rfl 33 _ HR2.out jn rfl (oneK _ _) ?_)
     (try simp only [Exit.inBlock,Exit.then])
     refine bodyPost_ret (qf rfl _ _ w.heap.size _ _ _ _ rfl (setRow_heap _ _ _ _ _ _ HR2.out) Tryz.underlying33 rfl jn) rfl ?_;exact ⟨by rw [HP.out]; rfl,below_setRow HB2.out (Nat.le_refl _) _⟩
   · have hq2:¬ 1<q:=by have:=HQ.out; omega
     by_cases h2:er=2
     · have HP:=Box.mk (show j3 v l k0=(0,0,5) by rw [HP0.out,if_pos (.inr h2)])
       have e2:(er == 2)=true:=by rw [h2]; rfl
       clear HP0 h1 h2;go_wp2_with (refine wpList_store_row rfl 33 _ _ rfl w.heap.size #[.int .i64 0,.int .i64 0] rfl rfl 33 _ HR2.out jn rfl (oneK _ _) ?_)
       (try simp only [Exit.inBlock,Exit.then])
       refine bodyPost_ret (qf rfl _ _ w.heap.size _ _ _ _ rfl (setRow_heap _ _ _ _ _ _ HR2.out) Tryz.underlying33 rfl jn) rfl ?_;exact ⟨by rw [HP.out]; rfl,below_setRow HB2.out (Nat.le_refl _) _⟩
     · have e2:(er == 2)=false:=by rw [beq_eq_false_iff_ne]; exact h2
       by_cases h3:er=0
       · have HP:=Box.mk (show j3 v l k0=(2,n,0) by
          rw [HP0.out,if_neg,if_pos h3];rintro (h | h)
          · exact h1 h
          · exact h2 h)
         have e3:(er != 0)=false:=by rw [h3]; rfl
         clear HP0 h1 h2 h3;go_wp2_with (refine wpList_store_row rfl 33 _ _ rfl w.heap.size #[.int .i64 2,.int .i64 n] rfl rfl 33 _ HR2.out jn rfl (oneK _ _) ?_)
         (try simp only [Exit.inBlock,Exit.then])
         refine bodyPost_ret (qf rfl _ _ w.heap.size _ _ _ _ rfl (setRow_heap _ _ _ _ _ _ HR2.out) Tryz.underlying33 rfl jn) rfl ?_;exact ⟨by rw [HP.out]; rfl,below_setRow HB2.out (Nat.le_refl _) _⟩
       · have HP:=Box.mk (show j3 v l k0=(0,0,er) by
          rw [HP0.out,if_neg,if_neg h3];rintro (h | h)
          · exact h1 h
          · exact h2 h)
         have e3:(er != 0)=true:=by rw [bne_iff_ne]; exact h3
         clear HP0 h1 h2 h3;go_wp2_with (refine wpList_store_row rfl 33 _ _ rfl w.heap.size #[.int .i64 0,.int .i64 0] rfl rfl 33 _ HR2.out jn rfl (oneK _ _) ?_)
         (try simp only [Exit.inBlock,Exit.then])
         refine bodyPost_ret (qf rfl _ _ w.heap.size _ _ _ _ rfl (setRow_heap _ _ _ _ _ _ HR2.out) Tryz.underlying33 rfl jn) rfl ?_;exact ⟨by rw [HP.out]; rfl,below_setRow HB2.out (Nat.le_refl _) _⟩
def qs3:ByteArray:=⟨#[72,69,65,68]⟩
theorem qek:([72,69,65,68]:List UInt8)=qs3.toList:=by rw [ByteArray.toList_eq]; rfl
def qkd (method:ByteArray) (st:Int):Bool:=decide (method=qs3) || (decide (100≤st) && decide (st≤199)) || decide (st=204) || decide (st=304)
def kq (method:ByteArray) (st v:Int) (l:List Fld):Int × Int × Int:=if qkd method st=true then (1,0,0) else j3 v l 4
theorem qtx (m t:ByteArray) (v:Int) (l:List Fld) (a:Option Addr) (cap:Nat) (fr:Bool) (ba:Option Addr) (bn bc:Nat) (w:World) (h:qm w a l) (hz:qa6 l) (hl:l.length≤1000000) (ht:qam (qj l teN)≤4000000000) :
  Calls Tryz.prog 46 #[.agg #[.string m,.string t,.int .i64 v,.slice a l.length cap,.bool fr,.slice ba bn bc]] w fun e w'=>e = .returned (qc2 (j3 v l 1))∧Below w.heap.size w w':=by
 have hbw:=qk (qd w (.cells #[.string m,.string t,.int .i64 v,.slice a l.length cap,.bool fr,.slice ba bn bc] 29)) (.cells #[.int .i64 0,.int .i64 0] 33);have HB:=Box.mk hbw;have HR:=Box.mk (show KVar ((w.alloc (.cells #[.string m,.string t,.int .i64 v,.slice a l.length cap,.bool fr,.slice ba bn bc] 29)).alloc (.cells #[.int .i64 0,.int .i64 0] 33)) (w.heap.size+1) 0 0 by
  have h:=heap_alloc_new (w.alloc (.cells #[.string m,.string t,.int .i64 v,.slice a l.length cap,.bool fr,.slice ba bn bc] 29)) (.cells #[.int .i64 0,.int .i64 0] 33);rw [World.size_alloc] at h; exact h)
 have H0:=Box.mk (And.intro (h.keep hbw) (And.intro hz ht));clear h hz ht hbw;go_enter Tryz.func46,Tryz.ntmps46
 go_wp2_with fail;refine (qfw v l 1 a cap _ H0.out.1 H0.out.2.1 hl H0.out.2.2).mono ?_;rintro e w1 ⟨he,hb1⟩;have HB1:=Box.mk (qe HB.out hb1);have HR1:=Box.mk (HR.out.keep hb1);generalize hq:j3 v l 1=q at *;have HP:=Box.mk hq;obtain ⟨k,n,er⟩:=q;simp only [qc2] at he;clear hb1 HB HR hq H0;subst he;go_wp2_with (refine wpList_store_row rfl 33 _ _ rfl (w.heap.size+1) #[.int .i64 k,.int .i64 n] rfl rfl 33 _ HR1.out jn rfl (oneK _ _) ?_)
 (try simp only [Exit.inBlock,Exit.then])
 refine bodyPost_ret (qf rfl _ _ (w.heap.size+1) _ _ _ _ rfl (setRow_heap _ _ _ _ _ _ HR1.out) Tryz.underlying33 rfl jn) rfl ?_;exact ⟨by rw [HP.out]; rfl,below_setRow HB1.out (by omega) _⟩
theorem qkf (method:ByteArray) (st:Int):qkd method st=true∧(method=qs3∨¬ method=qs3∧100≤st∧st≤199∨¬ method=qs3∧st=204∨¬ method=qs3∧st=304)∨qkd method st=false∧¬ method=qs3∧(st<100∨199<st∧¬ st=204∧¬ st=304):=by
 unfold qkd;by_cases h0:method=qs3
 · exact .inl ⟨by simp [h0],.inl h0⟩
 · by_cases h1:100≤st∧st≤199
   · exact .inl ⟨by simp [h1.1,h1.2],.inr (.inl ⟨h0,h1.1,h1.2⟩)⟩
   · by_cases h2:st=204
     · exact .inl ⟨by simp [h2],.inr (.inr (.inl ⟨h0,h2⟩))⟩
     · by_cases h3:st=304
       · exact .inl ⟨by simp [h3],.inr (.inr (.inr ⟨h0,h3⟩))⟩
       · refine .inr ⟨?_,h0,by omega⟩
         simp [h0,h2,h3]; omega
theorem qni (method:ByteArray) (st:Int) (r:ByteArray) (v:Int) (l:List Fld) (a:Option Addr) (cap:Nat) (ba:Option Addr) (bn bc:Nat) (w:World) (h:qm w a l) (hz:qa6 l) (hl:l.length≤1000000) (ht:qam (qj l teN)≤4000000000) :
  Calls Tryz.prog 44 #[.string method,.agg #[.int .i64 st,.string r,.int .i64 v,.slice a l.length cap,.slice ba bn bc]] w fun e w'=>e = .returned (qc2 (kq method st v l))∧Below w.heap.size w w':=by
 have hbw:=qk (qd w (.cells #[.int .i64 st,.string r,.int .i64 v,.slice a l.length cap,.slice ba bn bc] 31)) (.cells #[.int .i64 0,.int .i64 0] 33);have HB:=Box.mk hbw;have HR:=Box.mk (show KVar ((w.alloc (.cells #[.int .i64 st,.string r,.int .i64 v,.slice a l.length cap,.slice ba bn bc] 31)).alloc (.cells #[.int .i64 0,.int .i64 0] 33)) (w.heap.size+1) 0 0 by
  have h:=heap_alloc_new (w.alloc (.cells #[.int .i64 st,.string r,.int .i64 v,.slice a l.length cap,.slice ba bn bc] 31)) (.cells #[.int .i64 0,.int .i64 0] 33);rw [World.size_alloc] at h; exact h)
 have H0:=Box.mk (And.intro (h.keep hbw) (And.intro hz ht));clear h hz ht hbw;rcases qkf method st with ⟨hn,hc⟩ | ⟨hn,h0,hst⟩
 · have HP:=Box.mk (show kq method st v l=(1,0,0) by unfold kq; rw [if_pos hn])
   rcases hc with h0 | ⟨h0,h1,h2⟩ | ⟨h0,h1⟩ | ⟨h0,h1⟩
   · have hm:(method.toList == [72,69,65,68])=true:=by rw [qek,toList_eq]; simp; exact h0
     clear h0 hn;go_enter Tryz.func44,Tryz.ntmps44
     go_wp2_with (refine wpList_store_row rfl 33 _ _ rfl (w.heap.size+1) #[.int .i64 1,.int .i64 0] rfl rfl 33 _ HR.out jn rfl (oneK _ _) ?_)
     (try simp only [Exit.inBlock,Exit.then])
     refine bodyPost_ret (qf rfl _ _ (w.heap.size+1) _ _ _ _ rfl (setRow_heap _ _ _ _ _ _ HR.out) Tryz.underlying33 rfl jn) rfl ?_;exact ⟨by rw [HP.out]; rfl,below_setRow HB.out (by omega) _⟩
   · have hm:(method.toList == [72,69,65,68])=false:=by rw [qek,toList_eq]; simp; exact h0
     clear h0 hn;go_enter Tryz.func44,Tryz.ntmps44
     go_wp2_with (refine wpList_store_row rfl 33 _ _ rfl (w.heap.size+1) #[.int .i64 1,.int .i64 0] rfl rfl 33 _ HR.out jn rfl (oneK _ _) ?_)
     (try simp only [Exit.inBlock,Exit.then])
     refine bodyPost_ret (qf rfl _ _ (w.heap.size+1) _ _ _ _ rfl (setRow_heap _ _ _ _ _ _ HR.out) Tryz.underlying33 rfl jn) rfl ?_;exact ⟨by rw [HP.out]; rfl,below_setRow HB.out (by omega) _⟩
   · have hm:(method.toList == [72,69,65,68])=false:=by rw [qek,toList_eq]; simp; exact h0
     clear h0 hn;subst h1;go_enter Tryz.func44,Tryz.ntmps44
     go_wp2_with (refine wpList_store_row rfl 33 _ _ rfl (w.heap.size+1) #[.int .i64 1,.int .i64 0] rfl rfl 33 _ HR.out jn rfl (oneK _ _) ?_)
     (try simp only [Exit.inBlock,Exit.then])
     refine bodyPost_ret (qf rfl _ _ (w.heap.size+1) _ _ _ _ rfl (setRow_heap _ _ _ _ _ _ HR.out) Tryz.underlying33 rfl jn) rfl ?_;exact ⟨by rw [HP.out]; rfl,below_setRow HB.out (by omega) _⟩
   · have hm:(method.toList == [72,69,65,68])=false:=by rw [qek,toList_eq]; simp; exact h0
     clear h0 hn;subst h1;go_enter Tryz.func44,Tryz.ntmps44
     go_wp2_with (refine wpList_store_row rfl 33 _ _ rfl (w.heap.size+1) #[.int .i64 1,.int .i64 0] rfl rfl 33 _ HR.out jn rfl (oneK _ _) ?_)
     (try simp only [Exit.inBlock,Exit.then])
     refine bodyPost_ret (qf rfl _ _ (w.heap.size+1) _ _ _ _ rfl (setRow_heap _ _ _ _ _ _ HR.out) Tryz.underlying33 rfl jn) rfl ?_;exact ⟨by rw [HP.out]; rfl,below_setRow HB.out (by omega) _⟩
 · have HP0:=Box.mk (show kq method st v l=j3 v l 4 by unfold kq; rw [if_neg (by rw [hn]; decide)])
   have hm:(method.toList == [72,69,65,68])=false:=by rw [qek,toList_eq]; simp; exact h0
   clear h0 hn;rcases hst with hst | ⟨hst,h2,h3⟩
   · have e2:(st == 204)=false:=by rw [beq_eq_false_iff_ne]; omega
     have e3:(st == 304)=false:=by rw [beq_eq_false_iff_ne]; omega
     go_enter Tryz.func44,Tryz.ntmps44
     go_wp2_with fail;refine (qfw v l 4 a cap _ H0.out.1 H0.out.2.1 hl H0.out.2.2).mono ?_;rintro e w1 ⟨he,hb1⟩;have HB1:=Box.mk (qe HB.out hb1);have HR1:=Box.mk (HR.out.keep hb1);generalize hq:j3 v l 4=q at *;have HP:=Box.mk (HP0.out);obtain ⟨k,n,er⟩:=q;simp only [qc2] at he;clear hb1 HB HR hq H0 HP0;subst he;go_wp2_with (refine wpList_store_row rfl 33 _ _ rfl (w.heap.size+1) #[.int .i64 k,.int .i64 n] rfl rfl 33 _ HR1.out jn rfl (oneK _ _) ?_)
     (try simp only [Exit.inBlock,Exit.then])
     refine bodyPost_ret (qf rfl _ _ (w.heap.size+1) _ _ _ _ rfl (setRow_heap _ _ _ _ _ _ HR1.out) Tryz.underlying33 rfl jn) rfl ?_;exact ⟨by rw [HP.out]; rfl,below_setRow HB1.out (by omega) _⟩
   · have e2:(st == 204)=false:=by rw [beq_eq_false_iff_ne]; exact h2
     have e3:(st == 304)=false:=by rw [beq_eq_false_iff_ne]; exact h3
     clear h2 h3;go_enter Tryz.func44,Tryz.ntmps44
     go_wp2_with fail;refine (qfw v l 4 a cap _ H0.out.1 H0.out.2.1 hl H0.out.2.2).mono ?_;rintro e w1 ⟨he,hb1⟩;have HB1:=Box.mk (qe HB.out hb1);have HR1:=Box.mk (HR.out.keep hb1);generalize hq:j3 v l 4=q at *;have HP:=Box.mk (HP0.out);obtain ⟨k,n,er⟩:=q;simp only [qc2] at he;clear hb1 HB HR hq H0 HP0;subst he;go_wp2_with (refine wpList_store_row rfl 33 _ _ rfl (w.heap.size+1) #[.int .i64 k,.int .i64 n] rfl rfl 33 _ HR1.out jn rfl (oneK _ _) ?_)
     (try simp only [Exit.inBlock,Exit.then])
     refine bodyPost_ret (qf rfl _ _ (w.heap.size+1) _ _ _ _ rfl (setRow_heap _ _ _ _ _ _ HR1.out) Tryz.underlying33 rfl jn) rfl ?_;exact ⟨by rw [HP.out]; rfl,below_setRow HB1.out (by omega) _⟩
def hexS:ByteArray:=⟨#[48,49,50,51,52,53,54,55,56,57,97,98,99,100,101,102]⟩
theorem qnl:∀ d:Fin 16,(hexS.extract d.val (d.val+1)).data.toList=[dgc d.val]:=by decide +kernel
theorem qom {d:Nat} (h:d<16):(⟨#[48,49,50,51,52,53,54,55,56,57,97,98,99,100,101,102]⟩ : ByteArray).extract d (d+1)=⟨#[dgc d]⟩:=by
 have:=qnl ⟨d,h⟩;apply ByteArray.ext
 apply Array.toList_inj.1
 exact this
theorem jb6 (c:UInt8) (t:List UInt8):(⟨#[c]⟩ : ByteArray)++⟨t.toArray⟩=⟨(c :: t).toArray⟩:=by
 apply ByteArray.ext; simp
theorem jam (n:Nat) (w:World) (hn:(n:Int)≤9223372036854775807) :
  Calls Tryz.prog 51 #[.int .i64 n,.int .i64 10] w fun e w'=>e = .returned (.string (qeh 10 n)) ∧ ∃ j,w'=w.drewN j:=by
 go_enter Tryz.func51,Tryz.ntmps51
 go_wp2
 go_loopw [5,0] (fun s m wr=>∃ (k:Nat) (t:List UInt8) (j:Nat),(t.length:Int)+k≤n∧(t=[]∨0<k)∧m = .int .i64 k∧s = .string ⟨t.toArray⟩∧wr=w.drewN j∧Hid (digs 10 n=digs 10 k++t)) (fun _ m _=>(intOf m).toNat)
 case atStart=>exact ⟨n,[],0,by simp,.inl rfl,rfl,rfl,by simp [World.drewN_zero],Lib.hid (by simp)⟩
 case round =>
  obtain ⟨k,t,j,hk,hne,rfl,rfl,rfl,HD⟩:=hrel;have HNE:=Lib.hid hne;have hlen:t.length+1≤9223372036854775807:=by
   rcases hne with rfl | h
   · simp
   · omega
  clear hne;obtain ⟨d,hd⟩ : ∃ d:Nat,k % 10=d:=⟨_,rfl⟩;have hd9:d<10:=by omega
  have HDD:=Lib.hid hd;have hr:((k:Int).tmod 10)=(d:Int):=by rw [Int.tmod_eq_emod_of_nonneg (by omega)]; omega
  clear hd;have hw1:IntKind.i64.wrap (d:Int)=(d:Int):=IntWalk.i64_in _ (by omega);have hw2:IntKind.i64.wrap ((d:Int)+1)=(d:Int)+1:=IntWalk.i64_in _ (by omega);have hn1:((d:Int)+1).toNat=d+1:=by omega
  have hi1:(0:Int)≤d:=by omega
  have hi2:(0:Int)≤d+1:=by omega
  have hi3:(d:Int)+1≤16:=by omega
  have hi4:d+1≤16:=by omega
  have hi5:(d:Int)≤d+1:=by omega
  have hp:=qom (d:=d) (by omega);have hadd:∀ W,(Op.stringOp .add ⟨#[dgc d]⟩ ⟨t.toArray⟩).run Tryz.prog W = .ok (.string ⟨(dgc d :: t).toArray⟩) W:=fun W=>by
   have h:=run_string_add_sum (P:=Tryz.prog) (w:=W) ⟨#[dgc d]⟩ ⟨t.toArray⟩ (by show 1+(t.toArray).size≤_; simp; omega);rw [jb6] at h; exact h
  go_wp2_with fail;go_quiet (fail)
  clear hr hw1 hw2 hn1 hp hadd hi4;have hq:(k:Int) / 10=((k / 10:Nat):Int):=by omega
  by_cases hz:k / 10=0
  · have hz1:(k:Int) / 10=0:=by omega
    have HZ:=Lib.hid hz;clear hz hq;go_wp2
    go_ret;refine ⟨qb6 ?_,_,rfl⟩;have hs:k<10:=by have:=HZ.out; omega
    unfold qeh;rw [HD.out,qeu hs];have:k % 10=k:=Nat.mod_eq_of_lt hs;rw [← HDD.out,this]; rfl
  · have HZ:=Lib.hid hz
    have hz2:¬ (k:Int) / 10=0:=by omega
    clear hz hq;go_wp2
    go_roundw
    case rel =>
     have hz:=HZ.out;refine ⟨k / 10,dgc d :: t,_,by simp; omega,.inr (by omega),by first | rfl | simp,rfl,rfl,Lib.hid ?_⟩;rw [HD.out,qi2 (by omega) (show ¬ k<10 by omega),← HDD.out]; simp
    case measure=>have hz:=HZ.out; simp [intOf]; omega
theorem jar (n:Nat) (w:World) (hn:(n:Int)≤9223372036854775807) :
  Calls Tryz.prog 51 #[.int .i64 n,.int .i64 16] w fun e w'=>e = .returned (.string (qeh 16 n)) ∧ ∃ j,w'=w.drewN j:=by
 go_enter Tryz.func51,Tryz.ntmps51
 go_wp2
 go_loopw [5,0] (fun s m wr=>∃ (k:Nat) (t:List UInt8) (j:Nat),(t.length:Int)+k≤n∧(t=[]∨0<k)∧m = .int .i64 k∧s = .string ⟨t.toArray⟩∧wr=w.drewN j∧Hid (digs 16 n=digs 16 k++t)) (fun _ m _=>(intOf m).toNat)
 case atStart=>exact ⟨n,[],0,by simp,.inl rfl,rfl,rfl,by simp [World.drewN_zero],Lib.hid (by simp)⟩
 case round =>
  obtain ⟨k,t,j,hk,hne,rfl,rfl,rfl,HD⟩:=hrel;have HNE:=Lib.hid hne;have hlen:t.length+1≤9223372036854775807:=by
   rcases hne with rfl | h
   · simp
   · omega
  clear hne;obtain ⟨d,hd⟩ : ∃ d:Nat,k % 16=d:=⟨_,rfl⟩;have hd9:d<16:=by omega
  have HDD:=Lib.hid hd;have hr:((k:Int).tmod 16)=(d:Int):=by rw [Int.tmod_eq_emod_of_nonneg (by omega)]; omega
  clear hd;have hw1:IntKind.i64.wrap (d:Int)=(d:Int):=IntWalk.i64_in _ (by omega);have hw2:IntKind.i64.wrap ((d:Int)+1)=(d:Int)+1:=IntWalk.i64_in _ (by omega);have hn1:((d:Int)+1).toNat=d+1:=by omega
  have hi1:(0:Int)≤d:=by omega
  have hi2:(0:Int)≤d+1:=by omega
  have hi3:(d:Int)+1≤16:=by omega
  have hi4:d+1≤16:=by omega
  have hi5:(d:Int)≤d+1:=by omega
  have hp:=qom (d:=d) (by omega);have hadd:∀ W,(Op.stringOp .add ⟨#[dgc d]⟩ ⟨t.toArray⟩).run Tryz.prog W = .ok (.string ⟨(dgc d :: t).toArray⟩) W:=fun W=>by
   have h:=run_string_add_sum (P:=Tryz.prog) (w:=W) ⟨#[dgc d]⟩ ⟨t.toArray⟩ (by show 1+(t.toArray).size≤_; simp; omega);rw [jb6] at h; exact h
  go_wp2_with fail;go_quiet (fail)
  clear hr hw1 hw2 hn1 hp hadd hi4;have hq:(k:Int) / 16=((k / 16:Nat):Int):=by omega
  by_cases hz:k / 16=0
  · have hz1:(k:Int) / 16=0:=by omega
    have HZ:=Lib.hid hz;clear hz hq;go_wp2
    go_ret;refine ⟨qb6 ?_,_,rfl⟩;have hs:k<16:=by have:=HZ.out; omega
    unfold qeh;rw [HD.out,qeu hs];have:k % 16=k:=Nat.mod_eq_of_lt hs;rw [← HDD.out,this]; rfl
  · have HZ:=Lib.hid hz
    have hz2:¬ (k:Int) / 16=0:=by omega
    clear hz hq;go_wp2
    go_roundw
    case rel =>
     have hz:=HZ.out;refine ⟨k / 16,dgc d :: t,_,by simp; omega,.inr (by omega),by first | rfl | simp,rfl,rfl,Lib.hid ?_⟩;rw [HD.out,qi2 (by omega) (show ¬ k<16 by omega),← HDD.out]; simp
    case measure=>have hz:=HZ.out; simp [intOf]; omega
def fmtS (b:Nat) (n:Int):ByteArray:=if n<0 then ⟨#[]⟩ else qeh b n.toNat
theorem qk9 (w:World) (j:Nat):Below w.heap.size w (w.drewN j):=⟨rfl,rfl,rfl,Nat.le_refl _,fun _ _=>rfl⟩
theorem qlk (n b:Int) (w:World) (hn:n<0) :
  Calls Tryz.prog 51 #[.int .i64 n,.int .i64 b] w fun e w'=>e = .returned (.string ⟨#[]⟩)∧w=w':=by
 go_enter Tryz.func51,Tryz.ntmps51
 go_wp2
 go_ret;exact ⟨rfl,rfl⟩
theorem qao (n:Int) (w:World) (h0:-9223372036854775808≤n) (h1:n≤9223372036854775807) :
  Calls Tryz.prog 33 #[.int .i64 n] w fun e w'=>e = .returned (.string (fmtS 10 n))∧Below w.heap.size w w':=by
 by_cases hn:n<0
 · go_enter Tryz.func33,Tryz.ntmps33
   go_wp2_with (go_at_call 51; refine (qlk _ _ _ hn).mono ?_; rintro e w' ⟨rfl,rfl⟩)
   go_ret;exact ⟨qb6 (by unfold fmtS; rw [if_pos hn]),Below.refl _ _⟩
 · obtain ⟨k,rfl⟩ : ∃ k:Nat,n=k:=⟨n.toNat,by omega⟩
   go_enter Tryz.func33,Tryz.ntmps33
   go_wp2_with (go_at_call 51; refine (jam _ _ (by omega)).mono ?_; rintro e w' ⟨rfl,j,rfl⟩)
   go_ret;exact ⟨qb6 (by unfold fmtS; rw [if_neg (by omega)]; rfl),qk9 _ _⟩
theorem qor (n:Int) (w:World) (h0:-9223372036854775808≤n) (h1:n≤9223372036854775807) :
  Calls Tryz.prog 50 #[.int .i64 n] w fun e w'=>e = .returned (.string (fmtS 16 n))∧Below w.heap.size w w':=by
 by_cases hn:n<0
 · go_enter Tryz.func50,Tryz.ntmps50
   go_wp2_with (go_at_call 51; refine (qlk _ _ _ hn).mono ?_; rintro e w' ⟨rfl,rfl⟩)
   go_ret;exact ⟨qb6 (by unfold fmtS; rw [if_pos hn]),Below.refl _ _⟩
 · obtain ⟨k,rfl⟩ : ∃ k:Nat,n=k:=⟨n.toNat,by omega⟩
   go_enter Tryz.func50,Tryz.ntmps50
   go_wp2_with (go_at_call 51; refine (jar _ _ (by omega)).mono ?_; rintro e w' ⟨rfl,j,rfl⟩)
   go_ret;exact ⟨qb6 (by unfold fmtS; rw [if_neg (by omega)]; rfl),qk9 _ _⟩
def tgB (c:UInt8):Bool:=decide (33≤(c.toNat:Int)) && decide ((c.toNat:Int)≤126) && !decide ((c.toNat:Int)=35)
def jx (s:ByteArray):Bool:=s.data.toList.all tgB && (s.data.toList.head? == some 47)
theorem qji {s:ByteArray} {k:Nat} (hlt:k<s.size) (hc:tgB s[k]=false):jx s=false:=by
 unfold jx;have:s.data.toList.all tgB=false:=by
  rw [Bool.eq_false_iff]; intro h;have:=List.all_eq_true.1 h _ (qp7 s k hlt); rw [hc] at this; cases this
 rw [this]; rfl
theorem qv4 (s:ByteArray) (h:0<s.size):s.data.toList.head? = some s[0]:=by
 rw [List.head?_eq_getElem?,List.getElem?_eq_getElem (by simpa using h)]; rfl
theorem qme {s:ByteArray} {k:Nat} (hk:k≤s.size) (hlt:¬ k<s.size) (h:(s.data.toList.take k).all tgB=true):jx s=(s.data.toList.head? == some 47):=by
 unfold jx;rw [qfg s k hk hlt] at h;rw [h]; rfl
theorem qca (s : ByteArray) (w : World) (hs : s.size ≤ maxLen) :
    Calls Tryz.prog 75 #[.string s] w fun e w'=>e = .returned (.bool (jx s))∧w=w':=by
  unfold maxLen at hs;go_enter Tryz.func75,Tryz.ntmps75
  go_wp2
  go_loop [3] (fun i=>∃ k:Nat,k≤s.size∧i = .int .i64 k∧Box ((s.data.toList.take k).all tgB=true)) (fun i=>s.size-(intOf i).toNat)
  case atStart=>exact ⟨0,Nat.zero_le _,rfl,⟨by simp⟩⟩
  case round =>
    obtain ⟨k,hk,rfl,HP⟩:=hrel;by_cases hlt:k<s.size
    · have b1:(s[k].toNat:Int)≤255:=by have:=s[k].toNat_lt; omega
      have hcase : Box (tgB s[k] = true) ∧ 33 ≤ (s[k].toNat : Int) ∧ (s[k].toNat : Int) ≤ 126 ∧ ((s[k].toNat : Int) == 35) = false ∨ Box (tgB s[k] = false) ∧ (s[k].toNat : Int) < 33
          ∨ Box (tgB s[k]=false)∧33≤(s[k].toNat:Int)∧126<(s[k].toNat:Int)∨Box (tgB s[k]=false)∧33≤(s[k].toNat:Int)∧(s[k].toNat:Int)≤126∧((s[k].toNat:Int) == 35)=true:=by
        by_cases h1:33≤(s[k].toNat:Int)
        · by_cases h2:(s[k].toNat:Int)≤126
          · by_cases h3:(s[k].toNat:Int)=35
            · exact .inr (.inr (.inr ⟨⟨by simp [tgB,h3]⟩,h1,h2,by simp [h3]⟩))
            · exact .inl ⟨⟨by simp [tgB,h1,h2,h3]⟩,h1,h2,by rw [beq_eq_false_iff_ne]; exact h3⟩
          · exact .inr (.inr (.inl ⟨⟨by simp [tgB,h2]⟩,h1,by omega⟩))
        · exact .inr (.inl ⟨⟨by simp [tgB,h1]⟩,by omega⟩)
      rcases hcase with ⟨HC,h1,h2,h3⟩ | ⟨HC,h1⟩ | ⟨HC,h1,h2⟩ | ⟨HC,h1,h2,h3⟩
      · go_wp2
        go_round
        case rel=>exact ⟨k+1,by omega,by go_num,⟨by rw [qan s k hlt,List.all_append,HP.out]; simpa using HC.out⟩⟩
        case measure=>simp [intOf]; omega
      all_goals
        go_wp2
        go_ret;exact ⟨qq (qji hlt HC.out).symm,rfl⟩
    · have HE:=Box.mk (qme hk hlt HP.out)
      by_cases h0:0<s.size
      · have HH:=Box.mk (qv4 s h0)
        have hne:s.toList.isEmpty=false:=by rw [ByteArray.toList_eq]; cases hq:s.data.toList with
          | nil => have h9 : s.data.toList.length = 0 := by rw [hq]; rfl
                   rw [Array.length_toList] at h9;exact absurd h0 (by show ¬ 0<s.data.size; omega)
          | cons _ _=>rfl
        by_cases h47:s[0]=47
        · have hb:((s[0].toNat:Int) == 47)=true:=by rw [h47]; rfl
          have HR:=Box.mk (show jx s=true by rw [HE.out,HH.out,h47]; rfl);clear h47;go_wp2
          go_ret;exact ⟨qq HR.out.symm,rfl⟩
        · have hb : ((s[0].toNat : Int) == 47) = false := by
            rw [Bool.eq_false_iff]; intro h; exact h47 (UInt8.toNat_inj.1 (by simp at h; show s[0].toNat=47; omega))
          have HR:=Box.mk (show jx s=false by rw [HE.out,HH.out,Bool.eq_false_iff]; intro h; simp at h; exact h47 h);clear h47;go_wp2
          go_ret;exact ⟨qq HR.out.symm,rfl⟩
      · have he : s = ⟨#[]⟩ := qd5 (by
          have:s.data.toList.length=0:=by rw [Array.length_toList]; show s.size=0; omega
          rw [List.eq_nil_of_length_eq_zero this])
        subst he;go_wp2
        go_ret;exact ⟨qq (by decide +kernel),rfl⟩
def idxI (c:UInt8) (s:ByteArray):Int:=Lib.indexByte s.data.toList c
theorem jah (c:UInt8) (s:ByteArray):-1≤idxI c s:=Lib.indexByte_ge _ _
theorem jay (c:UInt8) (s:ByteArray) {k:Nat} (h:idxI c s=k):k<s.size:=by
 have:=(Lib.indexByte_some h).1;have:=(List.getElem?_eq_some_iff.1 this).1;simpa using this
theorem jf7 (c:UInt8) (s:ByteArray) (k:Nat) (hk:k<s.size) (h:s[k]=c) (hp:∀ j,j<k→s.data.toList[j]? ≠ some c):idxI c s=k:=by
 have hge:=jah c s;have hkk:s.data.toList[k]? = some c:=by
  rw [List.getElem?_eq_getElem (by simpa using hk)];exact congrArg some h
 by_cases h1:idxI c s = -1
 · exact absurd hkk (Lib.indexByte_none h1 k)
 · obtain ⟨o,ho⟩ : ∃ o:Nat,idxI c s=o:=⟨(idxI c s).toNat,by omega⟩
   have h2:=Lib.indexByte_some ho;rw [ho];congr 1;rcases Nat.lt_trichotomy o k with h3 | h3 | h3
   · exact absurd h2.1 (hp o h3)
   · exact h3
   · exact absurd hkk (h2.2 k h3)
def v10:ByteArray:=⟨#[72,84,84,80,47,49,46,48]⟩
def v11:ByteArray:=⟨#[72,84,84,80,47,49,46,49]⟩
theorem jdk:([72,84,84,80,47,49,46,48]:List UInt8)=v10.toList:=by rw [ByteArray.toList_eq]; rfl
theorem jcs:([72,84,84,80,47,49,46,49]:List UInt8)=v11.toList:=by rw [ByteArray.toList_eq]; rfl
def jb (s:ByteArray):Int:=if s=v10 then 0 else if s=v11 then 1 else -1
theorem j7 (s:ByteArray) (w:World) :
  Calls Tryz.prog 88 #[.string s] w fun e w'=>e = .returned (.int .i64 (jb s))∧w=w':=by
 by_cases h0:s=v10
 · have HR:=Box.mk (show jb s=0 by unfold jb; rw [if_pos h0])
   have h1:(s.toList == [72,84,84,80,47,49,46,48])=true:=by rw [jdk,toList_eq]; simp; exact h0
   clear h0;go_enter Tryz.func88,Tryz.ntmps88
   go_wp2_with fail;go_ret;exact ⟨qbu HR.out.symm,rfl⟩
 · have h1:(s.toList == [72,84,84,80,47,49,46,48])=false:=by rw [jdk,toList_eq]; simp; exact h0
   by_cases h2:s=v11
   · have HR:=Box.mk (show jb s=1 by unfold jb; rw [if_neg h0,if_pos h2])
     have h3:(s.toList == [72,84,84,80,47,49,46,49])=true:=by rw [jcs,toList_eq]; simp; exact h2
     clear h0 h2;go_enter Tryz.func88,Tryz.ntmps88
     go_wp2_with fail;go_ret;exact ⟨qbu HR.out.symm,rfl⟩
   · have HR:=Box.mk (show jb s = -1 by unfold jb; rw [if_neg h0,if_neg h2])
     have h3:(s.toList == [72,84,84,80,47,49,46,49])=false:=by rw [jcs,toList_eq]; simp; exact h2
     clear h0 h2;go_enter Tryz.func88,Tryz.ntmps88
     go_wp2_with fail;go_ret;exact ⟨qbu HR.out.symm,rfl⟩
end Go.Proofs.YtflhjpokjdjbpaaGreatDoor

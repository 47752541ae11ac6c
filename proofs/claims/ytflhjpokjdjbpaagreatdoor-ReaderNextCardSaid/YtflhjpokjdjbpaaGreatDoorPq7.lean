/- The reference's Feed. The reference's Decode and SameChunk; Short and Cut of the laws' maker. The reader of messages: its state, what Next does. What heads lead to: sizes. The reference's reader: a head that is not complete, or too long. Write: a text that comes in pieces. The reference's reader: a reply whose head is not in order. The reference's reader: the region that sets the new state: local laws. Bytes of the source. The contracts of awake and of the laws of layer 2. The ID that the source makes. What the laws' lists of fields are while they are made. The request that the source makes: what is said of it. -/
import Derived.Test.YtflhjpokjdjbpaaGreatDoorPq6
import Derived.Deep.DeepCutAuto
import Derived.Deep.MidRow
import Derived.Laws.Tables
import Derived.Deep.WholeRow
import Derived.StillTailTactics
import Derived.Deep.CutBlock
import Derived.Lib.LaidTab
import Derived.LaidSub
import Derived.Laws.Bits64b
set_option maxRecDepth 100000
set_option maxHeartbeats 4000000
namespace Go.Proofs.YtflhjpokjdjbpaaGreatDoor
open Go.RowKit
theorem kf {P:Program} {fn:Func} {q1 q2 q3 p:Tmp} {ty:TypeId} (h:fn.results=#[.cell p ty,.tmp q1,.tmp q2,.tmp q3]) (tmps:Array Value) (w:World) (g:Nat) (t:TypeId) (cs:Array Value) (fr:Nat × Nat) (d:TypeDesc)
  (hp:tmps.getD p undef = .pointer (some ⟨g,0,none⟩)) (hg:w.heap[g]? = some (.cells cs t fr))
  (hu:P.underlying ty=some d) (hd:(match d with | .struct _ | .array _ _=>true | _=>false)=true) (hi:(P.info? ty).map (·.size)=some cs.size) :
  (results fn tmps).run P w = .ok (.tuple #[.agg cs,tmps.getD q1 undef,tmps.getD q2 undef,tmps.getD q3 undef]) w:=by
 have hp':tmps[p]?.getD undef = .pointer (some ⟨g,0,none⟩):=by simpa using hp
 simp [results,h,hp',asAddr,run_loadVar_row w g t ty cs fr d hg hu hd hi]
def jel (w:World) (r:Int × Chk × List UInt8 × Nat) (e:Ending) (w':World):Prop :=
 ∃ a c oa oc,e = .returned (.tuple #[.agg #[.int .i64 r.2.1.ph,.int .i64 r.2.1.left,.int .i64 r.2.1.tr,.slice a r.2.1.line.length c],.slice oa r.2.2.1.length oc,.int .i64 r.2.2.2,.int .i64 r.1])∧qg w' a r.2.1.line c∧qg w' oa r.2.2.1 oc∧Below w.heap.size w w'
theorem qmd (room:Int) (s:Chk) (out:List UInt8) (i:Nat):jp room s out i []=(0,s,out,i):=rfl
theorem qcj {room:Int} {s:Chk} {out:List UInt8} {i:Nat} {x:UInt8} {r:List UInt8} (h:s.ph=4∨s.ph=1∧room≤out.length):jp room s out i (x :: r)=(0,s,out,i):=by rw [jp,if_pos h]
theorem qdl {room:Int} {s:Chk} {out:List UInt8} {i:Nat} {x:UInt8} {r:List UInt8} (h1:s.ph=1) (h:¬ room≤out.length):jp room s out i (x :: r)=jp room ⟨if s.left-1=0 then 2 else 1,s.left-1,s.tr,s.line⟩ (out++[x]) (i+1) r:=by
  rw [jp, if_neg (by rintro (h4 | h4); · omega
                     · exact h h4.2),if_pos h1]
theorem qi9 {room:Int} {s:Chk} {out:List UInt8} {i:Nat} {x:UInt8} {r:List UInt8} (h4:¬ s.ph=4) (h1:¬ s.ph=1) (h0:(qat s x).1=0):jp room s out i (x :: r)=jp room (qat s x).2 out (i+1) r:=by
  rw [jp, if_neg (by rintro (h | h); · exact h4 h
                     · exact h1 h.1),if_neg h1,if_pos h0]
theorem qge {room:Int} {s:Chk} {out:List UInt8} {i:Nat} {x:UInt8} {r:List UInt8} (h4:¬ s.ph=4) (h1:¬ s.ph=1) (h0:¬ (qat s x).1=0):jp room s out i (x :: r)=((qat s x).1,zeroC,[],0):=by
  rw [jp, if_neg (by rintro (h | h); · exact h4 h
                     · exact h1 h.1),if_neg h1,if_neg h0]
theorem qgm (x:Addr) (j:Nat):(x.add j).block=x.block:=by unfold Addr.add; split <;> rfl
theorem qs5 (w:World) (a:Option Addr) (c:Nat) {w0:World} (h:qg w0 a [] c):qg w a [] c:=by
 rcases h with h | ⟨x,e,h1,h2,_⟩
 · exact .inl h
 · exact .inr ⟨x,e,h1,h2,fun j hj=>absurd hj (Nat.not_lt_zero _)⟩
theorem qph {w:World} {a:Option Addr} {l:List UInt8} {c:Nat} (h:qg w a l c) {k:Nat} (hk:k<l.length):∃ ad,a=some ad∧w.cell? (ad.add k)=some (.int .u8 (l[k].toNat:Int)):=by
 rcases h with ⟨_,e,_⟩ | ⟨x,e,_,_,hc⟩
 · subst e; simp at hk
 · exact ⟨x,e,hc k hk⟩
theorem CVar.away {w:World} {g:Nat} {p lf t:Int} {va:Option Addr} {n vc:Nat} {a:Option Addr} {l:List UInt8} {c:Nat} (h:CVar w g p lf t (.slice va n vc)) (hb:qg w a l c):∀ x,a=some x→l≠[]→x.block≠g:=by
 intro x hx hl hg;rcases hb with ⟨h1,_⟩ | ⟨y,h1,_,_,h4⟩
 · rw [h1] at hx; cases hx
 · rw [h1] at hx
   obtain rfl:=Option.some.inj hx;have h5:=h4 0 (List.length_pos_iff.2 hl);have h6:w.heap[(y.add 0).block]? = some (.cells #[.int .i64 p,.int .i64 lf,.int .i64 t,.slice va n vc] 35 (0,0)):=by rw [qgm,hg]; exact h
   unfold World.cell? at h5;rw [h6] at h5;simp only at h5
   split at h5
   · cases h5
   · match hq:(y.add 0).off with
     | 0=>rw [hq] at h5; simp at h5
     | 1=>rw [hq] at h5; simp at h5
     | 2=>rw [hq] at h5; simp at h5
     | 3=>rw [hq] at h5; simp at h5
     | m+4=>rw [hq] at h5; simp at h5
theorem CVar.setRB {w:World} {g:Nat} {p lf t:Int} {va:Option Addr} {n vc:Nat} {a:Option Addr} {l:List UInt8} {c:Nat} (h:CVar w g p lf t (.slice va n vc)) (hb:qg w a l c) (cs:Array Value):qg (w.setRow g cs) a l c :=
 hb.same fun x hx hl=>setRow_other _ _ _ _ (h.away hb x hx hl)
theorem CVar.setCB {w:World} {g i:Nat} {p lf t:Int} {va:Option Addr} {n vc:Nat} {a:Option Addr} {l:List UInt8} {c:Nat} {u:Value} (h:CVar w g p lf t (.slice va n vc)) (hb:qg w a l c):qg (w.setCell ⟨g,i,none⟩ u) a l c :=
 hb.same fun x hx hl=>heap_setCell_other _ _ _ _ (h.away hb x hx hl)
theorem CVar.row {w:World} {g k:Nat} {p l t:Int} {v:Value} {cs:Array Value} (h:CVar w g p l t v) (hne:g≠k):CVar (w.setRow k cs) g p l t v:=by
 unfold CVar; rw [setRow_other _ _ _ _ hne]; exact h
theorem CVar.set4 {w:World} {g:Nat} {p0 l0 t0 p l t:Int} {v0 u:Value} (h:CVar w g p0 l0 t0 v0):CVar ((((w.setCell ⟨g,0,none⟩ (.int .i64 p)).setCell ⟨g,1,none⟩ (.int .i64 l)).setCell ⟨g,2,none⟩ (.int .i64 t)).setCell ⟨g,3,none⟩ u) g p l t u:=h.setP.setL.setT.setV
theorem CVar.set4B {w:World} {g:Nat} {p0 l0 t0 p l t:Int} {va:Option Addr} {n vc:Nat} {u:Value} {a:Option Addr} {r:List UInt8} {c:Nat} (h:CVar w g p0 l0 t0 (.slice va n vc)) (hb:qg w a r c) :
  qg ((((w.setCell ⟨g,0,none⟩ (.int .i64 p)).setCell ⟨g,1,none⟩ (.int .i64 l)).setCell ⟨g,2,none⟩ (.int .i64 t)).setCell ⟨g,3,none⟩ u) a r c :=
 h.setP.setL.setT.setCB (h.setP.setL.setCB (h.setP.setCB (h.setCB hb)))
theorem qbz {B g:Nat} {w0 w:World} {u0 u1 u2 u3:Value} (hb:Below B w0 w) (hg:B≤g):Below B w0 ((((w.setCell ⟨g,0,none⟩ u0).setCell ⟨g,1,none⟩ u1).setCell ⟨g,2,none⟩ u2).setCell ⟨g,3,none⟩ u3) :=
 (((hb.setCell (p:=⟨g,0,none⟩) hg u0).setCell (p:=⟨g,1,none⟩) hg u1).setCell (p:=⟨g,2,none⟩) hg u2).setCell (p:=⟨g,3,none⟩) hg u3
theorem qcw (w:World) (x:UInt8):qg (w.alloc (.cells #[.int .u8 (x.toNat:Int)] 5)) (some ⟨w.heap.size,0,none⟩) [x] 1:=by
 refine .inr ⟨_,rfl,Nat.le_refl _,by decide,fun j hj=>?_⟩;obtain rfl:j=0:=by simpa using hj
 rw [Addr.add_lit,jm]; rfl
theorem CVar.grownC {w w':World} {g:Nat} {p l t:Int} {v:Value} {row:Option Nat} (h:CVar w g p l t v) (hg:w.grownBy w' row) (hne:some g≠row):CVar w' g p l t v:=by
 unfold CVar at *;rw [hg.block g (Array.getElem?_eq_some_iff.1 h).1 hne]; exact h
theorem qaq {w w1 w2:World} {row:Option Nat} (h:Below w.heap.size w w1) (k:w1.grownBy w2 row):w.grownBy w2 row :=
 ⟨k.os.trans h.os,k.tape.trans h.tape,k.output.trans h.output,Nat.le_trans h.size k.size,fun i hi hne=>(k.block i (Nat.lt_of_lt_of_le hi h.size) hne).trans (h.block i hi)⟩
theorem jbw {w:World} {g:Nat} {p l t:Int} {v:Value} (h:CVar w g p l t v):(Instr.loadAt 35 (.pointer (some ⟨g,0,none⟩))).run Tryz.prog w = .ok (.agg #[.int .i64 p,.int .i64 l,.int .i64 t,v]) w:=by
 unfold CVar at h;simp [Instr.loadAt,Instr.sureAddr,run_loadVar_row w g _ 35 _ _ _ h Tryz.underlying35 rfl j8]
theorem jf6 (w:World):(isAgg 5).run Tryz.prog w = .ok false w:=by
 unfold isAgg; rw [Sem.run_bind,run_underlying Tryz.underlying5 w]; rfl
def StpV (r:Int × Chk) (w:World) (v:Value):Prop:=∃ p l t a n c,v = .tuple #[.agg #[.int .i64 p,.int .i64 l,.int .i64 t,.slice a n c],.int .i64 r.1]∧(r.1=0→p=r.2.ph∧l=r.2.left∧t=r.2.tr∧n=r.2.line.length∧qg w a r.2.line c)
def AgcV (r:Int × Chk) (w:World) (v:Value):Prop:=∃ p l t a n c,v = .agg #[.int .i64 p,.int .i64 l,.int .i64 t,.slice a n c]∧(r.1=0→p=r.2.ph∧l=r.2.left∧t=r.2.tr∧n=r.2.line.length∧qg w a r.2.line c)
def Spec.stp (r:Int × Chk):Spec:=⟨fun v w=>StpV r w v,fun _ _ _ h hb=>by
 obtain ⟨p,l,t,a,n,c,h1,h2⟩:=h;exact ⟨p,l,t,a,n,c,h1,fun e=>⟨(h2 e).1,(h2 e).2.1,(h2 e).2.2.1,(h2 e).2.2.2.1,(h2 e).2.2.2.2.keep hb⟩⟩⟩
def Spec.agc (r:Int × Chk):Spec:=⟨fun v w=>AgcV r w v,fun _ _ _ h hb=>by
 obtain ⟨p,l,t,a,n,c,h1,h2⟩:=h;exact ⟨p,l,t,a,n,c,h1,fun e=>⟨(h2 e).1,(h2 e).2.1,(h2 e).2.2.1,(h2 e).2.2.2.1,(h2 e).2.2.2.2.keep hb⟩⟩⟩
def Spec.tupE (er:Int):Spec:=⟨fun v _=>∃ u,v = .tuple #[u,.int .i64 er],fun _ _ _ h _=>h⟩
def Spec.nopeC:Spec:=⟨fun _ _=>False,fun _ _ _ h _=>h⟩
section
variable {Q:Exit→Act→World→Prop} {act:Act} {w:World} {o:Oper} {s:Spec} {K:Act→World→Prop}
theorem qwa {x y:Operand} (ho:o.op = .indexAddr 23 x y) {ad:Addr} {n c k:Nat} (hx:act.eval x = .slice (some ad) n c) (hy:act.eval y = .int .i64 k) (hk:k<n) (hs:s.p (.pointer (some (ad.add k))) w) :
  o.wp Tryz.prog act w (fun a' w'=>∃ v,a'=act.put o.dst v∧Below w.heap.size w w'∧s.p v w') Q :=
 j0 (v:=.pointer (some (ad.add k))) (by
  have es:(sizeOf (Tryz.prog.elem 23)).run Tryz.prog w = .ok 1 w:=by
   rw [show Tryz.prog.elem 23=5 by kernel_rfl];have h:(Tryz.prog.info? 5).map (·.size)=some 1:=by kernel_rfl
   cases hq:Tryz.prog.info? 5 with
   | none=>rw [hq] at h; cases h
   | some i=>rw [hq] at h; simp at h; simp [sizeOf,typeInfo,hq,h]
  have h:=run_indexAt_slice (P:=Tryz.prog) (w:=w) 23 ad n c .i64 (k:Int) (by kernel_rfl);rw [if_pos ⟨by omega,by omega⟩,es] at h;simp only [Result.andThen,Int.toNat_natCast,Nat.mul_one] at h;unfold execOp;simp only [ho,hx,hy,Sem.run_bind,h,Result.andThen_ok,Sem.run_pure]) (Below.refl _ _) hs
theorem qmt {x:Operand} {t:TypeId} (ho:o.op = .load t x) {p:Addr} (hx:act.eval x = .pointer (some p)) {v:Value} (hc:w.cell? p=some v) (ht:(isAgg t).run Tryz.prog w = .ok false w) (hs:s.p v w) :
  o.wp Tryz.prog act w (fun a' w'=>∃ v,a'=act.put o.dst v∧Below w.heap.size w w'∧s.p v w') Q :=
 kw ho (v:=v) (by
  rw [hx];simp [Instr.loadAt,Instr.sureAddr,loadVar,hc,ht]) hs
theorem qqs {x:Operand} (ho:o.op = .extract x 0) {u v:Value} (hx:act.eval x = .tuple #[u,v]) (hs:s.p u w) :
  o.wp Tryz.prog act w (fun a' w'=>∃ v,a'=act.put o.dst v∧Below w.heap.size w w'∧s.p v w') Q :=
 j0 (v:=u) (by unfold execOp; simp [ho,hx,Instr.extract]) (Below.refl _ _) hs
theorem qi1 {x:Operand} (ho:o.op = .extract x 1) {u v:Value} (hx:act.eval x = .tuple #[u,v]) (hs:s.p v w) :
  o.wp Tryz.prog act w (fun a' w'=>∃ v,a'=act.put o.dst v∧Below w.heap.size w w'∧s.p v w') Q :=
 j0 (v:=v) (by unfold execOp; simp [ho,hx,Instr.extract]) (Below.refl _ _) hs
end
structure jfw (w:World) (g:Nat) (room:Int) (l:List UInt8) (s:Chk) (na:Option Addr) (nc:Nat) (out:List UInt8) (k:Nat) (v:Value) (W:World):Prop where
 ok:OkC s
 eq:jp room s out k (l.drop k)=jp room s out k (l.drop k)
 var:CVar W g s.ph s.left s.tr (.slice na s.line.length nc)
 line:qg W na s.line nc
 res:CVar W (g+1) 0 0 0 (.slice none 0 0)
 own:Own (g+2) W v out
 below:Below w.heap.size w W
 len:out.length≤k
section
variable {Q:Exit→Act→World→Prop} {act:Act} {w:World} {o:Oper} {s:Spec} {K:Act→World→Prop}
end
theorem qw5 (s:Chk) (l:List UInt8) (room:Int) (la ba:Option Addr) (lc bc:Nat) (w:World) (h:qg w la s.line lc) (hb:qg w ba l bc) (hs:OkC s) (hl:l.length≤4000000000) :
  Calls Tryz.prog 47 #[.agg #[.int .i64 s.ph,.int .i64 s.left,.int .i64 s.tr,.slice la s.line.length lc],.slice ba l.length bc,.int .i64 room] w (jel w (jp room s [] 0 l)):=by
 obtain ⟨W2,hW2⟩ : ∃ W2,W2=(w.alloc (.cells #[.int .i64 s.ph,.int .i64 s.left,.int .i64 s.tr,.slice la s.line.length lc] 35)).alloc (.cells #[.int .i64 0,.int .i64 0,.int .i64 0,.slice none 0 0] 35):=⟨_,rfl⟩;have hb0:Below w.heap.size w W2:=by rw [hW2]; exact qk (qd w _) _
 have HJ:=Box.mk (show jfw w w.heap.size room l s la lc [] 0 (.slice none 0 0) W2 from
  ⟨hs,rfl,by rw [hW2]; exact CVar.keep (heap_alloc_new _ _) (qd _ _),h.keep hb0,by
   have h:=heap_alloc_new (w.alloc (.cells #[.int .i64 s.ph,.int .i64 s.left,.int .i64 s.tr,.slice la s.line.length lc] 35)) (.cells #[.int .i64 0,.int .i64 0,.int .i64 0,.slice none 0 0] 35);rw [World.size_alloc] at h; rw [hW2]; exact h,Own.start _ _,hb0,Nat.le_refl _⟩)
 have HBB:=Box.mk hb;obtain ⟨R,hR⟩ : ∃ R,R=jp room s [] 0 l:=⟨_,rfl⟩;rw [← hR];have HEQ:=Box.mk (show R=jp room s [] 0 (l.drop 0) from hR);clear hR;clear h hb hs hb0;have HW2:=Box.mk hW2;clear hW2;go_enter Tryz.func47,Tryz.ntmps47
 go_wp2_with fail;go_loopw [10,11] (fun v iv wr=>∃ k:Nat,k≤l.length∧iv = .int .i64 k ∧ ∃ s1 na nc out,Box (jfw w w.heap.size room l s1 na nc out k v wr∧R=jp room s1 out k (l.drop k))) (fun _ iv _=>l.length-(intOf iv).toNat)
 case atStart=>exact ⟨0,Nat.zero_le _,rfl,s,la,lc,[],⟨by rw [← HW2.out]; exact HJ.out,HEQ.out⟩⟩
 case round =>
  clear HJ HEQ HW2;obtain ⟨k,hk,rfl,s1,na,nc,out,HM⟩:=hrel;obtain ⟨oa,oc,rfl,hob⟩:=HM.out.1.own.val;have HOB:=Box.mk hob;have HRR:=Box.mk HM.out.1.res;have HBE:=Box.mk HM.out.1.below;have HLI:=Box.mk HM.out.1.line;obtain ⟨hd0,hd1,hd2,hd3⟩:=HM.out.1.var.cells;have hol:out.length≤k:=HM.out.1.len;have hszr:=HM.out.1.below.size;have hgl:=HM.out.1.var.lt;have HV:=Box.mk HM.out.1.var;have HOWN:=Box.mk HM.out.1.own;have HOK:=Box.mk HM.out.1.ok;have HEQM:=Box.mk HM.out.2;clear hob HM;by_cases hlt:k<l.length
  · obtain ⟨bad,rfl,hbc⟩:=qph (HBB.out.keep HBE.out) hlt
    have HEQ2:=Box.mk (show R=jp room s1 out k (l[k] :: l.drop (k+1)) by rw [← List.drop_eq_getElem_cons hlt]; exact HEQM.out);generalize l[k]=x at *;obtain ⟨hr0,hr1,hr2,hr3⟩:=HRR.out.cells;have hz0:=HRR.out.frozen (i:=0);have hz1:=HRR.out.frozen (i:=1);have hz2:=HRR.out.frozen (i:=2);have hz3:=HRR.out.frozen (i:=3);by_cases h4:s1.ph=4
    · have e4:(s1.ph == 4)=true:=by rw [h4]; rfl
      have HP:=Box.mk (show R=(0,s1,out,k) by rw [HEQ2.out,qcj (.inl h4)]);clear HEQ2 h4 HEQM;go_wp2_with fail;refine bodyPost_ret (kf rfl _ _ (w.heap.size+1) _ _ _ _ rfl HRR.out.set4 Tryz.underlying35 rfl j8) rfl ?_;exact ⟨na,nc,oa,oc,by rw [HP.out]; rfl,by rw [HP.out]; exact HRR.out.set4B HLI.out,by rw [HP.out]; exact HRR.out.set4B HOB.out,qbz HBE.out (by omega)⟩
    · have e4:(s1.ph == 4)=false:=by rw [beq_eq_false_iff_ne]; exact h4
      by_cases h1:s1.ph=1
      · have e1:(s1.ph == 1)=true:=by rw [h1]; rfl
        by_cases hr:room≤out.length
        · have HP:=Box.mk (show R=(0,s1,out,k) by rw [HEQ2.out,qcj (.inr ⟨h1,hr⟩)])
          clear HEQ2 h4 h1 HEQM;go_wp2_with fail;refine bodyPost_ret (kf rfl _ _ (w.heap.size+1) _ _ _ _ rfl HRR.out.set4 Tryz.underlying35 rfl j8) rfl ?_;exact ⟨na,nc,oa,oc,by rw [HP.out]; rfl,by rw [HP.out]; exact HRR.out.set4B HLI.out,by rw [HP.out]; exact HRR.out.set4B HOB.out,qbz HBE.out (by omega)⟩
        · have HEQ3:=Box.mk (show R=jp room ⟨if s1.left-1=0 then 2 else 1,s1.left-1,s1.tr,s1.line⟩ (out++[x]) (k+1) (l.drop (k+1)) by rw [HEQ2.out,qdl h1 hr])
          have HOK2:=Box.mk (qwv HOK.out h1);have hlf:=HOK.out.data h1;have HLN:=Box.mk (HOK.out.empty (.inl h1));have hph1:=h1;clear HEQ2 h4 h1 HEQM hr0 hr1 hr2 hr3 hz0 hz1 hz2 hz3;go_wp2_with (at_builtin; refine jq _ rfl _ _ rfl rfl (HOWN.out.keep (qd wr (.cells #[.int .u8 (x.toNat:Int)] 5))) rfl (r:=[x]) (qcw wr x) (by simp; omega) (by simp; omega) ?_)
          intro v5 w5 hown hgrow _;have hgr:=qaq (qd wr (.cells #[.int .u8 (x.toNat:Int)] 5)) hgrow;have HC5:=Box.mk (HV.out.grownC hgr (fun e=>by have:=(HOWN.out.lt e.symm).1; omega));have HR5:=Box.mk (HRR.out.grownC hgr (fun e=>by have:=(HOWN.out.lt e.symm).1; omega));have HB5:=Box.mk (HBE.out.grown hgr HBE.out.size (fun q e=>by have:=(HOWN.out.lt e).1; omega));have HO5:=Box.mk hown;clear hown hgrow hgr HV HRR HBE HOWN HOB;obtain ⟨ha0,ha1,ha2,ha3⟩:=HC5.out.cells;have hf1:=HC5.out.frozen (i:=1);have HC6:=Box.mk (HC5.out.setL (z:=s1.left-1));obtain ⟨hb0,hb1,hb2,hb3⟩:=HC6.out.cells;have hf0:=HC6.out.frozen (i:=0);by_cases hz:s1.left-1=0
          · have el:(s1.left-1 == 0)=true:=by rw [hz]; rfl
            have HZ:=Box.mk hz;clear hph1 hz;have HC7:=Box.mk (HC6.out.setP (z:=2));have HR7:=Box.mk ((HR5.out.other (x:=⟨w.heap.size,1,none⟩) (u:=.int .i64 (s1.left-1)) (by show w.heap.size+1≠w.heap.size; omega)).other (x:=⟨w.heap.size,0,none⟩) (u:=.int .i64 2) (by show w.heap.size+1≠w.heap.size; omega));have HB7:=Box.mk ((HB5.out.setCell (p:=⟨w.heap.size,1,none⟩) (Nat.le_refl _) (.int .i64 (s1.left-1))).setCell (p:=⟨w.heap.size,0,none⟩) (Nat.le_refl _) (.int .i64 2));have HO7:=Box.mk ((HO5.out.setC (g:=w.heap.size) (i:=1) (u:=.int .i64 (s1.left-1)) (by omega)).setC (g:=w.heap.size) (i:=0) (u:=.int .i64 2) (by omega));go_wp2_with fail;go_roundw
            case rel =>
             refine ⟨k+1,by omega,by go_num,⟨2,s1.left-1,s1.tr,s1.line⟩,na,nc,out++[x],⟨⟨?_,rfl,HC7.out,?_,HR7.out,HO7.out,HB7.out,by simp; omega⟩,?_⟩⟩
             · have h9:=HOK2.out; rw [if_pos HZ.out] at h9; exact h9
             · have h0:=HLI.out; rw [HLN.out] at h0 ⊢; exact qs5 _ _ _ h0
             · have h9:=HEQ3.out; rw [if_pos HZ.out] at h9; exact h9
            case measure=>simp [intOf]; omega
          · have el:(s1.left-1 == 0)=false:=by rw [beq_eq_false_iff_ne]; exact hz
            have HZ:=Box.mk hz;clear hz;have HR7:=Box.mk (HR5.out.other (x:=⟨w.heap.size,1,none⟩) (u:=.int .i64 (s1.left-1)) (by show w.heap.size+1≠w.heap.size; omega));have HB7:=Box.mk (HB5.out.setCell (p:=⟨w.heap.size,1,none⟩) (Nat.le_refl _) (.int .i64 (s1.left-1)));have HO7:=Box.mk (HO5.out.setC (g:=w.heap.size) (i:=1) (u:=.int .i64 (s1.left-1)) (by omega));have HPH:=Box.mk hph1;have HC7:=Box.mk (show CVar (w5.setCell ⟨w.heap.size,1,none⟩ (.int .i64 (s1.left-1))) w.heap.size 1 (s1.left-1) s1.tr (.slice na s1.line.length nc) by have h9:=HC6.out; rw [HPH.out] at h9; exact h9);clear hph1;go_wp2_with fail;go_roundw
            case rel =>
             refine ⟨k+1,by omega,by go_num,⟨1,s1.left-1,s1.tr,s1.line⟩,na,nc,out++[x],⟨⟨?_,rfl,HC7.out,?_,HR7.out,HO7.out,HB7.out,by simp; omega⟩,?_⟩⟩
             · have h9:=HOK2.out; rw [if_neg HZ.out] at h9; exact h9
             · have h0:=HLI.out; rw [HLN.out] at h0 ⊢; exact qs5 _ _ _ h0
             · have h9:=HEQ3.out; rw [if_neg HZ.out] at h9; exact h9
            case measure=>simp [intOf]; omega
      · have e1:(s1.ph == 1)=false:=by rw [beq_eq_false_iff_ne]; exact h1
        have HST:=Box.mk (And.intro h4 h1);obtain ⟨r,hr⟩ : ∃ r,r=qat s1 x:=⟨_,rfl⟩;have HREQ:=Box.mk hr;clear hr HEQM h4 h1 hr0 hr1 hr2 hr3 hz0 hz1 hz2 hz3;go_wp2_with fail;rename_i K hK;refine qz [9] (fun p=>match p with | 0=>[0,1,2,3,4,5,6,7,8] | _=>[8,10])
         (fun p=>match p with
          | 0=>[.val (.agg #[.int .i64 s1.ph,.int .i64 s1.left,.int .i64 s1.tr,.slice na s1.line.length nc]),.val (.slice (some bad) l.length bc),.val (.int .i64 k),.val (.pointer (some (bad.add k))),.val (.int .u8 x.toNat),.stp r,.stp r,.agc r,.val (.int .i64 r.1),.nopeC,.nopeC]
          | _=>[.any,.any,.any,.any,.any,.any,.tupE r.1,.any,.val (.int .i64 r.1),.any,.val (.int .i64 r.1)])
         (fun p=>match p with
          | 0=>fun wx=>Below wr.heap.size wr wx
          | _=>fun wx=>∃ p1 l1 t1 a1 n1 c1,CVar wx w.heap.size p1 l1 t1 (.slice a1 n1 c1)∧(r.1=0→p1=r.2.ph∧l1=r.2.left∧t1=r.2.tr∧n1=r.2.line.length∧qg wx a1 r.2.line c1)∧CVar wx (w.heap.size+1) 0 0 0 (.slice none 0 0)∧Own (w.heap.size+2) wx (.slice oa out.length oc) out∧Below w.heap.size w wx)
         (by kernel_rfl) (by kernel_rfl) (by kernel_rfl) (by kernel_rfl) (by kernel_rfl) (by kernel_rfl) ?_ (Below.refl _ _) ?_ ?_ ?_
        · intro p w1 w2 h hb
          match p,h with
          | 0,h=>exact qe h hb
          | (_+1),h =>
           obtain ⟨p1,l1,t1,a1,n1,c1,h1,h2,h3,h4,h5⟩:=h;exact ⟨p1,l1,t1,a1,n1,c1,h1.keep hb,fun e=>⟨(h2 e).1,(h2 e).2.1,(h2 e).2.2.1,(h2 e).2.2.2.1,(h2 e).2.2.2.2.keep hb⟩,h3.keep hb,h4.keep hb,qe h5 hb⟩
        · intro p hp
          match p,hp with
          | 0,_ =>
           refine ⟨?_,?_,?_,?_,?_,?_,?_,?_,?_,trivial⟩ <;> intro a1 w1 hv hf hd
           · exact ⟨qb rfl,kw rfl (by rw [show a1.eval (.tmp 3) = .pointer (some ⟨w.heap.size,0,none⟩) from hf.base 3 rfl]; exact jbw (HV.out.keep hv)) rfl⟩
           · exact ⟨qb rfl,qi rfl (hf.base 1 rfl)⟩
           · exact ⟨qb rfl,qi rfl (hf.base 11 rfl)⟩
           · exact ⟨qb rfl,qwa rfl (hd 1 rfl) (hd 2 rfl) hlt rfl⟩
           · exact ⟨qb rfl,qmt rfl (hd 3 rfl) (qp hv hbc) (jf6 _) rfl⟩
           · refine ⟨qb rfl,jz rfl (by kernel_rfl) ?_⟩
             show Calls _ _ #[a1.eval (.tmp 55),a1.eval (.tmp 59)] w1 _
             rw [show a1.eval (.tmp 55)=_ from hd 0 rfl,show a1.eval (.tmp 59)=_ from hd 4 rfl];refine (quh s1 x na nc w1 (HLI.out.keep hv) HOK.out HST.out.2 HST.out.1).mono ?_;rintro e w' ⟨p1,l1,t1,b1,n1,c1,rfl,h2,h3⟩;rw [← HREQ.out] at h2 ⊢;exact ⟨_,rfl,h3,p1,l1,t1,b1,n1,c1,rfl,h2⟩
           · exact ⟨qb rfl,qi rfl (hd 5 rfl)⟩
           · obtain ⟨p1,l1,t1,b1,n1,c1,h1,h2⟩:=hd 6 rfl
             exact ⟨qb rfl,qqs rfl h1 ⟨p1,l1,t1,b1,n1,c1,rfl,h2⟩⟩
           · obtain ⟨p1,l1,t1,b1,n1,c1,h1,h2⟩:=hd 6 rfl
             exact ⟨qb rfl,qi1 rfl h1 rfl⟩
          | 1,_ =>
           refine ⟨?_,?_,trivial⟩ <;> intro a1 w1 hv hf hd
           · obtain ⟨u,h1⟩:=hd 6 rfl
             exact ⟨qb rfl,qi1 rfl h1 rfl⟩
           · exact ⟨qb rfl,qr rfl (hd 8 rfl)⟩
        · intro p hp
          match p,hp with
          | 0,_ =>
           intro a1 w1 hv hf hd;obtain ⟨p1,l1,t1,b1,n1,c1,h1,h2⟩:=hd 7 rfl;have hvr:=HV.out.keep hv;refine ⟨qb rfl,wp_store_row 35 _ _ rfl w.heap.size #[.int .i64 p1,.int .i64 l1,.int .i64 t1,.slice b1 n1 c1] (hf.base 3 rfl) h1 35 _ hvr j8 rfl (oneC _ _ _ _ _ _) ⟨undef,rfl,?_,trivial,?_⟩⟩
           · exact ⟨p1,l1,t1,b1,n1,c1,setRow_heap _ _ _ _ _ _ hvr,fun e=>⟨(h2 e).1,(h2 e).2.1,(h2 e).2.2.1,(h2 e).2.2.2.1,hvr.setRB (h2 e).2.2.2.2 _⟩,(HRR.out.keep hv).row (by omega),(HOWN.out.keep hv).setR (by omega),below_setRow (qe HBE.out hv) (Nat.le_refl _) _⟩
           · exact ⟨.inr fun _ _ _=>trivial,.inr fun _ _ _=>trivial,.inr fun _ _ _=>trivial,.inr fun _ _ _=>trivial,.inr fun _ _ _=>trivial,.inr fun _ _ _=>trivial,.inr fun _ _ h=>by
              obtain ⟨q1,q2,q3,q4,q5,q6,e,_⟩:=h;exact ⟨_,e⟩,.inr fun _ _ _=>trivial,.inr fun _ _ h=>h,.inl rfl,.inr fun _ _ h=>h.elim,trivial⟩
        · intro a2 w6 hv hf hh
          obtain ⟨p1,l1,t1,b1,n1,c1,hc,hrl,hres,hown,hbel⟩:=hv;have e12:a2.eval (.tmp 12) = .int .i64 r.1:=hh 10 (by decide);refine hK a2 w6 ?_;rw [jl hf];clear hf hh;simp only [kg,e12];generalize a2.eval (.tmp 54)=t54;generalize a2.eval (.tmp 55)=t55;generalize a2.eval (.tmp 56)=t56;generalize a2.eval (.tmp 57)=t57;generalize a2.eval (.tmp 58)=t58;generalize a2.eval (.tmp 59)=t59;generalize a2.eval (.tmp 60)=t60;generalize a2.eval (.tmp 61)=t61;generalize a2.eval (.tmp 62)=t62;clear e12;clear a2;simp only [Act.put,List.setIfInBounds_toArray,List.set_cons_succ,List.set_cons_zero];have HC7:=Box.mk hc;have HR7:=Box.mk hres;have HO7:=Box.mk hown;have HB7:=Box.mk hbel;have HRL:=Box.mk hrl;clear hc hres hown hbel hrl HV HRR HBE HOWN HOB HLI hd0 hd1 hd2 hd3;by_cases hr:r.1=0
          · have er:(r.1 != 0)=false:=by rw [hr]; rfl
            have HZ:=Box.mk hr;clear hr;go_wp2_with fail;go_roundw
            case rel =>
             obtain ⟨rfl,rfl,rfl,rfl,hby⟩:=HRL.out HZ.out;refine ⟨k+1,by omega,by go_num,r.2,b1,c1,out,⟨⟨?_,rfl,HC7.out,hby,HR7.out,HO7.out,HB7.out,by omega⟩,?_⟩⟩
             · rw [HREQ.out]; exact qqa HOK.out HST.out.2 HST.out.1 (by rw [← HREQ.out]; exact HZ.out)
             · rw [HEQ2.out,qi9 HST.out.1 HST.out.2 (by rw [← HREQ.out]; exact HZ.out),← HREQ.out]
            case measure=>simp [intOf]; omega
          · have er:(r.1 != 0)=true:=by rw [bne_iff_ne]; exact hr
            have HP:=Box.mk (show R=(r.1,zeroC,[],0) by rw [HEQ2.out,qge HST.out.1 HST.out.2 (by rw [← HREQ.out]; exact hr),← HREQ.out]);obtain ⟨hr0,hr1,hr2,hr3⟩:=HR7.out.cells;have hz0:=HR7.out.frozen (i:=0);have hz1:=HR7.out.frozen (i:=1);have hz2:=HR7.out.frozen (i:=2);have hz3:=HR7.out.frozen (i:=3);clear hr HEQ2 HREQ HRL;go_wp2_with fail;refine bodyPost_ret (kf rfl _ _ (w.heap.size+1) _ _ _ _ rfl HR7.out.set4 Tryz.underlying35 rfl j8) rfl ?_;exact ⟨none,0,none,0,by rw [HP.out]; rfl,by rw [HP.out]; exact .inl ⟨rfl,rfl,rfl⟩,by rw [HP.out]; exact .inl ⟨rfl,rfl,rfl⟩,qbz HB7.out (by omega)⟩
  · have HP:=Box.mk (show R=(0,s1,out,k) by rw [HEQM.out,List.drop_of_length_le (by omega)]; rfl)
    obtain rfl:k=l.length:=by omega
    obtain ⟨hr0,hr1,hr2,hr3⟩:=HRR.out.cells;have hz0:=HRR.out.frozen (i:=0);have hz1:=HRR.out.frozen (i:=1);have hz2:=HRR.out.frozen (i:=2);have hz3:=HRR.out.frozen (i:=3);clear HEQM;go_wp2_with fail;refine bodyPost_ret (kf rfl _ _ (w.heap.size+1) _ _ _ _ rfl HRR.out.set4 Tryz.underlying35 rfl j8) rfl ?_;exact ⟨na,nc,oa,oc,by rw [HP.out]; rfl,by rw [HP.out]; exact HRR.out.set4B HLI.out,by rw [HP.out]; exact HRR.out.set4B HOB.out,qbz HBE.out (by omega)⟩
end Go.Proofs.YtflhjpokjdjbpaaGreatDoor
namespace Go.Proofs.YtflhjpokjdjbpaaGreatDoor
open Go.RowKit
theorem qr4 (p l t:Int) (ln:List UInt8) (a b:Option Addr) (c d:Nat) (w:World) (ha:qg w a ln c) (hb:qg w b ln d) :
  Calls Tryz.prog 29 #[.agg #[.int .i64 p,.int .i64 l,.int .i64 t,.slice a ln.length c],.agg #[.int .i64 p,.int .i64 l,.int .i64 t,.slice b ln.length d]] w fun e w'=>e = .returned (.bool true)∧Below w.heap.size w w':=by
 have hb2:=qk (qd w (.cells #[.int .i64 p,.int .i64 l,.int .i64 t,.slice a ln.length c] 35)) (.cells #[.int .i64 p,.int .i64 l,.int .i64 t,.slice b ln.length d] 35);have hc1:=jr (ha.keep hb2);have hc2:=jr (hb.keep hb2);have HB:=Box.mk hb2;clear hb2 ha hb;go_enter Tryz.func29,Tryz.ntmps29
 go_wp2_with fail;go_ret;exact ⟨qq (by simp),HB.out⟩
structure RS where
 rep:Bool
 meth:ByteArray
 ph:Int
 m:ByteArray
 t:ByteArray
 z:Int
 xs:List Fld
 fr:Bool
 st:Int
 rs:ByteArray
 z2:Int
 ys:List Fld
 fk:Int
 fl:Int
 left:Int
 size:Int
 ck:Chk
@[reducible] def zR:Array Value:=#[.bool false,.string ⟨#[]⟩,.int .i64 0,.string ⟨#[]⟩,.string ⟨#[]⟩,.int .i64 0,.slice none 0 0,.bool false,.slice none 0 0,.int .i64 0,.string ⟨#[]⟩,.int .i64 0,.slice none 0 0,.slice none 0 0,.int .i64 0,.int .i64 0,.int .i64 0,.int .i64 0,.int .i64 0,.int .i64 0,.int .i64 0,.slice none 0 0]
@[reducible] def rowR (s:RS) (fa:Option Addr) (fc:Nat) (ga:Option Addr) (gc:Nat) (la:Option Addr) (lc:Nat):Array Value:=#[.bool s.rep,.string s.meth,.int .i64 s.ph,.string s.m,.string s.t,.int .i64 s.z,.slice fa (List.length s.xs) fc,.bool s.fr,.slice none 0 0,.int .i64 s.st,.string s.rs,.int .i64 s.z2,.slice ga (List.length s.ys) gc,.slice none 0 0,.int .i64 s.fk,.int .i64 s.fl,.int .i64 s.left,.int .i64 s.size,.int .i64 s.ck.ph,.int .i64 s.ck.left,.int .i64 s.ck.tr,.slice la (List.length s.ck.line) lc]
def zeroR:RS:=⟨false,⟨#[]⟩,0,⟨#[]⟩,⟨#[]⟩,0,[],false,0,⟨#[]⟩,0,[],0,0,0,0,zeroC⟩
structure NX where
 er:Int
 r:RS
 kind:Int
 data:List UInt8
 n:Nat
def errX (e:Int):NX:=⟨e,zeroR,0,[],0⟩
def finX (x:RS) (f:Int × Int × Int) (n:Nat) (body:Int):NX :=
 if f.2.2≠0 then errX (if f.2.2=3 then 9 else f.2.2)
 else if f.1=2∧body<f.2.1 then errX 9
 else ⟨0,{ x with fk:=f.1,fl:=f.2.1,left:=f.2.1,size:=0,ck:=zeroC,ph:=1 },1,[],n⟩
def qbo (r:RS) (h:List UInt8) (body:Int):NX :=
 if r.rep=true then
  (if (qaa h).1≠0 then errX (qaa h).1
  else if (qaa h).2.1=101 then errX 2
  else if 100≤(qaa h).2.1∧(qaa h).2.1≤199 then ⟨0,r,4,[],h.length⟩
  else finX { r with st:=(qaa h).2.1,rs:=(qaa h).2.2.1,z2:=(qaa h).2.2.2.1,ys:=(qaa h).2.2.2.2 } (kq r.meth (qaa h).2.1 (qaa h).2.2.2.1 (qaa h).2.2.2.2) h.length body)
 else
  (if (qa0 h).1≠0 then errX (qa0 h).1
  else finX { r with m:=(qa0 h).2.1,t:=(qa0 h).2.2.1,z:=(qa0 h).2.2.2.1,xs:=(qa0 h).2.2.2.2,fr:=!decide ((j3 (qa0 h).2.2.2.1 (qa0 h).2.2.2.2 1).1=1) } (j3 (qa0 h).2.2.2.1 (qa0 h).2.2.2.2 1) h.length body)
def qav (r:RS) (b:List UInt8) (most body:Int):NX :=
 if (endS b most).2=4 then ⟨0,r,0,[],0⟩
 else if (endS b most).2≠0 then errX (endS b most).2
 else qbo r (b.take (endS b most).1.toNat) body
def minI (a b:Int):Int:=if a≤b then a else b
def qdp (r:RS) (b:List UInt8) (body room:Int):NX :=
 if r.fk=1∨r.fk=2 then
  (if r.fk=1∨r.left=0 then ⟨0,{ r with ph:=2 },3,[],0⟩
  else if minI (minI r.left room) b.length=0 then ⟨0,r,0,[],0⟩
  else ⟨0,{ r with left:=r.left-minI (minI r.left room) b.length,size:=r.size+minI (minI r.left room) b.length },2,b.take (minI (minI r.left room) b.length).toNat,(minI (minI r.left room) b.length).toNat⟩)
 else if r.fk=3 then
  (if (jp (minI room (body+1-r.size)) r.ck [] 0 b).1≠0 then errX (jp (minI room (body+1-r.size)) r.ck [] 0 b).1
  else if body<r.size+(jp (minI room (body+1-r.size)) r.ck [] 0 b).2.2.1.length then errX 9
  else if 0<(jp (minI room (body+1-r.size)) r.ck [] 0 b).2.2.1.length then
   ⟨0,{ r with ck:=(jp (minI room (body+1-r.size)) r.ck [] 0 b).2.1,size:=r.size+(jp (minI room (body+1-r.size)) r.ck [] 0 b).2.2.1.length },2,(jp (minI room (body+1-r.size)) r.ck [] 0 b).2.2.1,(jp (minI room (body+1-r.size)) r.ck [] 0 b).2.2.2⟩
  else if (jp (minI room (body+1-r.size)) r.ck [] 0 b).2.1.ph=4 then
   ⟨0,{ r with ck:=(jp (minI room (body+1-r.size)) r.ck [] 0 b).2.1,ph:=2 },3,[],(jp (minI room (body+1-r.size)) r.ck [] 0 b).2.2.2⟩
  else ⟨0,{ r with ck:=(jp (minI room (body+1-r.size)) r.ck [] 0 b).2.1 },0,[],(jp (minI room (body+1-r.size)) r.ck [] 0 b).2.2.2⟩)
 else
  (if minI (minI room b.length) (body+1-r.size)≤0 then ⟨0,r,0,[],0⟩
  else if body<r.size+minI (minI room b.length) (body+1-r.size) then errX 9
  else ⟨0,{ r with size:=r.size+minI (minI room b.length) (body+1-r.size) },2,b.take (minI (minI room b.length) (body+1-r.size)).toNat,(minI (minI room b.length) (body+1-r.size)).toNat⟩)
def qbg (r:RS) (b:List UInt8) (most body room:Int):NX :=
 if r.ph=0 then qav r b most body else if r.ph=1 then qdp r b body (if room≤0 then 0 else room) else ⟨0,r,0,[],0⟩
def qjm (r:RS):Bool:=decide (r.ph=2) || (decide (r.ph=1) && decide (r.fk=4))
structure RMem (B:Nat→Prop) (w:World) (s:RS) (fa ga la:Option Addr) (lc:Nat):Prop where
 f1:qm w fa s.xs
 f2:qm w ga s.ys
 ln:qg w la s.ck.line lc
 n1:∀ y,fa=some y→s.xs≠[]→B y.block
 n2:∀ y,ga=some y→s.ys≠[]→B y.block
theorem RMem.keep {B:Nat→Prop} {w w':World} {s:RS} {fa ga la:Option Addr} {lc:Nat} (h:RMem B w s fa ga la lc) (hb:Below w.heap.size w w'):RMem B w' s fa ga la lc :=
 ⟨h.f1.keep hb,h.f2.keep hb,h.ln.keep hb,h.n1,h.n2⟩
def RetX (B:Nat→Prop) (w:World) (x:NX) (e:Ending) (w':World):Prop :=
 ∃ fa fc ga gc la lc pa pc,e = .returned (.tuple #[.agg (rowR x.r fa fc ga gc la lc),.agg #[.int .i64 x.kind,.slice pa (List.length x.data) pc],.int .i64 x.n,.int .i64 x.er])∧RMem B w' x.r fa ga la lc∧qg w' pa x.data pc∧Below w.heap.size w w'
structure OkR (s:RS):Prop where
 ck:OkC s.ck
 left:s.fk=2→0≤s.left∧s.left+s.size≤1000000000
 size:0≤s.size∧s.size≤1000000000
 xs:qa6 s.xs∧s.xs.length≤64
 ys:qa6 s.ys∧s.ys.length≤64
theorem jv {P:Program} {fn:Func} {q1 q2 p1 p2:Tmp} {ty1 ty2:TypeId} (h:fn.results=#[.cell p1 ty1,.cell p2 ty2,.tmp q1,.tmp q2]) (tmps:Array Value) (w:World) (g1 g2:Nat) (t1 t2:TypeId) (c1 c2:Array Value) (f1 f2:Nat × Nat) (d1 d2:TypeDesc)
  (hp1:tmps.getD p1 undef = .pointer (some ⟨g1,0,none⟩)) (hp2:tmps.getD p2 undef = .pointer (some ⟨g2,0,none⟩)) (hg1:w.heap[g1]? = some (.cells c1 t1 f1)) (hg2:w.heap[g2]? = some (.cells c2 t2 f2))
  (hu1:P.underlying ty1=some d1) (hd1:(match d1 with | .struct _ | .array _ _=>true | _=>false)=true) (hi1:(P.info? ty1).map (·.size)=some c1.size)
  (hu2:P.underlying ty2=some d2) (hd2:(match d2 with | .struct _ | .array _ _=>true | _=>false)=true) (hi2:(P.info? ty2).map (·.size)=some c2.size) :
  (results fn tmps).run P w = .ok (.tuple #[.agg c1,.agg c2,tmps.getD q1 undef,tmps.getD q2 undef]) w:=by
 have hp1':tmps[p1]?.getD undef = .pointer (some ⟨g1,0,none⟩):=by simpa using hp1
 have hp2':tmps[p2]?.getD undef = .pointer (some ⟨g2,0,none⟩):=by simpa using hp2
 simp [results,h,hp1',hp2',asAddr,run_loadVar_row w g1 t1 ty1 c1 f1 d1 hg1 hu1 hd1 hi1,run_loadVar_row w g2 t2 ty2 c2 f2 d2 hg2 hu2 hd2 hi2]
theorem jw:(Tryz.prog.info? 37).map (·.size)=some 22:=by kernel_rfl
theorem j1:(Tryz.prog.info? 41).map (·.size)=some 2:=by kernel_rfl
def RVr (w:World) (g:Nat) (cs:Array Value):Prop:=w.heap[g]? = some (.cells cs 37 (0,0))
theorem RVr.keep {w w':World} {g:Nat} {cs:Array Value} (h:RVr w g cs) (hb:Below w.heap.size w w'):RVr w' g cs:=by
 unfold RVr at *;rw [hb.block g (Array.getElem?_eq_some_iff.1 h).1]; exact h
theorem RVr.lt {w:World} {g:Nat} {cs:Array Value} (h:RVr w g cs):g<w.heap.size:=(Array.getElem?_eq_some_iff.1 h).1
theorem RVr.cell {w:World} {g:Nat} {cs:Array Value} (h:RVr w g cs) (i:Nat):w.cell? ⟨g,i,none⟩=cs[i]?:=cell_of_row _ _ _ _ _ _ h
def PVr (w:World) (g:Nat) (cs:Array Value):Prop:=w.heap[g]? = some (.cells cs 41 (0,0))
theorem PVr.keep {w w':World} {g:Nat} {cs:Array Value} (h:PVr w g cs) (hb:Below w.heap.size w w'):PVr w' g cs:=by
 unfold PVr at *;rw [hb.block g (Array.getElem?_eq_some_iff.1 h).1]; exact h
theorem qlo (M:Nat):∀ (l:List ByteArray) (x:List Fld),je l=some x→(∀ s ∈ l,s.size≤M) → ∀ f ∈ x,f.1.size≤M∧f.2.size≤M
 | [],x,h,_=>by
  cases h
  exact fun f hf=>absurd hf (by simp)
 | t :: l,x,h,hz=>by
  unfold je at h;cases ht:kr t with
  | none=>rw [ht] at h; cases h
  | some f =>
   rw [ht] at h;simp only at h;cases hx:je l with
   | none=>rw [hx] at h; cases h
   | some y =>
    rw [hx] at h;simp only [Option.map_some,Option.some.injEq] at h;subst h;have h1:=qlo M l y hx (fun s hs=>hz s (List.mem_cons_of_mem _ hs));have h3:=qkm ht;have h4:=hz t (List.mem_cons_self ..);intro g hg;rcases List.mem_cons.1 hg with rfl | hg
    · exact ⟨Nat.le_trans h3.1 h4,Nat.le_trans h3.2 h4⟩
    · exact h1 g hg
theorem qoz {l:List ByteArray} (hz:∀ s ∈ l,s.size≤1000000):qbe (qt l).2∧(qt l).2.length≤64:=by
 unfold qt
 split
 · exact ⟨fun f hf=>absurd hf (by simp),by simp⟩
 · rename_i h64
   cases hx:je l with
   | none=>exact ⟨fun f hf=>absurd hf (by simp),by simp⟩
   | some y =>
    have h1:=qlo 1000000 l y hx hz;have h2:=(qea l y hx (fun s hs=>Nat.le_trans (hz s hs) (by decide))).2;exact ⟨fun f hf=>⟨Nat.le_trans (h1 f hf).1 (by decide),Nat.le_trans (h1 f hf).2 (by decide)⟩,by simp only; omega⟩
theorem qdz:qbe []∧([]:List Fld).length≤64:=⟨fun f hf=>absurd hf (by simp),by simp⟩
theorem qqt {b:List UInt8} (hl:b.length≤1000000):qbe (qaa b).2.2.2.2∧(qaa b).2.2.2.2.length≤64:=by
 unfold qaa
 split
 · rename_i l0 ls hL
   have hz:=(qe9 hL).1
   split
   · split
     · exact qoz fun s hs=>Nat.le_trans (hz s (List.mem_cons_of_mem _ hs)) hl
     · exact qdz
   · exact qdz
 · exact qdz
theorem qq9 {b:List UInt8} (hl:b.length≤1000000):qbe (qa0 b).2.2.2.2∧(qa0 b).2.2.2.2.length≤64:=by
 unfold qa0
 split
 · rename_i l0 ls hL
   have hz:=(qe9 hL).1
   split
   · split
     · split
       · exact qdz
       · exact qoz fun s hs=>Nat.le_trans (hz s (List.mem_cons_of_mem _ hs)) hl
     · exact qdz
   · exact qdz
 · exact qdz
theorem ql3 {l:List Fld} (h:qbe l) (hl:l.length≤64) (n:ByteArray):qam (qj l n)≤4000000000:=Nat.le_trans (qu0 h n) (Nat.le_trans (Nat.mul_le_mul_right _ hl) (by decide))
theorem qzz {b:List UInt8} {most:Int} (h:(endS b most).2=0):∃ n:Nat,endS b most=((n:Int),0)∧4≤n∧n≤b.length:=by
 unfold endS at h ⊢
 split at h
 · rename_i hc
   rcases qcm b 0 with h1 | ⟨k,h1,h2,h3⟩
   · have:endZ b = -1:=h1
     omega
   · have h4:endZ b=k:=h1
     rw [if_pos hc,h4];exact ⟨k,rfl,by omega,by omega⟩
 · split at h <;> cases h
theorem qbl (r:Bool) (p:ByteArray) (a2:Int) (a3 a4:ByteArray) (a5:Int) (x6:Option Addr) (n6 c6:Nat) (b7:Bool) (a9:Int) (a10:ByteArray) (a11:Int) (x12:Option Addr) (n12 c12:Nat) (a14 a15 a16 a17 a18 a19 a20:Int) (x21:Option Addr) (n21 c21:Nat):(#[.bool r,.string p,.int .i64 a2,.string a3,.string a4,.int .i64 a5,.slice x6 n6 c6,.bool b7,.slice none 0 0,.int .i64 a9,.string a10,.int .i64 a11,.slice x12 n12 c12,.slice none 0 0,.int .i64 a14,.int .i64 a15,.int .i64 a16,.int .i64 a17,.int .i64 a18,.int .i64 a19,.int .i64 a20,.slice x21 n21 c21]:Array Value).all (·.oneCell')=true:=by simp [Value.oneCell']
theorem qap (k:Int) (a:Option Addr) (n c:Nat):(#[.int .i64 k,.slice a n c]:Array Value).all (·.oneCell')=true:=by simp [Value.oneCell']
section
variable (B:Nat→Prop) (s:RS) (b:List UInt8) (most body:Int) (ba:Option Addr) (bc:Nat) (fa ga la:Option Addr) (fc gc lc:Nat) (w:World)
theorem qqb (hb:qg w ba b bc) (hl:b.length≤1000000) (hm:RMem B w s fa ga la lc) (hE:endS b most=(0,4)) :
  Calls Tryz.prog 25 #[.agg (rowR s fa fc ga gc la lc),.slice ba b.length bc,.int .i64 most,.int .i64 body] w (RetX B w ⟨0,s,0,[],0⟩):=by
 obtain ⟨cs,hcs⟩ : ∃ cs:Array Value,cs=(rowR s fa fc ga gc la lc):=⟨_,rfl⟩;have HCS:=Box.mk hcs;have hcs22:cs.size=22:=by rw [hcs]; rfl
 have HSZ:=Box.mk (show (Tryz.prog.info? 37).map (·.size)=some cs.size by rw [hcs22]; exact jw);have hcs1:cs.all (·.oneCell')=true:=by rw [hcs]; exact qbl ..
 rw [← hcs];clear hcs;obtain ⟨W3,hW3⟩ : ∃ W3,W3=((w.alloc (.cells cs 37)).alloc (.cells zR 37)).alloc (.cells #[.int .i64 0,.slice none 0 0] 41):=⟨_,rfl⟩;have hb1:=qd w (.cells cs 37);have hb2:=qk hb1 (.cells zR 37);have hb3:=qe hb2 (qd _ (.cells #[.int .i64 0,.slice none 0 0] 41));have HBW:=Box.mk (show Below w.heap.size w W3 by rw [hW3]; exact hb3);have HV1:=Box.mk (show RVr W3 w.heap.size cs by rw [hW3]; exact RVr.keep (RVr.keep (heap_alloc_new w (.cells cs 37)) (qd _ _)) (qd _ _));have HV2:=Box.mk (show RVr W3 (w.heap.size+1) zR by
  have h:=heap_alloc_new (w.alloc (.cells cs 37)) (.cells zR 37);rw [World.size_alloc] at h;rw [hW3]; exact RVr.keep h (qd _ _))
 have HV3:=Box.mk (show PVr W3 (w.heap.size+2) #[.int .i64 0,.slice none 0 0] by
  have h:=heap_alloc_new ((w.alloc (.cells cs 37)).alloc (.cells zR 37)) (.cells #[.int .i64 0,.slice none 0 0] 41);rw [World.size_alloc,World.size_alloc] at h;rw [hW3]; exact h)
 have HW3:=Box.mk hW3;have HM:=Box.mk hm;have HCALL:=Box.mk (qjx b ba bc most W3 (hb.keep HBW.out) (by omega));rw [hE] at HCALL;have HBB:=Box.mk (hb.keep HBW.out);have hl3:w.heap.size+2<W3.heap.size:=(Array.getElem?_eq_some_iff.1 HV3.out).1;clear hb hm hb1 hb2 hb3 hW3 hE;go_enter Tryz.func25,Tryz.ntmps25
 go_wp2_with fail;rw [← HW3.out];refine HCALL.out.mono ?_;rintro e w3x ⟨rfl,rfl⟩;clear HW3 HCALL;have HPN:=Box.mk (show PVr (W3.setRow (w.heap.size+1) cs) (w.heap.size+2) #[.int .i64 0,.slice none 0 0] from (setRow_other _ _ _ _ (by omega)).trans HV3.out);go_wp2_with (first | (refine wpList_load_row rfl 37 _ rfl w.heap.size rfl 37 cs (0,0) _ HV1.out Tryz.underlying37 rfl HSZ.out ?_) | (refine wpList_store_row rfl 37 _ _ rfl (w.heap.size+1) cs rfl rfl 37 _ HV2.out HSZ.out (by rw [hcs22]; rfl) hcs1 ?_) | (refine wpList_store_row rfl 41 _ _ rfl (w.heap.size+2) #[.int .i64 0,.slice none 0 0] rfl rfl 41 _ HPN.out j1 rfl (qap ..) ?_))
 (try simp only [Exit.inBlock,Exit.then])
 refine bodyPost_ret (jv rfl _ _ (w.heap.size+1) (w.heap.size+2) 37 41 cs #[.int .i64 0,.slice none 0 0] (0,0) (0,0) _ _ rfl rfl ((setRow_other _ _ _ _ (by omega)).trans (setRow_heap _ _ _ _ _ _ HV2.out)) (setRow_heap _ _ _ _ _ _ HPN.out) Tryz.underlying37 rfl HSZ.out Tryz.underlying41 rfl j1) rfl ?_;have HBF:=below_setRow (g:=w.heap.size+2) (below_setRow (g:=w.heap.size+1) HBW.out (by omega) cs) (by omega) #[.int .i64 0,.slice none 0 0];exact ⟨fa,fc,ga,gc,la,lc,none,0,by rw [HCS.out]; rfl,HM.out.keep HBF,.inl ⟨rfl,rfl,rfl⟩,HBF⟩
theorem qs1 (hb:qg w ba b bc) (hl:b.length≤1000000) (hm:RMem B w s fa ga la lc) (hE:endS b most=(0,3)) :
  Calls Tryz.prog 25 #[.agg (rowR s fa fc ga gc la lc),.slice ba b.length bc,.int .i64 most,.int .i64 body] w (RetX B w (errX 3)):=by
 obtain ⟨cs,hcs⟩ : ∃ cs:Array Value,cs=(rowR s fa fc ga gc la lc):=⟨_,rfl⟩;have HCS:=Box.mk hcs;have hcs22:cs.size=22:=by rw [hcs]; rfl
 have HSZ:=Box.mk (show (Tryz.prog.info? 37).map (·.size)=some cs.size by rw [hcs22]; exact jw);have hcs1:cs.all (·.oneCell')=true:=by rw [hcs]; exact qbl ..
 rw [← hcs];clear hcs;obtain ⟨W3,hW3⟩ : ∃ W3,W3=((w.alloc (.cells cs 37)).alloc (.cells zR 37)).alloc (.cells #[.int .i64 0,.slice none 0 0] 41):=⟨_,rfl⟩;have hb1:=qd w (.cells cs 37);have hb2:=qk hb1 (.cells zR 37);have hb3:=qe hb2 (qd _ (.cells #[.int .i64 0,.slice none 0 0] 41));have HBW:=Box.mk (show Below w.heap.size w W3 by rw [hW3]; exact hb3);have HV1:=Box.mk (show RVr W3 w.heap.size cs by rw [hW3]; exact RVr.keep (RVr.keep (heap_alloc_new w (.cells cs 37)) (qd _ _)) (qd _ _));have HV2:=Box.mk (show RVr W3 (w.heap.size+1) zR by
  have h:=heap_alloc_new (w.alloc (.cells cs 37)) (.cells zR 37);rw [World.size_alloc] at h;rw [hW3]; exact RVr.keep h (qd _ _))
 have HV3:=Box.mk (show PVr W3 (w.heap.size+2) #[.int .i64 0,.slice none 0 0] by
  have h:=heap_alloc_new ((w.alloc (.cells cs 37)).alloc (.cells zR 37)) (.cells #[.int .i64 0,.slice none 0 0] 41);rw [World.size_alloc,World.size_alloc] at h;rw [hW3]; exact h)
 have HW3:=Box.mk hW3;have HM:=Box.mk hm;have HCALL:=Box.mk (qjx b ba bc most W3 (hb.keep HBW.out) (by omega));rw [hE] at HCALL;have HBB:=Box.mk (hb.keep HBW.out);have hl3:w.heap.size+2<W3.heap.size:=(Array.getElem?_eq_some_iff.1 HV3.out).1;clear hb hm hb1 hb2 hb3 hW3 hE;go_enter Tryz.func25,Tryz.ntmps25
 go_wp2_with fail;rw [← HW3.out];refine HCALL.out.mono ?_;rintro e w3x ⟨rfl,rfl⟩;clear HW3 HCALL;have HPN:=Box.mk (show PVr (W3.setRow (w.heap.size+1) zR) (w.heap.size+2) #[.int .i64 0,.slice none 0 0] from (setRow_other _ _ _ _ (by omega)).trans HV3.out);go_wp2_with (first | (refine wpList_store_row rfl 37 _ _ rfl (w.heap.size+1) zR rfl rfl 37 _ HV2.out jw rfl (qbl ..) ?_) | (refine wpList_store_row rfl 41 _ _ rfl (w.heap.size+2) #[.int .i64 0,.slice none 0 0] rfl rfl 41 _ HPN.out j1 rfl (qap ..) ?_))
 (try simp only [Exit.inBlock,Exit.then])
 refine bodyPost_ret (jv rfl _ _ (w.heap.size+1) (w.heap.size+2) 37 41 zR #[.int .i64 0,.slice none 0 0] (0,0) (0,0) _ _ rfl rfl ((setRow_other _ _ _ _ (by omega)).trans (setRow_heap _ _ _ _ _ _ HV2.out)) (setRow_heap _ _ _ _ _ _ HPN.out) Tryz.underlying37 rfl jw Tryz.underlying41 rfl j1) rfl ?_;have HBF:=below_setRow (g:=w.heap.size+2) (below_setRow (g:=w.heap.size+1) HBW.out (by omega) zR) (by omega) #[.int .i64 0,.slice none 0 0];exact ⟨none,0,none,0,none,0,none,0,rfl,⟨qm.nil _ _,qm.nil _ _,.inl ⟨rfl,rfl,rfl⟩,(fun y hy=>by cases hy),(fun y hy=>by cases hy)⟩,.inl ⟨rfl,rfl,rfl⟩,HBF⟩
end
end Go.Proofs.YtflhjpokjdjbpaaGreatDoor
namespace Go.Proofs.YtflhjpokjdjbpaaGreatDoor
open Go.RowKit
section
variable {w wr:World} {g:Nat} {s:St} {n:Int} {dt tv bv:Value} {blk:List UInt8}
end
section
variable {P:Program} {ops:Array Oper} {rest:List Oper} {o:Oper} {a:Act} {w:World} {Q:Exit→Act→World→Prop}
theorem jk (hgd:o.guard=none) (ty:TypeId) (x y:Operand) (ho:o.op = .store ty x y)
  (g off:Nat) (cells:Array Value) (hx:a.eval x = .pointer (some ⟨g,off,none⟩)) (hy:a.eval y = .agg cells)
  (t:TypeId) (cur new:Array Value) (hg:w.heap[g]? = some (.cells cur t (0,0))) (hi:(P.info? ty).map (·.size)=some cells.size)
  (hfit:off+cells.size≤cur.size) (h1:cells.all (·.oneCell')=true) (hn:(cur.toList.take off++cells.toList++cur.toList.drop (off+cells.size)).toArray=new)
  (h:wpList P ops Q rest (a.put o.dst undef) (w.setRow g new)):wpList P ops Q (o :: rest) a w :=
 wpList_plain hgd fun K hK=>by
  have hst:=run_storeCells_at P g off t cells.toList 0 cur w hg (by simpa using hfit) (fun v hv=>(Array.all_eq_true_iff_forall_mem.1 h1) v (by simpa using hv));have hsv:(storeVar ty ⟨g,off,none⟩ (.agg cells)).run P w = .ok () (w.setRow g new):=by
   cases hq:P.info? ty with
   | none=>simp [hq] at hi
   | some i =>
    have hs:cells.size=i.size:=by simp [hq] at hi; omega
    rw [← hn];simpa [storeVar,sizeOf,typeInfo,hq,Value.cells,hs] using hst
  unfold Oper.wp execOp;simp only [ho,hx,hy,Instr.storeAt,Instr.sureAddr,Sem.run_bind,Sem.run_pure,Result.andThen_ok,hsv];exact hK _ _ h
end
end Go.Proofs.YtflhjpokjdjbpaaGreatDoor
namespace Go.Proofs.YtflhjpokjdjbpaaGreatDoor
open Go.RowKit
theorem ki {w:World} {a:Option Addr} {l:List UInt8} {c:Nat} (h:qg w a l c) (k:Nat):qg w a (l.take k) c:=by
 rcases h with ⟨h1,h2,h3⟩ | ⟨x,h1,h2,h3,h4⟩
 · subst h3
   exact .inl ⟨h1,by rw [h2,List.take_nil],rfl⟩
 · refine .inr ⟨x,h1,Nat.le_trans (by rw [List.length_take]; omega) h2,h3,fun j hj=>?_⟩
   have hj2:j<l.length:=by rw [List.length_take] at hj; omega
   rw [List.getElem_take];exact h4 j hj2
theorem qit {P:Program} {a:Act} {w:World} {o:Oper} {K:Act→World→Prop} {Q:Exit→Act→World→Prop} (ty:TypeId) (x y:Operand) (ho:o.op = .store ty x y)
  (g off:Nat) (cells:Array Value) (hx:a.eval x = .pointer (some ⟨g,off,none⟩)) (hy:a.eval y = .agg cells)
  (t:TypeId) (cur new:Array Value) (hg:w.heap[g]? = some (.cells cur t (0,0))) (hi:(P.info? ty).map (·.size)=some cells.size)
  (hfit:off+cells.size≤cur.size) (h1:cells.all (·.oneCell')=true) (hn:(cur.toList.take off++cells.toList++cur.toList.drop (off+cells.size)).toArray=new)
  (h:K (a.put o.dst undef) (w.setRow g new)):o.wp P a w K Q:=by
 have hst:=run_storeCells_at P g off t cells.toList 0 cur w hg (by simpa using hfit) (fun v hv=>(Array.all_eq_true_iff_forall_mem.1 h1) v (by simpa using hv));have hsv:(storeVar ty ⟨g,off,none⟩ (.agg cells)).run P w = .ok () (w.setRow g new):=by
  cases hq:P.info? ty with
  | none=>simp [hq] at hi
  | some i =>
   have hs:cells.size=i.size:=by simp [hq] at hi; omega
   rw [← hn];simpa [storeVar,sizeOf,typeInfo,hq,Value.cells,hs] using hst
 unfold Oper.wp execOp;simp only [ho,hx,hy,Instr.storeAt,Instr.sureAddr,Sem.run_bind,Sem.run_pure,Result.andThen_ok,hsv];exact h
theorem qt1 (w:World) (g:Nat):∀ i,i<9→(Instr.fieldAt 37 (.pointer (some ⟨g,0,none⟩)) i).run Tryz.prog w = .ok (.pointer (some ⟨g,[0,1,2,3,9,14,16,17,18].getD i 0,none⟩)) w
 | 0,_=>by simp [Instr.fieldAt,run_underlying Tryz.underlying37,Instr.sureAddr,fieldPlace,Addr.add]
 | 1,_=>by simp [Instr.fieldAt,run_underlying Tryz.underlying37,Instr.sureAddr,fieldPlace,Addr.add]
 | 2,_=>by simp [Instr.fieldAt,run_underlying Tryz.underlying37,Instr.sureAddr,fieldPlace,Addr.add]
 | 3,_=>by simp [Instr.fieldAt,run_underlying Tryz.underlying37,Instr.sureAddr,fieldPlace,Addr.add]
 | 4,_=>by simp [Instr.fieldAt,run_underlying Tryz.underlying37,Instr.sureAddr,fieldPlace,Addr.add]
 | 5,_=>by simp [Instr.fieldAt,run_underlying Tryz.underlying37,Instr.sureAddr,fieldPlace,Addr.add]
 | 6,_=>by simp [Instr.fieldAt,run_underlying Tryz.underlying37,Instr.sureAddr,fieldPlace,Addr.add]
 | 7,_=>by simp [Instr.fieldAt,run_underlying Tryz.underlying37,Instr.sureAddr,fieldPlace,Addr.add]
 | 8,_=>by simp [Instr.fieldAt,run_underlying Tryz.underlying37,Instr.sureAddr,fieldPlace,Addr.add]
theorem qv5 (w:World) (g:Nat):(Instr.fieldAt 33 (.pointer (some ⟨g,0,none⟩)) 1).run Tryz.prog w = .ok (.pointer (some ⟨g,1,none⟩)) w:=by simp [Instr.fieldAt,run_underlying Tryz.underlying33,Instr.sureAddr,fieldPlace,Addr.add]
theorem qzj (w:World) (g:Nat) (k n:Int) (h:KVar w g k n):(Instr.loadAt 33 (.pointer (some ⟨g,0,none⟩))).run Tryz.prog w = .ok (.agg #[.int .i64 k,.int .i64 n]) w:=by
 unfold KVar at h;simp [Instr.loadAt,Instr.sureAddr,run_loadVar_row w g _ 33 _ _ _ h Tryz.underlying33 rfl jn]
theorem qja (w:World) (g:Nat) (cs:Array Value) (h:RVr w g cs) (hs:cs.size=22):(Instr.loadAt 37 (.pointer (some ⟨g,0,none⟩))).run Tryz.prog w = .ok (.agg cs) w:=by
 unfold RVr at h;simp [Instr.loadAt,Instr.sureAddr,run_loadVar_row w g _ 37 _ _ _ h Tryz.underlying37 rfl (by rw [hs]; exact jw)]
section
variable {Q:Exit→Act→World→Prop} {a:Act} {w:World} {o:Oper} {s:Spec}
theorem qf7 {x:Operand} {i:Nat} (ho:o.op = .fieldAddr 37 x i) {g j:Nat} (hx:a.eval x = .pointer (some ⟨g,0,none⟩)) (hi:i<9) (hj:[0,1,2,3,9,14,16,17,18].getD i 0=j) (hs:s.p (.pointer (some ⟨g,j,none⟩)) w) :
  o.wp Tryz.prog a w (fun a' w'=>∃ v,a'=a.put o.dst v∧Below w.heap.size w w'∧s.p v w') Q:=by
 subst hj;exact j0 (v:=.pointer (some ⟨g,_,none⟩)) (by unfold execOp; rw [ho]; simp only [hx,Sem.run_bind,qt1 _ _ _ hi,Result.andThen_ok,Sem.run_pure]) (Below.refl _ _) hs
theorem qpe {x:Operand} (ho:o.op = .fieldAddr 33 x 1) {g:Nat} (hx:a.eval x = .pointer (some ⟨g,0,none⟩)) (hs:s.p (.pointer (some ⟨g,1,none⟩)) w) :
  o.wp Tryz.prog a w (fun a' w'=>∃ v,a'=a.put o.dst v∧Below w.heap.size w w'∧s.p v w') Q :=
 j0 (v:=.pointer (some ⟨g,1,none⟩)) (by unfold execOp; rw [ho]; simp only [hx,Sem.run_bind,qv5,Result.andThen_ok,Sem.run_pure]) (Below.refl _ _) hs
theorem qhg {T:TypeId} (ho:o.op = .build T #[]) {cs:Array Value} (hz:(Instr.build T #[]).run Tryz.prog w = .ok (.agg cs) w) (hs:s.p (.agg cs) w) :
  o.wp Tryz.prog a w (fun a' w'=>∃ v,a'=a.put o.dst v∧Below w.heap.size w w'∧s.p v w') Q:=by
 refine j0 (v:=.agg cs) ?_ (Below.refl _ _) hs;unfold execOp;simp only [ho,List.map_toArray,List.map_nil,Sem.run_bind,hz,Result.andThen_ok,Sem.run_pure]
end
structure FinJ (w:World) (B:Nat→Prop) (gx gk:Nat) (cs:Array Value) (k l:Int) (f2:Option Addr) (xs:List Fld) (W:World):Prop where
 r1:RVr W w.heap.size cs
 r2:RVr W (w.heap.size+1) zR
 r3:PVr W (w.heap.size+2) #[.int .i64 0,.slice none 0 0]
 fr:KVar W gk k l
 fl:qm W f2 xs
 bl:Below w.heap.size w W
 n:gk=gx+1∧w.heap.size+2<gx ∧ ∀ y,f2=some y→gk<y.block
theorem FinJ.keep {w:World} {B:Nat→Prop} {gx gk:Nat} {cs:Array Value} {k l:Int} {f2:Option Addr} {xs:List Fld} {W W':World} (h:FinJ w B gx gk cs k l f2 xs W) (hb:Below W.heap.size W W'):FinJ w B gx gk cs k l f2 xs W' :=
 ⟨h.r1.keep hb,h.r2.keep hb,h.r3.keep hb,h.fr.keep hb,h.fl.keep hb,qe h.bl hb,h.n⟩
theorem FinJ.row {w:World} {B:Nat→Prop} {gx gk:Nat} {cs:Array Value} {k l:Int} {f2:Option Addr} {xs:List Fld} {W:World} (h:FinJ w B gx gk cs k l f2 xs W) (c:Array Value):FinJ w B gx gk cs k l f2 xs (W.setRow gx c):=by
 obtain ⟨n1,n2,n3⟩:=h.n;exact ⟨(setRow_other _ _ _ _ (by omega)).trans h.r1,(setRow_other _ _ _ _ (by omega)).trans h.r2,(setRow_other _ _ _ _ (by omega)).trans h.r3,(setRow_other _ _ _ _ (by omega)).trans h.fr,
  h.fl.same fun y e=>setRow_other _ _ _ _ (by have:=n3 y e; omega),below_setRow h.bl (by omega) _,h.n⟩
end Go.Proofs.YtflhjpokjdjbpaaGreatDoor
namespace Go.Proofs.YtflhjpokjdjbpaaGreatDoor
open Go.RowKit
theorem Own.grown {B:Nat} {w w':World} {v:Value} {l:List UInt8} {row:Option Nat} (h:Own B w v l) (hg:w.grownBy w' row) (hne:∀ k,v.ownBlock=some k→some k≠row):Own B w' v l :=
 h.same fun k hk=>hg.block k (h.lt hk).2 (hne k hk)
theorem qsj (w:World) (c:UInt8):qg (w.alloc (.cells #[.int .u8 (c.toNat:Int)] 5)) (some ⟨w.heap.size,0,none⟩) [c] 1:=by
 refine .inr ⟨_,rfl,Nat.le_refl _,by decide,fun j hj=>?_⟩;obtain rfl:j=0:=by simpa using hj
 rw [Addr.add_lit,jm]; rfl
theorem qg0 (g m:Nat) (a:Option Addr) (n c:Nat) (w:World) (h:Src w g a n c) (hm:m≤1000) :
  Calls Tryz.prog 31 #[.pointer (some ⟨g,0,none⟩),.int .i64 m] w fun e w'=>∃ v l,e = .returned v∧Own w.heap.size w' v l∧l.length≤m∧Src w' g a n c∧w.grownBy w' (some g):=by
 have H0:=Box.mk h;have HLOW:=Box.mk h.low;have hlt:=h.lt;clear h;go_enter Tryz.func31,Tryz.ntmps31
 go_wp2_with fail;refine (qbi g (m+1) a n c w H0.out (by omega) (by omega)).mono ?_;rintro e w1 ⟨k,hk,rfl,hsrc,hg1⟩;have HS1:=Box.mk hsrc;have HG1:=Box.mk hg1;clear hsrc hg1 H0;go_wp2_with fail;go_loopw [5,6] (fun v iv wr=>∃ j:Nat,j≤m∧iv = .int .i64 j ∧ ∃ l:List UInt8,l.length+j≤m∧Box (Own w.heap.size wr v l∧Src wr g a n c∧w.grownBy wr (some g))) (fun _ iv _=>(intOf iv).toNat)
 case atStart=>exact ⟨k,by omega,rfl,[],by simp; omega,⟨Own.start _ _,HS1.out,HG1.out⟩⟩
 case round =>
  clear HS1 HG1;obtain ⟨j,hj,rfl,l,hl,HM⟩:=hrel;by_cases hpos:0<j
  · go_wp2_with fail
    refine (qbi g 7 a n c wr HM.out.2.1 (by decide) (by decide)).mono ?_;rintro e w2 ⟨i,hi,rfl,hsrc,hg2⟩;have HO2:=Box.mk (HM.out.1.grown hg2 (fun q e e2=>by have:=(HM.out.1.lt e).1; have:=Option.some.inj e2; omega));have HS2:=Box.mk hsrc;have HG2:=Box.mk (qh HM.out.2.2 hg2);have hsz:=HG2.out.size;clear hsrc hg2 HM;obtain ⟨y,hy⟩ : ∃ y:UInt8,∀ hd,(⟨#[97,98,13,10,48,59,32]⟩ : ByteArray)[i]'hd=y:=⟨(⟨#[97,98,13,10,48,59,32]⟩ : ByteArray)[i]'(by show i<7; exact hi),fun _=>rfl⟩;have hy1:(y.toNat:Int)≤255:=by have:=y.toNat_lt; omega
    go_wp2_with (at_builtin; refine jq _ rfl _ _ rfl rfl (HO2.out.keep (qd w2 (.cells #[.int .u8 (y.toNat:Int)] 5))) (r:=[y]) rfl (qsj w2 y) (by simp; omega) (by simp; omega) ?c3)
    case c3 =>
     intro v' w3 hown hgrow _;have HO3:=Box.mk hown;have hgrow2:w2.grownBy w3 u5.ownBlock:=⟨hgrow.os,hgrow.tape,hgrow.output,Nat.le_trans (by simp) hgrow.size,fun k hk hne=>by
      rw [hgrow.block k (by simp; omega) hne];exact (qd w2 _).block k hk⟩
     have HS3:=Box.mk (HS2.out.grown hgrow2 (fun e=>by have:=(HO2.out.lt e.symm).1; omega) (fun x e h0 e2=>by have:=(HO2.out.lt e2.symm).1; have:=HLOW.out x e h0; omega));have HG3:=Box.mk (ku HG2.out hgrow2 (fun i e=>(HO2.out.lt e).1));clear hown hgrow hgrow2 HO2 HS2 HG2 hy;go_wp2_with fail;go_roundw
     case rel=>exact ⟨j-1,by omega,by go_num,l++[y],by simp; omega,⟨HO3.out,HS3.out,HG3.out⟩⟩
     case measure=>simp [intOf]; omega
  · obtain rfl:j=0:=by omega
    go_wp2_with fail;go_ret;exact ⟨_,l,rfl,HM.out.1,by omega,HM.out.2.1,HM.out.2.2⟩
theorem qxo {b:Nat} (hb:2≤b):∀ (k n:Nat),n<2 ^ k→1≤k→(digs b n).length≤k
 | 0,n,_,h=>absurd h (by omega)
 | k+1,n,hn,_=>by
  by_cases h:n<b
  · rw [qeu h]; simp
  · rw [qi2 hb h,List.length_append]
    have h1:n / b≤n / 2:=Nat.div_le_div_left hb (by omega);have h2:n / 2<2 ^ k:=by rw [Nat.pow_succ] at hn; omega
    have h3:1≤n / b:=by
     have:b / b≤n / b:=Nat.div_le_div_right (by omega);rw [Nat.div_self (by omega)] at this; exact this
    have hk:1≤k:=by
     match k,h2 with
     | 0,h2=>simp at h2; omega
     | k+1,_=>omega
    have:=qxo hb k (n / b) (by omega) hk
    simp; omega
theorem qiy {b:Nat} (hb:2≤b) (n:Int) (h1:n≤9223372036854775807):(fmtS b n).size≤64:=by
  unfold fmtS; split
  · decide
  · show (digs b n.toNat).toArray.size≤64
    simpa using qxo hb 64 n.toNat (by have : (2 : Nat) ^ 64 = 18446744073709551616 := by decide
                                      omega) (by omega)
theorem jcr {b:Nat} (hb:2≤b) (n:Int) (h1:n≤9223372036854775807):(fmtS b n).size≤maxLen:=Nat.le_trans (qiy hb n h1) (by decide)
theorem qxe (a:Nat) (h:a≤1000000000):(fmtS 10 (a:Int)).size≤maxLen:=jcr (by decide) _ (by omega)
theorem qz6 (s1 s2:ByteArray) (a:Addr) (c:Nat) (w:World) (h1:s1.size≤maxLen) (h2:s2.size≤maxLen) (h:qbn w (some a) [s1,s2]) :
  Calls Tryz.prog 76 #[.slice (some a) 2 c] w fun e w'=>∃ h:Nat,e = .returned (.int .u64 h)∧h<18446744073709551616∧Below w.heap.size w w':=by
 refine (qyo [s1,s2] (some a) c w (by show 2≤maxLen; decide) (fun x hx=>?_) h).mono ?_
 · simp at hx
   rcases hx with rfl | rfl
   · exact h1
   · exact h2
 · rintro e w' ⟨rfl,hb⟩
   exact ⟨_,rfl,(by unfold sumL; rw [List.foldl_cons,List.foldl_cons,List.foldl_nil]; exact ja7 _ _),hb⟩
def qqn (c:UInt8):Bool:=decide (48≤c.toNat∧c.toNat≤57∨97≤c.toNat∧c.toNat≤102)
theorem jat {z:Int} (h0:0≤z) (h1:z≤15):(fmtS 16 z).size=1∧(fmtS 16 z).data.toList.all qqn=true:=by
 obtain ⟨k,rfl⟩ : ∃ k:Nat,z=k:=⟨z.toNat,by omega⟩;have hk:k<16:=by omega
 have h:∀ m:Fin 16,(fmtS 16 (m.val:Int)).size=1∧(fmtS 16 (m.val:Int)).data.toList.all qqn=true:=by decide +kernel
 exact h ⟨k,hk⟩
theorem qu3 (a b:Nat) (w:World) (ha:a≤1000000000) (hb:b≤1000000000) :
  Calls Tryz.prog 56 #[.int .i64 a,.int .i64 b] w fun e w'=>∃ s:ByteArray,e = .returned (.string s)∧s.size=16∧s.data.toList.all qqn=true∧Below w.heap.size w w':=by
 go_enter Tryz.func56,Tryz.ntmps56
 go_wp2_with fail;refine (qao a _ (by omega) (by omega)).mono ?_;rintro e w1 ⟨rfl,hb1⟩;have HB1:=Box.mk hb1;clear hb1;go_wp2_with fail;refine (qao b _ (by omega) (by omega)).mono ?_;rintro e w2 ⟨rfl,hb2⟩;have HB2:=Box.mk (qe HB1.out hb2);have HZ:=Box.mk (And.intro (qxe a ha) (qxe b hb));clear hb2 HB1;generalize fmtS 10 a=s1 at *;generalize fmtS 10 b=s2 at *;go_wp2_with fail;refine (qz6 s1 s2 _ _ _ HZ.out.1 HZ.out.2 (qwg w2 s1 s2 _)).mono ?_;rintro e w3 ⟨h,rfl,hh,hb3⟩;have HB3:=Box.mk (qe (qk HB2.out (.cells #[.string s1,.string s2] 9)) hb3);clear hb3 HB2 HZ;go_wp2_with fail;go_loopw [6,7] (fun v iv wr=>∃ k:Nat,k≤16∧iv = .int .i64 k ∧ ∃ s:ByteArray,v = .string s∧s.size≤1000∧Box (s.size=k∧s.data.toList.all qqn=true∧Below w.heap.size w wr)) (fun _ iv _=>16-(intOf iv).toNat)
 case atStart=>exact ⟨0,Nat.zero_le _,rfl,⟨#[]⟩,rfl,by decide,⟨rfl,rfl,HB3.out⟩⟩
 case round =>
  clear HB3;obtain ⟨k,hk,rfl,s,rfl,hs,HM⟩:=hrel;by_cases hlt:k<16
  · go_wp2_with fail
    obtain ⟨d,hd,hd15⟩ : ∃ d:Nat,wrap64 (bits .and .u64 ((h:Int) / 2 ^ (60-4*k)) 15)=d∧d≤15:=by
     have e1:((h:Int) / 2 ^ (60-4*k))=((h / 2 ^ (60-4*k):Nat):Int):=by push_cast; rfl
     have h2:h / 2 ^ (60-4*k)<18446744073709551616:=Nat.lt_of_le_of_lt (Nat.div_le_self _ _) hh;have h3:=bits_and_u64_nat (h / 2 ^ (60-4*k)) 15 h2 (by decide);refine ⟨h / 2 ^ (60-4*k) &&& 15,?_,Nat.and_le_right⟩;rw [e1,show (15:Int)=((15:Nat):Int) from rfl,h3];have h4:h / 2 ^ (60-4*k) &&& 15≤15:=Nat.and_le_right;generalize h / 2 ^ (60-4*k) &&& 15=x at *;simp only [wrap64]; omega
    rw [hd];have HD:=Box.mk (jat (z:=(d:Int)) (by omega) (by omega));refine (qor (d:Int) wr (by omega) (by omega)).mono ?_;rintro e w4 ⟨rfl,hb4⟩;generalize fmtS 16 (d:Int)=t at *;have hts:t.size≤10:=by have:=HD.out.1; omega
    have HM2:=Box.mk (show (s++t).size=k+1∧(s++t).data.toList.all qqn=true∧Below w.heap.size w w4 from ⟨by rw [ByteArray.size_append,HM.out.1,HD.out.1],by rw [jt,List.all_append,HM.out.2.1,HD.out.2]; rfl,qe HM.out.2.2 hb4⟩);clear hb4 HM HD hd;go_wp2_with fail;go_roundw
    case rel=>exact ⟨k+1,by omega,by go_num,s++t,rfl,by have:=HM2.out.1; omega,HM2⟩
    case measure=>simp [intOf]; omega
  · obtain rfl:k=16:=by omega
    go_wp2_with fail;go_ret;exact ⟨s,rfl,HM.out.1,HM.out.2.1,HM.out.2.2⟩
theorem jae (g:Nat) (a:Option Addr) (n c:Nat) (w:World) (h:Src w g a n c) :
  Calls Tryz.prog 36 #[.pointer (some ⟨g,0,none⟩)] w fun e w'=>∃ s:ByteArray,e = .returned (.string s)∧s.size=16∧s.data.toList.all qqn=true∧Src w' g a n c∧w.grownBy w' (some g):=by
 have H0:=Box.mk h;clear h;go_enter Tryz.func36,Tryz.ntmps36
 go_wp2_with fail;refine (qbi g 8 a n c w H0.out (by decide) (by decide)).mono ?_;rintro e w1 ⟨k,hk,rfl,hsrc,hg1⟩;have HS:=Box.mk hsrc;have HG:=Box.mk hg1;clear hsrc hg1 H0;go_wp2_with fail;refine (qu3 k 7 w1 (by omega) (by decide)).mono ?_;rintro e w2 ⟨s,rfl,hz,hx,hb⟩;have HF:=Box.mk (And.intro hz (And.intro hx (And.intro (HS.out.keep hb) (qh HG.out (j5 hb)))));clear hz hx hb;go_wp2_with fail;go_ret;exact ⟨s,rfl,HF.out.1,HF.out.2.1,HF.out.2.2.1,HF.out.2.2.2⟩
theorem OwnF.mono {B B':Nat} {w:World} {v:Value} {l:List Fld} (h:OwnF B w v l) (hb:B'≤B):OwnF B' w v l:=by
 obtain ⟨h1,h2⟩:=h;refine ⟨h1,?_⟩;rcases h2 with h2 | ⟨g,cap,cur,hv,hg,hc,r⟩
 · exact .inl h2
 · exact .inr ⟨g,cap,cur,hv,Nat.le_trans hb hg,hc,r⟩
theorem qya:∀ l:List UInt8,l.all (fun c=>!blankB c)=true→qeb l=l:=fun l h=>by
 have hd:∀ k:List UInt8,k.all (fun c=>!blankB c)=true→k.dropWhile blankB=k:=fun k hk=>by
  cases k with
  | nil=>rfl
  | cons a t =>
   rw [List.all_cons,Bool.and_eq_true] at hk;have:blankB a=false:=by simpa using hk.1
   rw [List.dropWhile_cons,this]; rfl
 have hr:qcz blankB l=l:=by
  unfold qcz;rw [hd l.reverse (by rw [List.all_reverse]; exact h),List.reverse_reverse]
 unfold qeb;rw [hr,hd l h]
def hostF:Fld:=(⟨#[72,111,115,116]⟩,⟨#[104]⟩)
def qcx:ByteArray:=⟨#[99,111,104,111,114,116,61]⟩
def qik (s:ByteArray):Fld:=(⟨#[67,111,111,107,105,101]⟩,qcx++s)
def expF:Fld:=(⟨#[69,120,112,101,99,116]⟩,⟨#[49,48,48,45,99,111,110,116,105,110,117,101]⟩)
def IdOk (s:ByteArray):Prop:=s.size=16∧s.data.toList.all qqn=true
def RF1 (x:List Fld):Prop:=∃ y,(∀ f ∈ y,SrcF f)∧y.length≤3∧x=y++[hostF]
def RF2 (x:List Fld):Prop:=RF1 x ∨ ∃ y s,RF1 y∧IdOk s∧x=y++[qik s]
def RF3 (x:List Fld):Prop:=RF2 x ∨ ∃ y,RF2 y∧x=y++[expF]
theorem jaf:qrt hostF:=⟨by decide +kernel,by decide,by decide⟩
theorem jd4:qrt expF:=⟨by decide +kernel,by decide,by decide⟩
theorem qx6 {c:UInt8} (h:qqn c=true):valB c=true∧blankB c=false:=by
 have hk:∀ k:Fin 256,qqn (UInt8.ofNat k.val)=true→valB (UInt8.ofNat k.val)=true∧blankB (UInt8.ofNat k.val)=false:=by decide +kernel
 have:=hk ⟨c.toNat,c.toNat_lt⟩;simp only [UInt8.ofNat_toNat] at this;exact this h
theorem jc9 {s:ByteArray} (h:IdOk s):qrt (qik s):=by
 have hl:(qcx++s).data.toList=qcx.data.toList++s.data.toList:=jt _ _;have hv:valS (qcx++s)=true:=by
  unfold valS visS;have h1:qeb (qcx++s).data.toList=(qcx++s).data.toList:=qya _ (by
   rw [hl,List.all_append];have:qcx.data.toList.all (fun c=>!blankB c)=true:=by decide
   rw [this,Bool.true_and,List.all_eq_true];intro c hc;rw [(qx6 (List.all_eq_true.1 h.2 c hc)).2]; rfl)
  have h2:jf (qcx++s)=qcx++s:=qd5 (by rw [qbs,h1]);rw [h2];simp only [beq_self_eq_true,Bool.and_true];rw [hl,List.all_append];have:qcx.data.toList.all valB=true:=by decide +kernel
  rw [this,Bool.true_and,List.all_eq_true];intro c hc;exact (qx6 (List.all_eq_true.1 h.2 c hc)).1
 refine ⟨?_,by show 6≤1000; decide,?_⟩
 · show fldB _ _=true
   unfold fldB;rw [show valS (qik s).2=true from hv];show (tokS ⟨#[67,111,111,107,105,101]⟩ && true)=true
   decide +kernel
 · show (qcx++s).size≤1000
   rw [ByteArray.size_append,h.1]; decide
theorem RF1.made {x:List Fld} (h:RF1 x):(∀ f ∈ x,qrt f)∧x.length≤4:=by
 obtain ⟨y,h1,h2,rfl⟩:=h;refine ⟨fun f hf=>?_,by rw [List.length_append]; show _+1≤4; omega⟩;rcases List.mem_append.1 hf with h | h
 · exact (h1 f h).made
 · obtain rfl:=List.mem_singleton.1 h; exact jaf
theorem RF2.made {x:List Fld} (h:RF2 x):(∀ f ∈ x,qrt f)∧x.length≤5:=by
 rcases h with h | ⟨y,s,h1,h2,rfl⟩
 · exact ⟨h.made.1,by have:=h.made.2; omega⟩
 · refine ⟨fun f hf=>?_,by have:=h1.made.2; rw [List.length_append]; show _+1≤5; omega⟩
   rcases List.mem_append.1 hf with h | h
   · exact h1.made.1 f h
   · obtain rfl:=List.mem_singleton.1 h; exact jc9 h2
theorem RF3.made {x:List Fld} (h:RF3 x):(∀ f ∈ x,qrt f)∧x.length≤6:=by
 rcases h with h | ⟨y,h1,rfl⟩
 · exact ⟨h.made.1,by have:=h.made.2; omega⟩
 · refine ⟨fun f hf=>?_,by have:=h1.made.2; rw [List.length_append]; show _+1≤6; omega⟩
   rcases List.mem_append.1 hf with h | h
   · exact h1.made.1 f h
   · obtain rfl:=List.mem_singleton.1 h; exact jd4
def qih:List ByteArray:=[⟨#[71,69,84]⟩,⟨#[71,69,84]⟩,⟨#[80,79,83,84]⟩,⟨#[72,69,65,68]⟩,⟨#[80,85,84]⟩]
def qib:List ByteArray:=[⟨#[47]⟩,⟨#[47,97,63,98]⟩,⟨#[47,114,111,108,108,111,117,116]⟩,⟨#[47,114,101,112,111,114,116,115]⟩]
theorem jdh:(qih.all fun s=>tokS s && decide (s.size≤1000))=true:=by decide +kernel
theorem jds:(qib.all fun s=>jx s && decide (s.size≤1000))=true:=by decide +kernel
theorem qlw {s:ByteArray} (h:s ∈ qih):tokS s=true∧s.size≤1000:=by
 have:=List.all_eq_true.1 jdh s h;simpa using this
theorem qlp {s:ByteArray} (h:s ∈ qib):jx s=true∧s.size≤1000:=by
 have:=List.all_eq_true.1 jds s h;simpa using this
def RqSt (R:List Fld→Prop) (B g:Nat) (a:Option Addr) (n c:Nat) (w0:World) (gr q:Nat) (m t:ByteArray) (w:World):Prop :=
 ∃ z vF x,(z=0∨z=1)∧w.heap[gr]? = some (.cells #[.string m,.string t,.int .i64 z,vF,.bool false,.slice none 0 0] 29 (0,0))∧OwnF B w vF x∧R x ∧
  Src w g a n c∧w0.grownBy w (some g)∧RVar w q ⟨#[]⟩ ⟨#[]⟩ 0
theorem RqSt.keep {R:List Fld→Prop} {B g:Nat} {a:Option Addr} {n c:Nat} {w0:World} {gr q:Nat} {m t:ByteArray} {w w':World} (h:RqSt R B g a n c w0 gr q m t w) (hb:Below w.heap.size w w'):RqSt R B g a n c w0 gr q m t w':=by
 obtain ⟨z,vF,x,h1,h2,h3,h5,h8,h9,h10⟩:=h;exact ⟨z,vF,x,h1,by rw [hb.block gr (Array.getElem?_eq_some_iff.1 h2).1]; exact h2,h3.keep hb,h5,h8.keep hb,qh h9 (j5 hb),h10.keep hb⟩
theorem Own.mono {B B':Nat} {w:World} {v:Value} {l:List UInt8} (h:Own B w v l) (hb:B'≤B):Own B' w v l:=by
 obtain ⟨h1,h2⟩:=h;refine ⟨h1,?_⟩;rcases h2 with h2 | ⟨g,cap,cur,hv,hg,hc,r⟩
 · exact .inl h2
 · exact .inr ⟨g,cap,cur,hv,Nat.le_trans hb hg,hc,r⟩
structure RqN (B g:Nat) (a:Option Addr) (n:Nat) (w0:World) (gr q:Nat):Prop where
 lo:g<w0.heap.size
 src:∀ x,a=some x→0<n→x.block<w0.heap.size
 hq:q=w0.heap.size
 hgr:q<gr
 top:gr<B
theorem RqSt.next {R:List Fld→Prop} {B g:Nat} {a:Option Addr} {n c:Nat} {w0:World} {gr q:Nat} {m t:ByteArray} {w w':World} (h:RqSt R B g a n c w0 gr q m t w) (N:RqN B g a n w0 gr q) (hg:w.grownBy w' (some g)) (hs:Src w' g a n c) :
  RqSt R B g a n c w0 gr q m t w':=by
 obtain ⟨z,vF,x,h1,h2,h3,h5,h8,h9,h10⟩:=h;have n1:=N.lo;have n2:=N.hq;have n3:=N.hgr;have n4:=N.top;refine ⟨z,vF,x,h1,?_,h3.grown hg (fun k hk e=>?_),h5,hs,qh h9 hg,?_⟩
 · rw [hg.block gr (Array.getElem?_eq_some_iff.1 h2).1 (fun e=>by have:=Option.some.inj e; omega)]; exact h2
 · have:=(h3.lt hk).1; have:=Option.some.inj e; omega
 · exact (hg.block q (Array.getElem?_eq_some_iff.1 h10).1 (fun e=>by have:=Option.some.inj e; omega)).trans h10
theorem qa9 {w:World} {gr i:Nat} {v:Value}:w.grownBy (w.setCell ⟨gr,i,none⟩ v) (some gr) :=
 ⟨rfl,rfl,rfl,by simp [World.setCell],fun k _ hne=>heap_setCell_other w ⟨gr,i,none⟩ k _ (fun e=>hne (by rw [e]))⟩
theorem RqSt.put {R':List Fld→Prop} {B g:Nat} {a:Option Addr} {n c:Nat} {w0:World} {gr q:Nat} {m t:ByteArray} {w:World} (N:RqN B g a n w0 gr q) {z:Int} {vF:Value} {x:List Fld} {cs:Array Value} {i:Nat} {v:Value}
  (hz:z=0∨z=1) (hrow:w.heap[gr]? = some (.cells cs 29 (0,0))) (hcs:cs.setIfInBounds i v=#[.string m,.string t,.int .i64 z,vF,.bool false,.slice none 0 0]) (hF:OwnF B w vF x) (hR:R' x)
  (hS:Src w g a n c) (hG:w0.grownBy w (some g)) (hq:RVar w q ⟨#[]⟩ ⟨#[]⟩ 0):RqSt R' B g a n c w0 gr q m t (w.setCell ⟨gr,i,none⟩ v):=by
 have n1:=N.lo;have n2:=N.hq;have n3:=N.hgr;have n4:=N.top;have hg:w.grownBy (w.setCell ⟨gr,i,none⟩ v) (some gr):=qa9;refine ⟨z,vF,x,hz,?_,hF.grown hg (fun k hk e=>?_),hR,hS.other hg (by omega) (fun y e h0=>by have:=N.src y e h0; omega),ku hG hg (fun j e=>by have:=Option.some.inj e; omega),?_⟩
 · rw [← hcs]; exact heap_setCell_same w gr i cs 29 v hrow
 · have:=(hF.lt hk).1; have:=Option.some.inj e; omega
 · exact (heap_setCell_other w ⟨gr,i,none⟩ q _ (by show q≠gr; omega)).trans hq
theorem RqSt.app {R':List Fld→Prop} {B g:Nat} {a:Option Addr} {n c:Nat} {w0:World} {gr q:Nat} {m t:ByteArray} {w w':World} (N:RqN B g a n w0 gr q) {z:Int} {cs:Array Value} {v':Value} {x':List Fld} {row:Option Nat}
  (hz:z=0∨z=1) (hrow:w.heap[gr]? = some (.cells cs 29 (0,0))) (hcs:cs.setIfInBounds 3 v'=#[.string m,.string t,.int .i64 z,v',.bool false,.slice none 0 0]) (hr:∀ k,row=some k→B≤k) (hg:w.grownBy w' row) (hF:OwnF B w' v' x') (hR:R' x')
  (hS:Src w g a n c) (hG:w0.grownBy w (some g)) (hq:RVar w q ⟨#[]⟩ ⟨#[]⟩ 0):RqSt R' B g a n c w0 gr q m t (w'.setCell ⟨gr,3,none⟩ v'):=by
 have n1:=N.lo;have n2:=N.hq;have n3:=N.hgr;have n4:=N.top;refine RqSt.put N hz ?_ hcs hF hR (hS.grown hg (fun e=>by have:=hr g e.symm; omega) (fun y e h0 e2=>by have:=hr _ e2.symm; have:=N.src y e h0; omega)) (ku hG hg (fun j e=>by have:=hr j e; omega)) ?_
 · rw [hg.block gr (Array.getElem?_eq_some_iff.1 hrow).1 (fun e=>by have:=hr gr e.symm; omega)]; exact hrow
 · exact (hg.block q (Array.getElem?_eq_some_iff.1 hq).1 (fun e=>by have:=hr q e.symm; omega)).trans hq
def jf5 (w:World) (g:Nat) (a:Option Addr) (n c:Nat) (e:Ending) (w':World):Prop :=
 ∃ m t z vF x fr vB l,e = .returned (.agg #[.string m,.string t,.int .i64 z,vF,.bool fr,vB])∧m ∈ qih∧t ∈ qib∧(z=0∨z=1)∧OwnF w.heap.size w' vF x∧Own w.heap.size w' vB l ∧
  RF3 x∧l.length≤30∧(fr=false→l=[])∧Src w' g a n c∧w.grownBy w' (some g)
end Go.Proofs.YtflhjpokjdjbpaaGreatDoor

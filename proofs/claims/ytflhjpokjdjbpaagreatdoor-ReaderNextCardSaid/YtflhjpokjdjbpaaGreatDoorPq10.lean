/- The project's reader: readChunks: errors. A slice of bytes in a block of the call's own that may bear the mark of a conversion: append in place, one byte stored. Sizes of what the source makes; local laws for wire. Queues: single operations on a queue's variable; Peek and SameQueue. Queues: Take. Queues: the reference's Take. The reference's reader: first, walked once. -/
import Derived.Test.YtflhjpokjdjbpaaGreatDoorPq9
import Derived.Lib.FrozenHead2
import Derived.ArgAppend
set_option linter.unusedVariables false
set_option linter.unusedSimpArgs false
set_option maxRecDepth 100000
set_option maxHeartbeats 8000000
namespace Go.Proofs.YtflhjpokjdjbpaaGreatDoor
open Go.RowKit
set_option linter.unusedVariables false
def FedR (N:Nat) (er:Int) (c:Chk) (out:List UInt8) (n:Nat) (w:World) (v:Value):Prop:=∃ a cc oa oc,v = .tuple #[.agg #[.int .i64 c.ph,.int .i64 c.left,.int .i64 c.tr,.slice a c.line.length cc],.slice oa out.length oc,.int .i64 n,.int .i64 er]∧qg w a c.line cc∧qg w oa out oc ∧ ∀ y,a=some y→c.line≠[]→N≤y.block
def Spec.fedR (N:Nat) (er:Int) (c:Chk) (out:List UInt8) (n:Nat):Spec:=⟨fun v w=>FedR N er c out n w v,fun _ _ _ h hb=>by
 obtain ⟨a,cc,oa,oc,h1,h2,h3,h4⟩:=h;exact ⟨a,cc,oa,oc,h1,h2.keep hb,h3.keep hb,h4⟩⟩
def AgR (N:Nat) (c:Chk) (w:World) (v:Value):Prop:=∃ a cc,v = .agg #[.int .i64 c.ph,.int .i64 c.left,.int .i64 c.tr,.slice a c.line.length cc]∧qg w a c.line cc ∧ ∀ y,a=some y→c.line≠[]→N≤y.block
def Spec.agR (N:Nat) (c:Chk):Spec:=⟨fun v w=>AgR N c w v,fun _ _ _ h hb=>by
 obtain ⟨a,cc,h1,h2,h3⟩:=h;exact ⟨a,cc,h1,h2.keep hb,h3⟩⟩
def jfp (B:Nat) (w:World) (v:Value):Prop:=∃ g,v = .pointer (some ⟨g,0,none⟩)∧B≤g∧CVar w g 0 0 0 (.slice none 0 0)
def Spec.cnewR (B:Nat):Spec:=⟨fun v w=>jfp B w v,fun _ _ _ h hb=>by
 obtain ⟨g,h1,h2,h3⟩:=h;exact ⟨g,h1,h2,h3.keep hb⟩⟩
def CStR (B:Nat) (c:Chk) (w:World) (v:Value):Prop:=∃ g a cc,v = .pointer (some ⟨g,0,none⟩)∧B≤g∧CVar w g c.ph c.left c.tr (.slice a c.line.length cc)∧qg w a c.line cc ∧ ∀ y,a=some y→c.line≠[]→B≤y.block
def Spec.cstR (B:Nat) (c:Chk):Spec:=⟨fun v w=>CStR B c w v,fun _ _ _ h hb=>by
 obtain ⟨g,a,cc,h1,h2,h3,h4,h5⟩:=h;exact ⟨g,a,cc,h1,h2,h3.keep hb,h4.keep hb,h5⟩⟩
theorem qiz {w:World} {g:Nat} {cs:Array Value} {T:TypeId} {fz:Nat × Nat} {ds:Array Value} {N:Nat} {er:Int} {c:Chk} {out:List UInt8} {n:Nat} {v:Value} (h:w.heap[g]? = some (.cells cs T fz)) (hn:NoU8 cs) (f:FedR N er c out n w v):FedR N er c out n (w.setRow g ds) v:=by
 obtain ⟨a,cc,oa,oc,h1,h2,h3,h4⟩:=f;exact ⟨a,cc,oa,oc,h1,h2.same fun x e hl=>setRow_other _ _ _ _ (qx h hn h2 x e hl),h3.same fun x e hl=>setRow_other _ _ _ _ (qx h hn h3 x e hl),h4⟩
theorem jc {w:World} {g:Nat} {cs:Array Value} {T:TypeId} {fz:Nat × Nat} {ds:Array Value} {a:Option Addr} {l:List UInt8} {c:Nat} (h:w.heap[g]? = some (.cells cs T fz)) (hn:NoU8 cs) (f:qg w a l c):qg (w.setRow g ds) a l c:=f.same fun x e hl=>setRow_other _ _ _ _ (qx h hn f x e hl)
theorem qza {w w':World} {g:Nat} {cs:Array Value} {a:Option Addr} {l:List UInt8} {c:Nat} (hm:MVr w g cs) (hn:NoU8 cs) (h:qg w a l c) (hg:w.grownBy w' (some g)):qg w' a l c:=h.grownR hg (qx hm hn h)
theorem qbw {w:World} {g:Nat} {cs:Array Value} {T:TypeId} {fz:Nat × Nat} {ds:Array Value} {out:List UInt8} {v:Value} (h:w.heap[g]? = some (.cells cs T fz)) (hn:NoU8 cs) (f:qcf w v out):qcf (w.setRow g ds) v out:=by
 obtain ⟨a,c,h1,h2⟩:=f;exact ⟨a,c,h1,h2.same fun x e hl=>setRow_other _ _ _ _ (qx h hn h2 x e hl)⟩
section
variable {Q:Exit→Act→World→Prop} {act:Act} {w:World} {o:Oper} {s:Spec}
theorem qdv (ho:o.op = .alloc 35) {B:Nat} (hB:B≤w.heap.size) (hs:∀ v w',jfp B w' v→s.p v w') :
  o.wp Tryz.prog act w (fun a' w'=>∃ v,a'=act.put o.dst v∧Below w.heap.size w w'∧s.p v w') Q:=by
 have hz:(Tryz.prog.info? 35).bind (·.zero)=some (.agg #[.int .i64 0,.int .i64 0,.int .i64 0,.slice none 0 0]):=by kernel_rfl
 refine j0 (v:=.pointer (some ⟨w.heap.size,0,none⟩)) (w':=w.alloc (.cells #[.int .i64 0,.int .i64 0,.int .i64 0,.slice none 0 0] 35)) ?_ (qd _ _) (hs _ _ ⟨_,rfl,hB,heap_alloc_new _ _⟩);cases hq:Tryz.prog.info? 35 with
 | none=>rw [hq] at hz; cases hz
 | some i =>
  rw [hq] at hz;simp only [Option.bind_some] at hz;unfold execOp;simp [ho,Instr.alloc,zeroValue,typeInfo,hq,hz,newRow,newVar,Value.cells]
theorem qbf {x:Operand} (ho:o.op = .extract x 0) {v0 v1 v2 v3:Value} (hx:act.eval x = .tuple #[v0,v1,v2,v3]) (hs:s.p v0 w) :
  o.wp Tryz.prog act w (fun a' w'=>∃ v,a'=act.put o.dst v∧Below w.heap.size w w'∧s.p v w') Q :=
 j0 (v:=v0) (by unfold execOp; simp [ho,hx,Instr.extract]) (Below.refl _ _) hs
theorem km {x:Operand} (ho:o.op = .extract x 1) {v0 v1 v2 v3:Value} (hx:act.eval x = .tuple #[v0,v1,v2,v3]) (hs:s.p v1 w) :
  o.wp Tryz.prog act w (fun a' w'=>∃ v,a'=act.put o.dst v∧Below w.heap.size w w'∧s.p v w') Q :=
 j0 (v:=v1) (by unfold execOp; simp [ho,hx,Instr.extract]) (Below.refl _ _) hs
theorem kk {x:Operand} (ho:o.op = .extract x 2) {v0 v1 v2 v3:Value} (hx:act.eval x = .tuple #[v0,v1,v2,v3]) (hs:s.p v2 w) :
  o.wp Tryz.prog act w (fun a' w'=>∃ v,a'=act.put o.dst v∧Below w.heap.size w w'∧s.p v w') Q :=
 j0 (v:=v2) (by unfold execOp; simp [ho,hx,Instr.extract]) (Below.refl _ _) hs
theorem kj {x:Operand} (ho:o.op = .extract x 3) {v0 v1 v2 v3:Value} (hx:act.eval x = .tuple #[v0,v1,v2,v3]) (hs:s.p v3 w) :
  o.wp Tryz.prog act w (fun a' w'=>∃ v,a'=act.put o.dst v∧Below w.heap.size w w'∧s.p v w') Q :=
 j0 (v:=v3) (by unfold execOp; simp [ho,hx,Instr.extract]) (Below.refl _ _) hs
end
theorem qeo (w:World) (g:Nat) (x y z:Int) (h:LVr w g x y z):(Instr.loadAt 69 (.pointer (some ⟨g,0,none⟩))).run Tryz.prog w = .ok (.agg #[.int .i64 x,.int .i64 y,.int .i64 z]) w:=by
 unfold LVr at h;simp [Instr.loadAt,Instr.sureAddr,run_loadVar_row w g _ 69 _ _ _ h Tryz.underlying69 rfl qoj]
theorem qzm (s:RS) (b:List UInt8) (most body room:Int) (ba:Option Addr) (bc:Nat) (fa ga la:Option Addr) (fc gc lc:Nat) (g:Nat) (w:World) (hb:qg w ba b bc) (hl:b.length≤1000000) (hm:MVr w g (rowR s fa fc ga gc la lc)) (hln:qg w la s.ck.line lc) (hck:OkC s.ck) (hsz:0≤s.size∧s.size≤1000000000) (hy:0≤body∧body≤1000000000) (hr0:0≤room∧room≤1000000000) (er:Int) (c:Chk) (out:List UInt8) (n:Nat) (hF:jp (minI room (body+1-s.size)) s.ck [] 0 b=(er,c,out,n)) (hol:out.length≤1000000) (h0:¬ er=0) :
  Calls Tryz.prog 61 #[.pointer (some ⟨g,0,none⟩),.slice ba b.length bc,.agg #[.int .i64 most,.int .i64 body,.int .i64 room]] w fun e w'=>e = .returned (.tuple #[.agg #[.int .i64 0,.slice none 0 0],.int .i64 0,.int .i64 er])∧w.grownBy w' (some g):=by
 obtain ⟨cs,hcs⟩ : ∃ cs:Array Value,cs=(rowR s fa fc ga gc la lc):=⟨_,rfl⟩;have HCS:=Box.mk hcs;rw [← hcs] at hm;have hcs22:cs.size=22:=by rw [hcs]; rfl
 clear hcs;obtain ⟨W1,hW1⟩ : ∃ W1,W1=(w.alloc (.cells #[.int .i64 most,.int .i64 body,.int .i64 room] 69)).alloc (.cells #[.int .i64 0,.slice none 0 0] 41):=⟨_,rfl⟩;have HB1:=Box.mk (show Below w.heap.size w W1 by rw [hW1]; exact qk (qd _ _) _);have HL1:=Box.mk (show LVr W1 w.heap.size most body room by rw [hW1]; exact LVr.keep (heap_alloc_new w (.cells #[.int .i64 most,.int .i64 body,.int .i64 room] 69)) (qd _ _));have HO:=Box.mk (show PVr W1 (w.heap.size+1) #[.int .i64 0,.slice none 0 0] by
  have h:=heap_alloc_new (w.alloc (.cells #[.int .i64 most,.int .i64 body,.int .i64 room] 69)) (.cells #[.int .i64 0,.slice none 0 0] 41);rw [World.size_alloc] at h;rw [hW1]; exact h)
 have HW1:=Box.mk hW1;have HM1:=Box.mk (hm.keep HB1.out);have hlt:=hm.lt;have hlw:w.heap.size+1<W1.heap.size:=(Array.getElem?_eq_some_iff.1 HO.out).1;clear hW1 hm;have HN:=Box.mk (show NoU8 cs by rw [HCS.out]; exact qw rfl);have HBB:=Box.mk (hb.keep HB1.out);have HLN:=Box.mk (hln.keep HB1.out);have H17:=Box.mk (show cs[17]? = some (.int .i64 s.size) by rw [HCS.out]; rfl);have HCK:=Box.mk hck;obtain ⟨rk,hrk⟩ : ∃ rk:Int,rk=minI room (body+1-s.size):=⟨_,rfl⟩;have hrkb:-9223372036854775808≤rk∧rk≤9223372036854775807:=by have:=qbt room (body+1-s.size); rw [hrk]; omega
 have HRK:=Box.mk hrk;have HSZ:=Box.mk hsz;have HY:=Box.mk hy;have HFE:=Box.mk (show jp rk s.ck [] 0 b=(er,c,out,n) by rw [hrk]; exact hF);obtain ⟨hsz0,hsz1⟩:=hsz;clear hb hln hck hF hrk hy;go_enter Tryz.func61,Tryz.ntmps61
 go_upto_region 1 with fail
 rw [← HW1.out];clear HW1;go_wp2_with fail;rename_i KK hKK;refine qz [15] (fun p=>match p with | 0=>[0,1,2,3,4,5,6,7,8,9,10,11,12,13,14] | _=>[11,12,13,16,17,18])
  (fun p=>match p with | 0=>[.val (.pointer (some ⟨g,0,none⟩)),.val (.pointer (some ⟨g,0,none⟩)),.val (.pointer (some ⟨g,18,none⟩)),.val (.agg #[.int .i64 s.ck.ph,.int .i64 s.ck.left,.int .i64 s.ck.tr,.slice la (List.length s.ck.line) lc]),.val (.slice ba b.length bc),.val (.pointer (some ⟨g,0,none⟩)),.val (.agg #[.int .i64 most,.int .i64 body,.int .i64 room]),.val (.int .i64 rk),.fedR W1.heap.size er c out n,.fedR W1.heap.size er c out n,.agR W1.heap.size c,.bytes out,.val (.int .i64 n),.val (.int .i64 er),.cnewR W1.heap.size,.any,.nope,.nope,.nope] | _=>[.any,.any,.any,.any,.any,.any,.any,.any,.any,.fedR W1.heap.size er c out n,.any,.bytes out,.val (.int .i64 n),.val (.int .i64 er),.cstR W1.heap.size c,.any,.bytes out,.val (.int .i64 n),.val (.int .i64 er)])
  (fun _=>fun wx=>Below W1.heap.size W1 wx)
  (by kernel_rfl) (by kernel_rfl) (by kernel_rfl) (by kernel_rfl) (by kernel_rfl) (by kernel_rfl) ?_ (Below.refl _ _) ?_ ?_ ?_
 · intro p wa wb h hb
   exact qe h hb
 · intro p hp
   match p,hp with
   | 0,_ =>
    refine ⟨?_,?_,?_,?_,?_,?_,?_,?_,?_,?_,?_,?_,?_,?_,?_,trivial⟩ <;> intro a1 wx hv hf hd
    · exact ⟨qb rfl,qi rfl (hf.base 0 rfl)⟩
    · exact ⟨qb rfl,qaf rfl (hd 0 rfl) rfl⟩
    · exact ⟨qb rfl,qb0 rfl (hd 1 rfl) (by decide) rfl rfl⟩
    · have hra:wx.rangeAt g 18 [.int .i64 s.ck.ph,.int .i64 s.ck.left,.int .i64 s.ck.tr,.slice la (List.length s.ck.line) lc]:=fun j v hj=>by
       rw [(HM1.out.keep hv).cell,HCS.out]
       match j,hj with
       | 0,hj=>exact hj
       | 1,hj=>exact hj
       | 2,hj=>exact hj
       | 3,hj=>exact hj
       | (j+4),hj=>simp at hj
      exact ⟨qb rfl,kw rfl (by rw [show a1.eval (.tmp 16) = .pointer (some ⟨g,18,none⟩) from hd 2 rfl]; exact run_loadAt_mid wx g 18 35 _ _ hra Tryz.underlying35 rfl j8) rfl⟩
    · exact ⟨qb rfl,qi rfl (hf.base 1 rfl)⟩
    · exact ⟨qb rfl,qi rfl (hf.base 0 rfl)⟩
    · exact ⟨qb rfl,kw rfl (by rw [show a1.eval (.tmp 5) = .pointer (some ⟨w.heap.size,0,none⟩) from hf.base 5 rfl]; exact qeo _ _ _ _ _ (HL1.out.keep hv)) rfl⟩
    · refine ⟨qb rfl,jz rfl (by kernel_rfl) ?_⟩
      show Calls _ _ #[a1.eval (.tmp 19),a1.eval (.tmp 20)] _ _
      rw [show a1.eval (.tmp 19) = .pointer (some ⟨g,0,none⟩) from hd 5 rfl,show a1.eval (.tmp 20) = .agg #[.int .i64 most,.int .i64 body,.int .i64 room] from hd 6 rfl];refine (qd4 g cs most body room s.size wx (HM1.out.keep hv) H17.out HY.out HSZ.out).mono ?_;rintro e w' ⟨he,hbb⟩;exact ⟨_,he,hbb,by rw [HRK.out]; rfl⟩
    · refine ⟨qb rfl,jz rfl (by kernel_rfl) ?_⟩
      show Calls _ _ #[a1.eval (.tmp 17),a1.eval (.tmp 18),a1.eval (.tmp 21)] _ _
      rw [show a1.eval (.tmp 17) = .agg #[.int .i64 s.ck.ph,.int .i64 s.ck.left,.int .i64 s.ck.tr,.slice la (List.length s.ck.line) lc] from hd 3 rfl,show a1.eval (.tmp 18) = .slice ba b.length bc from hd 4 rfl,show a1.eval (.tmp 21) = .int .i64 rk from hd 7 rfl];refine (qc3 s.ck b rk la ba lc bc wx (HLN.out.keep hv) (HBB.out.keep hv) HCK.out (by omega) hrkb.1 hrkb.2).mono ?_;rintro e w' ⟨a,cc,oa,oc,he,hln,hout,hbb,hlf⟩;rw [HFE.out] at he hln hout hlf;exact ⟨_,he,hbb,a,cc,oa,oc,rfl,hln,hout,fun y e hx=>Nat.le_trans hv.size (hlf y e hx)⟩
    · exact ⟨qb rfl,qi rfl (hd 8 rfl)⟩
    · obtain ⟨a,cc,oa,oc,e1,e2,e3,e4⟩:=hd 9 rfl
      exact ⟨qb rfl,qbf rfl e1 ⟨a,cc,rfl,e2,e4⟩⟩
    · obtain ⟨a,cc,oa,oc,e1,e2,e3,e4⟩:=hd 9 rfl
      exact ⟨qb rfl,km rfl e1 ⟨oa,oc,rfl,e3⟩⟩
    · obtain ⟨a,cc,oa,oc,e1,e2,e3,e4⟩:=hd 9 rfl
      exact ⟨qb rfl,kk rfl e1 rfl⟩
    · obtain ⟨a,cc,oa,oc,e1,e2,e3,e4⟩:=hd 9 rfl
      exact ⟨qb rfl,kj rfl e1 rfl⟩
    · exact ⟨qb rfl,qdv rfl hv.size fun v w' h=>h⟩
   | 1,_ =>
    refine ⟨?_,?_,?_,?_,?_,?_,trivial⟩ <;> intro a1 wx hv hf hd
    · obtain ⟨a,cc,oa,oc,e1,e2,e3,e4⟩:=hd 9 rfl
      exact ⟨qb rfl,km rfl e1 ⟨oa,oc,rfl,e3⟩⟩
    · obtain ⟨a,cc,oa,oc,e1,e2,e3,e4⟩:=hd 9 rfl
      exact ⟨qb rfl,kk rfl e1 rfl⟩
    · obtain ⟨a,cc,oa,oc,e1,e2,e3,e4⟩:=hd 9 rfl
      exact ⟨qb rfl,kj rfl e1 rfl⟩
    · exact ⟨qb rfl,qr rfl (hd 11 rfl)⟩
    · exact ⟨qb rfl,qr rfl (hd 12 rfl)⟩
    · exact ⟨qb rfl,qr rfl (hd 13 rfl)⟩
 · intro p hp
   match p,hp with
   | 0,_ =>
    intro a2 wx hv hf hd;obtain ⟨g9,e9,hB9,hk9⟩:=hd 14 rfl;obtain ⟨a,cc,e10,hln,hlf⟩:=hd 10 rfl;refine ⟨qb rfl,wp_store_row 35 _ _ rfl g9 #[.int .i64 c.ph,.int .i64 c.left,.int .i64 c.tr,.slice a (List.length c.line) cc] e9 e10 35 _ hk9 j8 rfl (oneC ..) ?_⟩;exact ⟨undef,rfl,below_setRow hv hB9 _,trivial,⟨.inr fun _ _ _=>trivial,.inr fun _ _ _=>trivial,.inr fun _ _ _=>trivial,.inr fun _ _ _=>trivial,.inr fun _ _ _=>trivial,.inr fun _ _ _=>trivial,.inr fun _ _ _=>trivial,.inr fun _ _ _=>trivial,.inr fun _ _ _=>trivial,.inr fun _ _ h=>qiz hk9 (qw rfl) h,.inr fun _ _ _=>trivial,.inr fun _ _ h=>qbw hk9 (qw rfl) h,.inr fun _ _ h=>h,.inr fun _ _ h=>h,.inr fun v hv0 _=>by have h9:=hv0 _ 9 rfl rfl; rw [h9,e9]; exact ⟨g9,a,cc,rfl,hB9,setRow_heap _ _ _ _ _ _ hk9,hln.same fun x e hl=>setRow_other _ _ _ _ (qx hk9 (qw rfl) hln x e hl),hlf⟩,.inl rfl,.inr fun _ _ h=>h.elim,.inr fun _ _ h=>h.elim,.inr fun _ _ h=>h.elim,trivial⟩⟩
 · intro a2 w3 hv hf hh
   obtain ⟨oa,oc,e10a,hout⟩:=hh 16 (by decide);have e10:a2.eval (.tmp 10) = .slice oa (List.length out) oc:=e10a;have e11:a2.eval (.tmp 11) = .int .i64 n:=hh 17 (by decide);have e12:a2.eval (.tmp 12) = .int .i64 er:=hh 18 (by decide);obtain ⟨gk,a,cc,e9a,hgk,hk3,hln3,hlf3⟩:=hh 14 (by decide);have HLF:=Box.mk (show ∀ y,a=some y→c.line≠[]→w.heap.size≤y.block from fun y e hx=>by have:=hlf3 y e hx; have:=HB1.out.size; omega);clear hlf3;have e9:a2.eval (.tmp 9) = .pointer (some ⟨gk,0,none⟩):=e9a;clear hh e9a e10a;rw [jl hf];clear hf;simp only [kg,e9,e10,e11,e12];generalize a2.eval (.tmp 14)=u14;generalize a2.eval (.tmp 15)=u15;generalize a2.eval (.tmp 16)=u16;generalize a2.eval (.tmp 17)=u17;generalize a2.eval (.tmp 18)=u18;generalize a2.eval (.tmp 19)=u19;generalize a2.eval (.tmp 20)=u20;generalize a2.eval (.tmp 21)=u21;generalize a2.eval (.tmp 22)=u22;generalize a2.eval (.tmp 13)=u13;generalize a2.eval (.tmp 23)=u23;generalize a2.eval (.tmp 24)=u24;generalize a2.eval (.tmp 25)=u25;generalize a2.eval (.tmp 26)=u26;clear e9 e10 e11 e12 a2;simp only [Act.put,List.setIfInBounds_toArray,List.set_cons_succ,List.set_cons_zero];refine hKK _ _ ?_;clear hKK;have HM3:=Box.mk (HM1.out.keep hv);have HP3:=Box.mk (HO.out.keep hv);have HL3:=Box.mk (HL1.out.keep hv);have HK3:=Box.mk hk3;have HLN3:=Box.mk hln3;have HOUT3:=Box.mk hout;have HG3:=Box.mk (qs (qe HB1.out hv) (some g));have hlw3:w.heap.size+1<w3.heap.size:=Nat.lt_of_lt_of_le hlw hv.size;have hgk2:w.heap.size+1<gk:=Nat.lt_of_lt_of_le hlw hgk;clear hv hk3 hln3 hout HM1 HO HL1 HB1 HBB HLN hlw hgk HFE HRK HCK HSZ HY hrkb;have e0:(er != 0)=true:=by rw [bne_iff_ne]; exact h0
   clear h0;go_wp2_with (refine wpList_store_row rfl 41 _ _ rfl (w.heap.size+1) #[.int .i64 0,.slice none 0 0] rfl rfl 41 _ HP3.out j1 rfl (qap ..) ?_)
   (try simp only [Exit.inBlock,Exit.then])
   refine bodyPost_ret (ji rfl _ _ (w.heap.size+1) 41 #[.int .i64 0,.slice none 0 0] (0,0) _ rfl (setRow_heap _ _ _ _ _ _ HP3.out) Tryz.underlying41 rfl j1) rfl ?_;exact ⟨rfl,js HG3.out (by omega) _⟩
theorem qwb (s:RS) (b:List UInt8) (most body room:Int) (ba:Option Addr) (bc:Nat) (fa ga la:Option Addr) (fc gc lc:Nat) (g:Nat) (w:World) (hb:qg w ba b bc) (hl:b.length≤1000000) (hm:MVr w g (rowR s fa fc ga gc la lc)) (hln:qg w la s.ck.line lc) (hck:OkC s.ck) (hsz:0≤s.size∧s.size≤1000000000) (hy:0≤body∧body≤1000000000) (hr0:0≤room∧room≤1000000000) (er:Int) (c:Chk) (out:List UInt8) (n:Nat) (hF:jp (minI room (body+1-s.size)) s.ck [] 0 b=(er,c,out,n)) (hol:out.length≤1000000) (h0:er=0) (hbs:body<s.size+((List.length out:Nat):Int)) :
  Calls Tryz.prog 61 #[.pointer (some ⟨g,0,none⟩),.slice ba b.length bc,.agg #[.int .i64 most,.int .i64 body,.int .i64 room]] w fun e w'=>e = .returned (.tuple #[.agg #[.int .i64 0,.slice none 0 0],.int .i64 0,.int .i64 9])∧w.grownBy w' (some g):=by
 obtain ⟨cs,hcs⟩ : ∃ cs:Array Value,cs=(rowR s fa fc ga gc la lc):=⟨_,rfl⟩;have HCS:=Box.mk hcs;rw [← hcs] at hm;have hcs22:cs.size=22:=by rw [hcs]; rfl
 clear hcs;obtain ⟨W1,hW1⟩ : ∃ W1,W1=(w.alloc (.cells #[.int .i64 most,.int .i64 body,.int .i64 room] 69)).alloc (.cells #[.int .i64 0,.slice none 0 0] 41):=⟨_,rfl⟩;have HB1:=Box.mk (show Below w.heap.size w W1 by rw [hW1]; exact qk (qd _ _) _);have HL1:=Box.mk (show LVr W1 w.heap.size most body room by rw [hW1]; exact LVr.keep (heap_alloc_new w (.cells #[.int .i64 most,.int .i64 body,.int .i64 room] 69)) (qd _ _));have HO:=Box.mk (show PVr W1 (w.heap.size+1) #[.int .i64 0,.slice none 0 0] by
  have h:=heap_alloc_new (w.alloc (.cells #[.int .i64 most,.int .i64 body,.int .i64 room] 69)) (.cells #[.int .i64 0,.slice none 0 0] 41);rw [World.size_alloc] at h;rw [hW1]; exact h)
 have HW1:=Box.mk hW1;have HM1:=Box.mk (hm.keep HB1.out);have hlt:=hm.lt;have hlw:w.heap.size+1<W1.heap.size:=(Array.getElem?_eq_some_iff.1 HO.out).1;clear hW1 hm;have HN:=Box.mk (show NoU8 cs by rw [HCS.out]; exact qw rfl);have HBB:=Box.mk (hb.keep HB1.out);have HLN:=Box.mk (hln.keep HB1.out);have H17:=Box.mk (show cs[17]? = some (.int .i64 s.size) by rw [HCS.out]; rfl);have HCK:=Box.mk hck;obtain ⟨rk,hrk⟩ : ∃ rk:Int,rk=minI room (body+1-s.size):=⟨_,rfl⟩;have hrkb:-9223372036854775808≤rk∧rk≤9223372036854775807:=by have:=qbt room (body+1-s.size); rw [hrk]; omega
 have HRK:=Box.mk hrk;have HSZ:=Box.mk hsz;have HY:=Box.mk hy;have HFE:=Box.mk (show jp rk s.ck [] 0 b=(er,c,out,n) by rw [hrk]; exact hF);obtain ⟨hsz0,hsz1⟩:=hsz;clear hb hln hck hF hrk hy;have Bh0:=Box.mk h0;clear h0;go_enter Tryz.func61,Tryz.ntmps61
 go_upto_region 1 with fail
 rw [← HW1.out];clear HW1;go_wp2_with fail;rename_i KK hKK;refine qz [15] (fun p=>match p with | 0=>[0,1,2,3,4,5,6,7,8,9,10,11,12,13,14] | _=>[11,12,13,16,17,18])
  (fun p=>match p with | 0=>[.val (.pointer (some ⟨g,0,none⟩)),.val (.pointer (some ⟨g,0,none⟩)),.val (.pointer (some ⟨g,18,none⟩)),.val (.agg #[.int .i64 s.ck.ph,.int .i64 s.ck.left,.int .i64 s.ck.tr,.slice la (List.length s.ck.line) lc]),.val (.slice ba b.length bc),.val (.pointer (some ⟨g,0,none⟩)),.val (.agg #[.int .i64 most,.int .i64 body,.int .i64 room]),.val (.int .i64 rk),.fedR W1.heap.size er c out n,.fedR W1.heap.size er c out n,.agR W1.heap.size c,.bytes out,.val (.int .i64 n),.val (.int .i64 er),.cnewR W1.heap.size,.any,.nope,.nope,.nope] | _=>[.any,.any,.any,.any,.any,.any,.any,.any,.any,.fedR W1.heap.size er c out n,.any,.bytes out,.val (.int .i64 n),.val (.int .i64 er),.cstR W1.heap.size c,.any,.bytes out,.val (.int .i64 n),.val (.int .i64 er)])
  (fun _=>fun wx=>Below W1.heap.size W1 wx)
  (by kernel_rfl) (by kernel_rfl) (by kernel_rfl) (by kernel_rfl) (by kernel_rfl) (by kernel_rfl) ?_ (Below.refl _ _) ?_ ?_ ?_
 · intro p wa wb h hb
   exact qe h hb
 · intro p hp
   match p,hp with
   | 0,_ =>
    refine ⟨?_,?_,?_,?_,?_,?_,?_,?_,?_,?_,?_,?_,?_,?_,?_,trivial⟩ <;> intro a1 wx hv hf hd
    · exact ⟨qb rfl,qi rfl (hf.base 0 rfl)⟩
    · exact ⟨qb rfl,qaf rfl (hd 0 rfl) rfl⟩
    · exact ⟨qb rfl,qb0 rfl (hd 1 rfl) (by decide) rfl rfl⟩
    · have hra:wx.rangeAt g 18 [.int .i64 s.ck.ph,.int .i64 s.ck.left,.int .i64 s.ck.tr,.slice la (List.length s.ck.line) lc]:=fun j v hj=>by
       rw [(HM1.out.keep hv).cell,HCS.out]
       match j,hj with
       | 0,hj=>exact hj
       | 1,hj=>exact hj
       | 2,hj=>exact hj
       | 3,hj=>exact hj
       | (j+4),hj=>simp at hj
      exact ⟨qb rfl,kw rfl (by rw [show a1.eval (.tmp 16) = .pointer (some ⟨g,18,none⟩) from hd 2 rfl]; exact run_loadAt_mid wx g 18 35 _ _ hra Tryz.underlying35 rfl j8) rfl⟩
    · exact ⟨qb rfl,qi rfl (hf.base 1 rfl)⟩
    · exact ⟨qb rfl,qi rfl (hf.base 0 rfl)⟩
    · exact ⟨qb rfl,kw rfl (by rw [show a1.eval (.tmp 5) = .pointer (some ⟨w.heap.size,0,none⟩) from hf.base 5 rfl]; exact qeo _ _ _ _ _ (HL1.out.keep hv)) rfl⟩
    · refine ⟨qb rfl,jz rfl (by kernel_rfl) ?_⟩
      show Calls _ _ #[a1.eval (.tmp 19),a1.eval (.tmp 20)] _ _
      rw [show a1.eval (.tmp 19) = .pointer (some ⟨g,0,none⟩) from hd 5 rfl,show a1.eval (.tmp 20) = .agg #[.int .i64 most,.int .i64 body,.int .i64 room] from hd 6 rfl];refine (qd4 g cs most body room s.size wx (HM1.out.keep hv) H17.out HY.out HSZ.out).mono ?_;rintro e w' ⟨he,hbb⟩;exact ⟨_,he,hbb,by rw [HRK.out]; rfl⟩
    · refine ⟨qb rfl,jz rfl (by kernel_rfl) ?_⟩
      show Calls _ _ #[a1.eval (.tmp 17),a1.eval (.tmp 18),a1.eval (.tmp 21)] _ _
      rw [show a1.eval (.tmp 17) = .agg #[.int .i64 s.ck.ph,.int .i64 s.ck.left,.int .i64 s.ck.tr,.slice la (List.length s.ck.line) lc] from hd 3 rfl,show a1.eval (.tmp 18) = .slice ba b.length bc from hd 4 rfl,show a1.eval (.tmp 21) = .int .i64 rk from hd 7 rfl];refine (qc3 s.ck b rk la ba lc bc wx (HLN.out.keep hv) (HBB.out.keep hv) HCK.out (by omega) hrkb.1 hrkb.2).mono ?_;rintro e w' ⟨a,cc,oa,oc,he,hln,hout,hbb,hlf⟩;rw [HFE.out] at he hln hout hlf;exact ⟨_,he,hbb,a,cc,oa,oc,rfl,hln,hout,fun y e hx=>Nat.le_trans hv.size (hlf y e hx)⟩
    · exact ⟨qb rfl,qi rfl (hd 8 rfl)⟩
    · obtain ⟨a,cc,oa,oc,e1,e2,e3,e4⟩:=hd 9 rfl
      exact ⟨qb rfl,qbf rfl e1 ⟨a,cc,rfl,e2,e4⟩⟩
    · obtain ⟨a,cc,oa,oc,e1,e2,e3,e4⟩:=hd 9 rfl
      exact ⟨qb rfl,km rfl e1 ⟨oa,oc,rfl,e3⟩⟩
    · obtain ⟨a,cc,oa,oc,e1,e2,e3,e4⟩:=hd 9 rfl
      exact ⟨qb rfl,kk rfl e1 rfl⟩
    · obtain ⟨a,cc,oa,oc,e1,e2,e3,e4⟩:=hd 9 rfl
      exact ⟨qb rfl,kj rfl e1 rfl⟩
    · exact ⟨qb rfl,qdv rfl hv.size fun v w' h=>h⟩
   | 1,_ =>
    refine ⟨?_,?_,?_,?_,?_,?_,trivial⟩ <;> intro a1 wx hv hf hd
    · obtain ⟨a,cc,oa,oc,e1,e2,e3,e4⟩:=hd 9 rfl
      exact ⟨qb rfl,km rfl e1 ⟨oa,oc,rfl,e3⟩⟩
    · obtain ⟨a,cc,oa,oc,e1,e2,e3,e4⟩:=hd 9 rfl
      exact ⟨qb rfl,kk rfl e1 rfl⟩
    · obtain ⟨a,cc,oa,oc,e1,e2,e3,e4⟩:=hd 9 rfl
      exact ⟨qb rfl,kj rfl e1 rfl⟩
    · exact ⟨qb rfl,qr rfl (hd 11 rfl)⟩
    · exact ⟨qb rfl,qr rfl (hd 12 rfl)⟩
    · exact ⟨qb rfl,qr rfl (hd 13 rfl)⟩
 · intro p hp
   match p,hp with
   | 0,_ =>
    intro a2 wx hv hf hd;obtain ⟨g9,e9,hB9,hk9⟩:=hd 14 rfl;obtain ⟨a,cc,e10,hln,hlf⟩:=hd 10 rfl;refine ⟨qb rfl,wp_store_row 35 _ _ rfl g9 #[.int .i64 c.ph,.int .i64 c.left,.int .i64 c.tr,.slice a (List.length c.line) cc] e9 e10 35 _ hk9 j8 rfl (oneC ..) ?_⟩;exact ⟨undef,rfl,below_setRow hv hB9 _,trivial,⟨.inr fun _ _ _=>trivial,.inr fun _ _ _=>trivial,.inr fun _ _ _=>trivial,.inr fun _ _ _=>trivial,.inr fun _ _ _=>trivial,.inr fun _ _ _=>trivial,.inr fun _ _ _=>trivial,.inr fun _ _ _=>trivial,.inr fun _ _ _=>trivial,.inr fun _ _ h=>qiz hk9 (qw rfl) h,.inr fun _ _ _=>trivial,.inr fun _ _ h=>qbw hk9 (qw rfl) h,.inr fun _ _ h=>h,.inr fun _ _ h=>h,.inr fun v hv0 _=>by have h9:=hv0 _ 9 rfl rfl; rw [h9,e9]; exact ⟨g9,a,cc,rfl,hB9,setRow_heap _ _ _ _ _ _ hk9,hln.same fun x e hl=>setRow_other _ _ _ _ (qx hk9 (qw rfl) hln x e hl),hlf⟩,.inl rfl,.inr fun _ _ h=>h.elim,.inr fun _ _ h=>h.elim,.inr fun _ _ h=>h.elim,trivial⟩⟩
 · intro a2 w3 hv hf hh
   obtain ⟨oa,oc,e10a,hout⟩:=hh 16 (by decide);have e10:a2.eval (.tmp 10) = .slice oa (List.length out) oc:=e10a;have e11:a2.eval (.tmp 11) = .int .i64 n:=hh 17 (by decide);have e12:a2.eval (.tmp 12) = .int .i64 er:=hh 18 (by decide);obtain ⟨gk,a,cc,e9a,hgk,hk3,hln3,hlf3⟩:=hh 14 (by decide);have HLF:=Box.mk (show ∀ y,a=some y→c.line≠[]→w.heap.size≤y.block from fun y e hx=>by have:=hlf3 y e hx; have:=HB1.out.size; omega);clear hlf3;have e9:a2.eval (.tmp 9) = .pointer (some ⟨gk,0,none⟩):=e9a;clear hh e9a e10a;rw [jl hf];clear hf;simp only [kg,e9,e10,e11,e12];generalize a2.eval (.tmp 14)=u14;generalize a2.eval (.tmp 15)=u15;generalize a2.eval (.tmp 16)=u16;generalize a2.eval (.tmp 17)=u17;generalize a2.eval (.tmp 18)=u18;generalize a2.eval (.tmp 19)=u19;generalize a2.eval (.tmp 20)=u20;generalize a2.eval (.tmp 21)=u21;generalize a2.eval (.tmp 22)=u22;generalize a2.eval (.tmp 13)=u13;generalize a2.eval (.tmp 23)=u23;generalize a2.eval (.tmp 24)=u24;generalize a2.eval (.tmp 25)=u25;generalize a2.eval (.tmp 26)=u26;clear e9 e10 e11 e12 a2;simp only [Act.put,List.setIfInBounds_toArray,List.set_cons_succ,List.set_cons_zero];refine hKK _ _ ?_;clear hKK;have HM3:=Box.mk (HM1.out.keep hv);have HP3:=Box.mk (HO.out.keep hv);have HL3:=Box.mk (HL1.out.keep hv);have HK3:=Box.mk hk3;have HLN3:=Box.mk hln3;have HOUT3:=Box.mk hout;have HG3:=Box.mk (qs (qe HB1.out hv) (some g));have hlw3:w.heap.size+1<w3.heap.size:=Nat.lt_of_lt_of_le hlw hv.size;have hgk2:w.heap.size+1<gk:=Nat.lt_of_lt_of_le hlw hgk;clear hv hk3 hln3 hout HM1 HO HL1 HB1 HBB HLN hlw hgk HFE HRK HCK HSZ HY hrkb;have h0:=Bh0.out;clear Bh0;subst h0;obtain ⟨c1,hc1⟩ : ∃ y0:Array Value,y0=#[.bool s.rep,.string s.meth,.int .i64 s.ph,.string s.m,.string s.t,.int .i64 s.z,.slice fa (List.length s.xs) fc,.bool s.fr,.slice none 0 0,.int .i64 s.st,.string s.rs,.int .i64 s.z2,.slice ga (List.length s.ys) gc,.slice none 0 0,.int .i64 s.fk,.int .i64 s.fl,.int .i64 s.left,.int .i64 s.size,.int .i64 c.ph,.int .i64 c.left,.int .i64 c.tr,.slice a (List.length c.line) cc]:=⟨_,rfl⟩;have HC1:=Box.mk hc1;obtain ⟨c2,hc2⟩ : ∃ y0:Array Value,y0=#[.bool s.rep,.string s.meth,.int .i64 s.ph,.string s.m,.string s.t,.int .i64 s.z,.slice fa (List.length s.xs) fc,.bool s.fr,.slice none 0 0,.int .i64 s.st,.string s.rs,.int .i64 s.z2,.slice ga (List.length s.ys) gc,.slice none 0 0,.int .i64 s.fk,.int .i64 s.fl,.int .i64 s.left,.int .i64 (s.size+((List.length out:Nat):Int)),.int .i64 c.ph,.int .i64 c.left,.int .i64 c.tr,.slice a (List.length c.line) cc]:=⟨_,rfl⟩;have HC2:=Box.mk hc2;clear hc1 hc2;go_upto_region 5 with (first | refine wpList_load_row rfl 35 _ rfl gk rfl 35 #[.int .i64 c.ph,.int .i64 c.left,.int .i64 c.tr,.slice a (List.length c.line) cc] (0,0) _ HK3.out Tryz.underlying35 rfl j8 ?_ | refine jk rfl 35 _ _ rfl g 18 #[.int .i64 c.ph,.int .i64 c.left,.int .i64 c.tr,.slice a (List.length c.line) cc] rfl rfl 61 _ c1 HM3.out j8 (by rw [hcs22]; show 18+4≤22; decide) (oneC ..) (by rw [HCS.out,HC1.out]; rfl) ?_)
   obtain ⟨W4,hW4⟩ : ∃ W4,W4=w3.setRow g c1:=⟨_,rfl⟩;have HM4:=Box.mk (show MVr W4 g c1 by rw [hW4]; exact setRow_heap _ _ _ _ _ _ HM3.out);have HG34:=Box.mk (show w3.grownBy W4 (some g) by rw [hW4]; exact jy _ _ _);have hc17:W4.cell? ⟨g,17,none⟩=some (.int .i64 s.size):=by rw [HM4.out.cell,HC1.out]; rfl
   have hz17:W4.frozen? ⟨g,17,none⟩=false:=HM4.out.frozen 17;rw [← hW4];clear hW4;go_upto_region 6 with fail
   obtain ⟨W5,hW5⟩ : ∃ W5,W5=W4.setCell ⟨g,17,none⟩ (.int .i64 (s.size+((List.length out:Nat):Int))):=⟨_,rfl⟩;have HM5:=Box.mk (show MVr W5 g c2 by rw [hW5]; have h:=HM4.out.put (i:=17) (v:=.int .i64 (s.size+((List.length out:Nat):Int))); rw [show c1.setIfInBounds 17 (.int .i64 (s.size+((List.length out:Nat):Int)))=c2 by rw [HC1.out,HC2.out]; rfl] at h; exact h);have hg35:w3.grownBy W5 (some g):=by rw [hW5]; exact qh HG34.out (qu _ _ _ _)
   have hP5:PVr W5 (w.heap.size+1) #[.int .i64 0,.slice none 0 0]:=(hg35.block _ hlw3 (fun e=>by injection e with e; omega)).trans HP3.out;have hL5:LVr W5 w.heap.size most body room:=(hg35.block _ (by omega) (fun e=>by injection e with e; omega)).trans HL3.out;have hK5:CVar W5 gk c.ph c.left c.tr (.slice a (List.length c.line) cc):=(hg35.block _ HK3.out.lt (fun e=>by injection e with e; omega)).trans HK3.out;have hLN5:=HLN3.out.grownR hg35 (qx HM3.out HN.out HLN3.out);have hOUT5:=HOUT3.out.grownR hg35 (qx HM3.out HN.out HOUT3.out);have hG5:=qh HG3.out hg35;have hlw5:w.heap.size+1<W5.heap.size:=Nat.lt_of_lt_of_le hlw3 hg35.size;have hm17:W5.cell? ⟨g,17,none⟩=some (.int .i64 (s.size+((List.length out:Nat):Int))):=by rw [HM5.out.cell,HC2.out]; rfl
   have hl1:W5.cell? ⟨w.heap.size,1,none⟩=some (.int .i64 body):=by rw [cell_of_row _ _ _ _ _ _ hL5]; rfl
   rw [← hW5];have HDR:∀ k,Below W5.heap.size W5 (W5.drewN k):=fun k=>below_drewN (Below.refl _ _) k;have HM6:=Box.mk (fun k=>HM5.out.keep (HDR k));have HP6:=Box.mk (fun k=>hP5.keep (HDR k));have HK6:=Box.mk (fun k=>hK5.keep (HDR k));have HLN6:=Box.mk (fun k=>hLN5.keep (HDR k));have HOUT6:=Box.mk (fun k=>hOUT5.keep (HDR k));have HG6:=Box.mk (fun k=>qh hG5 (qs (HDR k) (some g)));have HLW:=Box.mk (fun k=>Nat.lt_of_lt_of_le hlw5 (HDR k).size);clear hW5 hc17 hz17 HM3 HM4 HM5 HG34 hg35 hP5 hL5 hK5 hLN5 hOUT5 hG5 hlw5 HDR HP3 HL3 HK3 HLN3 HOUT3 HG3 hlw3 HC1 HCS hcs22 HN H17;have hgt:s.size+((List.length out:Nat):Int) > body:=by omega
   clear hbs;go_wp2_with fail;go_quiet (fail)
   go_wp2_with (refine wpList_store_row rfl 41 _ _ rfl (w.heap.size+1) #[.int .i64 0,.slice none 0 0] rfl rfl 41 _ (HP6.out _) j1 rfl (qap ..) ?_)
   (try simp only [Exit.inBlock,Exit.then])
   refine bodyPost_ret (ji rfl _ _ (w.heap.size+1) 41 #[.int .i64 0,.slice none 0 0] (0,0) _ rfl (setRow_heap _ _ _ _ _ _ (HP6.out _)) Tryz.underlying41 rfl j1) rfl ?_;exact ⟨rfl,js (HG6.out _) (by omega) _⟩
end Go.Proofs.YtflhjpokjdjbpaaGreatDoor
namespace Go.Proofs.YtflhjpokjdjbpaaGreatDoor
open Go.RowKit
def NoFz (n:Nat) (fz:Nat × Nat):Prop:=fz.2=0∨n≤fz.1
theorem qmn {w:World} {g i:Nat} {cur:Array Value} {t:TypeId} {fz:Nat × Nat} (hg:w.heap[g]? = some (.cells cur t fz)) (hf:NoFz cur.size fz) (hi:i<cur.size):w.frozen? ⟨g,i,none⟩=false:=by
 obtain ⟨lo,hi'⟩:=fz;simp only [World.frozen?,hg,Bool.and_eq_false_iff,decide_eq_false_iff_not];rcases hf with h | h
 · right; simp only at h; omega
 · left; simp only at h; omega
theorem qcb (P:Program) (g o:Nat) (t:TypeId) (fz:Nat × Nat):∀ (vs:List Value) (i:Nat) (cur:Array Value) (w:World),w.heap[g]? = some (.cells cur t fz)→NoFz cur.size fz→o+i+vs.length≤cur.size→(∀ v ∈ vs,v.oneCell'=true) →
  (storeCells ⟨g,o,none⟩ vs i).run P w = .ok () (w.setRow g (cur.toList.take (o+i)++vs++cur.toList.drop (o+i+vs.length)).toArray)
 | [],i,cur,w,hg,_,_,_=>by
  simp only [storeCells,List.append_nil,List.length_nil,Nat.add_zero,List.take_append_drop,Array.toArray_toList];rw [setRow_self w g cur t fz hg];rfl
 | v :: rest,i,cur,w,hg,hfz,hl,h1=>by
  have hi:o+i<cur.size:=by simp at hl; omega
  have hadd:(⟨g,o,none⟩ : Addr).add i=⟨g,o+i,none⟩:=by unfold Addr.add; split <;> simp_all
  have hcell:w.cell? ⟨g,o+i,none⟩=some cur[o+i]:=by simp [World.cell?,hg,hi]
  have hfro:w.frozen? ⟨g,o+i,none⟩=false:=qmn hg hfz hi;have hst:(store ((⟨g,o,none⟩ : Addr).add i) v).run P w = .ok () (w.setRow g (cur.setIfInBounds (o+i) v)):=by
   rw [hadd,run_store P w _ v _ (h1 v (by simp)),hcell];simp [hfro,setCell_eq_setRow w g (o+i) cur t fz v hg]
  have ih:=qcb P g o t fz rest (i+1) (cur.setIfInBounds (o+i) v) (w.setRow g (cur.setIfInBounds (o+i) v)) (setRow_heap w g cur _ t _ hg) (by rw [Array.size_setIfInBounds]; exact hfz) (by simp at hl ⊢; omega) (fun x hx=>h1 x (by simp [hx]));simp only [storeCells,Sem.run_bind,hst,Result.andThen_ok,ih,setRow_setRow];congr 3;have e:=list_seg_step cur.toList (o+i) v rest (by simp at hl ⊢; omega);simpa [Array.toList_setIfInBounds,Nat.add_assoc] using e
def OwnM (B:Nat) (w:World) (v:Value) (l:List UInt8):Prop :=
 ∃ g cap cur fz,v = .slice (some ⟨g,0,none⟩) l.length cap∧B≤g∧w.heap[g]? = some (.cells cur 5 fz)∧NoFz cur.size fz∧l.length≤cap∧cap≤maxLen∧cur.size=cap∧cur.toList.take l.length=j9 l
theorem OwnM.lt {B:Nat} {w:World} {v:Value} {l:List UInt8} (h:OwnM B w v l) {k:Nat} (hk:v.ownBlock=some k):B≤k∧k<w.heap.size:=by
 obtain ⟨g,cap,cur,fz,rfl,hb,hg,_⟩:=h;obtain rfl:g=k:=Option.some.inj hk;exact ⟨hb,(Array.getElem?_eq_some_iff.1 hg).1⟩
theorem OwnM.same {B:Nat} {w w':World} {v:Value} {l:List UInt8} (h:OwnM B w v l) (hs:∀ k,v.ownBlock=some k→w'.heap[k]? = w.heap[k]?):OwnM B w' v l:=by
 obtain ⟨g,cap,cur,fz,hv,hb,hg,r⟩:=h;exact ⟨g,cap,cur,fz,hv,hb,by rw [hs g (by rw [hv]; rfl)]; exact hg,r⟩
theorem OwnM.keep {B:Nat} {w w':World} {v:Value} {l:List UInt8} (h:OwnM B w v l) (hb:Below w.heap.size w w'):OwnM B w' v l :=
 h.same fun k hk=>hb.block k (h.lt hk).2
theorem OwnM.low {B B':Nat} {w:World} {v:Value} {l:List UInt8} (h:OwnM B w v l) (hB:B'≤B):OwnM B' w v l:=by
 obtain ⟨g,cap,cur,fz,hv,hb,r⟩:=h;exact ⟨g,cap,cur,fz,hv,Nat.le_trans hB hb,r⟩
theorem OwnM.form {B:Nat} {w:World} {v:Value} {l:List UInt8} (h:OwnM B w v l):∃ g c,v = .slice (some ⟨g,0,none⟩) l.length c∧l.length≤c∧qg w (some ⟨g,0,none⟩) l c:=by
 obtain ⟨g,cap,cur,fz,rfl,hb,hg,hf,h1,h2,h3,ht⟩:=h;refine ⟨g,cap,rfl,h1,.inr ⟨_,rfl,h1,h2,fun j hj=>?_⟩⟩;have e:cur.toList[j]? = some (Value.int .u8 (l[j].toNat:Int)):=by
  have:=congrArg (fun x=>x[j]?) ht;simp only [j9] at this;rw [List.getElem?_take_of_lt hj,List.getElem?_map,List.getElem?_eq_getElem hj] at this;exact this
 rw [Addr.add_lit];simp only [World.cell?,hg,Nat.zero_add];simpa using e
theorem OwnM.thawed {B g c n:Nat} {w:World} {l:List UInt8} (h:OwnM B w (.slice (some ⟨g,0,none⟩) n c) l) {k:Nat} (hk:k<l.length):w.frozen? ⟨g,k,none⟩=false:=by
 obtain ⟨g',cap,cur,fz,hv,hb,hg,hf,h1,h2,h3,ht⟩:=h;injection hv with e1 _ _;injection e1 with e1;injection e1 with e1 _ _;subst e1;exact qmn hg hf (by omega)
theorem OwnM.put8 {B g c n:Nat} {w:World} {l:List UInt8} (h:OwnM B w (.slice (some ⟨g,0,none⟩) n c) l) (k:Nat) (x:UInt8) :
  OwnM B (w.setCell ⟨g,k,none⟩ (.int .u8 (x.toNat:Int))) (.slice (some ⟨g,0,none⟩) n c) (l.set k x)∧w.grownBy (w.setCell ⟨g,k,none⟩ (.int .u8 (x.toNat:Int))) (some g):=by
 obtain ⟨g',cap,cur,fz,hv,hb,hg,hf,h1,h2,h3,ht⟩:=h;injection hv with e1 e2 e3;injection e1 with e1;injection e1 with e1 _ _;subst e1 e2 e3;refine ⟨?_,qa9⟩;rw [setCell_eq_setRow w g k cur 5 fz _ hg];refine ⟨g,c,_,fz,by rw [List.length_set],hb,setRow_heap w g cur _ _ _ hg,by rw [Array.size_setIfInBounds]; exact hf,by rw [List.length_set]; exact h1,h2,by rw [Array.size_setIfInBounds]; exact h3,?_⟩;rw [List.length_set,Array.toList_setIfInBounds,List.take_set,ht];unfold j9; rw [List.map_set]
theorem OwnM.of_own {B:Nat} {w:World} {v:Value} {l:List UInt8} (h:Own B w v l) (hl:0<l.length):OwnM B w v l:=by
 obtain ⟨_,h2⟩:=h;rcases h2 with ⟨_,h3⟩ | ⟨g,cap,cur,hv,hb,hg,hn,hm,hs,ht⟩
 · omega
 · exact ⟨g,cap,cur,(0,0),hv,hb,hg,.inl rfl,hn,hm,by simpa using hs,by simpa using ht⟩
theorem OwnM.conv (w:World) (s:ByteArray) (hs:s.size≤4000000000):OwnM w.heap.size (Lib.bytesWorld w 5 s) (.slice (some ⟨w.heap.size,0,none⟩) s.size (grownCap w s.size 0 5)) s.data.toList:=by
 have hge:=grownCap_ge w s.size 0 5;have hz:(Lib.bytesCells w 5 s).size=grownCap w s.size 0 5:=by
  unfold Lib.bytesCells;rw [Array.size_append,Array.size_map,Array.size_replicate];have:s.data.size=s.size:=rfl;omega
 have el:s.data.toList.length=s.size:=by rw [Array.length_toList]; rfl
 refine ⟨w.heap.size,_,_,_,by rw [el],Nat.le_refl _,Lib.bytesWorld_at_new w 5 s,.inr (Nat.le_refl _),by rw [el]; exact hge,grownCap_le_maxLen w s.size 0 5 (by unfold maxLen; omega),hz,?_⟩;unfold Lib.bytesCells;rw [Array.toList_append,el,List.take_left' (by rw [Array.length_toList,Array.size_map]; rfl),Array.toList_map];rfl
theorem qun (w:World) (ty:TypeId) {B:Nat} {v:Value} {l:List UInt8} (h:OwnM B w v l) (s:ByteArray) (hn:l.length+s.size≤1000000000) (hB:B≤w.heap.size) :
  ∃ v' w',(Builtin.append_ #[23,9] ty #[v,.string s]).run Tryz.prog w = .ok v' w'∧OwnM B w' v' (l++s.data.toList)∧w.grownBy w' v.ownBlock∧(v'.ownBlock=v.ownBlock∨v'.ownBlock=some w.heap.size):=by
 obtain ⟨i0,hi,hz0,hz1,hz2⟩:=info_parts Tryz.info5;obtain ⟨g,cap,cur,fz,rfl,hb,hg,hf,h1,h2,h3,ht⟩:=h;have el:(l++s.data.toList).length=l.length+s.size:=by rw [List.length_append,Array.length_toList]; rfl
 have ev:j9 (l++s.data.toList)=j9 l++Lib.strCells s:=by unfold j9 Lib.strCells; rw [List.map_append]
 have es:=Lib.strCells_length s;by_cases hroom:l.length+s.size≤cap
 · have hf1:=Lib.run_firstCells_string (P:=Tryz.prog) w 1 s
   have hst:=qcb Tryz.prog g l.length 5 fz (Lib.strCells s) 0 cur w hg hf (by rw [es]; omega) (Lib.strCells_oneCell s);simp only [Nat.add_zero,es] at hst;have hr:(Builtin.append_ #[23,9] ty #[.slice (some ⟨g,0,none⟩) l.length cap,.string s]).run Tryz.prog w = .ok (.slice (some ⟨g,0,none⟩) (l.length+s.size) cap) (w.setRow g (cur.toList.take l.length++Lib.strCells s++cur.toList.drop (l.length+s.size)).toArray):=by
    simp [Builtin.append_,run_underlying Tryz.underlying23,run_underlying Tryz.underlying9,sizeOf,typeInfo,hi,hz1,Builtin.lenOf,hroom,hf1,Addr.add_lit,hst]
   have hcz:((cur.toList.take l.length++Lib.strCells s++cur.toList.drop (l.length+s.size)).toArray).size=cur.size:=by
    simp only [List.size_toArray,List.length_append,List.length_take,List.length_drop,Array.length_toList,es];omega
   refine ⟨_,_,hr,⟨g,cap,_,fz,by rw [el],hb,setRow_heap w g cur _ _ _ hg,by rw [hcz]; exact hf,by rw [el]; exact hroom,h2,by rw [hcz]; exact h3,?_⟩,⟨rfl,rfl,rfl,by simp,fun k _ hk=>setRow_other w g k _ (fun e=>hk (by simp [Value.ownBlock,e]))⟩,.inl rfl⟩;rw [ht,ev,el];have e9:l.length+s.size=(j9 l++Lib.strCells s).length:=by rw [List.length_append,es,ke]
   rw [e9];exact List.take_left
 · have holds:∀ j u,(j9 l)[j]? = some u→w.cell? ((⟨g,0,none⟩ : Addr).add j)=some u:=by
    intro j u hu;rw [Addr.add_lit,Nat.zero_add,cell_of_row w g j cur _ _ hg];rw [← ht,List.getElem?_take] at hu
    split at hu
    · simpa using hu
    · cases hu
   have hr:=Lib.run_append_grow_string (P:=Tryz.prog) w 23 9 ty 5 i0 (.int .u8 0) Tryz.underlying23 Tryz.underlying9 hi hz0 ⟨g,0,none⟩ l.length cap (j9 l) (by rw [hz1,ke,Nat.mul_one]) holds s (by omega) (by omega) (by rw [hz2]; exact growslice_fits (by omega) (by omega));have hge:=grownCap_ge w (l.length+s.size) cap 5;have hcm:grownCap w (l.length+s.size) cap 5≤maxLen:=grownCap_le_maxLen w _ cap _ (by unfold maxLen; omega);refine ⟨_,_,hr,⟨w.heap.size,_,_,(0,0),by rw [el],hB,heap_alloc_new w.drew _,.inl rfl,by rw [el]; exact hge,hcm,?_,?_⟩,⟨rfl,rfl,rfl,by simp,fun k hk _=>heap_alloc_old w.drew _ hk⟩,.inr rfl⟩
   · have hzz:(Value.int IntKind.u8 0).cells.size=1:=rfl
     simp only [Array.size_append,List.size_toArray,size_zeroCells,hzz,ke,es];omega
   · simp only [Array.toList_append,List.append_assoc]
     rw [← List.append_assoc,ev,el];have e9:l.length+s.size=(j9 l++Lib.strCells s).length:=by rw [List.length_append,es,ke]
     rw [e9];exact List.take_left
theorem qym (w:World) (ty:TypeId) {B:Nat} {v:Value} {l:List UInt8} (h:OwnM B w v l) {a:Option Addr} {r:List UInt8} {c:Nat} (hr:qg w a r c) (hn:l.length+r.length≤1000000000) (hB:B≤w.heap.size) :
  ∃ v' w',(Builtin.append_ #[23,23] ty #[v,.slice a r.length c]).run Tryz.prog w = .ok v' w'∧OwnM B w' v' (l++r)∧w.grownBy w' v.ownBlock∧(v'.ownBlock=v.ownBlock∨v'.ownBlock=some w.heap.size):=by
 obtain ⟨i0,hi,hz0,hz1,hz2⟩:=info_parts Tryz.info5;obtain ⟨g,cap,cur,fz,rfl,hb,hg,hf,h1,h2,h3,ht⟩:=h;have el:(l++r).length=l.length+r.length:=List.length_append;have ev:j9 (l++r)=j9 l++j9 r:=by unfold j9; rw [List.map_append]
 rcases hr with ⟨rfl,rfl,rfl⟩ | ⟨ad,rfl,hr1,hr2,hr3⟩
 · refine ⟨.slice (some ⟨g,0,none⟩) l.length cap,w,?_,by rw [List.append_nil]; exact ⟨g,cap,cur,fz,rfl,hb,hg,hf,h1,h2,h3,ht⟩,⟨rfl,rfl,rfl,Nat.le_refl _,fun _ _ _=>rfl⟩,.inl rfl⟩
   simp [Builtin.append_,run_underlying Tryz.underlying23,sizeOf,typeInfo,hi,Builtin.lenOf,Builtin.firstCells,loadCells,h1,storeCells]
 · have hnews:∀ j u,(j9 r)[j]? = some u→w.cell? (ad.add j)=some u:=by
    intro j u hj;unfold j9 at hj;rw [List.getElem?_map] at hj;obtain ⟨c',hc',rfl⟩:=Option.map_eq_some_iff.1 hj;obtain ⟨hlt,rfl⟩:=List.getElem?_eq_some_iff.1 hc';exact hr3 j hlt
   have hone:∀ u ∈ j9 r,u.oneCell'=true:=by
    intro u hu;unfold j9 at hu;obtain ⟨c',_,rfl⟩:=List.mem_map.1 hu;rfl
   by_cases hroom:l.length+r.length≤cap
   · have hf1:=run_firstCells_some (P:=Tryz.prog) w i0.size r.length ad r.length c (j9 r) (by rw [hz1,ke,Nat.mul_one]) hnews
     have hst:=qcb Tryz.prog g l.length 5 fz (j9 r) 0 cur w hg hf (by rw [ke]; omega) hone;simp only [Nat.add_zero,ke] at hst;rw [hz1] at hf1;have hr:(Builtin.append_ #[23,23] ty #[.slice (some ⟨g,0,none⟩) l.length cap,.slice (some ad) r.length c]).run Tryz.prog w = .ok (.slice (some ⟨g,0,none⟩) (l.length+r.length) cap) (w.setRow g (cur.toList.take l.length++j9 r++cur.toList.drop (l.length+r.length)).toArray):=by
      simp [Builtin.append_,run_underlying Tryz.underlying23,sizeOf,typeInfo,hi,hz1,Builtin.lenOf,hroom,hf1,Addr.add_lit,hst]
     have hcz:((cur.toList.take l.length++j9 r++cur.toList.drop (l.length+r.length)).toArray).size=cur.size:=by
      simp only [List.size_toArray,List.length_append,List.length_take,List.length_drop,Array.length_toList,ke];omega
     refine ⟨_,_,hr,⟨g,cap,_,fz,by rw [el],hb,setRow_heap w g cur _ _ _ hg,by rw [hcz]; exact hf,by rw [el]; exact hroom,h2,by rw [hcz]; exact h3,?_⟩,⟨rfl,rfl,rfl,by simp,fun k _ hk=>setRow_other w g k _ (fun e=>hk (by simp [Value.ownBlock,e]))⟩,.inl rfl⟩;rw [ht,ev,el];have e9:l.length+r.length=(j9 l++j9 r).length:=by rw [List.length_append,ke,ke]
     rw [e9];exact List.take_left
   · have holds:∀ j u,(j9 l)[j]? = some u→w.cell? ((⟨g,0,none⟩ : Addr).add j)=some u:=by
      intro j u hu;rw [Addr.add_lit,Nat.zero_add,cell_of_row w g j cur _ _ hg];rw [← ht,List.getElem?_take] at hu
      split at hu
      · simpa using hu
      · cases hu
     have hr:=run_append_grow (P:=Tryz.prog) w 23 ty 5 i0 (.int .u8 0) Tryz.underlying23 hi hz0 ⟨g,0,none⟩ l.length cap (j9 l) (by rw [hz1,ke,Nat.mul_one]) holds ad r.length c (j9 r) (by rw [hz1,ke,Nat.mul_one]) hnews (by omega) (by omega) (by rw [hz2]; exact growslice_fits (by omega) (by omega));have hge:=grownCap_ge w (l.length+r.length) cap 5;have hcm:grownCap w (l.length+r.length) cap 5≤maxLen:=grownCap_le_maxLen w _ cap _ (by unfold maxLen; omega);refine ⟨_,_,hr,⟨w.heap.size,_,_,(0,0),by rw [el],hB,heap_alloc_new w.drew _,.inl rfl,by rw [el]; exact hge,hcm,?_,?_⟩,⟨rfl,rfl,rfl,by simp,fun k hk _=>heap_alloc_old w.drew _ hk⟩,.inr rfl⟩
     · have hzz:(Value.int IntKind.u8 0).cells.size=1:=rfl
       simp only [Array.size_append,List.size_toArray,size_zeroCells,hzz,ke];omega
     · simp only [Array.toList_append,List.append_assoc]
       rw [← List.append_assoc,ev,el];have e9:l.length+r.length=(j9 l++j9 r).length:=by rw [List.length_append,ke,ke]
       rw [e9];exact List.take_left
section
variable {ops:Array Oper} {rest:List Oper} {o:Oper} {act:Act} {Q:Exit→Act→World→Prop}
theorem qae (w:World) (hgd:o.guard=none) (s x:Operand) (ho:o.op = .call { callee:=.builtin .append,args:=#[s,x],argTypes:=#[23,23] })
  {B:Nat} {v:Value} {l:List UInt8} (hs:act.eval s=v) (h:OwnM B w v l) {a:Option Addr} {r:List UInt8} {c:Nat} (hx:act.eval x = .slice a r.length c) (hr:qg w a r c) (hn:l.length+r.length≤1000000000) (hB:B≤w.heap.size)
  (K:∀ v' w',OwnM B w' v' (l++r)→w.grownBy w' v.ownBlock→(v'.ownBlock=v.ownBlock∨v'.ownBlock=some w.heap.size)→wpList Tryz.prog ops Q rest (act.put o.dst v') w'):wpList Tryz.prog ops Q (o :: rest) act w:=by
 refine wpList_plain hgd fun K2 hK=>?_;obtain ⟨v',w',hr',h2,h3,h4⟩:=qym w o.type h hr hn hB;unfold Oper.wp execOp;simp only [ho,resolve,invoke,builtin,Sem.run_bind,Sem.run_pure,Result.andThen_ok,List.map_toArray,List.map_cons,List.map_nil,hs,hx,hr'];exact hK _ _ (K v' w' h2 h3 h4)
end
end Go.Proofs.YtflhjpokjdjbpaaGreatDoor
namespace Go.Proofs.YtflhjpokjdjbpaaGreatDoor
open Go.RowKit
theorem qrl:(qh0.all fun s=>decide (s.size≤20))=true:=by decide +kernel
theorem qug:(qqu.all fun s=>decide (s.size≤40))=true:=by decide +kernel
def qsa (x:List Fld):Prop:=∀ f ∈ x,f.1.size+f.2.size≤60
theorem SrcF.tiny {f:Fld} (h:SrcF f):f.1.size+f.2.size≤60:=by
 obtain ⟨s,hs,v,hv,rfl⟩:=h;have h1:=of_decide_eq_true (List.all_eq_true.1 qrl s hs);have h2:=of_decide_eq_true (List.all_eq_true.1 qug v hv);have h3:=qbv v;show s.size+(jf v).size≤60
 omega
theorem qqx {x:List Fld} {f:Fld} (h:qsa x) (hf:f.1.size+f.2.size≤60):qsa (x++[f]):=fun k hk=>by
 rcases List.mem_append.1 hk with h1 | h1
 · exact h k h1
 · obtain rfl:=List.mem_singleton.1 h1; exact hf
theorem RF1.tiny {x:List Fld} (h:RF1 x):qsa x:=by
 obtain ⟨y,h1,_,rfl⟩:=h;exact qqx (fun f hf=>(h1 f hf).tiny) (by decide)
theorem RF2.tiny {x:List Fld} (h:RF2 x):qsa x:=by
 rcases h with h | ⟨y,s,h1,h2,rfl⟩
 · exact h.tiny
 · refine qqx h1.tiny ?_
   show (6:Nat)+(qcx++s).size≤60
   rw [ByteArray.size_append,h2.1]; decide
theorem RF3.tiny {x:List Fld} (h:RF3 x):qsa x:=by
 rcases h with h | ⟨y,h1,rfl⟩
 · exact h.tiny
 · exact qqx h1.tiny (by decide)
theorem qhl:∀ (x:List Fld),qsa x→(kz x).length≤64*x.length
 | [],_=>by simp [kz]
 | f :: x,h=>by
  have h1:=qhl x fun k hk=>h k (List.mem_cons_of_mem _ hk);have h2:=h f (List.mem_cons_self ..);unfold kz at *;rw [List.flatMap_cons,List.length_append,qs2,List.length_cons];omega
theorem qsa.small {x:List Fld} (h:qsa x):qbe x:=fun f hf=>by
 have:=h f hf;omega
theorem qy5 {z:Int} (h:z=0∨z=1):(fmtS 10 z).size≤1:=by
 rcases h with rfl | rfl
 · decide +kernel
 · decide +kernel
theorem qyk:(qih.all fun s=>decide (s.size≤4))=true:=by decide +kernel
theorem qzn:(qib.all fun s=>decide (s.size≤8))=true:=by decide +kernel
theorem ql9 {m t:ByteArray} {z:Int} (hm:m ∈ qih) (ht:t ∈ qib) (hz:z=0∨z=1):0<(jd m t z).size∧(jd m t z).size≤40:=by
 have h1:=of_decide_eq_true (List.all_eq_true.1 qyk m hm);have h2:=of_decide_eq_true (List.all_eq_true.1 qzn t ht);have h3:=qy5 hz;have h4:=(qlw hm).1;have h5:=(qlp ht).1;unfold jd;rw [if_pos ⟨h4,h5,by omega,by omega⟩];simp only [ByteArray.size_append];have e1:qkp.size=8:=rfl;have e2:(⟨#[32]⟩ : ByteArray).size=1:=rfl;omega
theorem qvq (w:World) (e:TypeId) (s:ByteArray):Below w.heap.size w (Lib.bytesWorld w e s) :=
 ⟨rfl,rfl,rfl,by rw [Lib.bytesWorld_size]; omega,fun k hk=>Lib.bytesWorld_at_old w e s k hk⟩
theorem jcm.own {w w':World} {l:List UInt8} {e:Ending} (h:jcm w l e w') (h0:0<l.length) (h1:l.length≤4000000000):∃ v,e = .returned v∧OwnM w.heap.size w' v l∧Below w.heap.size w w':=by
 rcases h with ⟨rfl,_⟩ | ⟨W,s,rfl,_,rfl,rfl,hb⟩
 · simp at h0
 · refine ⟨_,rfl,(OwnM.conv W s ?_).low hb.size,qe hb (qvq W _ s)⟩
   rw [Array.length_toList] at h1;exact h1
def Spec.strsNew (B:Nat) (l:List ByteArray):Spec:=⟨fun v w=>∃ b,v = .slice (some ⟨b,0,none⟩) l.length l.length∧B≤b∧qbn w (some ⟨b,0,none⟩) l,fun _ _ _ h hb=>by
 obtain ⟨b,h1,h2,h3⟩:=h;exact ⟨b,h1,h2,h3.keep hb⟩⟩
def Spec.strOf (l:List ByteArray):Spec:=⟨fun v _=>∃ s ∈ l,v = .string s,fun _ _ _ h _=>h⟩
section
variable {Q:Exit→Act→World→Prop} {act:Act} {w:World} {o:Oper} {s:Spec} {K:Act→World→Prop}
theorem qrw {ps:Array (Nat × Operand)} {len:Nat} (l:List ByteArray) (hl:l.length=len) (ho:o.op = .buildSlice 57 len ps) (hps:ps.map (fun p=>(p.1,act.eval p.2))=(l.zipIdx.map fun p=>(p.2,Value.string p.1)).toArray)
  (h0:0<l.length) (h1:l.length≤1000) (hfill:Instr.fill (fun i=>some (i*1,1)) ((Array.range (len*1)).map ((Value.string ⟨#[]⟩).cells[· % (Value.string ⟨#[]⟩).cells.size]!)) (l.zipIdx.map fun p=>(p.2,Value.string p.1))=some (l.map Value.string).toArray)
  (hs:qbn (w.alloc (.cells (l.map Value.string).toArray 9)) (some ⟨w.heap.size,0,none⟩) l→s.p (.slice (some ⟨w.heap.size,0,none⟩) l.length l.length) (w.alloc (.cells (l.map Value.string).toArray 9))) :
  o.wp Tryz.prog act w (fun a' w'=>∃ v,a'=act.put o.dst v∧Below w.heap.size w w'∧s.p v w') Q:=by
 subst hl;obtain ⟨i0,hi,hz0,hz1,hz2⟩:=info_parts Tryz.info9;have hrun:=run_buildSlice (P:=Tryz.prog) w 57 9 l.length (l.zipIdx.map fun p=>(p.2,Value.string p.1)).toArray (l.map Value.string).toArray i0 _ Tryz.underlying57 hi hz0 (by rw [hz1]; omega) (by rw [hz1]; omega) (by rw [hz1]; exact hfill);refine j0 (v:=.slice (some ⟨w.heap.size,0,none⟩) l.length l.length) (w':=w.alloc (.cells (l.map Value.string).toArray 9)) ?_ (qd _ _) (hs (qch w l _));unfold execOp;simp only [ho];rw [hps,Sem.run_bind,hrun]; rfl
theorem qp9 (w:World):(sizeOf 5).run Tryz.prog w = .ok 1 w:=by
 obtain ⟨i0,hi,hz0,hz1,hz2⟩:=info_parts Tryz.info5;simp [sizeOf,typeInfo,hi,hz1]
theorem qen {x y:Operand} (ho:o.op = .slice 23 x none (some y) none) {ad:Option Addr} {n c k:Nat} (hx:act.eval x = .slice ad n c) (hy:act.eval y = .int .i64 k) (hk:k≤n) (hc:n≤c) (hs:s.p (.slice ad k c) w) :
  o.wp Tryz.prog act w (fun a' w'=>∃ v,a'=act.put o.dst v∧Below w.heap.size w w'∧s.p v w') Q:=by
 have es:(sizeOf (Tryz.prog.elem 23)).run Tryz.prog w = .ok 1 w:=by rw [show Tryz.prog.elem 23=5 by kernel_rfl]; exact qp9 w
 refine j0 (v:=.slice ad k c) ?_ (Below.refl _ _) hs;have hrun:(Instr.sliceAt 23 (.slice ad n c) none (some (.int .i64 (k:Int))) none).run Tryz.prog w = .ok (.slice ad k c) w:=by
  rw [run_sliceAt_slice w 23 _ _ _ _ (by kernel_rfl),run_slice_h w 23 _ _ _ (by kernel_rfl) .i64 (k:Int) (by omega) (by omega),es];have ha:Option.map (fun x:Addr=>x.add 0) ad=ad:=by cases ad <;> simp [Addr.add]
  simp [Result.andThen,sliced,ha]
 unfold execOp;simp only [ho,hx,hy,Option.map_some,Option.map_none,Sem.run_bind,hrun,Result.andThen_ok,Sem.run_pure]
theorem qn1 {x y:Operand} (ho:o.op = .call { callee:=.builtin .append,args:=#[x,y],argTypes:=#[23,9] }) {B:Nat} {l:List UInt8} (hx:OwnM B w (act.eval x) l) {t:ByteArray} (hy:act.eval y = .string t)
  (hn:l.length+t.size≤1000000000) (hB:B≤w.heap.size)
  (h:∀ v' w',OwnM B w' v' (l++t.data.toList)→w.grownBy w' (act.eval x).ownBlock→(v'.ownBlock=(act.eval x).ownBlock∨v'.ownBlock=some w.heap.size)→K (act.put o.dst v') w'):o.wp Tryz.prog act w K Q:=by
 obtain ⟨v',w',hr,h2,h3,h4⟩:=qun w o.type hx t hn hB;unfold Oper.wp execOp;simp only [ho,resolve,invoke,builtin,Sem.run_bind,Sem.run_pure,Result.andThen_ok,List.map_toArray,List.map_cons,List.map_nil,hy,hr];exact h v' w' h2 h3 h4
end
end Go.Proofs.YtflhjpokjdjbpaaGreatDoor
namespace Go.Proofs.YtflhjpokjdjbpaaGreatDoor
open Go.RowKit
theorem qg.takeQ {w:World} {a:Option Addr} {l:List UInt8} {c:Nat} (h:qg w a l c) (k:Nat):qg w a (l.take k) c:=by
 rcases h with ⟨h1,rfl,h3⟩ | ⟨x,h1,h2,h3,h4⟩
 · exact .inl ⟨h1,by simp,h3⟩
 · refine .inr ⟨x,h1,by rw [List.length_take]; omega,h3,fun j hj=>?_⟩
   rw [List.getElem_take]; exact h4 j (by rw [List.length_take] at hj; omega)
theorem qj9 (W:World):(sizeOf 5).run Tryz.prog W = .ok 1 W:=by
 have h:(Tryz.prog.info? 5).map (·.size)=some 1:=by kernel_rfl
 cases hq:Tryz.prog.info? 5 with
 | none=>rw [hq] at h; cases h
 | some i=>rw [hq] at h; simp at h; simp [sizeOf,typeInfo,hq,h]
section
variable {Q:Exit→Act→World→Prop} {a:Act} {w:World} {o:Oper} {s:Spec}
theorem qzb (W:World) (x:Addr) (len cap n:Nat) (hn:n≤len) :
  (Instr.sliceAt 23 (.slice (some x) len cap) (some (.int .i64 (n:Int))) none none).run Tryz.prog W = .ok (.slice (some (if cap=n then x else x.add n)) (len-n) (cap-n)) W:=by
 have es:(sizeOf (Tryz.prog.elem 23)).run Tryz.prog W = .ok 1 W:=by rw [show Tryz.prog.elem 23=5 by kernel_rfl]; exact qj9 W
 rw [run_sliceAt_slice W 23 _ _ _ _ (by kernel_rfl),run_slice_l W 23 _ _ _ (by kernel_rfl) .i64 (n:Int) (by omega) (by omega),es];simp only [Result.andThen,sliced,Int.toNat_natCast,Nat.mul_one]
 split <;> rfl
theorem qrc {w:World} {x:Addr} {l:List UInt8} {cap n:Nat} (h:qg w (some x) l cap) (hn:n≤l.length):qg w (some (if cap=n then x else x.add n)) (l.drop n) (cap-n):=by
 rcases h with ⟨h,_⟩ | ⟨y,hy,h1,h2,h3⟩
 · cases h
 · obtain rfl:=Option.some.inj hy
   refine .inr ⟨_,rfl,by simp; omega,by omega,fun j hj=>?_⟩;have hj':j<l.length-n:=by simpa using hj
   rw [if_neg (by omega),List.getElem_drop,← h3 (n+j) (by omega)];congr 1;unfold Addr.add;by_cases h0:n=0
   · subst h0; simp
   · by_cases hj0:j=0
     · subst hj0; simp [h0]
     · simp [h0,hj0,Nat.add_assoc]
theorem jfy {w:World} {a:Option Addr} {l:List UInt8} {cap i:Nat} (h:qg w a l cap) (hi:i≤l.length) :
  ∃ a' c',(∀ W,(Instr.sliceAt 23 (.slice a l.length cap) (some (.int .i64 (i:Int))) none none).run Tryz.prog W = .ok (.slice a' (l.length-i) c') W)∧qg w a' (l.drop i) c':=by
 cases a with
 | some x=>exact ⟨_,_,fun W=>qzb W x l.length cap i hi,qrc h hi⟩
 | none =>
  rcases h with ⟨_,rfl,rfl⟩ | ⟨x,h,_⟩
  · have h0:i=0:=by simpa using hi
    subst h0;refine ⟨none,0,fun W=>?_,.inl ⟨rfl,rfl,rfl⟩⟩;have es:(sizeOf (Tryz.prog.elem 23)).run Tryz.prog W = .ok 1 W:=by rw [show Tryz.prog.elem 23=5 by kernel_rfl]; exact qj9 W
    rw [run_sliceAt_slice W 23 _ _ _ _ (by kernel_rfl),run_slice_l W 23 _ _ _ (by kernel_rfl) .i64 ((0:Nat):Int) (by omega) (by simp),es];rfl
  · cases h
theorem qgq {x y:Operand} (ho:o.op = .slice 23 x (some y) none none) {l:List UInt8} {i:Nat} (hx:qcf w (a.eval x) l) (hy:a.eval y = .int .i64 i) (hi:i≤l.length) (hs:∀ v,qcf w v (l.drop i)→s.p v w) :
  o.wp Tryz.prog a w (fun a' w'=>∃ v,a'=a.put o.dst v∧Below w.heap.size w w'∧s.p v w') Q:=by
 obtain ⟨ad,c,h1,h2⟩:=hx;obtain ⟨a',c',h3,h4⟩:=jfy h2 hi;refine j0 (v:=.slice a' (l.length-i) c') ?_ (Below.refl _ _) (hs _ ⟨a',c',by rw [List.length_drop],h4⟩);unfold execOp;simp only [ho,h1,hy,Option.map_some,Option.map_none,Sem.run_bind,h3,Result.andThen_ok,Sem.run_pure]
end
end Go.Proofs.YtflhjpokjdjbpaaGreatDoor
namespace Go.Proofs.YtflhjpokjdjbpaaGreatDoor
open Go.RowKit
section
variable {Q:Exit→Act→World→Prop} {a:Act} {w:World} {o:Oper} {s:Spec}
theorem qqg {x y:Operand} (ho:o.op = .slice 23 x none (some y) none) {l:List UInt8} {k:Nat} (hx:qcf w (a.eval x) l) (hy:a.eval y = .int .i64 k) (hk:k≤l.length) (hs:∀ v,qcf w v (l.take k)→s.p v w) :
  o.wp Tryz.prog a w (fun a' w'=>∃ v,a'=a.put o.dst v∧Below w.heap.size w w'∧s.p v w') Q:=by
 obtain ⟨ad,c,h1,h2⟩:=hx;have hcap:l.length≤c:=by
  rcases h2 with ⟨_,h,h'⟩ | ⟨_,_,h,_⟩
  · rw [h,h']; exact Nat.le_refl _
  · exact h
 have es:(sizeOf (Tryz.prog.elem 23)).run Tryz.prog w = .ok 1 w:=by rw [show Tryz.prog.elem 23=5 by kernel_rfl]; exact qj9 w
 have hl:(l.take k).length=k:=by rw [List.length_take]; omega
 refine j0 (v:=.slice ad k c) ?_ (Below.refl _ _) (hs _ ⟨ad,c,by rw [hl],h2.takeQ k⟩);have hrun:(Instr.sliceAt 23 (.slice ad l.length c) none (some (.int .i64 (k:Int))) none).run Tryz.prog w = .ok (.slice ad k c) w:=by
  rw [run_sliceAt_slice w 23 _ _ _ _ (by kernel_rfl),run_slice_h w 23 _ _ _ (by kernel_rfl) .i64 (k:Int) (by omega) (by omega),es];have ha:Option.map (fun x:Addr=>x.add 0) ad=ad:=by cases ad <;> simp [Addr.add]
  simp [Result.andThen,sliced,ha]
 unfold execOp;simp only [ho,h1,hy,Option.map_some,Option.map_none,Sem.run_bind,hrun,Result.andThen_ok,Sem.run_pure]
end
end Go.Proofs.YtflhjpokjdjbpaaGreatDoor
namespace Go.Proofs.YtflhjpokjdjbpaaGreatDoor
open Go.RowKit
section
variable {w:World} {B:Nat→Prop} {gx:Nat} {cs:Array Value} {k l:Int} {f2:Option Addr} {xs:List Fld} {W:World}
theorem FinJ.framed (h:FinJ w B gx (gx+1) cs k l f2 xs W) (p q:Int):FinJ w B gx (gx+1) cs p q f2 xs (W.setRow (gx+1) #[.int .i64 p,.int .i64 q]):=by
 obtain ⟨n1,n2,n3⟩:=h.n;exact ⟨(setRow_other _ _ _ _ (by omega)).trans h.r1,(setRow_other _ _ _ _ (by omega)).trans h.r2,(setRow_other _ _ _ _ (by omega)).trans h.r3,setRow_heap _ _ _ _ _ _ h.fr,
  h.fl.same fun y e=>setRow_other _ _ _ _ (by have:=n3 y e; omega),below_setRow h.bl (by omega) _,h.n⟩
end
def FsJ (X:NX) (body:Int) (n:Nat) (B:Nat→Prop) (w:World) (gx:Nat) (cs:Array Value) (la:Option Addr) (lc:Nat) (er:Int) (W:World):Prop :=
 ∃ (q:RS) (k l:Int) (fa:Option Addr) (fc:Nat) (ga:Option Addr) (gc:Nat) (f2:Option Addr) (xs:List Fld),
  FinJ w B gx (gx+1) cs k l f2 xs W∧RVr W gx (rowR q fa fc ga gc la lc)∧(¬ er=0→X=errX er) ∧
  (er=0→X=(if k=2∧body<l then errX 9 else ⟨0,{ q with fk:=k,fl:=l,left:=l,size:=0,ck:=zeroC,ph:=1 },1,[],n⟩) ∧
   (∀ W',qm W' f2 xs→Below w.heap.size w W'→qm W' fa q.xs∧qm W' ga q.ys)∧(∀ y,fa=some y→q.xs≠[]→B y.block) ∧ ∀ y,ga=some y→q.ys≠[]→B y.block)
section
variable (B:Nat→Prop) (s:RS) (b:List UInt8) (most body:Int) (ba:Option Addr) (bc:Nat) (fa ga la:Option Addr) (fc gc lc:Nat) (w:World)
theorem qq3 (n:Nat) (hb:qg w ba b bc) (hl:b.length≤1000000) (hm:RMem B w s fa ga la lc) (hE:endS b most=((n:Int),0)) (h4:4≤n) (hn:n≤b.length) (hB:∀ g,w.heap.size≤g→B g) :
  Calls Tryz.prog 25 #[.agg (rowR s fa fc ga gc la lc),.slice ba b.length bc,.int .i64 most,.int .i64 body] w (RetX B w (qbo s (b.take n) body)):=by
 obtain ⟨X,hX⟩ : ∃ X,X=qbo s (b.take n) body:=⟨_,rfl⟩;have HXX:=Box.mk hX;rw [← hX];obtain ⟨cs,hcs⟩ : ∃ cs:Array Value,cs=(rowR s fa fc ga gc la lc):=⟨_,rfl⟩;have HCS:=Box.mk hcs;have hcs22:cs.size=22:=by rw [hcs]; rfl
 have HSZ:=Box.mk (show (Tryz.prog.info? 37).map (·.size)=some cs.size by rw [hcs22]; exact jw);have hcs1:cs.all (·.oneCell')=true:=by rw [hcs]; exact qbl ..
 rw [← hcs];clear hcs hX;obtain ⟨W3,hW3⟩ : ∃ W3,W3=((w.alloc (.cells cs 37)).alloc (.cells zR 37)).alloc (.cells #[.int .i64 0,.slice none 0 0] 41):=⟨_,rfl⟩;have hb1:=qd w (.cells cs 37);have hb2:=qk hb1 (.cells zR 37);have hb3:=qe hb2 (qd _ (.cells #[.int .i64 0,.slice none 0 0] 41));have HBW:=Box.mk (show Below w.heap.size w W3 by rw [hW3]; exact hb3);have HV1:=Box.mk (show RVr W3 w.heap.size cs by rw [hW3]; exact RVr.keep (RVr.keep (heap_alloc_new w (.cells cs 37)) (qd _ _)) (qd _ _));have HV2:=Box.mk (show RVr W3 (w.heap.size+1) zR by
  have h:=heap_alloc_new (w.alloc (.cells cs 37)) (.cells zR 37);rw [World.size_alloc] at h;rw [hW3]; exact RVr.keep h (qd _ _))
 have HV3:=Box.mk (show PVr W3 (w.heap.size+2) #[.int .i64 0,.slice none 0 0] by
  have h:=heap_alloc_new ((w.alloc (.cells cs 37)).alloc (.cells zR 37)) (.cells #[.int .i64 0,.slice none 0 0] 41);rw [World.size_alloc,World.size_alloc] at h;rw [hW3]; exact h)
 have HW3:=Box.mk hW3;have HM:=Box.mk hm;have HCALL:=Box.mk (qjx b ba bc most W3 (hb.keep HBW.out) (by omega));rw [hE] at HCALL;have HBB:=Box.mk (hb.keep HBW.out);have hl3:w.heap.size+2<W3.heap.size:=(Array.getElem?_eq_some_iff.1 HV3.out).1;clear hb hm hb1 hb2 hb3 hW3 hE;go_enter Tryz.func25,Tryz.ntmps25
 go_wp2_with fail;rw [← HW3.out];refine HCALL.out.mono ?_;rintro e w3x ⟨rfl,rfl⟩;clear HW3 HCALL;obtain ⟨W4,hW4⟩ : ∃ W4,W4=(W3.alloc (.cells zR 37)).setRow W3.heap.size cs:=⟨_,rfl⟩;have HN:=Box.mk (show RVr (W3.alloc (.cells zR 37)) W3.heap.size zR from heap_alloc_new W3 (.cells zR 37));have hb4:Below W3.heap.size W3 W4:=by rw [hW4]; exact below_setRow (qd W3 (.cells zR 37)) (Nat.le_refl _) _
 have hs4:W4.heap.size=W3.heap.size+1:=by rw [hW4]; simp
 obtain ⟨W5,hW5⟩ : ∃ W5,W5=W4.alloc (.cells #[.int .i64 0,.int .i64 0] 33):=⟨_,rfl⟩;have hb5:Below W3.heap.size W3 W5:=by rw [hW5]; exact qe hb4 (qd W4 _)
 have HX5:=Box.mk (show RVr W5 W3.heap.size cs by rw [hW5]; refine RVr.keep ?_ (qd _ _); rw [hW4]; exact setRow_heap _ _ _ _ _ _ HN.out);have HK5:=Box.mk (show KVar W5 (W3.heap.size+1) 0 0 by
  have h:=heap_alloc_new W4 (.cells #[.int .i64 0,.int .i64 0] 33);rw [hs4] at h;rw [hW5]; exact h)
 rw [hW4] at hW5;obtain ⟨rp,hrp⟩ : ∃ rp,rp=s.rep:=⟨_,rfl⟩;have hc0:W5.cell? ⟨w.heap.size,0,none⟩=some (.bool rp):=by rw [RVr.cell (HV1.out.keep hb5),HCS.out,hrp]; rfl
 rw [hW5] at hc0;have HRP:=Box.mk hrp;have HH:=Box.mk (ki (HBB.out.keep hb5) n);have HV1L:=Box.mk HV1.out;have HJ5:=Box.mk (show RVr W5 w.heap.size cs∧RVr W5 (w.heap.size+1) zR∧PVr W5 (w.heap.size+2) #[.int .i64 0,.slice none 0 0]∧Below w.heap.size w W5 from ⟨HV1.out.keep hb5,HV2.out.keep hb5,HV3.out.keep hb5,qe HBW.out hb5⟩);have HW5:=Box.mk hW5;have HTL:=Box.mk (show (b.take n).length=n by rw [List.length_take]; omega);have hcap:n≤bc:=Nat.le_trans hn (kb HBB.out);have hsome:∃ ad,ba=some ad:=qe6 HBB.out (by omega);obtain ⟨ad,rfl⟩:=hsome;clear hs4 hW4 hb4 hb5 hW5 hrp HV1 HV2 HV3 HBW HBB;go_upto_if 34 with (first | refine wpList_load_row rfl 37 _ rfl w.heap.size rfl 37 cs (0,0) _ HV1L.out Tryz.underlying37 rfl HSZ.out ?_ | refine wpList_store_row rfl 37 _ _ rfl W3.heap.size cs rfl rfl 37 _ HN.out HSZ.out (by rw [hcs22]; rfl) hcs1 ?_)
 rw [← HW5.out];clear HW5 hc0 HN HV1L;generalize hgx:W3.heap.size=gx at *;clear hgx;go_cut [13] (fun ev wx=>∃ er:Int,ev = .int .i64 er∧Box (FsJ X body n B w gx cs la lc er wx))
 case first =>
  cases rp with
  | true =>
   obtain ⟨er,st,rs,z2,ys,hA⟩ : ∃ er st rs z2 ys,qaa (b.take n)=(er,st,rs,z2,ys):=⟨_,_,_,_,_,rfl⟩;have HA:=Box.mk (qmu (b.take n) (some ad) bc W5 HH.out (by rw [HTL.out]; omega));have HSM:=Box.mk (qqt (b:=b.take n) (by rw [HTL.out]; omega));rw [HTL.out,hA] at HA;rw [hA] at HSM;have HX0:=Box.mk (show X=(if er≠0 then errX er else if st=101 then errX 2 else if 100≤st∧st≤199 then ⟨0,s,4,[],n⟩ else finX { s with st:=st,rs:=rs,z2:=z2,ys:=ys } (kq s.meth st z2 ys) n body) by
    rw [HXX.out]; unfold qbo; rw [if_pos HRP.out.symm,hA,HTL.out])
   clear hA;go_wp2_with fail;refine HA.out.mono ?_;rintro e w6 ⟨f2,c2,he,hf2,hfr2,hb6⟩;dsimp only at he hf2;subst he;obtain ⟨q,hq⟩ : ∃ q:RS,q = { s with st:=st,rs:=rs,z2:=z2,ys:=ys }:=⟨_,rfl⟩;obtain ⟨cx,hcx⟩ : ∃ cx:Array Value,cx=rowR q fa fc f2 c2 la lc:=⟨_,rfl⟩;have HCX:=Box.mk (show cx=#[.bool s.rep,.string s.meth,.int .i64 s.ph,.string s.m,.string s.t,.int .i64 s.z,.slice fa (List.length s.xs) fc,.bool s.fr,.slice none 0 0,.int .i64 st,.string rs,.int .i64 z2,.slice f2 (List.length ys) c2,.slice none 0 0,.int .i64 s.fk,.int .i64 s.fl,.int .i64 s.left,.int .i64 s.size,.int .i64 s.ck.ph,.int .i64 s.ck.left,.int .i64 s.ck.tr,.slice la (List.length s.ck.line) lc] by rw [hcx,hq]);have HQ:=Box.mk (And.intro hq hcx);have hlt5:=(Array.getElem?_eq_some_iff.1 HK5.out).1;have HFJ6:=Box.mk (show FinJ w B gx (gx+1) cs 0 0 f2 ys w6∧RVr w6 gx cs from ⟨⟨HJ5.out.1.keep hb6,HJ5.out.2.1.keep hb6,HJ5.out.2.2.1.keep hb6,HK5.out.keep hb6,hf2,qe HJ5.out.2.2.2 hb6,rfl,hl3,fun y e=>by have:=hfr2 y e; omega⟩,HX5.out.keep hb6⟩);clear hq hcx HA HJ5 HX5 HK5 HH hf2 hfr2 hb6 hlt5;go_upto_region 10 with (refine jk rfl 31 _ _ rfl gx 9 #[.int .i64 st,.string rs,.int .i64 z2,.slice f2 (List.length ys) c2,.slice none 0 0] rfl rfl 37 _ cx HFJ6.out.2 ko (by rw [hcs22]; show 9+5≤22; decide) (by simp [Value.oneCell']) (by rw [HCS.out,HCX.out]; rfl) ?_)
   obtain ⟨W7,hW7⟩ : ∃ W7,W7=w6.setRow gx cx:=⟨_,rfl⟩;have HF7:=Box.mk (show FinJ w B gx (gx+1) cs 0 0 f2 ys W7∧RVr W7 gx cx by rw [hW7]; exact ⟨HFJ6.out.1.row _,setRow_heap _ _ _ _ _ _ HFJ6.out.2⟩);rw [← hW7];clear hW7 HFJ6;have hst:W7.cell? ⟨gx,9,none⟩=some (.int .i64 st):=by rw [RVr.cell HF7.out.2,HCX.out]; rfl
   by_cases h0:er=0
   · subst h0
     rw [if_neg (fun h=>h rfl)] at HX0;by_cases h1:st=101
     · have e1:(st == 101)=true:=by rw [h1]; rfl
       have HX1:=Box.mk (show X=errX 2 by rw [HX0.out,if_pos h1]);clear h1;go_wp2_with fail;go_meet
       exact ⟨2,rfl,⟨q,0,0,fa,fc,f2,c2,f2,ys,HF7.out.1,by rw [← HQ.out.2]; exact HF7.out.2,fun _=>HX1.out,fun h=>absurd h (by decide)⟩⟩
     · rw [if_neg h1] at HX0
       have e1:(st == 101)=false:=by rw [beq_eq_false_iff_ne]; exact h1
       clear h1;by_cases h2:100≤st∧st≤199
       · rw [if_pos h2] at HX0
         obtain ⟨h100,h199⟩:=h2;have HPN:=Box.mk (show PVr (W7.setRow (w.heap.size+1) cs) (w.heap.size+2) #[.int .i64 0,.slice none 0 0] from (setRow_other _ _ _ _ (by omega)).trans HF7.out.1.r3);go_wp2_with (first | (refine wpList_load_row rfl 37 _ rfl w.heap.size rfl 37 cs (0,0) _ HF7.out.1.r1 Tryz.underlying37 rfl HSZ.out ?_) | (refine wpList_store_row rfl 37 _ _ rfl (w.heap.size+1) cs rfl rfl 37 _ HF7.out.1.r2 HSZ.out (by rw [hcs22]; rfl) hcs1 ?_) | (refine wpList_store_row rfl 41 _ _ rfl (w.heap.size+2) #[.int .i64 4,.slice none 0 0] rfl rfl 41 _ HPN.out j1 rfl (qap ..) ?_))
         (try simp only [Exit.inBlock,Exit.then])
         refine bodyPost_ret (jv rfl _ _ (w.heap.size+1) (w.heap.size+2) 37 41 cs #[.int .i64 4,.slice none 0 0] (0,0) (0,0) _ _ rfl rfl ((setRow_other _ _ _ _ (by omega)).trans (setRow_heap _ _ _ _ _ _ HF7.out.1.r2)) (setRow_heap _ _ _ _ _ _ HPN.out) Tryz.underlying37 rfl HSZ.out Tryz.underlying41 rfl j1) rfl ?_;have HBF:=below_setRow (g:=w.heap.size+2) (below_setRow (g:=w.heap.size+1) HF7.out.1.bl (by omega) cs) (by omega) #[.int .i64 4,.slice none 0 0];exact ⟨fa,fc,ga,gc,la,lc,none,0,by rw [HX0.out,HCS.out]; rfl,by rw [HX0.out]; exact HM.out.keep HBF,by rw [HX0.out]; exact .inl ⟨rfl,rfl,rfl⟩,HBF⟩
       · rw [if_neg h2] at HX0
         obtain ⟨k,l,ef,hF⟩ : ∃ k l ef,kq s.meth st z2 ys=(k,l,ef):=⟨_,_,_,rfl⟩;rw [hF] at HX0;have hmt:W7.cell? ⟨w.heap.size,1,none⟩=some (.string s.meth):=by rw [RVr.cell HF7.out.1.r1,HCS.out]; rfl
         have HRA:=Box.mk (show W7.rangeAt gx 9 [.int .i64 st,.string rs,.int .i64 z2,.slice f2 (List.length ys) c2,.slice none 0 0] from fun j v hj=>by
          rw [RVr.cell HF7.out.2,HCX.out]
          match j,hj with
          | 0,hj=>exact hj
          | 1,hj=>exact hj
          | 2,hj=>exact hj
          | 3,hj=>exact hj
          | 4,hj=>exact hj
          | (j+5),hj=>simp at hj)
         have HCALL2:=Box.mk (qni s.meth st rs z2 ys f2 c2 none 0 0 W7 HF7.out.1.fl HSM.out.1.short (by have:=HSM.out.2; omega) (ql3 HSM.out.1 HSM.out.2 _));rw [hF] at HCALL2;have hr:¬ 100≤st∨100≤st∧¬ st≤199:=by omega
         clear hF h2;rcases hr with h100 | ⟨h100,h199⟩
         all_goals
          go_wp2_with (refine Go.wpList_load_mid rfl 31 _ rfl gx 9 rfl _ _ HRA.out Tryz.underlying31 rfl ko ?_)
          refine HCALL2.out.mono ?_;rintro e w8 ⟨he,hb8⟩;simp only [qc2] at he;subst he;have HF8:=Box.mk (show FinJ w B gx (gx+1) cs 0 0 f2 ys w8∧RVr w8 gx cx from ⟨HF7.out.1.keep hb8,HF7.out.2.keep hb8⟩);clear HF7 HRA HCALL2 hmt hst hb8;go_upto_region 17 with (refine wpList_store_row rfl 33 _ _ rfl (gx+1) #[.int .i64 k,.int .i64 l] rfl rfl 33 _ HF8.out.1.fr jn rfl (oneK _ _) ?_)
          obtain ⟨W9,hW9⟩ : ∃ W9,W9=w8.setRow (gx+1) #[.int .i64 k,.int .i64 l]:=⟨_,rfl⟩;have HF9:=Box.mk (show FinJ w B gx (gx+1) cs k l f2 ys W9∧RVr W9 gx (rowR q fa fc f2 c2 la lc) by rw [hW9,← HQ.out.2]; exact ⟨HF8.out.1.framed k l,(setRow_other _ _ _ _ (by omega)).trans HF8.out.2⟩);rw [← hW9];clear hW9 HF8;have HEND:=Box.mk (show ∀ e:Int,X=finX q (k,l,ef) n body→e=(if ef=3 then 9 else ef)→FsJ X body n B w gx cs la lc e W9 from fun e hx he=>⟨q,k,l,fa,fc,f2,c2,f2,ys,HF9.out.1,HF9.out.2,fun h=>by
           rw [hx]; unfold finX;rw [if_pos (show ef≠0 from fun h5=>h (by rw [he,h5]; rfl)),← he],fun h=>⟨by
           have h5:ef=0:=by rw [he] at h; split at h <;> omega
           rw [hx]; unfold finX;rw [if_neg (show ¬ ef≠0 from fun h6=>h6 h5)],fun W' h1 h2=>⟨by rw [HQ.out.1]; exact HM.out.f1.keep h2,by rw [HQ.out.1]; exact h1⟩,by rw [HQ.out.1]; exact HM.out.n1,fun y e _=>hB _ (by have:=HF9.out.1.n.2.2 y e; omega)⟩⟩)
          rw [← HQ.out.1] at HX0;by_cases h3:ef=3
          · subst h3
            go_wp2_with fail;go_meet
            exact ⟨9,rfl,⟨HEND.out 9 HX0.out rfl⟩⟩
          · have e3:(ef == 3)=false:=by rw [beq_eq_false_iff_ne]; exact h3
            have HE3:=Box.mk (show ef=(if ef=3 then 9 else ef) by rw [if_neg h3]);clear h3;go_wp2_with fail;go_meet
            exact ⟨ef,rfl,⟨HEND.out ef HX0.out HE3.out⟩⟩
   · have e0:(er == 0)=false:=by rw [beq_eq_false_iff_ne]; exact h0
     have HX1:=Box.mk (show X=errX er by rw [HX0.out,if_pos h0]);have H0:=Box.mk h0;clear h0;go_wp2_with fail;go_meet
     exact ⟨er,rfl,⟨q,0,0,fa,fc,f2,c2,f2,ys,HF7.out.1,by rw [← HQ.out.2]; exact HF7.out.2,fun _=>HX1.out,fun h=>absurd h H0.out⟩⟩
  | false =>
   obtain ⟨er,m,t,z,xs,hA⟩ : ∃ er m t z xs,qa0 (b.take n)=(er,m,t,z,xs):=⟨_,_,_,_,_,rfl⟩;have HA:=Box.mk (qmh (b.take n) (some ad) bc W5 HH.out (by rw [HTL.out]; omega));have HSM:=Box.mk (qq9 (b:=b.take n) (by rw [HTL.out]; omega));rw [HTL.out,hA] at HA;rw [hA] at HSM;have HX0:=Box.mk (show X=(if er≠0 then errX er else finX { s with m:=m,t:=t,z:=z,xs:=xs,fr:=!decide ((j3 z xs 1).1=1) } (j3 z xs 1) n body) by
    rw [HXX.out]; unfold qbo; rw [if_neg (by rw [← HRP.out]; decide),hA,HTL.out])
   clear hA;go_wp2_with fail;refine HA.out.mono ?_;rintro e w6 ⟨f2,c2,he,hf2,hfr2,hb6⟩;dsimp only at he hf2;subst he;obtain ⟨cx,hcx⟩ : ∃ cx:Array Value,cx=#[.bool s.rep,.string s.meth,.int .i64 s.ph,.string m,.string t,.int .i64 z,.slice f2 (List.length xs) c2,.bool false,.slice none 0 0,.int .i64 s.st,.string s.rs,.int .i64 s.z2,.slice ga (List.length s.ys) gc,.slice none 0 0,.int .i64 s.fk,.int .i64 s.fl,.int .i64 s.left,.int .i64 s.size,.int .i64 s.ck.ph,.int .i64 s.ck.left,.int .i64 s.ck.tr,.slice la (List.length s.ck.line) lc]:=⟨_,rfl⟩;have HCX:=Box.mk hcx;have hlt5:=(Array.getElem?_eq_some_iff.1 HK5.out).1;have HFJ6:=Box.mk (show FinJ w B gx (gx+1) cs 0 0 f2 xs w6∧RVr w6 gx cs from ⟨⟨HJ5.out.1.keep hb6,HJ5.out.2.1.keep hb6,HJ5.out.2.2.1.keep hb6,HK5.out.keep hb6,hf2,qe HJ5.out.2.2.2 hb6,rfl,hl3,fun y e=>by have:=hfr2 y e; omega⟩,HX5.out.keep hb6⟩);clear hcx HA HJ5 HX5 HK5 HH hf2 hfr2 hb6 hlt5;go_upto_region 20 with (refine jk rfl 29 _ _ rfl gx 3 #[.string m,.string t,.int .i64 z,.slice f2 (List.length xs) c2,.bool false,.slice none 0 0] rfl rfl 37 _ cx HFJ6.out.2 jo (by rw [hcs22]; show 3+6≤22; decide) (by simp [Value.oneCell']) (by rw [HCS.out,HCX.out]; rfl) ?_)
   obtain ⟨W7,hW7⟩ : ∃ W7,W7=w6.setRow gx cx:=⟨_,rfl⟩;have HF7:=Box.mk (show FinJ w B gx (gx+1) cs 0 0 f2 xs W7∧RVr W7 gx cx by rw [hW7]; exact ⟨HFJ6.out.1.row _,setRow_heap _ _ _ _ _ _ HFJ6.out.2⟩);rw [← hW7];clear hW7 HFJ6;have HPUT:=Box.mk (show ∀ (k l:Int) (f:Bool) (W:World),FinJ w B gx (gx+1) cs k l f2 xs W→RVr W gx cx→FinJ w B gx (gx+1) cs k l f2 xs (W.setCell ⟨gx,7,none⟩ (.bool f))∧RVr (W.setCell ⟨gx,7,none⟩ (.bool f)) gx (rowR { s with m:=m,t:=t,z:=z,xs:=xs,fr:=f } f2 c2 ga gc la lc) from fun k l f W h1 h2=>⟨h1.cell 7 _,by
    have h:=RVr.put (i:=7) (v:=.bool f) h2;rw [show cx.setIfInBounds 7 (.bool f)=rowR { s with m:=m,t:=t,z:=z,xs:=xs,fr:=f } f2 c2 ga gc la lc by rw [HCX.out]; rfl] at h;exact h⟩)
   by_cases h0:er=0
   · subst h0
     rw [if_neg (fun h=>h rfl)] at HX0;obtain ⟨k,l,ef,hF⟩ : ∃ k l ef,j3 z xs 1=(k,l,ef):=⟨_,_,_,rfl⟩;rw [hF] at HX0;have HRA:=Box.mk (show W7.rangeAt gx 3 [.string m,.string t,.int .i64 z,.slice f2 (List.length xs) c2,.bool false,.slice none 0 0] from fun j v hj=>by
      rw [RVr.cell HF7.out.2,HCX.out]
      match j,hj with
      | 0,hj=>exact hj
      | 1,hj=>exact hj
      | 2,hj=>exact hj
      | 3,hj=>exact hj
      | 4,hj=>exact hj
      | 5,hj=>exact hj
      | (j+6),hj=>simp at hj)
     have HCALL2:=Box.mk (qtx m t z xs f2 c2 false none 0 0 W7 HF7.out.1.fl HSM.out.1.short (by have:=HSM.out.2; omega) (ql3 HSM.out.1 HSM.out.2 _));rw [hF] at HCALL2;clear hF;go_wp2_with (refine Go.wpList_load_mid rfl 29 _ rfl gx 3 rfl _ _ HRA.out Tryz.underlying29 rfl jo ?_)
     refine HCALL2.out.mono ?_;rintro e w8 ⟨he,hb8⟩;simp only [qc2] at he;subst he;have HF8:=Box.mk (show FinJ w B gx (gx+1) cs 0 0 f2 xs w8∧RVr w8 gx cx from ⟨HF7.out.1.keep hb8,HF7.out.2.keep hb8⟩);clear HF7 HRA HCALL2 hb8;go_upto_region 22 with (refine wpList_store_row rfl 33 _ _ rfl (gx+1) #[.int .i64 k,.int .i64 l] rfl rfl 33 _ HF8.out.1.fr jn rfl (oneK _ _) ?_)
     obtain ⟨WA,hWA⟩ : ∃ WA,WA=w8.setRow (gx+1) #[.int .i64 k,.int .i64 l]:=⟨_,rfl⟩;have HFA:=Box.mk (show FinJ w B gx (gx+1) cs k l f2 xs WA∧RVr WA gx cx by rw [hWA]; exact ⟨HF8.out.1.framed k l,(setRow_other _ _ _ _ (by omega)).trans HF8.out.2⟩);rw [← hWA];clear hWA HF8;have hx7:WA.cell? ⟨gx,7,none⟩=some (.bool false):=by rw [RVr.cell HFA.out.2,HCX.out]; rfl
     have hz7:WA.frozen? ⟨gx,7,none⟩=false:=frozen_of_row WA _ 7 _ _ HFA.out.2;have hk0:WA.cell? ⟨gx+1,0,none⟩=some (.int .i64 k):=by rw [cell_of_row _ _ _ _ _ _ HFA.out.1.fr]; rfl
     obtain ⟨fb,hfb⟩ : ∃ fb:Bool,(k != 1)=fb:=⟨_,rfl⟩;have HEND:=Box.mk (show ∀ e:Int,e=(if ef=3 then 9 else ef)→FsJ X body n B w gx cs la lc e (WA.setCell ⟨gx,7,none⟩ (.bool fb)) from fun e he=>by
      obtain ⟨h1,h2⟩:=HPUT.out k l fb WA HFA.out.1 HFA.out.2;have hx:=HX0.out;rw [show (!decide (k=1))=fb by rw [← hfb]; rfl] at hx;refine ⟨_,k,l,f2,c2,ga,gc,f2,xs,h1,h2,fun h=>?_,fun h=>⟨?_,fun W' g1 g2=>⟨g1,HM.out.f2.keep g2⟩,fun y e _=>hB _ (by have:=HFA.out.1.n.2.2 y e; omega),HM.out.n2⟩⟩
      · rw [hx]; unfold finX
        rw [if_pos (show ef≠0 from fun h5=>h (by rw [he,h5]; rfl)),← he]
      · have h5:ef=0:=by rw [he] at h; split at h <;> omega
        rw [hx]; unfold finX;rw [if_neg (show ¬ ef≠0 from fun h6=>h6 h5)])
     by_cases h3:ef=3
     · subst h3
       go_wp2_with fail;go_meet
       exact ⟨9,rfl,⟨HEND.out 9 rfl⟩⟩
     · have e3:(ef == 3)=false:=by rw [beq_eq_false_iff_ne]; exact h3
       have HE3:=Box.mk (show ef=(if ef=3 then 9 else ef) by rw [if_neg h3]);clear h3;go_wp2_with fail;go_meet
       exact ⟨ef,rfl,⟨HEND.out ef HE3.out⟩⟩
   · have e0:(er == 0)=false:=by rw [beq_eq_false_iff_ne]; exact h0
     have HX1:=Box.mk (show X=errX er by rw [HX0.out,if_pos h0]);have H0:=Box.mk h0;clear h0;have hx7:W7.cell? ⟨gx,7,none⟩=some (.bool false):=by rw [RVr.cell HF7.out.2,HCX.out]; rfl
     have hz7:W7.frozen? ⟨gx,7,none⟩=false:=frozen_of_row W7 _ 7 _ _ HF7.out.2;have hk0:W7.cell? ⟨gx+1,0,none⟩=some (.int .i64 0):=by rw [cell_of_row _ _ _ _ _ _ HF7.out.1.fr]; rfl
     obtain ⟨h1,h2⟩:=HPUT.out 0 0 true W7 HF7.out.1 HF7.out.2;have HEND:=Box.mk (show FsJ X body n B w gx cs la lc er (W7.setCell ⟨gx,7,none⟩ (.bool true)) from ⟨_,0,0,f2,c2,ga,gc,f2,xs,h1,h2,fun _=>HX1.out,fun h=>absurd h H0.out⟩);clear h1 h2;go_wp2_with fail;go_meet
     exact ⟨er,rfl,HEND⟩
 case rest =>
  obtain ⟨er,hev,hj⟩:=hcut;subst hev;obtain ⟨q,k,l,fa2,fc2,ga2,gc2,f2,xs,hf,hrv,he,ho⟩:=hj.out;have HF:=Box.mk hf;obtain ⟨d0,hd0⟩ : ∃ d:Array Value,d=rowR q fa2 fc2 ga2 gc2 la lc:=⟨_,rfl⟩;rw [← hd0] at hrv;have HD0:=Box.mk hd0;have HR:=Box.mk hrv;have HE:=Box.mk he;have HO:=Box.mk ho;have hk0:wc.cell? ⟨gx+1,0,none⟩=some (.int .i64 k):=by rw [cell_of_row _ _ _ _ _ _ hf.fr]; rfl
  have hk1:wc.cell? ⟨gx+1,1,none⟩=some (.int .i64 l):=by rw [cell_of_row _ _ _ _ _ _ hf.fr]; rfl
  clear hf hrv he ho hj hd0 HJ5 HX5 HK5 HH HTL HRP HXX;by_cases hbad:¬ er=0∨er=0∧k=2∧body<l
  · have hx:∃ e9:Int,Box (X=errX e9)∧((er == 0)=false∧(er != 0)=true∧e9=er∨er=0∧k=2∧body<l∧e9=9):=by
     rcases hbad with h | ⟨h,h1,h2⟩
     · exact ⟨er,⟨HE.out h⟩,.inl ⟨by rw [beq_eq_false_iff_ne]; exact h,by rw [bne_iff_ne]; exact h,rfl⟩⟩
     · exact ⟨9,⟨by rw [(HO.out h).1,if_pos ⟨h1,h2⟩]⟩,.inr ⟨h,h1,h2,rfl⟩⟩
    obtain ⟨e9,HX1,hx⟩:=hx;clear hbad;have HPN:=Box.mk (show PVr (wc.setRow (w.heap.size+1) zR) (w.heap.size+2) #[.int .i64 0,.slice none 0 0] from (setRow_other _ _ _ _ (by omega)).trans HF.out.r3);rcases hx with ⟨e0,e1,rfl⟩ | ⟨rfl,rfl,hbl,rfl⟩
    all_goals
     go_wp2_with (first | (refine wpList_store_row rfl 37 _ _ rfl (w.heap.size+1) zR rfl rfl 37 _ HF.out.r2 jw rfl (qbl ..) ?_) | (refine wpList_store_row rfl 41 _ _ rfl (w.heap.size+2) #[.int .i64 0,.slice none 0 0] rfl rfl 41 _ HPN.out j1 rfl (qap ..) ?_))
     (try simp only [Exit.inBlock,Exit.then])
     refine bodyPost_ret (jv rfl _ _ (w.heap.size+1) (w.heap.size+2) 37 41 zR #[.int .i64 0,.slice none 0 0] (0,0) (0,0) _ _ rfl rfl ((setRow_other _ _ _ _ (by omega)).trans (setRow_heap _ _ _ _ _ _ HF.out.r2)) (setRow_heap _ _ _ _ _ _ HPN.out) Tryz.underlying37 rfl jw Tryz.underlying41 rfl j1) rfl ?_;have HBF:=below_setRow (g:=w.heap.size+2) (below_setRow (g:=w.heap.size+1) HF.out.bl (by omega) zR) (by omega) #[.int .i64 0,.slice none 0 0];rw [HX1.out];exact ⟨none,0,none,0,none,0,none,0,rfl,⟨qm.nil _ _,qm.nil _ _,.inl ⟨rfl,rfl,rfl⟩,(fun y hy=>by cases hy),(fun y hy=>by cases hy)⟩,.inl ⟨rfl,rfl,rfl⟩,HBF⟩
  · have hz:er=0:=by omega
    subst hz;have HX2:=Box.mk (show X=⟨0,{ q with fk:=k,fl:=l,left:=l,size:=0,ck:=zeroC,ph:=1 },1,[],n⟩ by rw [(HO.out rfl).1,if_neg (fun h=>hbad (.inr ⟨rfl,h⟩))]);have hcase:(k == 2)=false∨(k == 2)=true∧¬ body<l:=by
     by_cases h:k=2
     · exact .inr ⟨by rw [h]; rfl,fun h2=>hbad (.inr ⟨rfl,h,h2⟩)⟩
     · exact .inl (by rw [beq_eq_false_iff_ne]; exact h)
    clear hbad;rcases hcase with ek | ⟨ek,hbl⟩
    all_goals
     go_wp2_with fail;rename_i KK hKK;obtain ⟨d1,hd1⟩ : ∃ d:Array Value,d=rowR { q with fk:=k,fl:=l } fa2 fc2 ga2 gc2 la lc:=⟨_,rfl⟩;obtain ⟨d2,hd2⟩ : ∃ d:Array Value,d=rowR { q with fk:=k,fl:=l,left:=l } fa2 fc2 ga2 gc2 la lc:=⟨_,rfl⟩;obtain ⟨d3,hd3⟩ : ∃ d:Array Value,d=rowR { q with fk:=k,fl:=l,left:=l,size:=0 } fa2 fc2 ga2 gc2 la lc:=⟨_,rfl⟩;obtain ⟨d4,hd4⟩ : ∃ d:Array Value,d=rowR { q with fk:=k,fl:=l,left:=l,size:=0,ck:=zeroC } fa2 fc2 ga2 gc2 none 0:=⟨_,rfl⟩;obtain ⟨d5,hd5⟩ : ∃ d:Array Value,d=rowR { q with fk:=k,fl:=l,left:=l,size:=0,ck:=zeroC,ph:=1 } fa2 fc2 ga2 gc2 none 0:=⟨_,rfl⟩;have HD1:=Box.mk hd1;have HD2:=Box.mk hd2;have HD3:=Box.mk hd3;have HD4:=Box.mk hd4;have HD5:=Box.mk hd5;clear hd1 hd2 hd3 hd4 hd5 hk0 hk1;have HJ:=Box.mk (And.intro HF.out HR.out);have HZ:=Box.mk (And.intro (show d0.size=22 by rw [HD0.out]; rfl) (show d3.size=22 by rw [HD3.out]; rfl));refine qz [5,7,9,11,13] (fun p=>match p with | 0=>[0,1,2,3,4] | 1=>[1,2,3,6] | 2=>[3,8] | 3=>[3,10] | 4=>[12] | _=>[])
      (fun p=>match p with | 0=>[.val (.agg #[.int .i64 k,.int .i64 l]),.val (.pointer (some ⟨gx+1,1,none⟩)),.val (.int .i64 l),.val (.agg #[.int .i64 0,.int .i64 0,.int .i64 0,.slice none 0 0]),.val (.pointer (some ⟨gx,14,none⟩)),.any,.nope,.any,.nope,.any,.nope,.any,.nope,.any] | 1=>[.any,.val (.pointer (some ⟨gx+1,1,none⟩)),.val (.int .i64 l),.val (.agg #[.int .i64 0,.int .i64 0,.int .i64 0,.slice none 0 0]),.any,.any,.val (.pointer (some ⟨gx,16,none⟩)),.any,.nope,.any,.nope,.any,.nope,.any] | 2=>[.any,.any,.any,.val (.agg #[.int .i64 0,.int .i64 0,.int .i64 0,.slice none 0 0]),.any,.any,.any,.any,.val (.pointer (some ⟨gx,17,none⟩)),.any,.nope,.any,.nope,.any] | 3=>[.any,.any,.any,.val (.agg #[.int .i64 0,.int .i64 0,.int .i64 0,.slice none 0 0]),.any,.any,.any,.any,.any,.any,.val (.pointer (some ⟨gx,18,none⟩)),.any,.nope,.any] | 4=>[.any,.any,.any,.any,.any,.any,.any,.any,.any,.any,.any,.any,.val (.pointer (some ⟨gx,2,none⟩)),.any] | _=>[.any,.any,.any,.any,.any,.any,.any,.any,.any,.any,.any,.any,.any,.any])
      (fun p wx=>FinJ w B gx (gx+1) cs k l f2 xs wx∧RVr wx gx (match p with | 0=>d0 | 1=>d1 | 2=>d2 | 3=>d3 | 4=>d4 | _=>d5))
      (by kernel_rfl) (by kernel_rfl) (by kernel_rfl) (by kernel_rfl) (by kernel_rfl) (by kernel_rfl) (fun _ _ _ h hb=>⟨h.1.keep hb,h.2.keep hb⟩) HJ.out ?_ ?_ ?_
     · intro p hp
       have L0:∀ w1,FinJ w B gx (gx+1) cs k l f2 xs w1→w1.cell? ⟨gx+1,1,none⟩=some (.int .i64 l):=fun w1 h=>by rw [cell_of_row _ _ _ _ _ _ h.fr]; rfl
       match p,hp with
       | 0,_ =>
        refine ⟨?_,?_,?_,?_,?_,trivial⟩ <;> intro a1 w1 hv hf hd
        · exact ⟨qb rfl,kw rfl (by rw [show a1.eval (.tmp 15) = .pointer (some ⟨gx+1,0,none⟩) from hf.base 15 rfl]; exact qzj _ _ _ _ hv.1.fr) rfl⟩
        · exact ⟨qb rfl,qpe rfl (hf.base 15 rfl) rfl⟩
        · exact ⟨qb rfl,jg rfl (hd 1 rfl) (L0 w1 hv.1) (qay _) rfl⟩
        · exact ⟨qb rfl,qhg (cs:=#[.int .i64 0,.int .i64 0,.int .i64 0,.slice none 0 0]) rfl (run_build (P:=Tryz.prog) w1 35 #[] #[.int .i64 0,.int .i64 0,.int .i64 0,.slice none 0 0] (by kernel_rfl)) rfl⟩
        · exact ⟨qb rfl,qf7 rfl (hf.base 14 rfl) (by decide) rfl rfl⟩
       | 1,_ =>
        refine ⟨?_,?_,?_,?_,trivial⟩ <;> intro a1 w1 hv hf hd
        · exact ⟨qb rfl,qpe rfl (hf.base 15 rfl) rfl⟩
        · exact ⟨qb rfl,jg rfl (hd 1 rfl) (L0 w1 hv.1) (qay _) rfl⟩
        · exact ⟨qb rfl,qhg (cs:=#[.int .i64 0,.int .i64 0,.int .i64 0,.slice none 0 0]) rfl (run_build (P:=Tryz.prog) w1 35 #[] #[.int .i64 0,.int .i64 0,.int .i64 0,.slice none 0 0] (by kernel_rfl)) rfl⟩
        · exact ⟨qb rfl,qf7 rfl (hf.base 14 rfl) (by decide) rfl rfl⟩
       | 2,_ | 3,_ =>
        refine ⟨?_,?_,trivial⟩ <;> intro a1 w1 hv hf hd
        · exact ⟨qb rfl,qhg (cs:=#[.int .i64 0,.int .i64 0,.int .i64 0,.slice none 0 0]) rfl (run_build (P:=Tryz.prog) w1 35 #[] #[.int .i64 0,.int .i64 0,.int .i64 0,.slice none 0 0] (by kernel_rfl)) rfl⟩
        · exact ⟨qb rfl,qf7 rfl (hf.base 14 rfl) (by decide) rfl rfl⟩
       | 4,_ =>
        refine ⟨?_,trivial⟩ <;> intro a1 w1 hv hf hd
        · exact ⟨qb rfl,qf7 rfl (hf.base 14 rfl) (by decide) rfl rfl⟩
       | 5,_=>exact trivial
     · intro p hp
       match p,hp with
       | 0,_ =>
        intro a2 w2 hv hf hd;refine ⟨qb rfl,qit 33 _ _ rfl gx 14 _ (hd 4 rfl) (hd 0 rfl) 37 _ d1 hv.2 jn (by show 14+2≤d0.size; rw [HZ.out.1]; decide) (oneK _ _) (by rw [HD0.out,HD1.out]; rfl) ?_⟩;exact ⟨undef,rfl,⟨hv.1.row _,setRow_heap _ _ _ _ _ _ hv.2⟩,trivial,⟨.inr fun _ _ _=>trivial,.inr fun _ _ h=>h,.inr fun _ _ h=>h,.inr fun _ _ h=>h,.inr fun _ _ _=>trivial,.inl rfl,.inr fun _ _ h=>h.elim,.inr fun _ _ _=>trivial,.inr fun _ _ h=>h,.inr fun _ _ _=>trivial,.inr fun _ _ h=>h,.inr fun _ _ _=>trivial,.inr fun _ _ h=>h,.inr fun _ _ _=>trivial,trivial⟩⟩
       | 1,_ =>
        intro a2 w2 hv hf hd;refine ⟨qb rfl,qgg (u:=.int .i64 q.left) rfl (hd 6 rfl) (hd 2 rfl) (by kernel_rfl) (by rw [RVr.cell hv.2]; show d1[16]? = _; rw [HD1.out]; rfl) (frozen_of_row w2 gx 16 _ _ hv.2) ?_⟩;exact ⟨undef,rfl,⟨hv.1.cell 16 _,by have h:=RVr.put (i:=16) (v:=.int .i64 l) (show RVr w2 gx d1 from hv.2); rw [show d1.setIfInBounds 16 (.int .i64 l)=d2 by rw [HD1.out,HD2.out]; rfl] at h; exact h⟩,trivial,⟨.inr fun _ _ _=>trivial,.inr fun _ _ _=>trivial,.inr fun _ _ _=>trivial,.inr fun _ _ h=>h,.inr fun _ _ _=>trivial,.inr fun _ _ _=>trivial,.inr fun _ _ _=>trivial,.inl rfl,.inr fun _ _ h=>h.elim,.inr fun _ _ _=>trivial,.inr fun _ _ h=>h,.inr fun _ _ _=>trivial,.inr fun _ _ h=>h,.inr fun _ _ _=>trivial,trivial⟩⟩
       | 2,_ =>
        intro a2 w2 hv hf hd;refine ⟨qb rfl,qgg (z:=0) (u:=.int .i64 q.size) rfl (hd 8 rfl) rfl (by kernel_rfl) (by rw [RVr.cell hv.2]; show d2[17]? = _; rw [HD2.out]; rfl) (frozen_of_row w2 gx 17 _ _ hv.2) ?_⟩;exact ⟨undef,rfl,⟨hv.1.cell 17 _,by have h:=RVr.put (i:=17) (v:=.int .i64 0) (show RVr w2 gx d2 from hv.2); rw [show d2.setIfInBounds 17 (.int .i64 0)=d3 by rw [HD2.out,HD3.out]; rfl] at h; exact h⟩,trivial,⟨.inr fun _ _ _=>trivial,.inr fun _ _ _=>trivial,.inr fun _ _ _=>trivial,.inr fun _ _ h=>h,.inr fun _ _ _=>trivial,.inr fun _ _ _=>trivial,.inr fun _ _ _=>trivial,.inr fun _ _ _=>trivial,.inr fun _ _ _=>trivial,.inl rfl,.inr fun _ _ h=>h.elim,.inr fun _ _ _=>trivial,.inr fun _ _ h=>h,.inr fun _ _ _=>trivial,trivial⟩⟩
       | 3,_ =>
        intro a2 w2 hv hf hd;refine ⟨qb rfl,qit 35 _ _ rfl gx 18 _ (hd 10 rfl) (hd 3 rfl) 37 _ d4 hv.2 j8 (by show 18+4≤d3.size; rw [HZ.out.2]; decide) (oneC ..) (by rw [HD3.out,HD4.out]; rfl) ?_⟩;exact ⟨undef,rfl,⟨hv.1.row _,setRow_heap _ _ _ _ _ _ hv.2⟩,trivial,⟨.inr fun _ _ _=>trivial,.inr fun _ _ _=>trivial,.inr fun _ _ _=>trivial,.inr fun _ _ _=>trivial,.inr fun _ _ _=>trivial,.inr fun _ _ _=>trivial,.inr fun _ _ _=>trivial,.inr fun _ _ _=>trivial,.inr fun _ _ _=>trivial,.inr fun _ _ _=>trivial,.inr fun _ _ _=>trivial,.inl rfl,.inr fun _ _ h=>h.elim,.inr fun _ _ _=>trivial,trivial⟩⟩
       | 4,_ =>
        intro a2 w2 hv hf hd;refine ⟨qb rfl,qgg (z:=1) (u:=.int .i64 q.ph) rfl (hd 12 rfl) rfl (by kernel_rfl) (by rw [RVr.cell hv.2]; show d4[2]? = _; rw [HD4.out]; rfl) (frozen_of_row w2 gx 2 _ _ hv.2) ?_⟩;exact ⟨undef,rfl,⟨hv.1.cell 2 _,by have h:=RVr.put (i:=2) (v:=.int .i64 1) (show RVr w2 gx d4 from hv.2); rw [show d4.setIfInBounds 2 (.int .i64 1)=d5 by rw [HD4.out,HD5.out]; rfl] at h; exact h⟩,trivial,⟨.inr fun _ _ _=>trivial,.inr fun _ _ _=>trivial,.inr fun _ _ _=>trivial,.inr fun _ _ _=>trivial,.inr fun _ _ _=>trivial,.inr fun _ _ _=>trivial,.inr fun _ _ _=>trivial,.inr fun _ _ _=>trivial,.inr fun _ _ _=>trivial,.inr fun _ _ _=>trivial,.inr fun _ _ _=>trivial,.inr fun _ _ _=>trivial,.inr fun _ _ _=>trivial,.inl rfl,trivial⟩⟩
     · intro a2 w2 hv hf hh
       clear hh;rw [jl hf];clear hf;simp only [kg];generalize a2.eval (.tmp 118)=u118;generalize a2.eval (.tmp 119)=u119;generalize a2.eval (.tmp 120)=u120;generalize a2.eval (.tmp 121)=u121;generalize a2.eval (.tmp 122)=u122;generalize a2.eval (.tmp 123)=u123;generalize a2.eval (.tmp 124)=u124;generalize a2.eval (.tmp 125)=u125;generalize a2.eval (.tmp 126)=u126;clear a2;simp only [Act.put,List.setIfInBounds_toArray,List.set_cons_succ,List.set_cons_zero];refine hKK _ _ ?_;have HG:=Box.mk (show FinJ w B gx (gx+1) cs k l f2 xs w2∧RVr w2 gx d5 from hv);have hcs22:d5.size=22:=by rw [HD5.out]; rfl
       have hcs1:d5.all (·.oneCell')=true:=by rw [HD5.out]; exact qbl ..
       have HSZ:=Box.mk (show (Tryz.prog.info? 37).map (·.size)=some d5.size by rw [hcs22]; exact jw);clear hv HJ HD0 HD1 HD2 HD3 HD4 hKK HF HR;have HPN:=Box.mk (show PVr (w2.setRow (w.heap.size+1) d5) (w.heap.size+2) #[.int .i64 0,.slice none 0 0] from (setRow_other _ _ _ _ (by omega)).trans HG.out.1.r3);go_wp2_with (first | (refine wpList_load_row rfl 37 _ rfl gx rfl 37 d5 (0,0) _ HG.out.2 Tryz.underlying37 rfl HSZ.out ?_) | (refine wpList_store_row rfl 37 _ _ rfl (w.heap.size+1) d5 rfl rfl 37 _ HG.out.1.r2 HSZ.out (by rw [hcs22]; rfl) hcs1 ?_) | (refine wpList_store_row rfl 41 _ _ rfl (w.heap.size+2) #[.int .i64 1,.slice none 0 0] rfl rfl 41 _ HPN.out j1 rfl (qap ..) ?_))
       (try simp only [Exit.inBlock,Exit.then])
       refine bodyPost_ret (jv rfl _ _ (w.heap.size+1) (w.heap.size+2) 37 41 d5 #[.int .i64 1,.slice none 0 0] (0,0) (0,0) _ _ rfl rfl ((setRow_other _ _ _ _ (by omega)).trans (setRow_heap _ _ _ _ _ _ HG.out.1.r2)) (setRow_heap _ _ _ _ _ _ HPN.out) Tryz.underlying37 rfl HSZ.out Tryz.underlying41 rfl j1) rfl ?_;have HBF:=below_setRow (g:=w.heap.size+2) (below_setRow (g:=w.heap.size+1) HG.out.1.bl (by omega) d5) (by omega) #[.int .i64 1,.slice none 0 0];have hfl:=HG.out.1.fl.same (w':=(w2.setRow (w.heap.size+1) d5).setRow (w.heap.size+2) #[.int .i64 1,.slice none 0 0]) fun y e=>((setRow_other _ _ _ _ (by have:=HG.out.1.n.2.2 y e; omega)).trans (setRow_other _ _ _ _ (by have:=HG.out.1.n.2.2 y e; omega)));obtain ⟨_,hmem,hn1,hn2⟩:=HO.out (by first | exact rfl | exact trivial);rw [HX2.out];exact ⟨fa2,fc2,ga2,gc2,none,0,none,0,by rw [HD5.out]; rfl,⟨(hmem _ hfl HBF).1,(hmem _ hfl HBF).2,.inl ⟨rfl,rfl,rfl⟩,hn1,hn2⟩,.inl ⟨rfl,rfl,rfl⟩,HBF⟩
end
end Go.Proofs.YtflhjpokjdjbpaaGreatDoor

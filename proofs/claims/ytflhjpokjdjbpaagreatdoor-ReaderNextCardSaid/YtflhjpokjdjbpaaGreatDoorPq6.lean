/- The reference's FormatRequest and FormatReply. Chunked bodies: the state of the decoder, one byte, many bytes. The reference's step: bytes of a line that is not complete. The reference's step: a line that ends with CR. The decoder's states stay in order; the reference's step in one contract. -/
import Derived.Test.YtflhjpokjdjbpaaGreatDoorPq5
import Derived.Lib.ConvBytes
set_option maxRecDepth 100000
set_option maxHeartbeats 4000000
namespace Go.Proofs.YtflhjpokjdjbpaaGreatDoor
open Go.RowKit
theorem jf3 {l:List Fld} {k:Nat} (hk:k<l.length) (h:fldB l[k].1 l[k].2=false):allB l=false:=by
 unfold allB;rw [← Bool.not_eq_true,List.all_eq_true];intro h2;have:=h2 _ (List.getElem_mem hk);rw [h] at this; cases this
theorem ql4 {l:List Fld} (h:∀ f ∈ l,fldB f.1 f.2=true):allB l=true:=by
 unfold allB;exact List.all_eq_true.2 h
theorem qfr (l:List Fld) (a:Option Addr) (cap:Nat) (w:World) (h:qm w a l) (hz:qa6 l) (hl:l.length≤4000000) :
  Calls Tryz.prog 53 #[.slice a l.length cap] w fun e w'=>e = .returned (.bool (allB l))∧Below w.heap.size w w':=by
 have H0:=Box.mk h;have HZ:=Box.mk hz;have HN:=Box.mk (fun (k:Nat) (hk:k<l.length) h=>jf3 hk h);have HY:=Box.mk (fun h=>ql4 (l:=l) h);generalize hR:allB l=R at *;clear h hz hR;go_enter Tryz.func53,Tryz.ntmps53
 go_wp2_with fail;go_loopw [3] (fun iv wr=>∃ k:Nat,k≤l.length∧iv = .int .i64 k∧Box (Below w.heap.size w wr ∧ ∀ f ∈ l.take k,fldB f.1 f.2=true)) (fun iv _=>l.length-(intOf iv).toNat)
 case atStart=>exact ⟨0,Nat.zero_le _,rfl,⟨Below.refl _ _,by simp⟩⟩
 case round =>
  obtain ⟨k,hk,rfl,HM⟩:=hrel;by_cases hlt:k<l.length
  · obtain ⟨x,rfl,hx1,hx2⟩:=(H0.out.keep HM.out.1) k hlt
    have hx2:=qd3 hx2;have HSZ:=Box.mk (HZ.out _ (List.getElem_mem hlt));by_cases hv:fldB l[k].1 l[k].2=true
    · have HALL:=Box.mk (qto hlt HM.out.2 hv)
      have HV:=Box.mk hv;clear hv;generalize l[k]=f at *;go_wp2_with fail;refine (qa8 f.1 f.2 _ HSZ.out.1 HSZ.out.2).mono ?_;rintro e w1 ⟨he,hb1⟩;rw [HV.out] at he;subst he;have HB1:=Box.mk (qe HM.out.1 hb1);clear hb1 hx1 hx2;go_wp2_with fail;go_roundw
      case rel=>exact ⟨k+1,by omega,by go_num,⟨HB1.out,HALL.out⟩⟩
      case measure=>simp [intOf]; omega
    · have HV:=Box.mk (show fldB l[k].1 l[k].2=false by simpa using hv)
      have HP:=Box.mk (HN.out k hlt HV.out);clear hv;generalize l[k]=f at *;go_wp2_with fail;refine (qa8 f.1 f.2 _ HSZ.out.1 HSZ.out.2).mono ?_;rintro e w1 ⟨he,hb1⟩;rw [HV.out] at he;subst he;have HB1:=Box.mk (qe HM.out.1 hb1);clear hb1 hx1 hx2;go_wp2_with fail;go_ret;exact ⟨qq HP.out.symm,HB1.out⟩
  · have HP:=Box.mk (HY.out (by have:=HM.out.2; rw [List.take_of_length_le (by omega)] at this; exact this))
    go_wp2_with fail;go_ret;exact ⟨qq HP.out.symm,HM.out.1⟩
def qa1 (s:ByteArray) (x:List Fld):List UInt8:=if s.size=0∨allB x=false then [] else s.data.toList++[13,10]++kz x++[13,10]
theorem qxh {s:ByteArray} {x:List Fld} (h:s.size=0∨allB x=false):qa1 s x=[]:=by unfold qa1; rw [if_pos h]
theorem qer {s:ByteArray} {x:List Fld} (h:¬ s.size=0) (h2:allB x=true):qa1 s x=s.data.toList++[13,10]++kz x++[13,10]:=by
 unfold qa1;rw [if_neg (fun e=>e.elim h (fun e=>by rw [h2] at e; cases e))]
def jcm (w:World) (l:List UInt8) (e:Ending) (w':World):Prop :=
 (l=[]∧e = .returned (.slice none 0 0)∧Below w.heap.size w w') ∨
 ∃ W s,s.data.toList=l∧0<l.length∧e = .returned (.slice (some ⟨W.heap.size,0,none⟩) s.size (grownCap W s.size 0 5))∧w'=Lib.bytesWorld W 5 s∧Below w.heap.size w W
theorem ja1 {y:ByteArray} (h:y.size=0):y.toList.isEmpty=true:=by
 rw [ByteArray.toList_eq,List.isEmpty_iff,← List.length_eq_zero_iff,Array.length_toList]; exact h
theorem je4 {y:ByteArray} (h:¬ y.size=0):y.toList.isEmpty=false:=by
 rw [← Bool.not_eq_true,ByteArray.toList_eq,List.isEmpty_iff,← List.length_eq_zero_iff,Array.length_toList]; exact h
theorem qez (m t:ByteArray) (z:Int) (fr:Bool) (x:List Fld) (fa ba:Option Addr) (fc bn bc:Nat) (w:World) (hm:m.size≤1000000000) (ht:t.size≤1000000000) (hx:qm w fa x) (hz:qbe x) (hl:x.length≤1000) (hq:(jd m t z).size≤4000000000) :
  Calls Tryz.prog 35 #[.agg #[.string m,.string t,.int .i64 z,.slice fa x.length fc,.bool fr,.slice ba bn bc]] w (jcm w (qa1 (jd m t z) x)):=by
 have HB0:=Box.mk (qd w (.cells #[.string m,.string t,.int .i64 z,.slice fa x.length fc,.bool fr,.slice ba bn bc] 29));have hc3:(w.alloc (.cells #[.string m,.string t,.int .i64 z,.slice fa x.length fc,.bool fr,.slice ba bn bc] 29)).cell? ⟨w.heap.size,3,none⟩=some (.slice fa x.length fc):=by rw [jm]; rfl
 have HC3:=Box.mk hc3;have HX0:=Box.mk (hx.keep HB0.out);have HZ:=Box.mk hz;have HCALL:=Box.mk (fun W=>qkw m t z fa ba x.length fc bn bc fr W hm ht);have HN:=Box.mk (fun h=>qxh (s:=jd m t z) (x:=x) h);have HY:=Box.mk (fun h h2=>qer (s:=jd m t z) (x:=x) h h2);generalize qa1 (jd m t z) x=R at *;generalize jd m t z=s at *;clear hx hz hc3;go_enter Tryz.func35,Tryz.ntmps35
 go_wp2_with fail;refine (HCALL.out _).mono ?_;rintro e w1 ⟨rfl,hb1⟩;have hd3:=qp hb1 HC3.out;have HX1:=Box.mk (HX0.out.keep hb1);have HB1:=Box.mk (qe HB0.out hb1);have HD3:=Box.mk hd3;clear hb1 HX0 HB0 HC3;by_cases h0:s.size=0
 · have he:=ja1 h0
   have HP:=Box.mk (HN.out (.inl h0));clear h0 hd3;go_wp2_with fail;go_ret;exact .inl ⟨HP.out,rfl,HB1.out⟩
 · have he:=je4 h0
   have H0:=Box.mk h0;clear h0;go_wp2_with fail;refine (qfr x fa fc _ HX1.out (fun f hf=>⟨qbm (HZ.out f hf).1,qbm (HZ.out f hf).2⟩) (by omega)).mono ?_;rintro e w2 ⟨he2,hb2⟩;have hd3:=qp hb2 HD3.out;have HX2:=Box.mk (HX1.out.keep hb2);have HB2:=Box.mk (qe HB1.out hb2);clear hb2 HX1 HB1 HD3;by_cases hv:allB x=true
   · rw [hv] at he2
     subst he2;have HP:=Box.mk (HY.out H0.out hv);have HF:=Box.mk (show (fmtF x).data.toList=kz x by unfold fmtF; rw [if_pos hv]);have hfz:(fmtF x).size≤1000*2097156:=by
      have h1:=qo8 x HZ.out x.length;rw [List.take_length] at h1;have h2:=congrArg List.length HF.out;rw [Array.length_toList] at h2;have h3:(fmtF x).data.size=(fmtF x).size:=rfl;have h4:x.length*2097156≤1000*2097156:=Nat.mul_le_mul_right _ hl;omega
     have hadd1:=fun W=>run_string_add_sum (P:=Tryz.prog) (w:=W) s ⟨#[13,10]⟩ (by show s.size+2≤_; omega);obtain ⟨s1,hs1⟩ : ∃ s1,s1=s++(⟨#[13,10]⟩ : ByteArray):=⟨_,rfl⟩;rw [← hs1] at hadd1;have hs1z:s1.size=s.size+2:=by rw [hs1,ByteArray.size_append]; rfl
     have HFM:=Box.mk (fun W (h:qm W fa x)=>qip x fa fc W h HZ.out (by omega));generalize fmtF x=f at *;have hadd2:=fun W=>run_string_add_sum (P:=Tryz.prog) (w:=W) s1 f (by omega);obtain ⟨s2,hs2⟩ : ∃ s2,s2=s1++f:=⟨_,rfl⟩;rw [← hs2] at hadd2;have hs2z:s2.size=s.size+2+f.size:=by rw [hs2,ByteArray.size_append,hs1z]
     have hadd3:=fun W=>run_string_add_sum (P:=Tryz.prog) (w:=W) s2 ⟨#[13,10]⟩ (by show s2.size+2≤_; omega);obtain ⟨s3,hs3⟩ : ∃ s3,s3=s2++(⟨#[13,10]⟩ : ByteArray):=⟨_,rfl⟩;rw [← hs3] at hadd3;have HS3:=Box.mk (show s3.data.toList=R by
      rw [HP.out,hs3,hs2,hs1,← HF.out]
      simp)
     have HRP:=Box.mk (show 0<R.length by rw [HP.out]; simp; omega);have hcvb:=fun W=>Lib.run_convert_string_bytes (P:=Tryz.prog) W 9 23 5 s3 Tryz.underlying9 Tryz.underlying23 Tryz.underlying5;clear hs1 hs2 hs3 hs1z hs2z hv;go_wp2_with fail;refine (HFM.out _ HX2.out).mono ?_;rintro e w3 ⟨rfl,hb3⟩;have HB3:=Box.mk (qe HB2.out hb3);clear hb3;go_wp2_with fail;go_ret;exact .inr ⟨w3,s3,HS3.out,HRP.out,rfl,rfl,HB3.out⟩
   · have hv2:allB x=false:=by rw [← Bool.not_eq_true]; exact hv
     rw [hv2] at he2;subst he2;have HP:=Box.mk (HN.out (.inr hv2));clear hv hv2;go_wp2_with fail;go_ret;exact .inl ⟨HP.out,rfl,HB2.out⟩
theorem qpq (st:Int) (r:ByteArray) (z:Int) (x:List Fld) (fa ba:Option Addr) (fc bn bc:Nat) (w:World) (hr:r.size≤1000000000) (hx:qm w fa x) (hz:qbe x) (hl:x.length≤1000) (hq:(qad st r z).size≤4000000000) :
  Calls Tryz.prog 34 #[.agg #[.int .i64 st,.string r,.int .i64 z,.slice fa x.length fc,.slice ba bn bc]] w (jcm w (qa1 (qad st r z) x)):=by
 have HB0:=Box.mk (qd w (.cells #[.int .i64 st,.string r,.int .i64 z,.slice fa x.length fc,.slice ba bn bc] 31));have hc3:(w.alloc (.cells #[.int .i64 st,.string r,.int .i64 z,.slice fa x.length fc,.slice ba bn bc] 31)).cell? ⟨w.heap.size,3,none⟩=some (.slice fa x.length fc):=by rw [jm]; rfl
 have HC3:=Box.mk hc3;have HX0:=Box.mk (hx.keep HB0.out);have HZ:=Box.mk hz;have HCALL:=Box.mk (fun W=>qku st r z fa ba x.length fc bn bc W hr);have HN:=Box.mk (fun h=>qxh (s:=qad st r z) (x:=x) h);have HY:=Box.mk (fun h h2=>qer (s:=qad st r z) (x:=x) h h2);generalize qa1 (qad st r z) x=R at *;generalize qad st r z=s at *;clear hx hz hc3;go_enter Tryz.func34,Tryz.ntmps34
 go_wp2_with fail;refine (HCALL.out _).mono ?_;rintro e w1 ⟨rfl,hb1⟩;have hd3:=qp hb1 HC3.out;have HX1:=Box.mk (HX0.out.keep hb1);have HB1:=Box.mk (qe HB0.out hb1);have HD3:=Box.mk hd3;clear hb1 HX0 HB0 HC3;by_cases h0:s.size=0
 · have he:=ja1 h0
   have HP:=Box.mk (HN.out (.inl h0));clear h0 hd3;go_wp2_with fail;go_ret;exact .inl ⟨HP.out,rfl,HB1.out⟩
 · have he:=je4 h0
   have H0:=Box.mk h0;clear h0;go_wp2_with fail;refine (qfr x fa fc _ HX1.out (fun f hf=>⟨qbm (HZ.out f hf).1,qbm (HZ.out f hf).2⟩) (by omega)).mono ?_;rintro e w2 ⟨he2,hb2⟩;have hd3:=qp hb2 HD3.out;have HX2:=Box.mk (HX1.out.keep hb2);have HB2:=Box.mk (qe HB1.out hb2);clear hb2 HX1 HB1 HD3;by_cases hv:allB x=true
   · rw [hv] at he2
     subst he2;have HP:=Box.mk (HY.out H0.out hv);have HF:=Box.mk (show (fmtF x).data.toList=kz x by unfold fmtF; rw [if_pos hv]);have hfz:(fmtF x).size≤1000*2097156:=by
      have h1:=qo8 x HZ.out x.length;rw [List.take_length] at h1;have h2:=congrArg List.length HF.out;rw [Array.length_toList] at h2;have h3:(fmtF x).data.size=(fmtF x).size:=rfl;have h4:x.length*2097156≤1000*2097156:=Nat.mul_le_mul_right _ hl;omega
     have hadd1:=fun W=>run_string_add_sum (P:=Tryz.prog) (w:=W) s ⟨#[13,10]⟩ (by show s.size+2≤_; omega);obtain ⟨s1,hs1⟩ : ∃ s1,s1=s++(⟨#[13,10]⟩ : ByteArray):=⟨_,rfl⟩;rw [← hs1] at hadd1;have hs1z:s1.size=s.size+2:=by rw [hs1,ByteArray.size_append]; rfl
     have HFM:=Box.mk (fun W (h:qm W fa x)=>qip x fa fc W h HZ.out (by omega));generalize fmtF x=f at *;have hadd2:=fun W=>run_string_add_sum (P:=Tryz.prog) (w:=W) s1 f (by omega);obtain ⟨s2,hs2⟩ : ∃ s2,s2=s1++f:=⟨_,rfl⟩;rw [← hs2] at hadd2;have hs2z:s2.size=s.size+2+f.size:=by rw [hs2,ByteArray.size_append,hs1z]
     have hadd3:=fun W=>run_string_add_sum (P:=Tryz.prog) (w:=W) s2 ⟨#[13,10]⟩ (by show s2.size+2≤_; omega);obtain ⟨s3,hs3⟩ : ∃ s3,s3=s2++(⟨#[13,10]⟩ : ByteArray):=⟨_,rfl⟩;rw [← hs3] at hadd3;have HS3:=Box.mk (show s3.data.toList=R by
      rw [HP.out,hs3,hs2,hs1,← HF.out]
      simp)
     have HRP:=Box.mk (show 0<R.length by rw [HP.out]; simp; omega);have hcvb:=fun W=>Lib.run_convert_string_bytes (P:=Tryz.prog) W 9 23 5 s3 Tryz.underlying9 Tryz.underlying23 Tryz.underlying5;clear hs1 hs2 hs3 hs1z hs2z hv;go_wp2_with fail;refine (HFM.out _ HX2.out).mono ?_;rintro e w3 ⟨rfl,hb3⟩;have HB3:=Box.mk (qe HB2.out hb3);clear hb3;go_wp2_with fail;go_ret;exact .inr ⟨w3,s3,HS3.out,HRP.out,rfl,rfl,HB3.out⟩
   · have hv2:allB x=false:=by rw [← Bool.not_eq_true]; exact hv
     rw [hv2] at he2;subst he2;have HP:=Box.mk (HN.out (.inr hv2));clear hv hv2;go_wp2_with fail;go_ret;exact .inl ⟨HP.out,rfl,HB2.out⟩
structure Chk where
 ph:Int
 left:Int
 tr:Int
 line:List UInt8
def zeroC:Chk:=⟨0,0,0,[]⟩
def szS (y:ByteArray):ByteArray:=((jj 59 y)[0]?).getD ⟨#[]⟩
def kp (s:Chk) (y:ByteArray):Int × Chk :=
 if s.ph=0 then
  (if (qo 16 1000000000 (szS y)).2=2∨visS y=false then (2,zeroC)
  else if (qo 16 1000000000 (szS y)).2=0 then (0,⟨if (qo 16 1000000000 (szS y)).1=0 then 3 else 1,(qo 16 1000000000 (szS y)).1,s.tr,[]⟩)
  else ((qo 16 1000000000 (szS y)).2,zeroC))
 else if s.ph=2 then (if y.size=0 then (0,⟨0,s.left,s.tr,[]⟩) else (2,zeroC))
 else if s.ph=3 then (if y.size=0 then (0,⟨4,s.left,s.tr,[]⟩) else if (kr y).isSome=true then (0,⟨3,s.left,s.tr,[]⟩) else (2,zeroC))
 else (0,⟨s.ph,s.left,s.tr,[]⟩)
def crB (l:List UInt8):Bool:=l.getLast? == some 13
def qba (s:Chk) (t:Int) (x:UInt8):Int × Chk :=
 if crB s.line=false then
  (if x=10 then (2,zeroC) else if 128<s.line.length+1∧¬ x=13 then (3,zeroC) else (0,⟨s.ph,s.left,t,s.line++[x]⟩))
 else if x=10 then kp ⟨s.ph,s.left,t,[]⟩ ⟨s.line.dropLast.toArray⟩ else (2,zeroC)
def qat (s:Chk) (x:UInt8):Int × Chk :=
 if s.ph=3 then (if 1024<s.tr+1 then (3,zeroC) else qba s (s.tr+1) x) else qba s s.tr x
def jp (room:Int):Chk→List UInt8→Nat→List UInt8→Int × Chk × List UInt8 × Nat
 | s,out,i,[]=>(0,s,out,i)
 | s,out,i,x :: r =>
  if s.ph=4∨s.ph=1∧room≤out.length then (0,s,out,i)
  else if s.ph=1 then jp room ⟨if s.left-1=0 then 2 else 1,s.left-1,s.tr,s.line⟩ (out++[x]) (i+1) r
  else if (qat s x).1=0 then jp room (qat s x).2 out (i+1) r
  else ((qat s x).1,zeroC,[],0)
def CVar (w:World) (g:Nat) (p l t:Int) (v:Value):Prop:=w.heap[g]? = some (.cells #[.int .i64 p,.int .i64 l,.int .i64 t,v] 35 (0,0))
theorem CVar.keep {w w':World} {g:Nat} {p l t:Int} {v:Value} (h:CVar w g p l t v) (hb:Below w.heap.size w w'):CVar w' g p l t v:=by
 unfold CVar at *;rw [hb.block g (Array.getElem?_eq_some_iff.1 h).1]; exact h
theorem CVar.lt {w:World} {g:Nat} {p l t:Int} {v:Value} (h:CVar w g p l t v):g<w.heap.size:=(Array.getElem?_eq_some_iff.1 h).1
theorem CVar.cells {w:World} {g:Nat} {p l t:Int} {v:Value} (h:CVar w g p l t v):w.cell? ⟨g,0,none⟩=some (.int .i64 p)∧w.cell? ⟨g,1,none⟩=some (.int .i64 l)∧w.cell? ⟨g,2,none⟩=some (.int .i64 t)∧w.cell? ⟨g,3,none⟩=some v:=by
 refine ⟨?_,?_,?_,?_⟩ <;> rw [cell_of_row _ _ _ _ _ _ h] <;> rfl
theorem j8:(Tryz.prog.info? 35).map (·.size)=some 4:=by kernel_rfl
theorem oneC (p l t:Int) (a:Option Addr) (n c:Nat):(#[.int .i64 p,.int .i64 l,.int .i64 t,.slice a n c]:Array Value).all (·.oneCell')=true:=by simp [Value.oneCell']
def ja (w:World) (r:Int × Chk) (e:Ending) (w':World):Prop :=
 ∃ p l t a n c,e = .returned (.tuple #[.agg #[.int .i64 p,.int .i64 l,.int .i64 t,.slice a n c],.int .i64 r.1])∧(r.1=0→p=r.2.ph∧l=r.2.left∧t=r.2.tr∧n=r.2.line.length∧qg w' a r.2.line c)∧Below w.heap.size w w'
theorem ja.err {w w':World} {r:Int × Chk} {e:Ending} {p l t er:Int} {a:Option Addr} {n c:Nat} (he:e = .returned (.tuple #[.agg #[.int .i64 p,.int .i64 l,.int .i64 t,.slice a n c],.int .i64 er])) (hr:r=(er,zeroC)) (h0:er≠0) (hb:Below w.heap.size w w'):ja w r e w':=by
 subst hr;exact ⟨p,l,t,a,n,c,he,fun h=>absurd h h0,hb⟩
theorem ja.ok {w w':World} {r:Int × Chk} {e:Ending} {p l t:Int} {a:Option Addr} {n c:Nat} {line:List UInt8} (he:e = .returned (.tuple #[.agg #[.int .i64 p,.int .i64 l,.int .i64 t,.slice a n c],.int .i64 0])) (hr:r=(0,⟨p,l,t,line⟩)) (hn:n=line.length) (hy:qg w' a line c) (hb:Below w.heap.size w w'):ja w r e w':=by
 subst hr;exact ⟨p,l,t,a,n,c,he,fun _=>⟨rfl,rfl,rfl,hn,hy⟩,hb⟩
theorem CVar.setV {w:World} {g:Nat} {p l t:Int} {v u:Value} (h:CVar w g p l t v):CVar (w.setCell ⟨g,3,none⟩ u) g p l t u:=by
 unfold CVar; rw [heap_setCell_same _ _ _ _ _ _ h]; rfl
theorem CVar.setP {w:World} {g:Nat} {p l t z:Int} {v:Value} (h:CVar w g p l t v):CVar (w.setCell ⟨g,0,none⟩ (.int .i64 z)) g z l t v:=by
 unfold CVar; rw [heap_setCell_same _ _ _ _ _ _ h]; rfl
theorem CVar.setL {w:World} {g:Nat} {p l t z:Int} {v:Value} (h:CVar w g p l t v):CVar (w.setCell ⟨g,1,none⟩ (.int .i64 z)) g p z t v:=by
 unfold CVar; rw [heap_setCell_same _ _ _ _ _ _ h]; rfl
theorem CVar.setT {w:World} {g:Nat} {p l t z:Int} {v:Value} (h:CVar w g p l t v):CVar (w.setCell ⟨g,2,none⟩ (.int .i64 z)) g p l z v:=by
 unfold CVar; rw [heap_setCell_same _ _ _ _ _ _ h]; rfl
theorem CVar.other {w:World} {g:Nat} {p l t:Int} {v u:Value} {x:Addr} (h:CVar w g p l t v) (hne:g≠x.block):CVar (w.setCell x u) g p l t v:=by
 unfold CVar; rw [heap_setCell_other _ _ _ _ hne]; exact h
theorem CVar.frozen {w:World} {g i:Nat} {p l t:Int} {v:Value} (h:CVar w g p l t v):w.frozen? ⟨g,i,none⟩=false:=by
 unfold CVar at h; simp [World.frozen?,h]
section
variable {ops:Array Oper} {rest:List Oper} {o:Oper} {act:Act} {Q:Exit→Act→World→Prop} {w:World}
theorem qv {P:Program} (hgd:o.guard=none) (ty:TypeId) (x y:Operand) (ho:o.op = .store ty x y) {p:Addr} {sa:Option Addr} {sn sc:Nat} {u:Value} (hx:act.eval x = .pointer (some p)) (hy:act.eval y = .slice sa sn sc) (hi:(P.info? ty).map (·.size)=some 1)
  (hc:w.cell? p=some u) (hf:w.frozen? p=false) (h:wpList P ops Q rest (act.put o.dst undef) (w.setCell p (.slice sa sn sc))):wpList P ops Q (o :: rest) act w :=
 wpList_plain hgd fun K hK=>by
  have hz:(sizeOf ty).run P w = .ok 1 w:=by
   cases hq:P.info? ty with
   | none=>rw [hq] at hi; cases hi
   | some i=>rw [hq] at hi; simp at hi; simp [sizeOf,typeInfo,hq,hi]
  have h2:=hK _ _ h;unfold Oper.wp execOp;simp_all [Instr.storeAt,Instr.sureAddr,storeVar,storeCells,Value.cells,go_sem]
end
theorem Own.setC {B g i:Nat} {w:World} {v u:Value} {l:List UInt8} (h:Own B w v l) (hg:g<B):Own B (w.setCell ⟨g,i,none⟩ u) v l :=
 h.same fun k hk=>heap_setCell_other _ _ _ _ (by have:=(h.lt hk).1; show k≠g; omega)
theorem Own.setR {B g:Nat} {w:World} {v:Value} {cs:Array Value} {l:List UInt8} (h:Own B w v l) (hg:g<B):Own B (w.setRow g cs) v l :=
 h.same fun k hk=>setRow_other _ _ _ _ (by have:=(h.lt hk).1; omega)
theorem Own.bytes {B:Nat} {w:World} {a:Option Addr} {l:List UInt8} {n c:Nat} (h:Own B w (.slice a n c) l):qg w a l c:=by
 obtain ⟨a',c',e,hb⟩:=h.val;injection e with e1 e2 e3;subst e1 e3;exact hb
theorem qem (l:List UInt8):l=[] ∨ ∃ m z,l=m++[z]:=by
 rcases List.eq_nil_or_concat l with h | ⟨m,z,h⟩
 · exact .inl h
 · exact .inr ⟨m,z,by rw [h,List.concat_eq_append]⟩
theorem qdt (m:List UInt8) (z:UInt8):crB (m++[z])=(z == 13):=by unfold crB; simp
end Go.Proofs.YtflhjpokjdjbpaaGreatDoor
namespace Go.Proofs.YtflhjpokjdjbpaaGreatDoor
open Go.RowKit
theorem qcy {s:Chk} {t:Int} (h:crB s.line=false):qba s t 10=(2,zeroC):=by unfold qba; rw [if_pos h,if_pos rfl]
theorem qby {s:Chk} {t:Int} {x:UInt8} (h:crB s.line=false) (hx:¬ x=10) (hl:128<s.line.length+1) (h13:¬ x=13):qba s t x=(3,zeroC):=by
 unfold qba; rw [if_pos h,if_neg hx,if_pos ⟨hl,h13⟩]
theorem qb3 {s:Chk} {t:Int} {x:UInt8} (h:crB s.line=false) (hx:¬ x=10) (hl:¬ (128<s.line.length+1∧¬ x=13)):qba s t x=(0,⟨s.ph,s.left,t,s.line++[x]⟩):=by
 unfold qba; rw [if_pos h,if_neg hx,if_neg hl]
theorem qhx {s:Chk} {t:Int} {x:UInt8} (h:crB s.line=true) (hx:¬ x=10):qba s t x=(2,zeroC):=by
 unfold qba; rw [if_neg (by rw [h]; decide),if_neg hx]
theorem qep {m:List UInt8} {p l t0 t:Int}:qba ⟨p,l,t0,m++[13]⟩ t 10=kp ⟨p,l,t,[]⟩ ⟨m.toArray⟩:=by
 unfold qba; rw [if_neg (by rw [qdt]; decide),if_pos rfl]; simp
theorem qgp {B g i:Nat} {w:World} {v u:Value} {l:List UInt8} (h:Own B w v l) (hg:g<B):Own B (w.setCell ⟨g,i,none⟩ u) v l:=h.setC hg
theorem qak {w:World} {a:Option Addr} {m:List UInt8} {z:UInt8} {c:Nat} (h:qg w a (m++[z]) c):qg w a m c:=by
 rcases h with ⟨_,e,_⟩ | ⟨x,e,h1,h2,h3⟩
 · simp at e
 · refine .inr ⟨x,e,by simp at h1; omega,h2,fun j hj=>?_⟩
   have:=h3 j (by simp; omega)
   rwa [List.getElem_append_left hj] at this
theorem qsb (p:Int) (l t:Int) (m:List UInt8) (z:UInt8) (ad:Addr) (x:UInt8) (lc:Nat) (w:World) (h:qg w (some ad) (m++[z]) lc) (hz:¬ z=13) (hl:m.length≤1000) (hp:¬ p=3) :
  Calls Tryz.prog 70 #[.agg #[.int .i64 p,.int .i64 l,.int .i64 t,.slice (some ad) (m.length+1) lc],.int .u8 x.toNat] w (ja w (qba ⟨p,l,t,m++[z]⟩ t x)):=by
 have ep:(p == 3)=false:=by rw [beq_eq_false_iff_ne]; exact hp
 obtain ⟨W2,hW2⟩ : ∃ W2,W2=(w.alloc (.cells #[.int .i64 p,.int .i64 l,.int .i64 t,.slice (some ad) (m.length+1) lc] 35)).alloc (.cells #[.int .i64 0,.int .i64 0,.int .i64 0,.slice none 0 0] 35):=⟨_,rfl⟩;have hsz2:W2.heap.size=w.heap.size+1+1:=by rw [hW2,World.size_alloc,World.size_alloc]
 have hb0:Below w.heap.size w W2:=by rw [hW2]; exact qk (qd w _) _
 have H0:=Box.mk (h.keep hb0);have HB0:=Box.mk hb0;have hcr:crB (m++[z])=false:=by rw [qdt]; simpa using hz
 have hcz:w.cell? (ad.add m.length)=some (.int .u8 (z.toNat:Int)):=by
  rcases h with ⟨e,_⟩ | ⟨y,e,_,_,hc⟩
  · cases e
  · obtain rfl:=Option.some.inj e
    have:=hc m.length (by simp);simpa using this
 have hbl:(ad.add m.length).block<w.heap.size:=qbk hcz;have ez:((z.toNat:Int) != 13)=true:=by
  rw [bne_iff_ne]; intro e; exact hz (UInt8.toNat_inj.1 (by rw [show (13:UInt8).toNat=13 from rfl]; omega))
 have hR:=Box.mk (show CVar W2 (w.heap.size+1) 0 0 0 (.slice none 0 0) by
  have h:=heap_alloc_new (w.alloc (.cells #[.int .i64 p,.int .i64 l,.int .i64 t,.slice (some ad) (m.length+1) lc] 35)) (.cells #[.int .i64 0,.int .i64 0,.int .i64 0,.slice none 0 0] 35);rw [World.size_alloc] at h; rw [hW2]; exact h)
 have HC:=Box.mk (show CVar W2 w.heap.size p l t (.slice (some ad) (m.length+1) lc) by
  rw [hW2]; exact CVar.keep (heap_alloc_new _ _) (qd _ _))
 have HE:=Box.mk (show AccB W2 (W2.alloc (.cells #[] 5)) (.slice (some ⟨w.heap.size+1+1,0,none⟩) 0 0) [] by rw [← hsz2]; exact AccB.empty W2);have HSZ:=Box.mk hsz2;have HW2:=Box.mk hW2;clear h hb0 hW2 hsz2;by_cases hx:x=10
 · subst hx
   have HP:=Box.mk (qcy (s:=⟨p,l,t,m++[z]⟩) (t:=t) hcr);clear hcr HE hz;clear hp;rw [show (10:UInt8).toNat=10 from rfl];go_enter Tryz.func70,Tryz.ntmps70
   have hR':=hR;rw [HW2.out] at hR';go_wp2_with (refine wpList_store_row rfl 35 _ _ rfl (w.heap.size+1) #[.int .i64 p,.int .i64 l,.int .i64 t,.slice (some ad) (m.length+1) lc] rfl rfl 35 _ hR'.out j8 rfl (oneC _ _ _ _ _ _) ?_)
   (try simp only [Exit.inBlock,Exit.then])
   refine bodyPost_ret (qf rfl _ _ (w.heap.size+1) _ _ _ _ rfl (setRow_heap _ _ _ _ _ _ hR'.out) Tryz.underlying35 rfl j8) rfl ?_;exact ja.err rfl HP.out (by decide) (below_setRow (by rw [← HW2.out]; exact HB0.out) (by omega) _)
 · have e10:((x.toNat:Int) == 10)=false:=by
    rw [beq_eq_false_iff_ne]; intro e; exact hx (UInt8.toNat_inj.1 (by rw [show (10:UInt8).toNat=10 from rfl]; omega))
   go_enter Tryz.func70,Tryz.ntmps70
   go_wp2_with (at_builtin; refine kn _ rfl _ _ rfl rfl (by rw [← HW2.out]; exact HE.out) (by show Value.slice (some ad) (m.length+1) lc = .slice (some ad) (m++[z]:List UInt8).length lc; simp) (by rw [← HW2.out]; exact H0.out.keep (qd _ _)) (by simp; omega) ?_)
   intro v3 w3 hacc;obtain ⟨ln,hln⟩ : ∃ ln:List UInt8,ln=m++[z]:=⟨_,rfl⟩;have HACC:=Box.mk (show AccB W2 w3 v3 ln by rw [hln]; exact hacc);have hll:ln.length≤1001:=by rw [hln]; simp; omega
   have HLN:=Box.mk hln;clear hacc hln HE;go_wp2_with (at_builtin; refine qb9 _ rfl _ _ rfl rfl (HACC.out.keep ((Below.refl _ _).alloc (Nat.le_refl _) _)) rfl (y:=x) ?c1 ?c2 ?c3)
   case c1=>simp
   case c2=>omega
   case c3 =>
    intro gl cap w4 hacc;have HC4:=Box.mk (HC.out.keep hacc.2);obtain ⟨hd0,hd1,hd2,hd3⟩:=(HC4.out.setV (u:=.slice (some ⟨gl,0,none⟩) (ln.length+1) cap)).cells;have HR4:=Box.mk ((hR.out.keep hacc.2).other (x:=⟨w.heap.size,3,none⟩) (u:=.slice (some ⟨gl,0,none⟩) (ln.length+1) cap) (by show w.heap.size+1≠w.heap.size; omega));have HO4:=Box.mk (qgp (g:=w.heap.size) (i:=3) (u:=.slice (some ⟨gl,0,none⟩) (ln.length+1) cap) hacc.1 (by have:=HSZ.out; omega));have HB4:=Box.mk ((qe HB0.out hacc.2).setCell (p:=⟨w.heap.size,3,none⟩) (Nat.le_refl _) (.slice (some ⟨gl,0,none⟩) (ln.length+1) cap));clear hacc HACC;by_cases hlong:128<ln.length+1∧¬ x=13
    · have HP:=Box.mk (qby (s:=⟨p,l,t,m++[z]⟩) (t:=t) hcr hx (by have h8:=hlong.1; rw [HLN.out] at h8; exact h8) hlong.2)
      have h128:=hlong.1;have e13:((x.toNat:Int) != 13)=true:=by
       rw [bne_iff_ne]; intro e; exact hlong.2 (UInt8.toNat_inj.1 (by rw [show (13:UInt8).toNat=13 from rfl]; omega))
      clear hlong hx hcr;go_wp2_with (first | (refine qv rfl _ _ _ rfl rfl rfl (by kernel_rfl) HC4.out.cells.2.2.2 HC4.out.frozen ?_) | (refine wpList_store_row rfl 35 _ _ rfl (w.heap.size+1) #[.int .i64 p,.int .i64 l,.int .i64 t,.slice (some ⟨gl,0,none⟩) (ln.length+1) cap] rfl rfl 35 _ HR4.out j8 rfl (oneC _ _ _ _ _ _) ?_))
      (try simp only [Exit.inBlock,Exit.then])
      refine bodyPost_ret (qf rfl _ _ (w.heap.size+1) _ _ _ _ rfl (setRow_heap _ _ _ _ _ _ HR4.out) Tryz.underlying35 rfl j8) rfl ?_;exact ja.err rfl HP.out (by decide) (below_setRow HB4.out (by omega) _)
    · have HP:=Box.mk (show qba ⟨p,l,t,m++[z]⟩ t x=(0,⟨p,l,t,ln++[x]⟩) by
       have hlong2:=hlong;rw [HLN.out] at hlong2 ⊢;exact qb3 hcr hx hlong2)
      by_cases h128:128<ln.length+1
      · have e13:((x.toNat:Int) != 13)=false:=by
         have hx13:x=13:=Decidable.byContradiction fun h=>hlong ⟨h128,h⟩;rw [hx13]; rfl
        clear hlong hx hcr;go_wp2_with (first | (refine qv rfl _ _ _ rfl rfl rfl (by kernel_rfl) HC4.out.cells.2.2.2 HC4.out.frozen ?_) | (refine wpList_store_row rfl 35 _ _ rfl (w.heap.size+1) #[.int .i64 p,.int .i64 l,.int .i64 t,.slice (some ⟨gl,0,none⟩) (ln.length+1) cap] rfl rfl 35 _ HR4.out j8 rfl (oneC _ _ _ _ _ _) ?_))
        (try simp only [Exit.inBlock,Exit.then])
        refine bodyPost_ret (qf rfl _ _ (w.heap.size+1) _ _ _ _ rfl (setRow_heap _ _ _ _ _ _ HR4.out) Tryz.underlying35 rfl j8) rfl ?_;exact ja.ok rfl HP.out (by simp) (HO4.out.setR (by have:=HSZ.out; omega)).bytes (below_setRow HB4.out (by omega) _)
      · clear hlong hx hcr
        go_wp2_with (first | (refine qv rfl _ _ _ rfl rfl rfl (by kernel_rfl) HC4.out.cells.2.2.2 HC4.out.frozen ?_) | (refine wpList_store_row rfl 35 _ _ rfl (w.heap.size+1) #[.int .i64 p,.int .i64 l,.int .i64 t,.slice (some ⟨gl,0,none⟩) (ln.length+1) cap] rfl rfl 35 _ HR4.out j8 rfl (oneC _ _ _ _ _ _) ?_))
        (try simp only [Exit.inBlock,Exit.then])
        refine bodyPost_ret (qf rfl _ _ (w.heap.size+1) _ _ _ _ rfl (setRow_heap _ _ _ _ _ _ HR4.out) Tryz.underlying35 rfl j8) rfl ?_;exact ja.ok rfl HP.out (by simp) (HO4.out.setR (by have:=HSZ.out; omega)).bytes (below_setRow HB4.out (by omega) _)
theorem qq4 (l t:Int) (m:List UInt8) (z:UInt8) (ad:Addr) (x:UInt8) (lc:Nat) (w:World) (h:qg w (some ad) (m++[z]) lc) (hz:¬ z=13) (hl:m.length≤1000) (ht0:0≤t) (ht:t+1≤1024) :
  Calls Tryz.prog 70 #[.agg #[.int .i64 3,.int .i64 l,.int .i64 t,.slice (some ad) (m.length+1) lc],.int .u8 x.toNat] w (ja w (qba ⟨3,l,t,m++[z]⟩ (t+1) x)):=by
 obtain ⟨W2,hW2⟩ : ∃ W2,W2=(w.alloc (.cells #[.int .i64 3,.int .i64 l,.int .i64 (t+1),.slice (some ad) (m.length+1) lc] 35)).alloc (.cells #[.int .i64 0,.int .i64 0,.int .i64 0,.slice none 0 0] 35):=⟨_,rfl⟩;have hsz2:W2.heap.size=w.heap.size+1+1:=by rw [hW2,World.size_alloc,World.size_alloc]
 have hb0:Below w.heap.size w W2:=by rw [hW2]; exact qk (qd w _) _
 have H0:=Box.mk (h.keep hb0);have HB0:=Box.mk hb0;have hcr:crB (m++[z])=false:=by rw [qdt]; simpa using hz
 have hcz:w.cell? (ad.add m.length)=some (.int .u8 (z.toNat:Int)):=by
  rcases h with ⟨e,_⟩ | ⟨y,e,_,_,hc⟩
  · cases e
  · obtain rfl:=Option.some.inj e
    have:=hc m.length (by simp);simpa using this
 have hbl:(ad.add m.length).block<w.heap.size:=qbk hcz;have ez:((z.toNat:Int) != 13)=true:=by
  rw [bne_iff_ne]; intro e; exact hz (UInt8.toNat_inj.1 (by rw [show (13:UInt8).toNat=13 from rfl]; omega))
 have hR:=Box.mk (show CVar W2 (w.heap.size+1) 0 0 0 (.slice none 0 0) by
  have h:=heap_alloc_new (w.alloc (.cells #[.int .i64 3,.int .i64 l,.int .i64 (t+1),.slice (some ad) (m.length+1) lc] 35)) (.cells #[.int .i64 0,.int .i64 0,.int .i64 0,.slice none 0 0] 35);rw [World.size_alloc] at h; rw [hW2]; exact h)
 have HC:=Box.mk (show CVar W2 w.heap.size 3 l (t+1) (.slice (some ad) (m.length+1) lc) by
  rw [hW2]; exact CVar.keep (heap_alloc_new _ _) (qd _ _))
 have HE:=Box.mk (show AccB W2 (W2.alloc (.cells #[] 5)) (.slice (some ⟨w.heap.size+1+1,0,none⟩) 0 0) [] by rw [← hsz2]; exact AccB.empty W2);have HSZ:=Box.mk hsz2;have HW2:=Box.mk hW2;clear h hb0 hW2 hsz2;by_cases hx:x=10
 · subst hx
   have HP:=Box.mk (qcy (s:=⟨3,l,t,m++[z]⟩) (t:=(t+1)) hcr);clear hcr HE hz;rw [show (10:UInt8).toNat=10 from rfl];go_enter Tryz.func70,Tryz.ntmps70
   have hR':=hR;rw [HW2.out] at hR';go_wp2_with (refine wpList_store_row rfl 35 _ _ rfl (w.heap.size+1) #[.int .i64 3,.int .i64 l,.int .i64 (t+1),.slice (some ad) (m.length+1) lc] rfl rfl 35 _ hR'.out j8 rfl (oneC _ _ _ _ _ _) ?_)
   (try simp only [Exit.inBlock,Exit.then])
   refine bodyPost_ret (qf rfl _ _ (w.heap.size+1) _ _ _ _ rfl (setRow_heap _ _ _ _ _ _ hR'.out) Tryz.underlying35 rfl j8) rfl ?_;exact ja.err rfl HP.out (by decide) (below_setRow (by rw [← HW2.out]; exact HB0.out) (by omega) _)
 · have e10:((x.toNat:Int) == 10)=false:=by
    rw [beq_eq_false_iff_ne]; intro e; exact hx (UInt8.toNat_inj.1 (by rw [show (10:UInt8).toNat=10 from rfl]; omega))
   go_enter Tryz.func70,Tryz.ntmps70
   go_wp2_with (at_builtin; refine kn _ rfl _ _ rfl rfl (by rw [← HW2.out]; exact HE.out) (by show Value.slice (some ad) (m.length+1) lc = .slice (some ad) (m++[z]:List UInt8).length lc; simp) (by rw [← HW2.out]; exact H0.out.keep (qd _ _)) (by simp; omega) ?_)
   intro v3 w3 hacc;obtain ⟨ln,hln⟩ : ∃ ln:List UInt8,ln=m++[z]:=⟨_,rfl⟩;have HACC:=Box.mk (show AccB W2 w3 v3 ln by rw [hln]; exact hacc);have hll:ln.length≤1001:=by rw [hln]; simp; omega
   have HLN:=Box.mk hln;clear hacc hln HE;go_wp2_with (at_builtin; refine qb9 _ rfl _ _ rfl rfl (HACC.out.keep ((Below.refl _ _).alloc (Nat.le_refl _) _)) rfl (y:=x) ?c1 ?c2 ?c3)
   case c1=>simp
   case c2=>omega
   case c3 =>
    intro gl cap w4 hacc;have HC4:=Box.mk (HC.out.keep hacc.2);obtain ⟨hd0,hd1,hd2,hd3⟩:=(HC4.out.setV (u:=.slice (some ⟨gl,0,none⟩) (ln.length+1) cap)).cells;have HR4:=Box.mk ((hR.out.keep hacc.2).other (x:=⟨w.heap.size,3,none⟩) (u:=.slice (some ⟨gl,0,none⟩) (ln.length+1) cap) (by show w.heap.size+1≠w.heap.size; omega));have HO4:=Box.mk (qgp (g:=w.heap.size) (i:=3) (u:=.slice (some ⟨gl,0,none⟩) (ln.length+1) cap) hacc.1 (by have:=HSZ.out; omega));have HB4:=Box.mk ((qe HB0.out hacc.2).setCell (p:=⟨w.heap.size,3,none⟩) (Nat.le_refl _) (.slice (some ⟨gl,0,none⟩) (ln.length+1) cap));clear hacc HACC;by_cases hlong:128<ln.length+1∧¬ x=13
    · have HP:=Box.mk (qby (s:=⟨3,l,t,m++[z]⟩) (t:=(t+1)) hcr hx (by have h8:=hlong.1; rw [HLN.out] at h8; exact h8) hlong.2)
      have h128:=hlong.1;have e13:((x.toNat:Int) != 13)=true:=by
       rw [bne_iff_ne]; intro e; exact hlong.2 (UInt8.toNat_inj.1 (by rw [show (13:UInt8).toNat=13 from rfl]; omega))
      clear hlong hx hcr;go_wp2_with (first | (refine qv rfl _ _ _ rfl rfl rfl (by kernel_rfl) HC4.out.cells.2.2.2 HC4.out.frozen ?_) | (refine wpList_store_row rfl 35 _ _ rfl (w.heap.size+1) #[.int .i64 3,.int .i64 l,.int .i64 (t+1),.slice (some ⟨gl,0,none⟩) (ln.length+1) cap] rfl rfl 35 _ HR4.out j8 rfl (oneC _ _ _ _ _ _) ?_))
      (try simp only [Exit.inBlock,Exit.then])
      refine bodyPost_ret (qf rfl _ _ (w.heap.size+1) _ _ _ _ rfl (setRow_heap _ _ _ _ _ _ HR4.out) Tryz.underlying35 rfl j8) rfl ?_;exact ja.err rfl HP.out (by decide) (below_setRow HB4.out (by omega) _)
    · have HP:=Box.mk (show qba ⟨3,l,t,m++[z]⟩ (t+1) x=(0,⟨3,l,(t+1),ln++[x]⟩) by
       have hlong2:=hlong;rw [HLN.out] at hlong2 ⊢;exact qb3 hcr hx hlong2)
      by_cases h128:128<ln.length+1
      · have e13:((x.toNat:Int) != 13)=false:=by
         have hx13:x=13:=Decidable.byContradiction fun h=>hlong ⟨h128,h⟩;rw [hx13]; rfl
        clear hlong hx hcr;go_wp2_with (first | (refine qv rfl _ _ _ rfl rfl rfl (by kernel_rfl) HC4.out.cells.2.2.2 HC4.out.frozen ?_) | (refine wpList_store_row rfl 35 _ _ rfl (w.heap.size+1) #[.int .i64 3,.int .i64 l,.int .i64 (t+1),.slice (some ⟨gl,0,none⟩) (ln.length+1) cap] rfl rfl 35 _ HR4.out j8 rfl (oneC _ _ _ _ _ _) ?_))
        (try simp only [Exit.inBlock,Exit.then])
        refine bodyPost_ret (qf rfl _ _ (w.heap.size+1) _ _ _ _ rfl (setRow_heap _ _ _ _ _ _ HR4.out) Tryz.underlying35 rfl j8) rfl ?_;exact ja.ok rfl HP.out (by simp) (HO4.out.setR (by have:=HSZ.out; omega)).bytes (below_setRow HB4.out (by omega) _)
      · clear hlong hx hcr
        go_wp2_with (first | (refine qv rfl _ _ _ rfl rfl rfl (by kernel_rfl) HC4.out.cells.2.2.2 HC4.out.frozen ?_) | (refine wpList_store_row rfl 35 _ _ rfl (w.heap.size+1) #[.int .i64 3,.int .i64 l,.int .i64 (t+1),.slice (some ⟨gl,0,none⟩) (ln.length+1) cap] rfl rfl 35 _ HR4.out j8 rfl (oneC _ _ _ _ _ _) ?_))
        (try simp only [Exit.inBlock,Exit.then])
        refine bodyPost_ret (qf rfl _ _ (w.heap.size+1) _ _ _ _ rfl (setRow_heap _ _ _ _ _ _ HR4.out) Tryz.underlying35 rfl j8) rfl ?_;exact ja.ok rfl HP.out (by simp) (HO4.out.setR (by have:=HSZ.out; omega)).bytes (below_setRow HB4.out (by omega) _)
theorem qw0 (p:Int) (l t:Int) (la:Option Addr) (x:UInt8) (lc:Nat) (w:World) (h:qg w la [] lc) (hp:¬ p=3) :
  Calls Tryz.prog 70 #[.agg #[.int .i64 p,.int .i64 l,.int .i64 t,.slice la 0 lc],.int .u8 x.toNat] w (ja w (qba ⟨p,l,t,[]⟩ t x)):=by
 have ep:(p == 3)=false:=by rw [beq_eq_false_iff_ne]; exact hp
 obtain ⟨W2,hW2⟩ : ∃ W2,W2=(w.alloc (.cells #[.int .i64 p,.int .i64 l,.int .i64 t,.slice la 0 lc] 35)).alloc (.cells #[.int .i64 0,.int .i64 0,.int .i64 0,.slice none 0 0] 35):=⟨_,rfl⟩;have hsz2:W2.heap.size=w.heap.size+1+1:=by rw [hW2,World.size_alloc,World.size_alloc]
 have hb0:Below w.heap.size w W2:=by rw [hW2]; exact qk (qd w _) _
 have H0:=Box.mk (h.keep hb0);have HB0:=Box.mk hb0;have hcr:crB []=false:=rfl;have hR:=Box.mk (show CVar W2 (w.heap.size+1) 0 0 0 (.slice none 0 0) by
  have h:=heap_alloc_new (w.alloc (.cells #[.int .i64 p,.int .i64 l,.int .i64 t,.slice la 0 lc] 35)) (.cells #[.int .i64 0,.int .i64 0,.int .i64 0,.slice none 0 0] 35);rw [World.size_alloc] at h; rw [hW2]; exact h)
 have HC:=Box.mk (show CVar W2 w.heap.size p l t (.slice la 0 lc) by
  rw [hW2]; exact CVar.keep (heap_alloc_new _ _) (qd _ _))
 have HE:=Box.mk (show AccB W2 (W2.alloc (.cells #[] 5)) (.slice (some ⟨w.heap.size+1+1,0,none⟩) 0 0) [] by rw [← hsz2]; exact AccB.empty W2);have HSZ:=Box.mk hsz2;have HW2:=Box.mk hW2;clear h hb0 hW2 hsz2;by_cases hx:x=10
 · subst hx
   have HP:=Box.mk (qcy (s:=⟨p,l,t,[]⟩) (t:=t) hcr);clear hcr HE ;clear hp;rw [show (10:UInt8).toNat=10 from rfl];go_enter Tryz.func70,Tryz.ntmps70
   have hR':=hR;rw [HW2.out] at hR';go_wp2_with (refine wpList_store_row rfl 35 _ _ rfl (w.heap.size+1) #[.int .i64 p,.int .i64 l,.int .i64 t,.slice la 0 lc] rfl rfl 35 _ hR'.out j8 rfl (oneC _ _ _ _ _ _) ?_)
   (try simp only [Exit.inBlock,Exit.then])
   refine bodyPost_ret (qf rfl _ _ (w.heap.size+1) _ _ _ _ rfl (setRow_heap _ _ _ _ _ _ hR'.out) Tryz.underlying35 rfl j8) rfl ?_;exact ja.err rfl HP.out (by decide) (below_setRow (by rw [← HW2.out]; exact HB0.out) (by omega) _)
 · have e10:((x.toNat:Int) == 10)=false:=by
    rw [beq_eq_false_iff_ne]; intro e; exact hx (UInt8.toNat_inj.1 (by rw [show (10:UInt8).toNat=10 from rfl]; omega))
   go_enter Tryz.func70,Tryz.ntmps70
   go_wp2_with (at_builtin; refine kn _ rfl _ _ rfl rfl (by rw [← HW2.out]; exact HE.out) (by show Value.slice la 0 lc = .slice la ([]:List UInt8).length lc; simp) (by rw [← HW2.out]; exact H0.out.keep (qd _ _)) (by simp) ?_)
   intro v3 w3 hacc;obtain ⟨ln,hln⟩ : ∃ ln:List UInt8,ln=[]:=⟨_,rfl⟩;have HACC:=Box.mk (show AccB W2 w3 v3 ln by rw [hln]; exact hacc);have hll:ln.length≤1001:=by rw [hln]; simp
   have HLN:=Box.mk hln;clear hacc hln HE;go_wp2_with (at_builtin; refine qb9 _ rfl _ _ rfl rfl (HACC.out.keep ((Below.refl _ _).alloc (Nat.le_refl _) _)) rfl (y:=x) ?c1 ?c2 ?c3)
   case c1=>simp
   case c2=>omega
   case c3 =>
    intro gl cap w4 hacc;have HC4:=Box.mk (HC.out.keep hacc.2);obtain ⟨hd0,hd1,hd2,hd3⟩:=(HC4.out.setV (u:=.slice (some ⟨gl,0,none⟩) (ln.length+1) cap)).cells;have HR4:=Box.mk ((hR.out.keep hacc.2).other (x:=⟨w.heap.size,3,none⟩) (u:=.slice (some ⟨gl,0,none⟩) (ln.length+1) cap) (by show w.heap.size+1≠w.heap.size; omega));have HO4:=Box.mk (qgp (g:=w.heap.size) (i:=3) (u:=.slice (some ⟨gl,0,none⟩) (ln.length+1) cap) hacc.1 (by have:=HSZ.out; omega));have HB4:=Box.mk ((qe HB0.out hacc.2).setCell (p:=⟨w.heap.size,3,none⟩) (Nat.le_refl _) (.slice (some ⟨gl,0,none⟩) (ln.length+1) cap));clear hacc HACC;by_cases hlong:128<ln.length+1∧¬ x=13
    · have HP:=Box.mk (qby (s:=⟨p,l,t,[]⟩) (t:=t) hcr hx (by have h8:=hlong.1; rw [HLN.out] at h8; exact h8) hlong.2)
      have h128:=hlong.1;have e13:((x.toNat:Int) != 13)=true:=by
       rw [bne_iff_ne]; intro e; exact hlong.2 (UInt8.toNat_inj.1 (by rw [show (13:UInt8).toNat=13 from rfl]; omega))
      clear hlong hx hcr;go_wp2_with (first | (refine qv rfl _ _ _ rfl rfl rfl (by kernel_rfl) HC4.out.cells.2.2.2 HC4.out.frozen ?_) | (refine wpList_store_row rfl 35 _ _ rfl (w.heap.size+1) #[.int .i64 p,.int .i64 l,.int .i64 t,.slice (some ⟨gl,0,none⟩) (ln.length+1) cap] rfl rfl 35 _ HR4.out j8 rfl (oneC _ _ _ _ _ _) ?_))
      (try simp only [Exit.inBlock,Exit.then])
      refine bodyPost_ret (qf rfl _ _ (w.heap.size+1) _ _ _ _ rfl (setRow_heap _ _ _ _ _ _ HR4.out) Tryz.underlying35 rfl j8) rfl ?_;exact ja.err rfl HP.out (by decide) (below_setRow HB4.out (by omega) _)
    · have HP:=Box.mk (show qba ⟨p,l,t,[]⟩ t x=(0,⟨p,l,t,ln++[x]⟩) by
       have hlong2:=hlong;rw [HLN.out] at hlong2 ⊢;exact qb3 hcr hx hlong2)
      by_cases h128:128<ln.length+1
      · have e13:((x.toNat:Int) != 13)=false:=by
         have hx13:x=13:=Decidable.byContradiction fun h=>hlong ⟨h128,h⟩;rw [hx13]; rfl
        clear hlong hx hcr;go_wp2_with (first | (refine qv rfl _ _ _ rfl rfl rfl (by kernel_rfl) HC4.out.cells.2.2.2 HC4.out.frozen ?_) | (refine wpList_store_row rfl 35 _ _ rfl (w.heap.size+1) #[.int .i64 p,.int .i64 l,.int .i64 t,.slice (some ⟨gl,0,none⟩) (ln.length+1) cap] rfl rfl 35 _ HR4.out j8 rfl (oneC _ _ _ _ _ _) ?_))
        (try simp only [Exit.inBlock,Exit.then])
        refine bodyPost_ret (qf rfl _ _ (w.heap.size+1) _ _ _ _ rfl (setRow_heap _ _ _ _ _ _ HR4.out) Tryz.underlying35 rfl j8) rfl ?_;exact ja.ok rfl HP.out (by simp) (HO4.out.setR (by have:=HSZ.out; omega)).bytes (below_setRow HB4.out (by omega) _)
      · clear hlong hx hcr
        go_wp2_with (first | (refine qv rfl _ _ _ rfl rfl rfl (by kernel_rfl) HC4.out.cells.2.2.2 HC4.out.frozen ?_) | (refine wpList_store_row rfl 35 _ _ rfl (w.heap.size+1) #[.int .i64 p,.int .i64 l,.int .i64 t,.slice (some ⟨gl,0,none⟩) (ln.length+1) cap] rfl rfl 35 _ HR4.out j8 rfl (oneC _ _ _ _ _ _) ?_))
        (try simp only [Exit.inBlock,Exit.then])
        refine bodyPost_ret (qf rfl _ _ (w.heap.size+1) _ _ _ _ rfl (setRow_heap _ _ _ _ _ _ HR4.out) Tryz.underlying35 rfl j8) rfl ?_;exact ja.ok rfl HP.out (by simp) (HO4.out.setR (by have:=HSZ.out; omega)).bytes (below_setRow HB4.out (by omega) _)
theorem qs0 (l t:Int) (la:Option Addr) (x:UInt8) (lc:Nat) (w:World) (h:qg w la [] lc) (ht0:0≤t) (ht:t+1≤1024) :
  Calls Tryz.prog 70 #[.agg #[.int .i64 3,.int .i64 l,.int .i64 t,.slice la 0 lc],.int .u8 x.toNat] w (ja w (qba ⟨3,l,t,[]⟩ (t+1) x)):=by
 obtain ⟨W2,hW2⟩ : ∃ W2,W2=(w.alloc (.cells #[.int .i64 3,.int .i64 l,.int .i64 (t+1),.slice la 0 lc] 35)).alloc (.cells #[.int .i64 0,.int .i64 0,.int .i64 0,.slice none 0 0] 35):=⟨_,rfl⟩;have hsz2:W2.heap.size=w.heap.size+1+1:=by rw [hW2,World.size_alloc,World.size_alloc]
 have hb0:Below w.heap.size w W2:=by rw [hW2]; exact qk (qd w _) _
 have H0:=Box.mk (h.keep hb0);have HB0:=Box.mk hb0;have hcr:crB []=false:=rfl;have hR:=Box.mk (show CVar W2 (w.heap.size+1) 0 0 0 (.slice none 0 0) by
  have h:=heap_alloc_new (w.alloc (.cells #[.int .i64 3,.int .i64 l,.int .i64 (t+1),.slice la 0 lc] 35)) (.cells #[.int .i64 0,.int .i64 0,.int .i64 0,.slice none 0 0] 35);rw [World.size_alloc] at h; rw [hW2]; exact h)
 have HC:=Box.mk (show CVar W2 w.heap.size 3 l (t+1) (.slice la 0 lc) by
  rw [hW2]; exact CVar.keep (heap_alloc_new _ _) (qd _ _))
 have HE:=Box.mk (show AccB W2 (W2.alloc (.cells #[] 5)) (.slice (some ⟨w.heap.size+1+1,0,none⟩) 0 0) [] by rw [← hsz2]; exact AccB.empty W2);have HSZ:=Box.mk hsz2;have HW2:=Box.mk hW2;clear h hb0 hW2 hsz2;by_cases hx:x=10
 · subst hx
   have HP:=Box.mk (qcy (s:=⟨3,l,t,[]⟩) (t:=(t+1)) hcr);clear hcr HE ;rw [show (10:UInt8).toNat=10 from rfl];go_enter Tryz.func70,Tryz.ntmps70
   have hR':=hR;rw [HW2.out] at hR';go_wp2_with (refine wpList_store_row rfl 35 _ _ rfl (w.heap.size+1) #[.int .i64 3,.int .i64 l,.int .i64 (t+1),.slice la 0 lc] rfl rfl 35 _ hR'.out j8 rfl (oneC _ _ _ _ _ _) ?_)
   (try simp only [Exit.inBlock,Exit.then])
   refine bodyPost_ret (qf rfl _ _ (w.heap.size+1) _ _ _ _ rfl (setRow_heap _ _ _ _ _ _ hR'.out) Tryz.underlying35 rfl j8) rfl ?_;exact ja.err rfl HP.out (by decide) (below_setRow (by rw [← HW2.out]; exact HB0.out) (by omega) _)
 · have e10:((x.toNat:Int) == 10)=false:=by
    rw [beq_eq_false_iff_ne]; intro e; exact hx (UInt8.toNat_inj.1 (by rw [show (10:UInt8).toNat=10 from rfl]; omega))
   go_enter Tryz.func70,Tryz.ntmps70
   go_wp2_with (at_builtin; refine kn _ rfl _ _ rfl rfl (by rw [← HW2.out]; exact HE.out) (by show Value.slice la 0 lc = .slice la ([]:List UInt8).length lc; simp) (by rw [← HW2.out]; exact H0.out.keep (qd _ _)) (by simp) ?_)
   intro v3 w3 hacc;obtain ⟨ln,hln⟩ : ∃ ln:List UInt8,ln=[]:=⟨_,rfl⟩;have HACC:=Box.mk (show AccB W2 w3 v3 ln by rw [hln]; exact hacc);have hll:ln.length≤1001:=by rw [hln]; simp
   have HLN:=Box.mk hln;clear hacc hln HE;go_wp2_with (at_builtin; refine qb9 _ rfl _ _ rfl rfl (HACC.out.keep ((Below.refl _ _).alloc (Nat.le_refl _) _)) rfl (y:=x) ?c1 ?c2 ?c3)
   case c1=>simp
   case c2=>omega
   case c3 =>
    intro gl cap w4 hacc;have HC4:=Box.mk (HC.out.keep hacc.2);obtain ⟨hd0,hd1,hd2,hd3⟩:=(HC4.out.setV (u:=.slice (some ⟨gl,0,none⟩) (ln.length+1) cap)).cells;have HR4:=Box.mk ((hR.out.keep hacc.2).other (x:=⟨w.heap.size,3,none⟩) (u:=.slice (some ⟨gl,0,none⟩) (ln.length+1) cap) (by show w.heap.size+1≠w.heap.size; omega));have HO4:=Box.mk (qgp (g:=w.heap.size) (i:=3) (u:=.slice (some ⟨gl,0,none⟩) (ln.length+1) cap) hacc.1 (by have:=HSZ.out; omega));have HB4:=Box.mk ((qe HB0.out hacc.2).setCell (p:=⟨w.heap.size,3,none⟩) (Nat.le_refl _) (.slice (some ⟨gl,0,none⟩) (ln.length+1) cap));clear hacc HACC;by_cases hlong:128<ln.length+1∧¬ x=13
    · have HP:=Box.mk (qby (s:=⟨3,l,t,[]⟩) (t:=(t+1)) hcr hx (by have h8:=hlong.1; rw [HLN.out] at h8; exact h8) hlong.2)
      have h128:=hlong.1;have e13:((x.toNat:Int) != 13)=true:=by
       rw [bne_iff_ne]; intro e; exact hlong.2 (UInt8.toNat_inj.1 (by rw [show (13:UInt8).toNat=13 from rfl]; omega))
      clear hlong hx hcr;go_wp2_with (first | (refine qv rfl _ _ _ rfl rfl rfl (by kernel_rfl) HC4.out.cells.2.2.2 HC4.out.frozen ?_) | (refine wpList_store_row rfl 35 _ _ rfl (w.heap.size+1) #[.int .i64 3,.int .i64 l,.int .i64 (t+1),.slice (some ⟨gl,0,none⟩) (ln.length+1) cap] rfl rfl 35 _ HR4.out j8 rfl (oneC _ _ _ _ _ _) ?_))
      (try simp only [Exit.inBlock,Exit.then])
      refine bodyPost_ret (qf rfl _ _ (w.heap.size+1) _ _ _ _ rfl (setRow_heap _ _ _ _ _ _ HR4.out) Tryz.underlying35 rfl j8) rfl ?_;exact ja.err rfl HP.out (by decide) (below_setRow HB4.out (by omega) _)
    · have HP:=Box.mk (show qba ⟨3,l,t,[]⟩ (t+1) x=(0,⟨3,l,(t+1),ln++[x]⟩) by
       have hlong2:=hlong;rw [HLN.out] at hlong2 ⊢;exact qb3 hcr hx hlong2)
      by_cases h128:128<ln.length+1
      · have e13:((x.toNat:Int) != 13)=false:=by
         have hx13:x=13:=Decidable.byContradiction fun h=>hlong ⟨h128,h⟩;rw [hx13]; rfl
        clear hlong hx hcr;go_wp2_with (first | (refine qv rfl _ _ _ rfl rfl rfl (by kernel_rfl) HC4.out.cells.2.2.2 HC4.out.frozen ?_) | (refine wpList_store_row rfl 35 _ _ rfl (w.heap.size+1) #[.int .i64 3,.int .i64 l,.int .i64 (t+1),.slice (some ⟨gl,0,none⟩) (ln.length+1) cap] rfl rfl 35 _ HR4.out j8 rfl (oneC _ _ _ _ _ _) ?_))
        (try simp only [Exit.inBlock,Exit.then])
        refine bodyPost_ret (qf rfl _ _ (w.heap.size+1) _ _ _ _ rfl (setRow_heap _ _ _ _ _ _ HR4.out) Tryz.underlying35 rfl j8) rfl ?_;exact ja.ok rfl HP.out (by simp) (HO4.out.setR (by have:=HSZ.out; omega)).bytes (below_setRow HB4.out (by omega) _)
      · clear hlong hx hcr
        go_wp2_with (first | (refine qv rfl _ _ _ rfl rfl rfl (by kernel_rfl) HC4.out.cells.2.2.2 HC4.out.frozen ?_) | (refine wpList_store_row rfl 35 _ _ rfl (w.heap.size+1) #[.int .i64 3,.int .i64 l,.int .i64 (t+1),.slice (some ⟨gl,0,none⟩) (ln.length+1) cap] rfl rfl 35 _ HR4.out j8 rfl (oneC _ _ _ _ _ _) ?_))
        (try simp only [Exit.inBlock,Exit.then])
        refine bodyPost_ret (qf rfl _ _ (w.heap.size+1) _ _ _ _ rfl (setRow_heap _ _ _ _ _ _ HR4.out) Tryz.underlying35 rfl j8) rfl ?_;exact ja.ok rfl HP.out (by simp) (HO4.out.setR (by have:=HSZ.out; omega)).bytes (below_setRow HB4.out (by omega) _)
theorem je1 (y:ByteArray):szS y=(jj 59 y)[0]'(qk4 59 y):=by unfold szS; rw [List.getElem?_eq_getElem (qk4 59 y)]; rfl
theorem jbp (y:ByteArray):(szS y).size≤y.size:=by rw [je1]; exact qd2 59 y _ (List.getElem_mem _)
theorem qna {l t:Int} {y:ByteArray} (h:(qo 16 1000000000 (szS y)).2=2∨visS y=false):kp ⟨0,l,t,[]⟩ y=(2,zeroC):=by
 unfold kp; rw [if_pos rfl,if_pos h]
theorem qnx {l t:Int} {y:ByteArray} (h:¬ ((qo 16 1000000000 (szS y)).2=2∨visS y=false)) (h0:(qo 16 1000000000 (szS y)).2=0):kp ⟨0,l,t,[]⟩ y=(0,⟨if (qo 16 1000000000 (szS y)).1=0 then 3 else 1,(qo 16 1000000000 (szS y)).1,t,[]⟩):=by
 unfold kp; rw [if_pos rfl,if_neg h,if_pos h0]
theorem qt5 {l t:Int} {y:ByteArray} (h:¬ ((qo 16 1000000000 (szS y)).2=2∨visS y=false)) (h0:¬ (qo 16 1000000000 (szS y)).2=0):kp ⟨0,l,t,[]⟩ y=((qo 16 1000000000 (szS y)).2,zeroC):=by
 unfold kp; rw [if_pos rfl,if_neg h,if_neg h0]
theorem jas (m:List UInt8):(⟨m.toArray⟩ : ByteArray).toList.isEmpty=m.isEmpty:=by rw [ByteArray.toList_eq]
theorem qqv (p:Int) (l t:Int) (m:List UInt8) (ad:Addr) (x:UInt8) (lc:Nat) (w:World) (h:qg w (some ad) (m++[13]) lc) (hl:m.length≤1000) (hx:¬ x=10) (hp:¬ p=3) :
  Calls Tryz.prog 70 #[.agg #[.int .i64 p,.int .i64 l,.int .i64 t,.slice (some ad) (m.length+1) lc],.int .u8 x.toNat] w (ja w (qba ⟨p,l,t,m++[13]⟩ t x)):=by
 have hcap:m.length+1≤lc:=by
  rcases h with ⟨e,_⟩ | ⟨y,e,h1,_,_⟩
  · cases e
  · simpa using h1
 have hcz:w.cell? (ad.add m.length)=some (.int .u8 13):=by
  rcases h with ⟨e,_⟩ | ⟨y,e,_,_,hc⟩
  · cases e
  · obtain rfl:=Option.some.inj e
    have:=hc m.length (by simp);simpa using this
 have hbl:(ad.add m.length).block<w.heap.size:=qbk hcz;have hcv:(convert 23 9 (.slice (some ad) m.length lc)).run Tryz.prog ((w.alloc (.cells #[.int .i64 p,.int .i64 l,.int .i64 t,.slice (some ad) (m.length+1) lc] 35)).alloc (.cells #[.int .i64 0,.int .i64 0,.int .i64 0,.slice none 0 0] 35)) = .ok (.string ⟨m.toArray⟩) ((w.alloc (.cells #[.int .i64 p,.int .i64 l,.int .i64 t,.slice (some ad) (m.length+1) lc] 35)).alloc (.cells #[.int .i64 0,.int .i64 0,.int .i64 0,.slice none 0 0] 35)):=jr (qak (h.keep (qk (qd w _) _)));obtain ⟨W2,hW2⟩ : ∃ W2,W2=(w.alloc (.cells #[.int .i64 p,.int .i64 l,.int .i64 t,.slice (some ad) (m.length+1) lc] 35)).alloc (.cells #[.int .i64 0,.int .i64 0,.int .i64 0,.slice none 0 0] 35):=⟨_,rfl⟩;have HB2:=Box.mk (show Below w.heap.size w W2 by rw [hW2]; exact qk (qd w _) _);have HR2:=Box.mk (show CVar W2 (w.heap.size+1) 0 0 0 (.slice none 0 0) by
  have h:=heap_alloc_new (w.alloc (.cells #[.int .i64 p,.int .i64 l,.int .i64 t,.slice (some ad) (m.length+1) lc] 35)) (.cells #[.int .i64 0,.int .i64 0,.int .i64 0,.slice none 0 0] 35);rw [World.size_alloc] at h; rw [hW2]; exact h)
 have HC2:=Box.mk (show CVar W2 w.heap.size p l t (.slice (some ad) (m.length+1) lc) by
  rw [hW2]; exact CVar.keep (heap_alloc_new _ _) (qd _ _))
 have HW2:=Box.mk hW2;clear h hW2;clear hcv;have ep:(p == 3)=false:=by rw [beq_eq_false_iff_ne]; exact hp
 have e10:((x.toNat:Int) != 10)=true:=by
  rw [bne_iff_ne]; intro e; exact hx (UInt8.toNat_inj.1 (by rw [show (10:UInt8).toNat=10 from rfl]; omega))
 have HP:=Box.mk (qhx (s:=⟨p,l,t,m++[13]⟩) (t:=t) (show crB (m++[13])=true by rw [qdt]; rfl) hx);clear hx;have hr':=HR2;rw [HW2.out] at hr';have hb':=HB2;rw [HW2.out] at hb';go_enter Tryz.func70,Tryz.ntmps70
 go_wp2_with (refine wpList_store_row rfl 35 _ _ rfl (w.heap.size+1) #[.int .i64 p,.int .i64 l,.int .i64 t,.slice (some ad) (m.length+1) lc] rfl rfl 35 _ hr'.out j8 rfl (oneC _ _ _ _ _ _) ?_)
 (try simp only [Exit.inBlock,Exit.then])
 refine bodyPost_ret (qf rfl _ _ (w.heap.size+1) _ _ _ _ rfl (setRow_heap _ _ _ _ _ _ hr'.out) Tryz.underlying35 rfl j8) rfl ?_;exact ja.err rfl HP.out (by decide) (below_setRow hb'.out (by omega) _)
theorem qno (l t:Int) (m:List UInt8) (ad:Addr) (x:UInt8) (lc:Nat) (w:World) (h:qg w (some ad) (m++[13]) lc) (hl:m.length≤1000) (ht0:0≤t) (ht:t+1≤1024) (hx:¬ x=10) :
  Calls Tryz.prog 70 #[.agg #[.int .i64 3,.int .i64 l,.int .i64 t,.slice (some ad) (m.length+1) lc],.int .u8 x.toNat] w (ja w (qba ⟨3,l,t,m++[13]⟩ (t+1) x)):=by
 have hcap:m.length+1≤lc:=by
  rcases h with ⟨e,_⟩ | ⟨y,e,h1,_,_⟩
  · cases e
  · simpa using h1
 have hcz:w.cell? (ad.add m.length)=some (.int .u8 13):=by
  rcases h with ⟨e,_⟩ | ⟨y,e,_,_,hc⟩
  · cases e
  · obtain rfl:=Option.some.inj e
    have:=hc m.length (by simp);simpa using this
 have hbl:(ad.add m.length).block<w.heap.size:=qbk hcz;have hcv:(convert 23 9 (.slice (some ad) m.length lc)).run Tryz.prog ((w.alloc (.cells #[.int .i64 3,.int .i64 l,.int .i64 (t+1),.slice (some ad) (m.length+1) lc] 35)).alloc (.cells #[.int .i64 0,.int .i64 0,.int .i64 0,.slice none 0 0] 35)) = .ok (.string ⟨m.toArray⟩) ((w.alloc (.cells #[.int .i64 3,.int .i64 l,.int .i64 (t+1),.slice (some ad) (m.length+1) lc] 35)).alloc (.cells #[.int .i64 0,.int .i64 0,.int .i64 0,.slice none 0 0] 35)):=jr (qak (h.keep (qk (qd w _) _)));obtain ⟨W2,hW2⟩ : ∃ W2,W2=(w.alloc (.cells #[.int .i64 3,.int .i64 l,.int .i64 (t+1),.slice (some ad) (m.length+1) lc] 35)).alloc (.cells #[.int .i64 0,.int .i64 0,.int .i64 0,.slice none 0 0] 35):=⟨_,rfl⟩;have HB2:=Box.mk (show Below w.heap.size w W2 by rw [hW2]; exact qk (qd w _) _);have HR2:=Box.mk (show CVar W2 (w.heap.size+1) 0 0 0 (.slice none 0 0) by
  have h:=heap_alloc_new (w.alloc (.cells #[.int .i64 3,.int .i64 l,.int .i64 (t+1),.slice (some ad) (m.length+1) lc] 35)) (.cells #[.int .i64 0,.int .i64 0,.int .i64 0,.slice none 0 0] 35);rw [World.size_alloc] at h; rw [hW2]; exact h)
 have HC2:=Box.mk (show CVar W2 w.heap.size 3 l (t+1) (.slice (some ad) (m.length+1) lc) by
  rw [hW2]; exact CVar.keep (heap_alloc_new _ _) (qd _ _))
 have HW2:=Box.mk hW2;clear h hW2;clear hcv;have e10:((x.toNat:Int) != 10)=true:=by
  rw [bne_iff_ne]; intro e; exact hx (UInt8.toNat_inj.1 (by rw [show (10:UInt8).toNat=10 from rfl]; omega))
 have HP:=Box.mk (qhx (s:=⟨3,l,t,m++[13]⟩) (t:=(t+1)) (show crB (m++[13])=true by rw [qdt]; rfl) hx);clear hx;have hr':=HR2;rw [HW2.out] at hr';have hb':=HB2;rw [HW2.out] at hb';go_enter Tryz.func70,Tryz.ntmps70
 go_wp2_with (refine wpList_store_row rfl 35 _ _ rfl (w.heap.size+1) #[.int .i64 3,.int .i64 l,.int .i64 (t+1),.slice (some ad) (m.length+1) lc] rfl rfl 35 _ hr'.out j8 rfl (oneC _ _ _ _ _ _) ?_)
 (try simp only [Exit.inBlock,Exit.then])
 refine bodyPost_ret (qf rfl _ _ (w.heap.size+1) _ _ _ _ rfl (setRow_heap _ _ _ _ _ _ hr'.out) Tryz.underlying35 rfl j8) rfl ?_;exact ja.err rfl HP.out (by decide) (below_setRow hb'.out (by omega) _)
theorem qvc (l t:Int) (m:List UInt8) (ad:Addr) (lc:Nat) (w:World) (h:qg w (some ad) (m++[13]) lc) (hl:m.length≤1000) :
  Calls Tryz.prog 70 #[.agg #[.int .i64 2,.int .i64 l,.int .i64 t,.slice (some ad) (m.length+1) lc],.int .u8 10] w (ja w (kp ⟨2,l,t,[]⟩ ⟨m.toArray⟩)):=by
 have hcap:m.length+1≤lc:=by
  rcases h with ⟨e,_⟩ | ⟨y,e,h1,_,_⟩
  · cases e
  · simpa using h1
 have hcz:w.cell? (ad.add m.length)=some (.int .u8 13):=by
  rcases h with ⟨e,_⟩ | ⟨y,e,_,_,hc⟩
  · cases e
  · obtain rfl:=Option.some.inj e
    have:=hc m.length (by simp);simpa using this
 have hbl:(ad.add m.length).block<w.heap.size:=qbk hcz;have hcv:(convert 23 9 (.slice (some ad) m.length lc)).run Tryz.prog ((w.alloc (.cells #[.int .i64 2,.int .i64 l,.int .i64 t,.slice (some ad) (m.length+1) lc] 35)).alloc (.cells #[.int .i64 0,.int .i64 0,.int .i64 0,.slice none 0 0] 35)) = .ok (.string ⟨m.toArray⟩) ((w.alloc (.cells #[.int .i64 2,.int .i64 l,.int .i64 t,.slice (some ad) (m.length+1) lc] 35)).alloc (.cells #[.int .i64 0,.int .i64 0,.int .i64 0,.slice none 0 0] 35)):=jr (qak (h.keep (qk (qd w _) _)));obtain ⟨W2,hW2⟩ : ∃ W2,W2=(w.alloc (.cells #[.int .i64 2,.int .i64 l,.int .i64 t,.slice none 0 0] 35)).alloc (.cells #[.int .i64 0,.int .i64 0,.int .i64 0,.slice none 0 0] 35):=⟨_,rfl⟩;have HB2:=Box.mk (show Below w.heap.size w W2 by rw [hW2]; exact qk (qd w _) _);have HR2:=Box.mk (show CVar W2 (w.heap.size+1) 0 0 0 (.slice none 0 0) by
  have h:=heap_alloc_new (w.alloc (.cells #[.int .i64 2,.int .i64 l,.int .i64 t,.slice none 0 0] 35)) (.cells #[.int .i64 0,.int .i64 0,.int .i64 0,.slice none 0 0] 35);rw [World.size_alloc] at h; rw [hW2]; exact h)
 have HC2:=Box.mk (show CVar W2 w.heap.size 2 l t (.slice none 0 0) by
  rw [hW2]; exact CVar.keep (heap_alloc_new _ _) (qd _ _))
 have HW2:=Box.mk hW2;clear h hW2;have hye:=jas m;have HL0:=Box.mk (fun (hm:m=[])=>show kp ⟨2,l,t,[]⟩ ⟨m.toArray⟩=(0,⟨0,l,t,[]⟩) by rw [hm]; rfl);have HL2:=Box.mk (fun (hm:¬ m=[])=>show kp ⟨2,l,t,[]⟩ ⟨m.toArray⟩=(2,zeroC) by
  cases m with
  | nil=>exact absurd rfl hm
  | cons _ _=>rfl)
 generalize (⟨m.toArray⟩ : ByteArray)=y at *;by_cases hm:m=[]
 · have hy:y.toList.isEmpty=true:=by rw [hye,hm]; rfl
   have HP:=Box.mk (HL0.out hm);have HB3:=Box.mk (qk (qd w (.cells #[.int .i64 0,.int .i64 l,.int .i64 t,.slice none 0 0] 35)) (.cells #[.int .i64 0,.int .i64 0,.int .i64 0,.slice none 0 0] 35));have HR3:=Box.mk (show CVar ((w.alloc (.cells #[.int .i64 0,.int .i64 l,.int .i64 t,.slice none 0 0] 35)).alloc (.cells #[.int .i64 0,.int .i64 0,.int .i64 0,.slice none 0 0] 35)) (w.heap.size+1) 0 0 0 (.slice none 0 0) by
    have h:=heap_alloc_new (w.alloc (.cells #[.int .i64 0,.int .i64 l,.int .i64 t,.slice none 0 0] 35)) (.cells #[.int .i64 0,.int .i64 0,.int .i64 0,.slice none 0 0] 35);rw [World.size_alloc] at h; exact h)
   clear hye hm;go_enter Tryz.func70,Tryz.ntmps70
   go_wp2_with (refine wpList_store_row rfl 35 _ _ rfl (w.heap.size+1) #[.int .i64 0,.int .i64 l,.int .i64 t,.slice none 0 0] rfl rfl 35 _ HR3.out j8 rfl (oneC _ _ _ _ _ _) ?_)
   (try simp only [Exit.inBlock,Exit.then])
   refine bodyPost_ret (qf rfl _ _ (w.heap.size+1) _ _ _ _ rfl (setRow_heap _ _ _ _ _ _ HR3.out) Tryz.underlying35 rfl j8) rfl ?_;exact ja.ok rfl HP.out rfl (.inl ⟨rfl,rfl,rfl⟩) (below_setRow HB3.out (by omega) _)
 · have HP:=Box.mk (HL2.out hm)
   have hy:y.toList.isEmpty=false:=by
    rw [hye];cases m with
    | nil=>exact absurd rfl hm
    | cons _ _=>rfl
   clear hye hm;have hr':=HR2;rw [HW2.out] at hr';have hb':=HB2;rw [HW2.out] at hb';go_enter Tryz.func70,Tryz.ntmps70
   go_wp2_with (refine wpList_store_row rfl 35 _ _ rfl (w.heap.size+1) #[.int .i64 2,.int .i64 l,.int .i64 t,.slice none 0 0] rfl rfl 35 _ hr'.out j8 rfl (oneC _ _ _ _ _ _) ?_)
   (try simp only [Exit.inBlock,Exit.then])
   refine bodyPost_ret (qf rfl _ _ (w.heap.size+1) _ _ _ _ rfl (setRow_heap _ _ _ _ _ _ hr'.out) Tryz.underlying35 rfl j8) rfl ?_;exact ja.err rfl HP.out (by decide) (below_setRow hb'.out (by omega) _)
theorem quz (p:Int) (l t:Int) (m:List UInt8) (ad:Addr) (lc:Nat) (w:World) (h:qg w (some ad) (m++[13]) lc) (hl:m.length≤1000) (hp0:¬ p=0) (hp2:¬ p=2) (hp3:¬ p=3) :
  Calls Tryz.prog 70 #[.agg #[.int .i64 p,.int .i64 l,.int .i64 t,.slice (some ad) (m.length+1) lc],.int .u8 10] w (ja w (kp ⟨p,l,t,[]⟩ ⟨m.toArray⟩)):=by
 have hcap:m.length+1≤lc:=by
  rcases h with ⟨e,_⟩ | ⟨y,e,h1,_,_⟩
  · cases e
  · simpa using h1
 have hcz:w.cell? (ad.add m.length)=some (.int .u8 13):=by
  rcases h with ⟨e,_⟩ | ⟨y,e,_,_,hc⟩
  · cases e
  · obtain rfl:=Option.some.inj e
    have:=hc m.length (by simp);simpa using this
 have hbl:(ad.add m.length).block<w.heap.size:=qbk hcz;have hcv:(convert 23 9 (.slice (some ad) m.length lc)).run Tryz.prog ((w.alloc (.cells #[.int .i64 p,.int .i64 l,.int .i64 t,.slice (some ad) (m.length+1) lc] 35)).alloc (.cells #[.int .i64 0,.int .i64 0,.int .i64 0,.slice none 0 0] 35)) = .ok (.string ⟨m.toArray⟩) ((w.alloc (.cells #[.int .i64 p,.int .i64 l,.int .i64 t,.slice (some ad) (m.length+1) lc] 35)).alloc (.cells #[.int .i64 0,.int .i64 0,.int .i64 0,.slice none 0 0] 35)):=jr (qak (h.keep (qk (qd w _) _)));obtain ⟨W2,hW2⟩ : ∃ W2,W2=(w.alloc (.cells #[.int .i64 p,.int .i64 l,.int .i64 t,.slice none 0 0] 35)).alloc (.cells #[.int .i64 0,.int .i64 0,.int .i64 0,.slice none 0 0] 35):=⟨_,rfl⟩;have HB2:=Box.mk (show Below w.heap.size w W2 by rw [hW2]; exact qk (qd w _) _);have HR2:=Box.mk (show CVar W2 (w.heap.size+1) 0 0 0 (.slice none 0 0) by
  have h:=heap_alloc_new (w.alloc (.cells #[.int .i64 p,.int .i64 l,.int .i64 t,.slice none 0 0] 35)) (.cells #[.int .i64 0,.int .i64 0,.int .i64 0,.slice none 0 0] 35);rw [World.size_alloc] at h; rw [hW2]; exact h)
 have HC2:=Box.mk (show CVar W2 w.heap.size p l t (.slice none 0 0) by
  rw [hW2]; exact CVar.keep (heap_alloc_new _ _) (qd _ _))
 have HW2:=Box.mk hW2;clear h hW2;have e0:(p == 0)=false:=by rw [beq_eq_false_iff_ne]; exact hp0
 have e2:(p == 2)=false:=by rw [beq_eq_false_iff_ne]; exact hp2
 have e3:(p == 3)=false:=by rw [beq_eq_false_iff_ne]; exact hp3
 have HP:=Box.mk (show kp ⟨p,l,t,[]⟩ ⟨m.toArray⟩=(0,⟨p,l,t,[]⟩) by unfold kp; rw [if_neg hp0,if_neg hp2,if_neg hp3]);have hr':=HR2;rw [HW2.out] at hr';have hb':=HB2;rw [HW2.out] at hb';go_enter Tryz.func70,Tryz.ntmps70
 go_wp2_with (refine wpList_store_row rfl 35 _ _ rfl (w.heap.size+1) #[.int .i64 p,.int .i64 l,.int .i64 t,.slice none 0 0] rfl rfl 35 _ hr'.out j8 rfl (oneC _ _ _ _ _ _) ?_)
 (try simp only [Exit.inBlock,Exit.then])
 refine bodyPost_ret (qf rfl _ _ (w.heap.size+1) _ _ _ _ rfl (setRow_heap _ _ _ _ _ _ hr'.out) Tryz.underlying35 rfl j8) rfl ?_;exact ja.ok rfl HP.out rfl (.inl ⟨rfl,rfl,rfl⟩) (below_setRow hb'.out (by omega) _)
theorem qud (l t:Int) (m:List UInt8) (ad:Addr) (lc:Nat) (w:World) (h:qg w (some ad) (m++[13]) lc) (hl:m.length≤1000) (ht0:0≤t) (ht:t+1≤1024) :
  Calls Tryz.prog 70 #[.agg #[.int .i64 3,.int .i64 l,.int .i64 t,.slice (some ad) (m.length+1) lc],.int .u8 10] w (ja w (kp ⟨3,l,t+1,[]⟩ ⟨m.toArray⟩)):=by
 have hcap:m.length+1≤lc:=by
  rcases h with ⟨e,_⟩ | ⟨y,e,h1,_,_⟩
  · cases e
  · simpa using h1
 have hcz:w.cell? (ad.add m.length)=some (.int .u8 13):=by
  rcases h with ⟨e,_⟩ | ⟨y,e,_,_,hc⟩
  · cases e
  · obtain rfl:=Option.some.inj e
    have:=hc m.length (by simp);simpa using this
 have hbl:(ad.add m.length).block<w.heap.size:=qbk hcz;have hcv:(convert 23 9 (.slice (some ad) m.length lc)).run Tryz.prog ((w.alloc (.cells #[.int .i64 3,.int .i64 l,.int .i64 (t+1),.slice (some ad) (m.length+1) lc] 35)).alloc (.cells #[.int .i64 0,.int .i64 0,.int .i64 0,.slice none 0 0] 35)) = .ok (.string ⟨m.toArray⟩) ((w.alloc (.cells #[.int .i64 3,.int .i64 l,.int .i64 (t+1),.slice (some ad) (m.length+1) lc] 35)).alloc (.cells #[.int .i64 0,.int .i64 0,.int .i64 0,.slice none 0 0] 35)):=jr (qak (h.keep (qk (qd w _) _)));obtain ⟨W2,hW2⟩ : ∃ W2,W2=(w.alloc (.cells #[.int .i64 3,.int .i64 l,.int .i64 (t+1),.slice none 0 0] 35)).alloc (.cells #[.int .i64 0,.int .i64 0,.int .i64 0,.slice none 0 0] 35):=⟨_,rfl⟩;have HB2:=Box.mk (show Below w.heap.size w W2 by rw [hW2]; exact qk (qd w _) _);have HR2:=Box.mk (show CVar W2 (w.heap.size+1) 0 0 0 (.slice none 0 0) by
  have h:=heap_alloc_new (w.alloc (.cells #[.int .i64 3,.int .i64 l,.int .i64 (t+1),.slice none 0 0] 35)) (.cells #[.int .i64 0,.int .i64 0,.int .i64 0,.slice none 0 0] 35);rw [World.size_alloc] at h; rw [hW2]; exact h)
 have HC2:=Box.mk (show CVar W2 w.heap.size 3 l (t+1) (.slice none 0 0) by
  rw [hW2]; exact CVar.keep (heap_alloc_new _ _) (qd _ _))
 have HW2:=Box.mk hW2;clear h hW2;have hys:(⟨m.toArray⟩ : ByteArray).size≤maxLen:=by
  show m.toArray.size≤maxLen
  rw [List.size_toArray]; unfold maxLen; omega
 have HLS:=Box.mk (show kp ⟨3,l,t+1,[]⟩ ⟨m.toArray⟩=if m=[] then (0,⟨4,l,t+1,[]⟩) else if (kr ⟨m.toArray⟩).isSome=true then (0,⟨3,l,t+1,[]⟩) else (2,zeroC) by
  unfold kp;rw [if_neg (show ¬ (3:Int)=0 by decide),if_neg (show ¬ (3:Int)=2 by decide),if_pos (show (3:Int)=3 from rfl)];have e:((⟨m.toArray⟩ : ByteArray).size=0)=(m=[]):=by
   show (m.toArray.size=0)=_
   rw [List.size_toArray]; simp
  simp only [e])
 have hye:=jas m;go_enter Tryz.func70,Tryz.ntmps70
 go_wp2_with fail;rw [← HW2.out];refine (qkb ⟨m.toArray⟩ W2 hys).mono ?_;rintro e w3 ⟨he,hb3⟩;generalize kr ⟨m.toArray⟩=pf at *;have HBP:=Box.mk (qe HB2.out hb3);have HRP:=Box.mk (HR2.out.keep hb3);have HCP:=Box.mk (HC2.out.keep hb3);clear hb3 HB2 HR2 HC2 HW2 hcv hcz hcap hys;generalize (⟨m.toArray⟩ : ByteArray)=y at *;cases pf with
 | some f =>
  simp only [qh1] at he;subst he;have hb4:=qd w3 (.cells #[.string f.1,.string f.2] 78);have HB4:=Box.mk (qe HBP.out hb4);have HR4:=Box.mk (HRP.out.keep hb4);have HC4:=Box.mk (HCP.out.keep hb4);have hlt:=HCP.out.lt;obtain ⟨hd0,hd1,hd2,hd3⟩:=HCP.out.cells;by_cases hm:m=[]
  · have hyb:y.toList.isEmpty=true:=by rw [hye,hm]; rfl
    have HP:=Box.mk (show kp ⟨3,l,t+1,[]⟩ y=(0,⟨4,l,t+1,[]⟩) by rw [HLS.out,if_pos hm]);have hf4:=HCP.out.frozen (i:=0);have HC5:=Box.mk (HCP.out.setP (z:=4));obtain ⟨hf0,hf1,hf2,hf3⟩:=HC5.out.cells;have hb5:=qd (w3.setCell ⟨w.heap.size,0,none⟩ (.int .i64 4)) (.cells #[.string f.1,.string f.2] 78);have HR5:=Box.mk ((HRP.out.other (x:=⟨w.heap.size,0,none⟩) (u:=.int .i64 4) (by show w.heap.size+1≠w.heap.size; omega)).keep hb5);have HB5:=Box.mk (qe (HBP.out.setCell (p:=⟨w.heap.size,0,none⟩) (Nat.le_refl _) (.int .i64 4)) hb5);clear hye hm HLS;go_wp2_with (refine wpList_store_row rfl 35 _ _ rfl (w.heap.size+1) #[.int .i64 4,.int .i64 l,.int .i64 (t+1),.slice none 0 0] rfl rfl 35 _ HR5.out j8 rfl (oneC _ _ _ _ _ _) ?_)
    (try simp only [Exit.inBlock,Exit.then])
    refine bodyPost_ret (qf rfl _ _ (w.heap.size+1) _ _ _ _ rfl (setRow_heap _ _ _ _ _ _ HR5.out) Tryz.underlying35 rfl j8) rfl ?_;exact ja.ok rfl HP.out rfl (.inl ⟨rfl,rfl,rfl⟩) (below_setRow HB5.out (by omega) _)
  · have hyb:y.toList.isEmpty=false:=by
     rw [hye];cases m with
     | nil=>exact absurd rfl hm
     | cons _ _=>rfl
    have HP:=Box.mk (show kp ⟨3,l,t+1,[]⟩ y=(0,⟨3,l,t+1,[]⟩) by rw [HLS.out,if_neg hm]; rfl);clear hye hm HLS;go_wp2_with (refine wpList_store_row rfl 35 _ _ rfl (w.heap.size+1) #[.int .i64 3,.int .i64 l,.int .i64 (t+1),.slice none 0 0] rfl rfl 35 _ HR4.out j8 rfl (oneC _ _ _ _ _ _) ?_)
    (try simp only [Exit.inBlock,Exit.then])
    refine bodyPost_ret (qf rfl _ _ (w.heap.size+1) _ _ _ _ rfl (setRow_heap _ _ _ _ _ _ HR4.out) Tryz.underlying35 rfl j8) rfl ?_;exact ja.ok rfl HP.out rfl (.inl ⟨rfl,rfl,rfl⟩) (below_setRow HB4.out (by omega) _)
 | none =>
  simp only [qh1] at he;subst he;have hb4:=qd w3 (.cells #[.string ⟨#[]⟩,.string ⟨#[]⟩] 78);have HB4:=Box.mk (qe HBP.out hb4);have HR4:=Box.mk (HRP.out.keep hb4);have HC4:=Box.mk (HCP.out.keep hb4);have hlt:=HCP.out.lt;obtain ⟨hd0,hd1,hd2,hd3⟩:=HCP.out.cells;by_cases hm:m=[]
  · have hyb:y.toList.isEmpty=true:=by rw [hye,hm]; rfl
    have HP:=Box.mk (show kp ⟨3,l,t+1,[]⟩ y=(0,⟨4,l,t+1,[]⟩) by rw [HLS.out,if_pos hm]);have hf4:=HCP.out.frozen (i:=0);have HC5:=Box.mk (HCP.out.setP (z:=4));obtain ⟨hf0,hf1,hf2,hf3⟩:=HC5.out.cells;have hb5:=qd (w3.setCell ⟨w.heap.size,0,none⟩ (.int .i64 4)) (.cells #[.string ⟨#[]⟩,.string ⟨#[]⟩] 78);have HR5:=Box.mk ((HRP.out.other (x:=⟨w.heap.size,0,none⟩) (u:=.int .i64 4) (by show w.heap.size+1≠w.heap.size; omega)).keep hb5);have HB5:=Box.mk (qe (HBP.out.setCell (p:=⟨w.heap.size,0,none⟩) (Nat.le_refl _) (.int .i64 4)) hb5);clear hye hm HLS;go_wp2_with (refine wpList_store_row rfl 35 _ _ rfl (w.heap.size+1) #[.int .i64 4,.int .i64 l,.int .i64 (t+1),.slice none 0 0] rfl rfl 35 _ HR5.out j8 rfl (oneC _ _ _ _ _ _) ?_)
    (try simp only [Exit.inBlock,Exit.then])
    refine bodyPost_ret (qf rfl _ _ (w.heap.size+1) _ _ _ _ rfl (setRow_heap _ _ _ _ _ _ HR5.out) Tryz.underlying35 rfl j8) rfl ?_;exact ja.ok rfl HP.out rfl (.inl ⟨rfl,rfl,rfl⟩) (below_setRow HB5.out (by omega) _)
  · have hyb:y.toList.isEmpty=false:=by
     rw [hye];cases m with
     | nil=>exact absurd rfl hm
     | cons _ _=>rfl
    have HP:=Box.mk (show kp ⟨3,l,t+1,[]⟩ y=(2,zeroC) by rw [HLS.out,if_neg hm]; rfl);clear hye hm HLS;go_wp2_with (refine wpList_store_row rfl 35 _ _ rfl (w.heap.size+1) #[.int .i64 3,.int .i64 l,.int .i64 (t+1),.slice none 0 0] rfl rfl 35 _ HR4.out j8 rfl (oneC _ _ _ _ _ _) ?_)
    (try simp only [Exit.inBlock,Exit.then])
    refine bodyPost_ret (qf rfl _ _ (w.heap.size+1) _ _ _ _ rfl (setRow_heap _ _ _ _ _ _ HR4.out) Tryz.underlying35 rfl j8) rfl ?_;exact ja.err rfl HP.out (by decide) (below_setRow HB4.out (by omega) _)
theorem qv9 (l t:Int) (m:List UInt8) (ad:Addr) (lc:Nat) (w:World) (h:qg w (some ad) (m++[13]) lc) (hl:m.length≤1000) :
  Calls Tryz.prog 70 #[.agg #[.int .i64 0,.int .i64 l,.int .i64 t,.slice (some ad) (m.length+1) lc],.int .u8 10] w (ja w (kp ⟨0,l,t,[]⟩ ⟨m.toArray⟩)):=by
 have hcap:m.length+1≤lc:=by
  rcases h with ⟨e,_⟩ | ⟨y,e,h1,_,_⟩
  · cases e
  · simpa using h1
 have hcz:w.cell? (ad.add m.length)=some (.int .u8 13):=by
  rcases h with ⟨e,_⟩ | ⟨y,e,_,_,hc⟩
  · cases e
  · obtain rfl:=Option.some.inj e
    have:=hc m.length (by simp);simpa using this
 have hbl:(ad.add m.length).block<w.heap.size:=qbk hcz;have hcv:(convert 23 9 (.slice (some ad) m.length lc)).run Tryz.prog ((w.alloc (.cells #[.int .i64 0,.int .i64 l,.int .i64 t,.slice (some ad) (m.length+1) lc] 35)).alloc (.cells #[.int .i64 0,.int .i64 0,.int .i64 0,.slice none 0 0] 35)) = .ok (.string ⟨m.toArray⟩) ((w.alloc (.cells #[.int .i64 0,.int .i64 l,.int .i64 t,.slice (some ad) (m.length+1) lc] 35)).alloc (.cells #[.int .i64 0,.int .i64 0,.int .i64 0,.slice none 0 0] 35)):=jr (qak (h.keep (qk (qd w _) _)));obtain ⟨W2,hW2⟩ : ∃ W2,W2=(w.alloc (.cells #[.int .i64 0,.int .i64 l,.int .i64 t,.slice none 0 0] 35)).alloc (.cells #[.int .i64 0,.int .i64 0,.int .i64 0,.slice none 0 0] 35):=⟨_,rfl⟩;have HB2:=Box.mk (show Below w.heap.size w W2 by rw [hW2]; exact qk (qd w _) _);have HR2:=Box.mk (show CVar W2 (w.heap.size+1) 0 0 0 (.slice none 0 0) by
  have h:=heap_alloc_new (w.alloc (.cells #[.int .i64 0,.int .i64 l,.int .i64 t,.slice none 0 0] 35)) (.cells #[.int .i64 0,.int .i64 0,.int .i64 0,.slice none 0 0] 35);rw [World.size_alloc] at h; rw [hW2]; exact h)
 have HC2:=Box.mk (show CVar W2 w.heap.size 0 l t (.slice none 0 0) by
  rw [hW2]; exact CVar.keep (heap_alloc_new _ _) (qd _ _))
 have HW2:=Box.mk hW2;clear h hW2;have hys:(⟨m.toArray⟩ : ByteArray).size≤1000:=by
  show m.toArray.size≤1000
  rw [List.size_toArray]; omega
 go_enter Tryz.func70,Tryz.ntmps70
 go_wp2_with fail;rw [← HW2.out];generalize (⟨m.toArray⟩ : ByteArray)=y at *;refine (qg3 y 59 W2 (by omega)).mono ?_;rintro e w3 ⟨gs,cs,rfl,hg1,hg2,hst,hb3⟩;have hpos:=qk4 59 y;obtain ⟨b0,o0,e0,hc0⟩:=hst 0 hpos;rw [← je1] at hc0;injection e0 with e0;injection e0 with e1 e2;subst e1 e2;have hzz:=jbp y;have HB3:=Box.mk (qe HB2.out hb3);have HR3:=Box.mk (HR2.out.keep hb3);have HC3:=Box.mk (HC2.out.keep hb3);have hlt:=HC3.out.lt;have HYS:=Box.mk (show y.size≤maxLen∧(szS y).size≤maxLen by unfold maxLen; omega);have HSB:=Box.mk (fun h=>qna (l:=l) (t:=t) (y:=y) h);have HSS:=Box.mk (fun h h0=>qnx (l:=l) (t:=t) (y:=y) h h0);have HSG:=Box.mk (fun h h0=>qt5 (l:=l) (t:=t) (y:=y) h h0);clear hb3 HB2 HR2 HC2 HW2 hcv hcz hcap hst hg1 hg2 hzz hys;generalize (jj 59 y).length=ns at *;go_wp2_with fail;refine (ql7 (szS y) 1000000000 _ HYS.out.2 (by decide) (by decide)).mono ?_;rintro e w4 ⟨he,rfl⟩;generalize qo 16 1000000000 (szS y)=pp at *;obtain ⟨n,er⟩:=pp;simp only [] at HSB HSS HSG;subst he;obtain ⟨hd0,hd1,hd2,hd3⟩:=HC3.out.cells;by_cases h2:er=2
 · have HP:=Box.mk (HSB.out (.inl h2))
   have e2:(er == 2)=true:=by rw [h2]; rfl
   clear HSB HSS HSG h2;go_wp2_with (refine wpList_store_row rfl 35 _ _ rfl (w.heap.size+1) #[.int .i64 0,.int .i64 l,.int .i64 t,.slice none 0 0] rfl rfl 35 _ HR3.out j8 rfl (oneC _ _ _ _ _ _) ?_)
   (try simp only [Exit.inBlock,Exit.then])
   refine bodyPost_ret (qf rfl _ _ (w.heap.size+1) _ _ _ _ rfl (setRow_heap _ _ _ _ _ _ HR3.out) Tryz.underlying35 rfl j8) rfl ?_;exact ja.err rfl HP.out (by decide) (below_setRow HB3.out (by omega) _)
 · have e2:(er == 2)=false:=by rw [beq_eq_false_iff_ne]; exact h2
   go_wp2_with fail;refine (qax y _ HYS.out.1).mono ?_;rintro e w4 ⟨he,rfl⟩;cases hv:visS y with
   | false =>
    have HP:=Box.mk (HSB.out (.inr hv));rw [hv] at he;subst he;clear HSB HSS HSG h2 hv;go_wp2_with (refine wpList_store_row rfl 35 _ _ rfl (w.heap.size+1) #[.int .i64 0,.int .i64 l,.int .i64 t,.slice none 0 0] rfl rfl 35 _ HR3.out j8 rfl (oneC _ _ _ _ _ _) ?_)
    (try simp only [Exit.inBlock,Exit.then])
    refine bodyPost_ret (qf rfl _ _ (w.heap.size+1) _ _ _ _ rfl (setRow_heap _ _ _ _ _ _ HR3.out) Tryz.underlying35 rfl j8) rfl ?_;exact ja.err rfl HP.out (by decide) (below_setRow HB3.out (by omega) _)
   | true =>
    rw [hv] at he;subst he;have hnot:¬ (er=2∨visS y=false):=by
     rintro (h | h)
     · exact h2 h
     · rw [hv] at h; cases h
    by_cases h0:er=0
    · have HP0:=Box.mk (HSS.out hnot h0)
      have e0:(er != 0)=false:=by rw [h0]; rfl
      have hf0:=HC3.out.frozen (i:=0);have HC4:=Box.mk (HC3.out.setP (z:=1));have hf1:=HC4.out.frozen (i:=1);obtain ⟨ha0,ha1,ha2,ha3⟩:=HC4.out.cells;have HC5:=Box.mk (HC4.out.setL (z:=n));have hf2:=HC5.out.frozen (i:=0);obtain ⟨hb0,hb1,hb2,hb3⟩:=HC5.out.cells;have HR5:=Box.mk ((HR3.out.other (x:=⟨w.heap.size,0,none⟩) (u:=.int .i64 1) (by show w.heap.size+1≠w.heap.size; omega)).other (x:=⟨w.heap.size,1,none⟩) (u:=.int .i64 n) (by show w.heap.size+1≠w.heap.size; omega));have HB5:=Box.mk ((HB3.out.setCell (p:=⟨w.heap.size,0,none⟩) (Nat.le_refl _) (.int .i64 1)).setCell (p:=⟨w.heap.size,1,none⟩) (Nat.le_refl _) (.int .i64 n));clear HSB HSS HSG h2 hv hnot h0;by_cases hn:n=0
      · have HP:=Box.mk (show kp ⟨0,l,t,[]⟩ y=(0,⟨3,n,t,[]⟩) by rw [HP0.out,if_pos hn])
        have en:(n == 0)=true:=by rw [hn]; rfl
        have HC6:=Box.mk (HC5.out.setP (z:=3));obtain ⟨hg0,hg1,hg2,hg3⟩:=HC6.out.cells;have HR6:=Box.mk (HR5.out.other (x:=⟨w.heap.size,0,none⟩) (u:=.int .i64 3) (by show w.heap.size+1≠w.heap.size; omega));have HB6:=Box.mk (HB5.out.setCell (p:=⟨w.heap.size,0,none⟩) (Nat.le_refl _) (.int .i64 3));clear HP0 hn;go_wp2_with (refine wpList_store_row rfl 35 _ _ rfl (w.heap.size+1) #[.int .i64 3,.int .i64 n,.int .i64 t,.slice none 0 0] rfl rfl 35 _ HR6.out j8 rfl (oneC _ _ _ _ _ _) ?_)
        (try simp only [Exit.inBlock,Exit.then])
        refine bodyPost_ret (qf rfl _ _ (w.heap.size+1) _ _ _ _ rfl (setRow_heap _ _ _ _ _ _ HR6.out) Tryz.underlying35 rfl j8) rfl ?_;exact ja.ok rfl HP.out rfl (.inl ⟨rfl,rfl,rfl⟩) (below_setRow HB6.out (by omega) _)
      · have HP:=Box.mk (show kp ⟨0,l,t,[]⟩ y=(0,⟨1,n,t,[]⟩) by rw [HP0.out,if_neg hn])
        have en:(n == 0)=false:=by rw [beq_eq_false_iff_ne]; exact hn
        clear HP0 hn;go_wp2_with (refine wpList_store_row rfl 35 _ _ rfl (w.heap.size+1) #[.int .i64 1,.int .i64 n,.int .i64 t,.slice none 0 0] rfl rfl 35 _ HR5.out j8 rfl (oneC _ _ _ _ _ _) ?_)
        (try simp only [Exit.inBlock,Exit.then])
        refine bodyPost_ret (qf rfl _ _ (w.heap.size+1) _ _ _ _ rfl (setRow_heap _ _ _ _ _ _ HR5.out) Tryz.underlying35 rfl j8) rfl ?_;exact ja.ok rfl HP.out rfl (.inl ⟨rfl,rfl,rfl⟩) (below_setRow HB5.out (by omega) _)
    · have HP:=Box.mk (HSG.out hnot h0)
      have HE0:=Box.mk h0;have e0:(er != 0)=true:=by rw [bne_iff_ne]; exact h0
      clear HSB HSS HSG h2 hv hnot h0;go_wp2_with (refine wpList_store_row rfl 35 _ _ rfl (w.heap.size+1) #[.int .i64 0,.int .i64 l,.int .i64 t,.slice none 0 0] rfl rfl 35 _ HR3.out j8 rfl (oneC _ _ _ _ _ _) ?_)
      (try simp only [Exit.inBlock,Exit.then])
      refine bodyPost_ret (qf rfl _ _ (w.heap.size+1) _ _ _ _ rfl (setRow_heap _ _ _ _ _ _ HR3.out) Tryz.underlying35 rfl j8) rfl ?_;exact ja.err rfl HP.out HE0.out (below_setRow HB3.out (by omega) _)
theorem qve (s:ByteArray):0≤(qo 16 1000000000 s).1∧(qo 16 1000000000 s).1≤1000000000∧((qo 16 1000000000 s).2=0∨(qo 16 1000000000 s).2=2∨(qo 16 1000000000 s).2=3):=by
 unfold qo
 split
 · rename_i h
   have hne:s.data.toList≠[]:=by
    intro e;unfold numS at h;rw [e] at h; simp at h
   have h1:=qwn 16 (by decide) s.data.toList 0 (by decide);rw [qsv 16 1000000000 (by decide) _ 0 (by decide) (.inr hne)]
   split
   · exact ⟨h1,by assumption,.inl rfl⟩
   · exact ⟨by decide,by decide,.inr (.inr rfl)⟩
 · exact ⟨by decide,by decide,.inr (.inl rfl)⟩
structure OkC (s:Chk):Prop where
 ph:0≤s.ph∧s.ph≤4
 line:s.line.length≤128∨crB s.line=true∧s.line.length≤129
 tr:0≤s.tr∧s.tr≤1024
 tr0:s.ph≤2→s.tr=0
 data:s.ph=1→1≤s.left∧s.left≤1000000000
 left:¬ s.ph=1→s.left=0
 empty:s.ph=1∨s.ph=4→s.line=[]
theorem qh9 {p l t:Int} {ln:List UInt8} (h1:0≤p∧p≤4) (h2:ln.length≤128∨crB ln=true∧ln.length≤129) (h3:0≤t∧t≤1024) (h4:p≤2→t=0) (h5:p=1→1≤l∧l≤1000000000) (h6:¬ p=1→l=0) (h7:p=1∨p=4→ln=[]):OkC ⟨p,l,t,ln⟩:=⟨h1,h2,h3,h4,h5,h6,h7⟩
theorem qe3 {w:World} {a:Option Addr} {m:List UInt8} {z:UInt8} {c:Nat} (h:qg w a (m++[z]) c):∃ ad,a=some ad:=by
 rcases h with ⟨_,e,_⟩ | ⟨x,e,_⟩
 · simp at e
 · exact ⟨x,e⟩
theorem OkC.len {s:Chk} (h:OkC s):s.line.length≤129:=by
 rcases h.line with h | ⟨_,h⟩ <;> omega
theorem qq0:OkC zeroC:=⟨by decide,.inl (by decide),by decide,fun _=>rfl,fun h=>absurd h (by decide),fun _=>rfl,fun _=>rfl⟩
theorem jdp {s:Chk} {y:ByteArray} (h:OkC s) (hl:s.line=[]) (h1:¬ s.ph=1) (h0:(kp s y).1=0):OkC (kp s y).2:=by
 obtain ⟨p,l,t,ln⟩:=s;simp only [] at hl h1;subst hl;have hp:=h.ph;have hlf:=h.left h1;simp only [] at hp hlf;have hpr:=qve (szS y);unfold kp at h0 ⊢;simp only [] at h0 ⊢;by_cases e0:p=0
 · rw [if_pos e0] at h0 ⊢
   have ht:=h.tr0 (by show p≤2; omega);simp only [] at ht
   split at h0
   · simp at h0
   · rename_i hn
     rw [if_neg hn]
     split at h0
     · rename_i hz
       rw [if_pos hz];by_cases hn0:(qo 16 1000000000 (szS y)).1=0
       · simp only [if_pos hn0]
         exact qh9 (by decide) (.inl (by decide)) (by omega) (fun h=>absurd h (by decide)) (fun h=>absurd h (by decide)) (fun _=>hn0) (fun _=>rfl)
       · simp only [if_neg hn0]
         exact qh9 (by decide) (.inl (by decide)) (by omega) (fun _=>ht) (fun _=>by omega) (fun h=>absurd rfl h) (fun _=>rfl)
     · rename_i hz
       exact absurd h0 hz
 · rw [if_neg e0] at h0 ⊢
   by_cases e2:p=2
   · rw [if_pos e2] at h0 ⊢
     have ht:=h.tr0 (by show p≤2; omega);simp only [] at ht
     split at h0
     · rename_i hs
       rw [if_pos hs];exact qh9 (by decide) (.inl (by decide)) (by omega) (fun _=>ht) (fun h=>absurd h (by decide)) (fun _=>hlf) (fun _=>rfl)
     · simp at h0
   · rw [if_neg e2] at h0 ⊢
     have htr:=h.tr;simp only [] at htr;by_cases e3:p=3
     · rw [if_pos e3] at h0 ⊢
       split at h0
       · rename_i hs
         rw [if_pos hs];exact qh9 (by decide) (.inl (by decide)) htr (fun h=>absurd h (by decide)) (fun h=>absurd h (by decide)) (fun _=>hlf) (fun _=>rfl)
       · rename_i hs
         rw [if_neg hs]
         split at h0
         · rename_i hf
           rw [if_pos hf];exact qh9 (by decide) (.inl (by decide)) htr (fun h=>absurd h (by decide)) (fun h=>absurd h (by decide)) (fun _=>hlf) (fun _=>rfl)
         · simp at h0
     · rw [if_neg e3]
       exact qh9 hp (.inl (by decide)) htr h.tr0 h.data h.left (fun _=>rfl)
theorem qx4 {s:Chk} {t:Int} {x:UInt8} (h:OkC s) (h1:¬ s.ph=1) (h4:¬ s.ph=4) (ht:0≤t∧t≤1024) (ht0:s.ph≤2→t=0) (h0:(qba s t x).1=0):OkC (qba s t x).2:=by
 unfold qba at h0 ⊢;by_cases hc:crB s.line=false
 · rw [if_pos hc] at h0 ⊢
   have hl:s.line.length≤128:=by
    rcases h.line with h | ⟨h,_⟩
    · exact h
    · rw [hc] at h; cases h
   by_cases hx:x=10
   · rw [if_pos hx] at h0; simp at h0
   · rw [if_neg hx] at h0 ⊢
     by_cases hb:128<s.line.length+1∧¬ x=13
     · rw [if_pos hb] at h0; simp at h0
     · rw [if_neg hb]
       refine ⟨h.ph,?_,ht,ht0,h.data,h.left,fun e=>?_⟩
       · by_cases h13:x=13
         · exact .inr ⟨by show crB (s.line++[x])=true; rw [qdt,h13]; rfl,by show (s.line++[x]).length≤129; simp; omega⟩
         · refine .inl ?_
           show (s.line++[x]).length≤128
           simp
           have:¬ 128<s.line.length+1:=fun h=>hb ⟨h,h13⟩;omega
       · rcases e with e | e
         · exact absurd e h1
         · exact absurd e h4
 · rw [if_neg hc] at h0 ⊢
   by_cases hx:x=10
   · rw [if_pos hx] at h0 ⊢
     exact jdp ⟨h.ph,.inl (by show ([]:List UInt8).length≤128; simp),ht,ht0,h.data,h.left,fun _=>rfl⟩ rfl h1 h0
   · rw [if_neg hx] at h0; simp at h0
theorem qqa {s:Chk} {x:UInt8} (h:OkC s) (h1:¬ s.ph=1) (h4:¬ s.ph=4) (h0:(qat s x).1=0):OkC (qat s x).2:=by
 unfold qat at h0 ⊢;by_cases h3:s.ph=3
 · rw [if_pos h3] at h0 ⊢
   by_cases hm:1024<s.tr+1
   · rw [if_pos hm] at h0; simp at h0
   · rw [if_neg hm] at h0 ⊢
     exact qx4 h h1 h4 (by have:=h.tr; omega) (fun e=>by omega) h0
 · rw [if_neg h3] at h0 ⊢
   exact qx4 h h1 h4 h.tr h.tr0 h0
theorem qwv {s:Chk} (h:OkC s) (h1:s.ph=1):OkC ⟨if s.left-1=0 then 2 else 1,s.left-1,s.tr,s.line⟩:=by
 have hd:=h.data h1;by_cases e:s.left-1=0
 · simp only [if_pos e]
   exact qh9 (by decide) h.line h.tr (fun _=>h.tr0 (by omega)) (fun h=>absurd h (by decide)) (fun _=>e) (fun _=>h.empty (.inl h1))
 · simp only [if_neg e]
   exact qh9 (by decide) h.line h.tr (fun _=>h.tr0 (by omega)) (fun _=>by omega) (fun h=>absurd rfl h) (fun _=>h.empty (.inl h1))
theorem qsh (l t:Int) (a:Option Addr) (n c:Nat) (x:UInt8) (w:World) (s:Chk) (hs:s.ph=3) (hst:s.tr=t) (ht0:0≤t∧t≤1024) (ht:1024<t+1) :
  Calls Tryz.prog 70 #[.agg #[.int .i64 3,.int .i64 l,.int .i64 t,.slice a n c],.int .u8 x.toNat] w (ja w (qat s x)):=by
 have HP:=Box.mk (show qat s x=(3,zeroC) by unfold qat; rw [if_pos hs,hst,if_pos ht]);obtain ⟨W2,hW2⟩ : ∃ W2,W2=(w.alloc (.cells #[.int .i64 3,.int .i64 l,.int .i64 (t+1),.slice a n c] 35)).alloc (.cells #[.int .i64 0,.int .i64 0,.int .i64 0,.slice none 0 0] 35):=⟨_,rfl⟩;have HB:=Box.mk (qk (qd w (.cells #[.int .i64 3,.int .i64 l,.int .i64 (t+1),.slice a n c] 35)) (.cells #[.int .i64 0,.int .i64 0,.int .i64 0,.slice none 0 0] 35));have HR:=Box.mk (show CVar ((w.alloc (.cells #[.int .i64 3,.int .i64 l,.int .i64 (t+1),.slice a n c] 35)).alloc (.cells #[.int .i64 0,.int .i64 0,.int .i64 0,.slice none 0 0] 35)) (w.heap.size+1) 0 0 0 (.slice none 0 0) by
  have h:=heap_alloc_new (w.alloc (.cells #[.int .i64 3,.int .i64 l,.int .i64 (t+1),.slice a n c] 35)) (.cells #[.int .i64 0,.int .i64 0,.int .i64 0,.slice none 0 0] 35);rw [World.size_alloc] at h; exact h)
 clear hs hst hW2;go_enter Tryz.func70,Tryz.ntmps70
 go_wp2_with (refine wpList_store_row rfl 35 _ _ rfl (w.heap.size+1) #[.int .i64 3,.int .i64 l,.int .i64 (t+1),.slice a n c] rfl rfl 35 _ HR.out j8 rfl (oneC _ _ _ _ _ _) ?_)
 (try simp only [Exit.inBlock,Exit.then])
 refine bodyPost_ret (qf rfl _ _ (w.heap.size+1) _ _ _ _ rfl (setRow_heap _ _ _ _ _ _ HR.out) Tryz.underlying35 rfl j8) rfl ?_;exact ja.err rfl HP.out (by decide) (below_setRow HB.out (by omega) _)
theorem quh (s:Chk) (x:UInt8) (la:Option Addr) (lc:Nat) (w:World) (h:qg w la s.line lc) (hs:OkC s) (h1:¬ s.ph=1) (h4:¬ s.ph=4) :
  Calls Tryz.prog 70 #[.agg #[.int .i64 s.ph,.int .i64 s.left,.int .i64 s.tr,.slice la s.line.length lc],.int .u8 x.toNat] w (ja w (qat s x)):=by
 have hlen:=hs.len;have htr:=hs.tr;have hph:=hs.ph;obtain ⟨p,l,t,ln⟩:=s;simp only [] at h hlen htr h1 h4 hph ⊢;clear hs;by_cases hp:p=3
 · subst hp
   by_cases hm:1024<t+1
   · exact qsh l t la ln.length lc x w ⟨3,l,t,ln⟩ rfl rfl htr hm
   · have e:qat ⟨3,l,t,ln⟩ x=qba ⟨3,l,t,ln⟩ (t+1) x:=by unfold qat; rw [if_pos rfl,if_neg hm]
     rw [e];rcases qem ln with rfl | ⟨m,z,rfl⟩
     · exact qs0 l t la x lc w h htr.1 (by omega)
     · have hml:(m++[z]).length=m.length+1:=by simp
       rw [hml] at hlen ⊢;obtain ⟨ad,rfl⟩:=qe3 h;by_cases hz:z=13
       · subst hz
         by_cases hx:x=10
         · subst hx
           rw [qep];exact qud l t m ad lc w h (by omega) htr.1 (by omega)
         · exact qno l t m ad x lc w h (by omega) htr.1 (by omega) hx
       · exact qq4 l t m z ad x lc w h hz (by omega) htr.1 (by omega)
 · have e:qat ⟨p,l,t,ln⟩ x=qba ⟨p,l,t,ln⟩ t x:=by unfold qat; rw [if_neg hp]
   rw [e];rcases qem ln with rfl | ⟨m,z,rfl⟩
   · exact qw0 p l t la x lc w h hp
   · have hml:(m++[z]).length=m.length+1:=by simp
     rw [hml] at hlen ⊢;obtain ⟨ad,rfl⟩:=qe3 h;by_cases hz:z=13
     · subst hz
       by_cases hx:x=10
       · subst hx
         rw [qep];by_cases h0:p=0
         · subst h0; exact qv9 l t m ad lc w h (by omega)
         · by_cases h2:p=2
           · subst h2; exact qvc l t m ad lc w h (by omega)
           · exact quz p l t m ad lc w h (by omega) h0 h2 hp
       · exact qqv p l t m ad x lc w h (by omega) hx hp
     · exact qsb p l t m z ad x lc w h hz (by omega) hp
end Go.Proofs.YtflhjpokjdjbpaaGreatDoor

/- Package head: ParseRequest. Package head: parse for replies, ParseReply. The project's reader: startRequest. The law FramingReply. What the law FramingNoSmuggling wants: fields that no rule on frames names, fields that contradict each other; appends of whole slices. What the law FramingAlone wants: a made frame beside fields that no rule names; single operations of a region that draws its order. The project's reader: startReply. The project's reader: readHead. The project's reader: readHead, whatever the head. -/
import Derived.Test.YtflhjpokjdjbpaaGreatDoorPq11
set_option linter.unusedVariables false
set_option linter.unusedSimpArgs false
set_option maxRecDepth 100000
set_option maxHeartbeats 4000000
namespace Go.Proofs.YtflhjpokjdjbpaaGreatDoor
open Go.RowKit
theorem qf0.cells6 {w:World} {g:Nat} {m t:ByteArray} {z:Int} {v:Value} (h:qf0 w g m t z v):w.cell? ⟨g,0,none⟩=some (.string m)∧w.cell? ⟨g,1,none⟩=some (.string t)∧w.cell? ⟨g,2,none⟩=some (.int .i64 z)∧w.cell? ⟨g,3,none⟩=some v∧w.cell? ⟨g,4,none⟩=some (.bool false)∧w.cell? ⟨g,5,none⟩=some (.slice none 0 0):=by
 refine ⟨?_,?_,?_,?_,?_,?_⟩ <;> rw [cell_of_row _ _ _ _ _ _ h] <;> rfl
theorem qf0.put {w:World} {g:Nat} {m t:ByteArray} {z:Int} {v u:Value} (h:qf0 w g m t z v):qf0 (w.setCell ⟨g,3,none⟩ u) g m t z u:=by
 unfold qf0; rw [heap_setCell_same _ _ _ _ _ _ h]; rfl
theorem qf0.frozen {w:World} {g i:Nat} {m t:ByteArray} {z:Int} {v:Value} (h:qf0 w g m t z v):w.frozen? ⟨g,i,none⟩=false:=by
 unfold qf0 at h; simp [World.frozen?,h]
theorem HdOk.lt {w:World} {mm:Int} (hm:HdOk w mm):0<w.heap.size:=by
 unfold HdOk World.cell? at hm;by_cases hh:0<w.heap.size
 · exact hh
 · rw [show w.heap[0]? = none from Array.getElem?_eq_none (by omega)] at hm
   cases hm
theorem jeq (b:List UInt8):qa0 b=if (qnw b).1=0 then (if qrj (qnw b).2.2.2.2 (qnw b).2.2.2.1=true then qnw b else (2,⟨#[]⟩,⟨#[]⟩,0,[])) else ((qnw b).1,⟨#[]⟩,⟨#[]⟩,0,[]):=by
 unfold qa0 qnw;rcases hls:qa5 b with _ | L
 · rfl
 · rcases L with _ | ⟨l0,ls⟩
   · rfl
   · simp only []
     have hne:=qx5 (jj 32 l0);unfold qa3;generalize qbb (jj 32 l0)=o at *;obtain ⟨o1,er⟩:=o;rcases o1 with _ | f
     · simp only []
       have h0:¬ er=0:=hne rfl;rw [if_neg h0];simp only [h0,if_false]
     · simp only [if_true]
       generalize qt ls=F;obtain ⟨er2,x⟩:=F;simp only [];by_cases h0:er2=0
       · subst h0
         simp only [if_true];unfold qrj;by_cases hh:(qj x hostN).length=1∨((qj x hostN).length=0∧¬ f.2.2=1)
         · rw [if_neg (by omega),if_pos (decide_eq_true hh)]
         · rw [if_pos (by
            rcases Nat.lt_or_ge 1 (qj x hostN).length with h1 | h1
            · exact .inl h1
            · right
              constructor
              · omega
              · exact Classical.byContradiction fun h2=>hh (.inr ⟨by omega,h2⟩)),if_neg (by rw [decide_eq_true_iff]; exact hh)]
       · rw [if_neg h0,if_neg h0]
theorem qfm (b:List UInt8) (a:Option Addr) (c:Nat) (mm:Int) (w:World) (h:qg w a b c) (hl:b.length≤3000000) (hm:HdOk w mm) :
  Calls Tryz.prog 78 #[.slice a b.length c] w (jb0 w (qa0 b)):=by
 obtain ⟨W0,hW0⟩ : ∃ W0,W0=w.alloc (.cells #[.string ⟨#[]⟩,.string ⟨#[]⟩,.int .i64 0,.slice none 0 0,.bool false,.slice none 0 0] 29):=⟨_,rfl⟩;have hs0:W0.heap.size=w.heap.size+1:=by rw [hW0]; exact Array.size_push _
 obtain ⟨W1,hW1⟩ : ∃ W1,W1=W0.alloc (.cells #[.string ⟨#[]⟩,.string ⟨#[]⟩,.int .i64 0,.slice none 0 0,.bool false,.slice none 0 0] 143):=⟨_,rfl⟩;have hb0:Below w.heap.size w W0:=by rw [hW0]; exact qd w _
 have hb1:Below W0.heap.size W0 W1:=by rw [hW1]; exact qd W0 _
 have HR0:=Box.mk (show qd1 W0 w.heap.size ⟨#[]⟩ ⟨#[]⟩ 0 (.slice none 0 0) by rw [hW0]; exact heap_alloc_new _ _);have HR1:=Box.mk (HR0.out.keep hb1);have HQ1:=Box.mk (show qf0 W1 W0.heap.size ⟨#[]⟩ ⟨#[]⟩ 0 (.slice none 0 0) by rw [hW1]; exact heap_alloc_new _ _);have HB1:=Box.mk (qe hb0 hb1);have hmlt:=hm.lt;have hs1:W1.heap.size=w.heap.size+2:=by rw [hW1]; exact (Array.size_push _).trans (by rw [hs0])
 have HCALL:=Box.mk (qnm b a c W0.heap.size mm W1 (h.keep HB1.out) hl (hm.keep HB1.out) (by omega) HQ1.out);have HD:=Box.mk (jeq b);generalize qa0 b=R at *;generalize qnw b=S at *;obtain ⟨er,m,t,z,x⟩:=S;rw [hs0] at HCALL HQ1;rw [hW0] at hW1;have HW1:=Box.mk hW1;clear h hm hW0 hW1 hb0 hb1 hs0 HR0 HQ1 hmlt;go_enter Tryz.func78,Tryz.ntmps78
 go_wp2_with fail;rw [← HW1.out];clear HW1;refine HCALL.out.mono ?_;rintro e w2 ⟨fa,fc,rfl,hq2,hfx,hfr,hn2,hsf,hx64⟩;have HQ2:=Box.mk hq2;have HFX:=Box.mk hfx;have HFR:=Box.mk hfr;have HSF:=Box.mk hsf;have HR2:=Box.mk (show qd1 w2 w.heap.size ⟨#[]⟩ ⟨#[]⟩ 0 (.slice none 0 0) by unfold qd1; rw [hn2.block _ (by omega) (by omega)]; exact HR1.out);have HB2:=Box.mk (HB1.out.trans (hn2.below (K:=w.heap.size) (by omega) (by omega)));have hs2:W1.heap.size≤w2.heap.size:=hn2.size;clear hq2 hfx hfr hn2 hsf HR1 HB1 HCALL;by_cases h0:er=0
 · subst h0
   have HD1:=Box.mk (show R=if qrj x z=true then (0,m,t,z,x) else (2,⟨#[]⟩,⟨#[]⟩,0,[]) from HD.out);have hc2:=HQ2.out.cells6.2.2.1;clear HD;go_wp2_with fail;refine (qns z x fa fc w2 HFX.out HSF.out (by omega)).mono ?_;rintro e w3 ⟨he,hb3⟩;have HQ3:=Box.mk (HQ2.out.keep hb3);have HR3:=Box.mk (HR2.out.keep hb3);have HFX3:=Box.mk (HFX.out.keep hb3);have HB3:=Box.mk (qe HB2.out hb3);clear hb3 HQ2 HR2 HFX HB2 hc2;by_cases hh:qrj x z=true
   · rw [hh] at he
     subst he;have HD2:=Box.mk (show R=(0,m,t,z,x) by rw [HD1.out,if_pos hh]);have hf3:=HQ3.out.frozen (i:=3);obtain ⟨k0,k1,k2,k3,k4,k5⟩:=HQ3.out.cells6;clear HD1 hh;obtain ⟨W4,hW4⟩ : ∃ W4,W4=w3.setCell ⟨w.heap.size+1,3,none⟩ (.slice fa x.length fc):=⟨_,rfl⟩;have HQ4:=Box.mk (show qf0 W4 (w.heap.size+1) m t z (.slice fa x.length fc) by rw [hW4]; exact HQ3.out.put);have HR4:=Box.mk (show qd1 W4 w.heap.size ⟨#[]⟩ ⟨#[]⟩ 0 (.slice none 0 0) by
      unfold qd1; rw [hW4,heap_setCell_other _ _ _ _ (by show w.heap.size≠w.heap.size+1; omega)]; exact HR3.out)
     have HB4:=Box.mk (show Below w.heap.size w W4 by rw [hW4]; exact HB3.out.setCell (p:=⟨w.heap.size+1,3,none⟩) (show w.heap.size≤w.heap.size+1 by omega) (.slice fa x.length fc));have HX4:=Box.mk (show qm W4 fa x by
      rw [hW4]; exact HFX3.out.same fun y hy=>heap_setCell_other _ _ _ _ (by have:=HFR.out y hy; show y.block≠w.heap.size+1; omega))
     subst hW4;obtain ⟨c0,c1,c2,c3,c4,c5⟩:=HQ4.out.cells6;clear HQ3 HR3 HFX3 HB3;go_wp2_with (refine wpList_store_row rfl 29 _ _ rfl w.heap.size #[.string m,.string t,.int .i64 z,.slice fa x.length fc,.bool false,.slice none 0 0] rfl rfl 29 _ HR4.out jo rfl (qew _ _ _ _ _ _) ?_)
     (try simp only [Exit.inBlock,Exit.then])
     refine bodyPost_ret (qf rfl _ _ w.heap.size _ _ _ _ rfl (setRow_heap _ _ _ _ _ _ HR4.out) Tryz.underlying29 rfl jo) rfl ?_;rw [HD2.out];exact ⟨fa,fc,rfl,HX4.out.same fun y hy=>setRow_other _ _ _ _ (by have:=HFR.out y hy; omega),(fun y hy=>by have:=HFR.out y hy; omega),below_setRow HB4.out (Nat.le_refl _) _⟩
   · have hh0:qrj x z=false:=by rw [← Bool.not_eq_true]; exact hh
     rw [hh0] at he;subst he;have HP:=Box.mk (show R=(2,⟨#[]⟩,⟨#[]⟩,0,[]) by rw [HD1.out,if_neg hh]);clear HD1 hh hh0;go_wp2_with (refine wpList_store_row rfl 29 _ _ rfl w.heap.size #[.string ⟨#[]⟩,.string ⟨#[]⟩,.int .i64 0,.slice none 0 0,.bool false,.slice none 0 0] rfl rfl 29 _ HR3.out jo rfl (qew _ _ _ _ _ _) ?_)
     (try simp only [Exit.inBlock,Exit.then])
     refine bodyPost_ret (qf rfl _ _ w.heap.size _ _ _ _ rfl (setRow_heap _ _ _ _ _ _ HR3.out) Tryz.underlying29 rfl jo) rfl ?_;rw [HP.out];exact ⟨none,0,rfl,qm.nil _ _,(fun y hy=>by cases hy),below_setRow HB3.out (Nat.le_refl _) _⟩
 · have e0:(er == 0)=false:=by rw [beq_eq_false_iff_ne]; exact h0
   have e1:(er != 0)=true:=by rw [bne_iff_ne]; exact h0
   have HP:=Box.mk (show R=(er,⟨#[]⟩,⟨#[]⟩,0,[]) by rw [HD.out,if_neg h0]);clear HD h0;go_wp2_with (refine wpList_store_row rfl 29 _ _ rfl w.heap.size #[.string ⟨#[]⟩,.string ⟨#[]⟩,.int .i64 0,.slice none 0 0,.bool false,.slice none 0 0] rfl rfl 29 _ HR2.out jo rfl (qew _ _ _ _ _ _) ?_)
   (try simp only [Exit.inBlock,Exit.then])
   refine bodyPost_ret (qf rfl _ _ w.heap.size _ _ _ _ rfl (setRow_heap _ _ _ _ _ _ HR2.out) Tryz.underlying29 rfl jo) rfl ?_;rw [HP.out];exact ⟨none,0,rfl,qm.nil _ _,(fun y hy=>by cases hy),below_setRow HB2.out (Nat.le_refl _) _⟩
def qf3 (w:World) (g:Nat) (m:Int) (t:ByteArray) (z:Int) (v:Value):Prop:=w.heap[g]? = some (.cells #[.int .i64 m,.string t,.int .i64 z,v,.slice none 0 0] 148 (0,0))
theorem qf3.keep {w w':World} {g:Nat} {m:Int} {t:ByteArray} {z:Int} {v:Value} (h:qf3 w g m t z v) (hb:Below w.heap.size w w'):qf3 w' g m t z v:=by
 unfold qf3 at *;rw [hb.block g (Array.getElem?_eq_some_iff.1 h).1]; exact h
theorem je6:(Tryz.prog.info? 148).map (·.size)=some 5:=by kernel_rfl
def qa2 (s:ByteArray):Int × Int × ByteArray × Int :=
 match ks s with
 | some f=>(0,f.1,f.2.1,f.2.2)
 | none=>(2,0,⟨#[]⟩,0)
theorem qsd (s:ByteArray) (g:Nat) (w:World) (hs:s.size≤4000000) (hq:qf3 w g 0 ⟨#[]⟩ 0 (.slice none 0 0)) :
  Calls Tryz.prog 111 #[.pointer (some ⟨g,0,none⟩),.string s] w fun e w'=>e = .returned (.int .i64 (qa2 s).1)∧qf3 w' g (qa2 s).2.1 (qa2 s).2.2.1 (qa2 s).2.2.2 (.slice none 0 0)∧ButH g w w':=by
 have HQ:=Box.mk hq;have HC:=Box.mk (qkv s w (by unfold maxLen; omega));have HD:=Box.mk (show qa2 s=match ks s with
 | some f=>(0,f.1,f.2.1,f.2.2)
 | none=>(2,0,⟨#[]⟩,0) from rfl)
 generalize qa2 s=R at *;generalize ks s=o at *;clear hq;have hg:g<w.heap.size:=(Array.getElem?_eq_some_iff.1 HQ.out).1;go_enter Tryz.func111,Tryz.ntmps111
 go_wp2_with fail;refine HC.out.mono ?_;rintro e w1 ⟨he,hb1⟩;have HB1:=Box.mk (ButH.of (p:=g) hb1);have HQ1:=Box.mk (HQ.out.keep hb1);clear hb1 HC HQ;rcases o with _ | ⟨m,t,z⟩
 · simp only [qow] at he
   subst he;have HP:=Box.mk (show R=(2,0,⟨#[]⟩,0) from HD.out);clear HD;have hb2:=qd w1 (.cells #[.int .i64 0,.string ⟨#[]⟩,.int .i64 0,.slice none 0 0,.slice none 0 0] 31);have HQ2:=Box.mk (HQ1.out.keep hb2);have HB2:=Box.mk (HB1.out.trans (ButH.of hb2));clear hb2;go_wp2_with (refine wpList_store_row rfl 148 _ _ rfl g #[.int .i64 0,.string ⟨#[]⟩,.int .i64 0,.slice none 0 0,.slice none 0 0] rfl rfl 148 _ HQ2.out je6 rfl (qhs _ _ _ _ _ _) ?_)
   go_ret;rw [HP.out];exact ⟨rfl,setRow_heap _ _ _ _ _ _ HQ2.out,HB2.out.setRow _⟩
 · simp only [qow] at he
   subst he;have HP:=Box.mk (show R=(0,m,t,z) from HD.out);clear HD;have hb2:=qd w1 (.cells #[.int .i64 m,.string t,.int .i64 z,.slice none 0 0,.slice none 0 0] 31);have HQ2:=Box.mk (HQ1.out.keep hb2);have HB2:=Box.mk (HB1.out.trans (ButH.of hb2));clear hb2;go_wp2_with (refine wpList_store_row rfl 148 _ _ rfl g #[.int .i64 m,.string t,.int .i64 z,.slice none 0 0,.slice none 0 0] rfl rfl 148 _ HQ2.out je6 rfl (qhs _ _ _ _ _ _) ?_)
   go_ret;rw [HP.out];exact ⟨rfl,setRow_heap _ _ _ _ _ _ HQ2.out,HB2.out.setRow _⟩
def qkc (b:List UInt8):Int × Int × ByteArray × Int × List Fld :=
 match qa5 b with
 | some (l0 :: ls)=>if (qa2 l0).1=0 then ((qt ls).1,(qa2 l0).2.1,(qa2 l0).2.2.1,(qa2 l0).2.2.2,(qt ls).2) else ((qa2 l0).1,(qa2 l0).2.1,(qa2 l0).2.2.1,(qa2 l0).2.2.2,[])
 | _=>(2,0,⟨#[]⟩,0,[])
def jav (w:World) (g:Nat) (r:Int × Int × ByteArray × Int × List Fld) (e:Ending) (w':World):Prop :=
 ∃ fa fc,e = .returned (.tuple #[.slice fa r.2.2.2.2.length fc,.int .i64 r.1])∧qf3 w' g r.2.1 r.2.2.1 r.2.2.2.1 (.slice none 0 0)∧qm w' fa r.2.2.2.2∧(∀ y,fa=some y→w.heap.size≤y.block)∧ButH g w w'∧qa6 r.2.2.2.2∧r.2.2.2.2.length≤64
theorem qnp (b:List UInt8) (a:Option Addr) (c g:Nat) (mm:Int) (w:World) (h:qg w a b c) (hl:b.length≤3000000) (hm:HdOk w mm) (hgm:0≠g) (hq:qf3 w g 0 ⟨#[]⟩ 0 (.slice none 0 0)) :
  Calls Tryz.prog 107 #[.slice a b.length c,.func (.func 111) #[.pointer (some ⟨g,0,none⟩)] #[]] w (jav w g (qkc b)):=by
 have HQ:=Box.mk hq;have HM:=Box.mk hm;have HBY:=Box.mk h;have hg:g<w.heap.size:=(Array.getElem?_eq_some_iff.1 hq).1;have HD:=Box.mk (show qkc b=match qa5 b with
  | some (l0 :: ls)=>if (qa2 l0).1=0 then ((qt ls).1,(qa2 l0).2.1,(qa2 l0).2.2.1,(qa2 l0).2.2.2,(qt ls).2) else ((qa2 l0).1,(qa2 l0).2.1,(qa2 l0).2.2.1,(qa2 l0).2.2.2,[])
  | _=>(2,0,⟨#[]⟩,0,[]) from rfl)
 have HEND:=Box.mk (qcn b a c b.length mm w h hl hm);have HGM:=Box.mk hgm;generalize qkc b=R at *;clear h hm hq hgm;by_cases he:endZ b=b.length
 · obtain ⟨t,ht,h4⟩:=qwu he
   rw [jbs he] at HEND;have HE:=Box.mk he;have HT:=Box.mk ht;clear he ht;go_enter Tryz.func107,Tryz.ntmps107
   go_wp2_with fail;refine HEND.out.mono ?_;rintro e w1 ⟨rfl,hb1⟩;have HB1:=Box.mk hb1;have HBY1:=Box.mk (HBY.out.keep hb1);have HM1:=Box.mk (HM.out.keep hb1);have HQ1:=Box.mk (HQ.out.keep hb1);have HN1:=Box.mk (ButH.of (p:=g) hb1);have hg1:g<w1.heap.size:=(Array.getElem?_eq_some_iff.1 HQ1.out).1;have hcv:=jr HBY1.out;clear hb1 HEND HBY HM HQ;go_wp2_with fail;refine (qhw b mm w1 (by omega) HM1.out).mono ?_;rintro e w2 ⟨rfl,rfl⟩;by_cases hw:(j6 [] b).isSome=true
   · obtain ⟨l0,ls,ls',hls,hps,hfs,hz0,hzl,hln⟩:=qix HT.out HE.out hw
     rw [hw];have HR:=Box.mk (show R=if (qa2 l0).1=0 then ((qt ls').1,(qa2 l0).2.1,(qa2 l0).2.2.1,(qa2 l0).2.2.2,(qt ls').2) else ((qa2 l0).1,(qa2 l0).2.1,(qa2 l0).2.2.1,(qa2 l0).2.2.2,[]) by rw [HD.out,hls,hfs]);have htz:t.length≤3000000:=by have:=HT.out; rw [this,List.length_append] at hl; omega
     have HSUF:=Box.mk (show Calls Tryz.prog 123 #[.string ⟨b.toArray⟩,.string ⟨#[13,10,13,10]⟩] w1 fun e w'=>e = .returned (.string ⟨t.toArray⟩)∧w1=w' by
      have h:=qm5 ⟨b.toArray⟩ ⟨#[13,10,13,10]⟩ w1 (by show b.length≤_; omega);have e:(⟨(Lib.trimSuffix (⟨b.toArray⟩ : ByteArray).data.toList (⟨#[13,10,13,10]⟩ : ByteArray).data.toList).toArray⟩ : ByteArray)=⟨t.toArray⟩:=by
       show (⟨(Lib.trimSuffix b crlf2).toArray⟩ : ByteArray)=_
       rw [HT.out,qox]
      rw [e] at h;exact h)
     have HSPL:=Box.mk (qp5 ⟨t.toArray⟩ w1 mm (by show t.length<_; omega) HM1.out);rw [hps] at HSPL;have HZ0:=Box.mk hz0;have HZL:=Box.mk (show ∀ s ∈ ls',s.size≤maxLen from fun s hs=>Nat.le_trans (hzl s hs) (by unfold maxLen; omega));clear hw hls hps hfs hzl HD HE HT hz0;go_wp2_with fail;refine HSUF.out.mono ?_;rintro e w2 ⟨rfl,rfl⟩;clear HSUF;go_wp2_with fail;refine HSPL.out.mono ?_;rintro e w2 ⟨cap,rfl,hlc,hcap,hst,hb2⟩;rw [List.length_cons] at hlc;have HST:=Box.mk hst;have HB2:=Box.mk (qe HB1.out hb2);have HM2:=Box.mk (HM1.out.keep hb2);have HQ2:=Box.mk (HQ1.out.keep hb2);have HN2:=Box.mk (HN1.out.trans (ButH.of hb2));have hc0:=hst.head;have hlt2:w1.heap.size<w2.heap.size:=by
      by_cases hh:w1.heap.size<w2.heap.size
      · exact hh
      · have h:=hc0
        unfold World.cell? at h;rw [show w2.heap[w1.heap.size]? = none from Array.getElem?_eq_none (by omega)] at h;cases h
     have hG1:w.heap.size≤w1.heap.size:=HB1.out.size;have HSTA:=Box.mk (qsd l0 g w2 (by have:=HZ0.out; omega) HQ2.out);clear hst hb2 HSPL HM1 HQ1 HN1 HBY1 hcv;generalize qa2 l0=S at *;obtain ⟨er,m,tt,z⟩:=S;go_wp2_with fail;refine HSTA.out.mono ?_;rintro e w3 ⟨rfl,hq3,hn3⟩;have HQ3:=Box.mk hq3;have HN3:=Box.mk (HN2.out.trans hn3);have HST3:=Box.mk ((hn3.strs HST.out hlt2 (by omega)).tail);have hs3:w2.heap.size≤w3.heap.size:=hn3.size;clear hq3 hn3 HST HSTA HQ2 HN2 HM2 hc0;by_cases h0:er=0
     · subst h0
       have HR2:=Box.mk (show R=((qt ls').1,m,tt,z,(qt ls').2) by rw [HR.out,if_pos rfl]);clear HR;by_cases hc1:cap=1
       · subst hc1
         obtain rfl:ls'=[]:=List.eq_nil_of_length_eq_zero (by omega);go_wp2_with fail;refine (qc5 [] (some ⟨w1.heap.size,0,none⟩) 0 w3 (ky.nil _ _) HZL.out (by simp)).mono ?_;rintro e w4 ⟨x,fa,fc,er,hx,rfl,hfx,hfr,hb4⟩;obtain ⟨hs1,hs2,_⟩:=qag hx HZL.out;have HR3:=Box.mk (show R=(er,m,tt,z,x) by rw [HR2.out,hx]);have HFX:=Box.mk hfx;have HQ4:=Box.mk (HQ3.out.keep hb4);have HN4:=Box.mk (HN3.out.trans (ButH.of hb4));have HFR:=Box.mk (show ∀ y,fa=some y→w.heap.size≤y.block from fun y hy=>by have:=hfr y hy; omega);have HS1:=Box.mk hs1;clear hx hfx hfr hb4 HR2 HST3 HQ3 HN3 hs1;go_wp2_with fail;go_ret2;rw [HR3.out];exact ⟨fa,fc,rfl,HQ4.out,HFX.out,HFR.out,HN4.out,HS1.out,hs2⟩
       · have hlc2:1≤cap:=by omega
         go_wp2_with fail;refine (qc5 ls' (some ⟨w1.heap.size,1,none⟩) (cap-1) w3 HST3.out HZL.out (by omega)).mono ?_;rintro e w4 ⟨x,fa,fc,er,hx,rfl,hfx,hfr,hb4⟩;obtain ⟨hs1,hs2,_⟩:=qag hx HZL.out;have HR3:=Box.mk (show R=(er,m,tt,z,x) by rw [HR2.out,hx]);have HFX:=Box.mk hfx;have HQ4:=Box.mk (HQ3.out.keep hb4);have HN4:=Box.mk (HN3.out.trans (ButH.of hb4));have HFR:=Box.mk (show ∀ y,fa=some y→w.heap.size≤y.block from fun y hy=>by have:=hfr y hy; omega);have HS1:=Box.mk hs1;clear hx hfx hfr hb4 HR2 HST3 HQ3 HN3 hs1;go_wp2_with fail;go_ret2;rw [HR3.out];exact ⟨fa,fc,rfl,HQ4.out,HFX.out,HFR.out,HN4.out,HS1.out,hs2⟩
     · have e0:(er != 0)=true:=by rw [bne_iff_ne]; exact h0
       have HR2:=Box.mk (show R=(er,m,tt,z,[]) by rw [HR.out,if_neg h0]);clear HR h0;go_wp2_with fail;go_ret2;rw [HR2.out];exact ⟨none,0,rfl,HQ3.out,qm.nil _ _,(fun _ e=>by cases e),HN3.out,(fun f hf=>by cases hf),Nat.zero_le _⟩
   · have hw0:(j6 [] b).isSome=false:=by rw [← Bool.not_eq_true]; exact hw
     rw [hw0];have HR:=Box.mk (show R=(2,0,⟨#[]⟩,0,[]) by
      rw [HD.out];have:qa5 b=none:=by
       unfold qa5;cases hh:j6 [] b with
       | none=>split <;> rfl
       | some L=>rw [hh] at hw0; cases hw0
      rw [this])
     clear hw hw0 HD HE HT;go_wp2_with fail;go_ret2;rw [HR.out];exact ⟨none,0,rfl,HQ1.out,qm.nil _ _,(fun _ e=>by cases e),HN1.out,(fun f hf=>by cases hf),Nat.zero_le _⟩
 · have HNE:=Box.mk (ja6 he)
   have HR:=Box.mk (show R=(2,0,⟨#[]⟩,0,[]) by
    rw [HD.out];have:qa5 b=none:=by unfold qa5; rw [if_neg (fun h=>he h.1)]
    rw [this])
   generalize endS b b.length=E at *;obtain ⟨n,er⟩:=E;clear he HD;go_enter Tryz.func107,Tryz.ntmps107
   go_wp2_with fail;refine HEND.out.mono ?_;rintro e w1 ⟨rfl,hb1⟩;have HQ1:=Box.mk (HQ.out.keep hb1);have HN1:=Box.mk (ButH.of (p:=g) hb1);clear hb1 HEND HQ HBY HM;by_cases h0:er=0
   · subst h0
     have en:(n != (b.length:Int))=true:=by rw [bne_iff_ne]; exact fun h=>HNE.out ⟨rfl,h⟩
     clear HNE;go_wp2_with fail;go_ret2;rw [HR.out];exact ⟨none,0,rfl,HQ1.out,qm.nil _ _,(fun _ e=>by cases e),HN1.out,(fun f hf=>by cases hf),Nat.zero_le _⟩
   · have e0:(er != 0)=true:=by rw [bne_iff_ne]; exact h0
     clear HNE h0;go_wp2_with fail;go_ret2;rw [HR.out];exact ⟨none,0,rfl,HQ1.out,qm.nil _ _,(fun _ e=>by cases e),HN1.out,(fun f hf=>by cases hf),Nat.zero_le _⟩
theorem qf3.cells5 {w:World} {g:Nat} {m:Int} {t:ByteArray} {z:Int} {v:Value} (h:qf3 w g m t z v):w.cell? ⟨g,0,none⟩=some (.int .i64 m)∧w.cell? ⟨g,1,none⟩=some (.string t)∧w.cell? ⟨g,2,none⟩=some (.int .i64 z)∧w.cell? ⟨g,3,none⟩=some v∧w.cell? ⟨g,4,none⟩=some (.slice none 0 0):=by
 refine ⟨?_,?_,?_,?_,?_⟩ <;> rw [cell_of_row _ _ _ _ _ _ h] <;> rfl
theorem qf3.put {w:World} {g:Nat} {m:Int} {t:ByteArray} {z:Int} {v u:Value} (h:qf3 w g m t z v):qf3 (w.setCell ⟨g,3,none⟩ u) g m t z u:=by
 unfold qf3; rw [heap_setCell_same _ _ _ _ _ _ h]; rfl
theorem qf3.frozen {w:World} {g i:Nat} {m:Int} {t:ByteArray} {z:Int} {v:Value} (h:qf3 w g m t z v):w.frozen? ⟨g,i,none⟩=false:=by
 unfold qf3 at h; simp [World.frozen?,h]
theorem jek (b:List UInt8):qaa b=if (qkc b).1=0 then qkc b else ((qkc b).1,0,⟨#[]⟩,0,[]):=by
 unfold qaa qkc;rcases hls:qa5 b with _ | L
 · rfl
 · rcases L with _ | ⟨l0,ls⟩
   · rfl
   · simp only []
     unfold qa2;rcases ks l0 with _ | f
     · rfl
     · simp only [if_true]
       generalize qt ls=F;obtain ⟨er2,x⟩:=F;simp only [];by_cases h0:er2=0
       · subst h0; rfl
       · rw [if_neg h0,if_neg h0]
theorem qbp (b:List UInt8) (a:Option Addr) (c:Nat) (mm:Int) (w:World) (h:qg w a b c) (hl:b.length≤3000000) (hm:HdOk w mm) :
  Calls Tryz.prog 82 #[.slice a b.length c] w (jce w (qaa b)):=by
 obtain ⟨W0,hW0⟩ : ∃ W0,W0=w.alloc (.cells #[.int .i64 0,.string ⟨#[]⟩,.int .i64 0,.slice none 0 0,.slice none 0 0] 31):=⟨_,rfl⟩;have hs0:W0.heap.size=w.heap.size+1:=by rw [hW0]; exact Array.size_push _
 obtain ⟨W1,hW1⟩ : ∃ W1,W1=W0.alloc (.cells #[.int .i64 0,.string ⟨#[]⟩,.int .i64 0,.slice none 0 0,.slice none 0 0] 148):=⟨_,rfl⟩;have hb0:Below w.heap.size w W0:=by rw [hW0]; exact qd w _
 have hb1:Below W0.heap.size W0 W1:=by rw [hW1]; exact qd W0 _
 have HR0:=Box.mk (show qcv W0 w.heap.size 0 ⟨#[]⟩ 0 (.slice none 0 0) by rw [hW0]; exact heap_alloc_new _ _);have HR1:=Box.mk (HR0.out.keep hb1);have HQ1:=Box.mk (show qf3 W1 W0.heap.size 0 ⟨#[]⟩ 0 (.slice none 0 0) by rw [hW1]; exact heap_alloc_new _ _);have HB1:=Box.mk (qe hb0 hb1);have hmlt:=hm.lt;have hs1:W1.heap.size=w.heap.size+2:=by rw [hW1]; exact (Array.size_push _).trans (by rw [hs0])
 have HCALL:=Box.mk (qnp b a c W0.heap.size mm W1 (h.keep HB1.out) hl (hm.keep HB1.out) (by omega) HQ1.out);have HD:=Box.mk (jek b);generalize qaa b=R at *;generalize qkc b=S at *;obtain ⟨er,m,t,z,x⟩:=S;rw [hs0] at HCALL HQ1;rw [hW0] at hW1;have HW1:=Box.mk hW1;clear h hm hW0 hW1 hb0 hb1 hs0 HR0 HQ1 hmlt;go_enter Tryz.func82,Tryz.ntmps82
 go_wp2_with fail;rw [← HW1.out];clear HW1;refine HCALL.out.mono ?_;rintro e w2 ⟨fa,fc,rfl,hq2,hfx,hfr,hn2,hsf,hx64⟩;have HQ2:=Box.mk hq2;have HFX:=Box.mk hfx;have HFR:=Box.mk hfr;have HSF:=Box.mk hsf;have HR2:=Box.mk (show qcv w2 w.heap.size 0 ⟨#[]⟩ 0 (.slice none 0 0) by unfold qcv; rw [hn2.block _ (by omega) (by omega)]; exact HR1.out);have HB2:=Box.mk (HB1.out.trans (hn2.below (K:=w.heap.size) (by omega) (by omega)));have hs2:W1.heap.size≤w2.heap.size:=hn2.size;clear hq2 hfx hfr hn2 hsf HR1 HB1 HCALL;by_cases h0:er=0
 · subst h0
   have HD2:=Box.mk (show R=(0,m,t,z,x) from HD.out);clear HD;have hf3:=HQ2.out.frozen (i:=3);obtain ⟨k0,k1,k2,k3,k4⟩:=HQ2.out.cells5;obtain ⟨W4,hW4⟩ : ∃ W4,W4=w2.setCell ⟨w.heap.size+1,3,none⟩ (.slice fa x.length fc):=⟨_,rfl⟩;have HQ4:=Box.mk (show qf3 W4 (w.heap.size+1) m t z (.slice fa x.length fc) by rw [hW4]; exact HQ2.out.put);have HR4:=Box.mk (show qcv W4 w.heap.size 0 ⟨#[]⟩ 0 (.slice none 0 0) by
    unfold qcv; rw [hW4,heap_setCell_other _ _ _ _ (by show w.heap.size≠w.heap.size+1; omega)]; exact HR2.out)
   have HB4:=Box.mk (show Below w.heap.size w W4 by rw [hW4]; exact HB2.out.setCell (p:=⟨w.heap.size+1,3,none⟩) (show w.heap.size≤w.heap.size+1 by omega) (.slice fa x.length fc));have HX4:=Box.mk (show qm W4 fa x by
    rw [hW4]; exact HFX.out.same fun y hy=>heap_setCell_other _ _ _ _ (by have:=HFR.out y hy; show y.block≠w.heap.size+1; omega))
   subst hW4;obtain ⟨c0,c1,c2,c3,c4⟩:=HQ4.out.cells5;clear HQ2 HR2 HFX HB2;go_wp2_with (refine wpList_store_row rfl 31 _ _ rfl w.heap.size #[.int .i64 m,.string t,.int .i64 z,.slice fa x.length fc,.slice none 0 0] rfl rfl 31 _ HR4.out ko rfl (qhs _ _ _ _ _ _) ?_)
   (try simp only [Exit.inBlock,Exit.then])
   refine bodyPost_ret (qf rfl _ _ w.heap.size _ #[.int .i64 m,.string t,.int .i64 z,.slice fa x.length fc,.slice none 0 0] _ _ rfl (setRow_heap _ _ _ _ _ _ HR4.out) Tryz.underlying31 rfl ko) rfl ?_;rw [HD2.out];exact ⟨fa,fc,rfl,HX4.out.same fun y hy=>setRow_other _ _ _ _ (by have:=HFR.out y hy; omega),(fun y hy=>by have:=HFR.out y hy; omega),below_setRow HB4.out (Nat.le_refl _) _⟩
 · have e1:(er != 0)=true:=by rw [bne_iff_ne]; exact h0
   have HP:=Box.mk (show R=(er,0,⟨#[]⟩,0,[]) by rw [HD.out,if_neg h0]);clear HD h0;go_wp2_with (refine wpList_store_row rfl 31 _ _ rfl w.heap.size #[.int .i64 0,.string ⟨#[]⟩,.int .i64 0,.slice none 0 0,.slice none 0 0] rfl rfl 31 _ HR2.out ko rfl (qhs _ _ _ _ _ _) ?_)
   (try simp only [Exit.inBlock,Exit.then])
   refine bodyPost_ret (qf rfl _ _ w.heap.size _ _ _ _ rfl (setRow_heap _ _ _ _ _ _ HR2.out) Tryz.underlying31 rfl ko) rfl ?_;rw [HP.out];exact ⟨none,0,rfl,qm.nil _ _,(fun y hy=>by cases hy),below_setRow HB2.out (Nat.le_refl _) _⟩
theorem qfx (k l er body r:Int) (w:World) (hr:(if er=3∨k=2∧body<l then 9 else er)=r) :
  Calls Tryz.prog 81 #[.agg #[.int .i64 k,.int .i64 l],.int .i64 er,.int .i64 body] w fun e w'=>e = .returned (.int .i64 r)∧Below w.heap.size w w':=by rw [← hr]; exact qnf k l er body w
theorem qrs (s:RS) (h:List UInt8) (body:Int) (ba:Option Addr) (bc:Nat) (fa ga la:Option Addr) (fc gc lc:Nat) (g:Nat) (mm:Int) (w:World) (hb:qg w ba h bc) (hl:h.length≤1000000) (hm:MVr w g (rowR s fa fc ga gc la lc)) (hok:HdOk w mm) (er:Int) (m t:ByteArray) (z:Int) (xs:List Fld) (hA:qa0 h=(er,m,t,z,xs)) (h0:¬ er=0) :
  Calls Tryz.prog 58 #[.pointer (some ⟨g,0,none⟩),.slice ba h.length bc,.int .i64 body] w fun e w'=>e = .returned (.tuple #[.int .i64 0,.int .i64 er])∧Below w.heap.size w w':=by
 have HCALL:=Box.mk (qfm h ba bc mm w hb (by omega) hok);rw [hA] at HCALL;clear hb hm hok hA;go_enter Tryz.func58,Tryz.ntmps58
 go_wp2_with fail;refine HCALL.out.mono ?_;rintro e w1 ⟨f2,c2,he,hf2,hfr2,hb1⟩;dsimp only at he;subst he;have HB1:=Box.mk hb1;have HN:=Box.mk (show (w1.alloc (.cells #[.string ⟨#[]⟩,.string ⟨#[]⟩,.int .i64 0,.slice none 0 0,.bool false,.slice none 0 0] 29)).heap[w1.heap.size]? = some (.cells #[.string ⟨#[]⟩,.string ⟨#[]⟩,.int .i64 0,.slice none 0 0,.bool false,.slice none 0 0] 29 (0,0)) from heap_alloc_new w1 (.cells #[.string ⟨#[]⟩,.string ⟨#[]⟩,.int .i64 0,.slice none 0 0,.bool false,.slice none 0 0] 29));have hw1:=hb1.size;have e0:(er != 0)=true:=by rw [bne_iff_ne]; exact h0
 clear HCALL hf2 hfr2 hb1 h0;go_wp2_with (refine wpList_store_row rfl 29 _ _ rfl w1.heap.size #[.string m,.string t,.int .i64 z,.slice f2 (List.length xs) c2,.bool false,.slice none 0 0] rfl rfl 29 _ HN.out jo rfl (qew ..) ?_)
 (try simp only [Exit.inBlock,Exit.then])
 refine bodyPost_ret (results_tmp2 rfl _ _ _) rfl ?_;exact ⟨rfl,below_setRow (qk HB1.out (.cells #[.string ⟨#[]⟩,.string ⟨#[]⟩,.int .i64 0,.slice none 0 0,.bool false,.slice none 0 0] 29)) hw1 _⟩
theorem qu8 (s:RS) (h:List UInt8) (body:Int) (ba:Option Addr) (bc:Nat) (fa ga la:Option Addr) (fc gc lc:Nat) (g:Nat) (mm:Int) (w:World) (hb:qg w ba h bc) (hl:h.length≤1000000) (hm:MVr w g (rowR s fa fc ga gc la lc)) (hok:HdOk w mm) (m t:ByteArray) (z:Int) (xs:List Fld) (hA:qa0 h=(0,m,t,z,xs)) (hys:qbe xs∧xs.length≤64) (k l ef:Int) (hF:j3 z xs 1=(k,l,ef)) (er:Int) (her:(if ef=3∨k=2∧body<l then 9 else ef)=er) :
  Calls Tryz.prog 58 #[.pointer (some ⟨g,0,none⟩),.slice ba h.length bc,.int .i64 body] w fun e w'=>∃ f2 c2,e = .returned (.tuple #[.int .i64 1,.int .i64 er])∧(∀ fr,fr = !decide (k=1)→MVr w' g #[.bool s.rep,.string s.meth,.int .i64 1,.string m,.string t,.int .i64 z,.slice f2 (List.length xs) c2,.bool fr,.slice none 0 0,.int .i64 s.st,.string s.rs,.int .i64 s.z2,.slice ga (List.length s.ys) gc,.slice none 0 0,.int .i64 k,.int .i64 l,.int .i64 l,.int .i64 0,.int .i64 0,.int .i64 0,.int .i64 0,.slice none (List.length ([]:List UInt8)) 0])∧qm w' f2 xs∧(∀ y,f2=some y→xs≠[]→w.heap.size≤y.block)∧w.grownBy w' (some g):=by
 obtain ⟨cs,hcs⟩ : ∃ cs:Array Value,cs=(rowR s fa fc ga gc la lc):=⟨_,rfl⟩;have HCS:=Box.mk hcs;rw [← hcs] at hm;have hcs22:cs.size=22:=by rw [hcs]; rfl
 have hlt:=hm.lt;have HM0:=Box.mk hm;clear hcs hm;have HCALL:=Box.mk (qfm h ba bc mm w hb (by omega) hok);rw [hA] at HCALL;have HOK:=Box.mk hok;have HFE:=Box.mk hF;have HYS:=Box.mk hys;have hx64:xs.length≤1000000:=by omega
 obtain ⟨fr,hfr⟩ : ∃ fr:Bool,fr = !decide (k=1):=⟨_,rfl⟩;have HFR0:=Box.mk hfr;have ekf:(k != 1)=fr:=by
  rw [hfr];by_cases hk:k=1
  · rw [hk]; rfl
  · rw [decide_eq_false hk]; exact bne_iff_ne.2 hk
 have HCF:=Box.mk (fun W=>qfx k l ef body er W her);clear hb hok hA hfr hF hys her;go_enter Tryz.func58,Tryz.ntmps58
 go_wp2_with fail;refine HCALL.out.mono ?_;rintro e w1 ⟨f2,c2,he,hf2,hfr2,hb1⟩;dsimp only at he hf2;subst he;have HN:=Box.mk (show (w1.alloc (.cells #[.string ⟨#[]⟩,.string ⟨#[]⟩,.int .i64 0,.slice none 0 0,.bool false,.slice none 0 0] 29)).heap[w1.heap.size]? = some (.cells #[.string ⟨#[]⟩,.string ⟨#[]⟩,.int .i64 0,.slice none 0 0,.bool false,.slice none 0 0] 29 (0,0)) from heap_alloc_new w1 (.cells #[.string ⟨#[]⟩,.string ⟨#[]⟩,.int .i64 0,.slice none 0 0,.bool false,.slice none 0 0] 29));have hw1:=hb1.size;have HM1:=Box.mk (HM0.out.keep hb1);have HF1:=Box.mk hf2;have HFR:=Box.mk hfr2;have HOK1:=Box.mk (HOK.out.keep hb1);have HG1:=Box.mk (qs hb1 (some g));clear HCALL hf2 hfr2 hb1 HM0 HOK;go_upto_region 2 with (refine wpList_store_row rfl 29 _ _ rfl w1.heap.size #[.string m,.string t,.int .i64 z,.slice f2 (List.length xs) c2,.bool false,.slice none 0 0] rfl rfl 29 _ HN.out jo rfl (qew ..) ?_)
 obtain ⟨W2,hW2⟩ : ∃ W2,W2=(w1.alloc (.cells #[.string ⟨#[]⟩,.string ⟨#[]⟩,.int .i64 0,.slice none 0 0,.bool false,.slice none 0 0] 29)).setRow w1.heap.size #[.string m,.string t,.int .i64 z,.slice f2 (List.length xs) c2,.bool false,.slice none 0 0]:=⟨_,rfl⟩;have HQ2:=Box.mk (show W2.heap[w1.heap.size]? = some (.cells #[.string m,.string t,.int .i64 z,.slice f2 (List.length xs) c2,.bool false,.slice none 0 0] 29 (0,0)) by rw [hW2]; exact setRow_heap _ _ _ _ _ _ HN.out);have HB2:=Box.mk (show Below w1.heap.size w1 W2 by rw [hW2]; exact below_setRow (qd _ _) (Nat.le_refl _) _);have HM2:=Box.mk (HM1.out.keep HB2.out);have HF2:=Box.mk (HF1.out.keep HB2.out);have HOK2:=Box.mk (HOK1.out.keep HB2.out);have HG2:=Box.mk (qh HG1.out (qs HB2.out (some g)));have HFO:=Box.mk (show ∀ y,f2=some y→xs≠[]→y.block≠w1.heap.size∧w.heap.size≤y.block from fun y e hx=>⟨by have:=HF1.out.old e hx; omega,HFR.out y e⟩);rw [← hW2];clear hW2 HM1 HF1 HOK1 HG1 HB2 HN HFR;go_wp2_with (refine wpList_load_row rfl 29 _ rfl w1.heap.size rfl 29 #[.string m,.string t,.int .i64 z,.slice f2 (List.length xs) c2,.bool false,.slice none 0 0] (0,0) _ HQ2.out Tryz.underlying29 rfl jo ?_)
 refine (qqe m t z xs f2 c2 false none 0 0 mm W2 HF2.out (qe7 HYS.out.1) hx64 (ql3 HYS.out.1 HYS.out.2 teN) HOK2.out).mono ?_;rintro e w3 ⟨he,hb3⟩;rw [HFE.out] at he;unfold qc2 at he;dsimp only at he;subst he;have HNK:=Box.mk (show (w3.alloc (.cells #[.int .i64 0,.int .i64 0] 33)).heap[w3.heap.size]? = some (.cells #[.int .i64 0,.int .i64 0] 33 (0,0)) from heap_alloc_new w3 (.cells #[.int .i64 0,.int .i64 0] 33));have hw3:=hb3.size;have hw2:w1.heap.size<W2.heap.size:=(Array.getElem?_eq_some_iff.1 HQ2.out).1;have HQ3:=Box.mk (show w3.heap[w1.heap.size]? = some (.cells #[.string m,.string t,.int .i64 z,.slice f2 (List.length xs) c2,.bool false,.slice none 0 0] 29 (0,0)) by rw [hb3.block _ hw2]; exact HQ2.out);have HM3:=Box.mk (HM2.out.keep hb3);have HF3:=Box.mk (HF2.out.keep hb3);have HG3:=Box.mk (qh HG2.out (qs hb3 (some g)));clear HQ2 HM2 HF2 HOK2 HG2 hb3;go_upto_region 5 with (refine wpList_store_row rfl 33 _ _ rfl w3.heap.size #[.int .i64 k,.int .i64 l] rfl rfl 33 _ HNK.out jn rfl (oneK ..) ?_)
 obtain ⟨W4,hW4⟩ : ∃ W4,W4=(w3.alloc (.cells #[.int .i64 0,.int .i64 0] 33)).setRow w3.heap.size #[.int .i64 k,.int .i64 l]:=⟨_,rfl⟩;have HK4:=Box.mk (show KVar W4 w3.heap.size k l by rw [hW4]; exact setRow_heap _ _ _ _ _ _ HNK.out);have HB4:=Box.mk (show Below w3.heap.size w3 W4 by rw [hW4]; exact below_setRow (qd _ _) (Nat.le_refl _) _);have HQ4:=Box.mk (show W4.heap[w1.heap.size]? = some (.cells #[.string m,.string t,.int .i64 z,.slice f2 (List.length xs) c2,.bool false,.slice none 0 0] 29 (0,0)) by rw [HB4.out.block _ (by omega)]; exact HQ3.out);have HM4:=Box.mk (HM3.out.keep HB4.out);have HF4:=Box.mk (HF3.out.keep HB4.out);have HG4:=Box.mk (qh HG3.out (qs HB4.out (some g)));have hk0:W4.cell? ⟨w3.heap.size,0,none⟩=some (.int .i64 k):=by rw [cell_of_row _ _ _ _ _ _ HK4.out]; rfl
 have hq4:W4.cell? ⟨w1.heap.size,4,none⟩=some (.bool false):=by rw [cell_of_row _ _ _ _ _ _ HQ4.out]; rfl
 have hzq:W4.frozen? ⟨w1.heap.size,4,none⟩=false:=frozen_of_row W4 _ 4 _ _ HQ4.out;rw [← hW4];clear hW4 HQ3 HM3 HF3 HG3 HB4 HNK;go_upto_region 6 with fail
 obtain ⟨W5,hW5⟩ : ∃ W5,W5=W4.setCell ⟨w1.heap.size,4,none⟩ (.bool fr):=⟨_,rfl⟩;have hoth5:∀ q,q≠w1.heap.size→W5.heap[q]? = W4.heap[q]?:=fun q hq=>by rw [hW5]; exact heap_setCell_other _ _ _ _ (by show q≠w1.heap.size; exact hq)
 have HQ5:=Box.mk (show W5.heap[w1.heap.size]? = some (.cells #[.string m,.string t,.int .i64 z,.slice f2 (List.length xs) c2,.bool fr,.slice none 0 0] 29 (0,0)) by rw [hW5]; exact heap_setCell_same _ _ 4 _ _ _ HQ4.out);have HK5:=Box.mk (show KVar W5 w3.heap.size k l from (hoth5 _ (by omega)).trans HK4.out);have HM5:=Box.mk (show MVr W5 g cs from (hoth5 _ (by omega)).trans HM4.out);have HF5:=Box.mk (qda HF4.out fun y e hx=>hoth5 _ (HFO.out y e hx).1);have HG5:=Box.mk (show w.grownBy W5 (some g) by rw [hW5]; exact ku HG4.out (qu _ _ _ _) (fun i e=>by injection e with e; omega));have oneq1:(#[.string m,.string t,.int .i64 z,.slice f2 (List.length xs) c2,.bool fr,.slice none 0 0]:Array Value).all (·.oneCell')=true:=by simp [Value.oneCell']
 obtain ⟨c1,hc1⟩ : ∃ y0:Array Value,y0=#[.bool s.rep,.string s.meth,.int .i64 s.ph,.string m,.string t,.int .i64 z,.slice f2 (List.length xs) c2,.bool fr,.slice none 0 0,.int .i64 s.st,.string s.rs,.int .i64 s.z2,.slice ga (List.length s.ys) gc,.slice none 0 0,.int .i64 s.fk,.int .i64 s.fl,.int .i64 s.left,.int .i64 s.size,.int .i64 s.ck.ph,.int .i64 s.ck.left,.int .i64 s.ck.tr,.slice la (List.length s.ck.line) lc]:=⟨_,rfl⟩;have HC1:=Box.mk hc1;rw [← hW5];clear hW5 hoth5 HQ4 HK4 HM4 HF4 HG4 hk0 hq4 hzq hc1;go_upto_region 7 with (first | refine wpList_load_row rfl 29 _ rfl w1.heap.size rfl 29 #[.string m,.string t,.int .i64 z,.slice f2 (List.length xs) c2,.bool fr,.slice none 0 0] (0,0) _ HQ5.out Tryz.underlying29 rfl jo ?_ | refine jk rfl 29 _ _ rfl g 3 #[.string m,.string t,.int .i64 z,.slice f2 (List.length xs) c2,.bool fr,.slice none 0 0] rfl rfl 61 _ c1 HM5.out jo (by rw [hcs22]; show 3+6≤22; decide) oneq1 (by rw [HCS.out,HC1.out]; rfl) ?_)
 obtain ⟨W6,hW6⟩ : ∃ W6,W6=W5.setRow g c1:=⟨_,rfl⟩;have HM6:=Box.mk (show MVr W6 g #[.bool s.rep,.string s.meth,.int .i64 s.ph,.string m,.string t,.int .i64 z,.slice f2 (List.length xs) c2,.bool fr,.slice none 0 0,.int .i64 s.st,.string s.rs,.int .i64 s.z2,.slice ga (List.length s.ys) gc,.slice none 0 0,.int .i64 s.fk,.int .i64 s.fl,.int .i64 s.left,.int .i64 s.size,.int .i64 s.ck.ph,.int .i64 s.ck.left,.int .i64 s.ck.tr,.slice la (List.length s.ck.line) lc] by rw [hW6,← HC1.out]; exact setRow_heap _ _ _ _ _ _ HM5.out);have HK6:=Box.mk (show KVar W6 w3.heap.size k l by rw [hW6]; exact (setRow_other _ _ _ _ (by omega)).trans HK5.out);have HF6:=Box.mk (show qm W6 f2 xs by rw [hW6]; exact qda HF5.out fun y e hx=>setRow_other _ _ _ _ (by have:=(HFO.out y e hx).2; omega));have HG6:=Box.mk (show w.grownBy W6 (some g) by rw [hW6]; exact qh HG5.out (jy _ _ _));have HCB:=Box.mk (qrk g (.bool s.rep) (.string s.meth) (.string m) (.string t) (.int .i64 z) (.slice f2 (List.length xs) c2) (.bool fr) (.slice none 0 0) (.int .i64 s.st) (.string s.rs) (.int .i64 s.z2) (.slice ga (List.length s.ys) gc) (.slice none 0 0) (s.ph) (s.fk) (s.fl) (s.left) (s.size) (s.ck.ph) (s.ck.left) (s.ck.tr) k l la (List.length s.ck.line) lc W6 (HM6.out));rw [← hW6];clear hW6 HQ5 HM5 HK5 HF5 HG5 HC1 HCS hcs22 HM6 oneq1;go_wp2_with (refine wpList_load_row rfl 33 _ rfl w3.heap.size rfl 33 #[.int .i64 k,.int .i64 l] (0,0) _ HK6.out Tryz.underlying33 rfl jn ?_)
 refine HCB.out.mono ?_;rintro e w7 ⟨rfl,hm7,hg7⟩;have HM7:=Box.mk hm7;have HK7:=Box.mk (show KVar w7 w3.heap.size k l from (hg7.block _ (Array.getElem?_eq_some_iff.1 HK6.out).1 (fun e=>by injection e with e; omega)).trans HK6.out);have HF7:=Box.mk (HF6.out.grownR hg7 fun y e hx=>by have:=(HFO.out y e hx).2; omega);have HG7:=Box.mk (qh HG6.out hg7);clear hm7 hg7 HK6 HF6 HG6 HCB;go_wp2_with (refine wpList_load_row rfl 33 _ rfl w3.heap.size rfl 33 #[.int .i64 k,.int .i64 l] (0,0) _ HK7.out Tryz.underlying33 rfl jn ?_)
 refine (HCF.out w7).mono ?_;rintro e w8 ⟨rfl,hb8⟩;have HM8:=Box.mk (HM7.out.keep hb8);have HF8:=Box.mk (HF7.out.keep hb8);have HG8:=Box.mk (qh HG7.out (qs hb8 (some g)));clear hb8 HM7 HK7 HF7 HG7;go_wp2_with fail
 (try simp only [Exit.inBlock,Exit.then])
 refine bodyPost_ret (results_tmp2 rfl _ _ _) rfl ?_;exact ⟨f2,c2,rfl,fun fr2 hfr2=>by rw [hfr2,← HFR0.out]; exact HM8.out,HF8.out,fun y e hx=>(HFO.out y e hx).2,HG8.out⟩
section
variable {Q:Exit→Act→World→Prop} {act:Act} {w:World} {o:Oper} {s:Spec}
theorem jdd (k n:Int) (w:World):(Op.equalIn Op.maxDepth 33 (.agg #[.int .i64 k,.int .i64 n]) (.agg #[.int .i64 k,.int .i64 n])).run Tryz.prog w = .ok true w:=by
 rw [show Op.maxDepth=9999+1 from rfl,run_equalIn_struct w 9999 _ _ _ (by kernel_rfl) (by kernel_rfl)];go_simp
theorem qhi {x y:Operand} (ho:o.op = .indexAddr 22 x y) {ad:Addr} {n c k:Nat} (hx:act.eval x = .slice (some ad) n c) (hy:act.eval y = .int .i64 k) (hk:k<n) (hs:s.p (.pointer (some (ad.add k))) w) :
  o.wp Tryz.prog act w (fun a' w'=>∃ v,a'=act.put o.dst v∧Below w.heap.size w w'∧s.p v w') Q :=
 j0 (v:=.pointer (some (ad.add k))) (by
  have es:(sizeOf (Tryz.prog.elem 22)).run Tryz.prog w = .ok 1 w:=by
   rw [show Tryz.prog.elem 22=3 by kernel_rfl];have h:(Tryz.prog.info? 3).map (·.size)=some 1:=by kernel_rfl
   cases hq:Tryz.prog.info? 3 with
   | none=>rw [hq] at h; cases h
   | some i=>rw [hq] at h; simp at h; simp [sizeOf,typeInfo,hq,h]
  have h:=run_indexAt_slice (P:=Tryz.prog) (w:=w) 22 ad n c .i64 (k:Int) (by kernel_rfl);rw [if_pos ⟨by omega,by omega⟩,es] at h;simp only [Result.andThen,Int.toNat_natCast,Nat.mul_one] at h;unfold execOp;simp only [ho,hx,hy,Sem.run_bind,h,Result.andThen_ok,Sem.run_pure]) (Below.refl _ _) hs
end
section
variable (b:Option Addr) (nb cb:Nat) (lr:List Fld) (ar:Option Addr) (cr:Nat) (method:ByteArray) (status minor:Int) (wild:Bool) (mm:Int) (w:World)
end
end Go.Proofs.YtflhjpokjdjbpaaGreatDoor
namespace Go.Proofs.YtflhjpokjdjbpaaGreatDoor
open Go.RowKit
section
variable {ops:Array Oper} {rest:List Oper} {o:Oper} {act:Act} {Q:Exit→Act→World→Prop}
theorem qdn (w:World) (hgd:o.guard=none) (s x:Operand) (ho:o.op = .call { callee:=.builtin .append,args:=#[s,x],argTypes:=#[27,27] })
  {B:Nat} {v:Value} {l:List Fld} (hs:act.eval s=v) (h:OwnF B w v l) {a:Option Addr} {r:List Fld} {c:Nat} (hx:act.eval x = .slice a r.length c) (hr:qfo w a r c)
  (hn:l.length+r.length≤4398046511104) (hB:B≤w.heap.size)
  (K:∀ v' w',OwnF B w' v' (l++r)→w.grownBy w' v.ownBlock→wpList Tryz.prog ops Q rest (act.put o.dst v') w'):wpList Tryz.prog ops Q (o :: rest) act w:=by
 obtain ⟨i0,hi,hz0,hz1,hz2⟩:=info_parts Tryz.info78;cases a with
 | none =>
  obtain ⟨rfl,rfl⟩:=hr.2 rfl;refine wpList_append_own_none hgd s x 27 ho B 78 i0 2 Tryz.underlying27 hi v l.length (qaj l) hs h hx (K _ _ ?_ ⟨rfl,rfl,rfl,Nat.le_refl _,fun _ _ _=>rfl⟩);rw [List.append_nil]; exact h
 | some ad =>
  refine wpList_append_own_at w hgd s x 27 ho B 78 i0 _ 2 32 Tryz.underlying27 hi hz0 hz1 hz2 rfl (by decide) v l.length (qaj l) hs h ad r.length c (qaj r) hx (qdh r) (hr.1.cells) (qjb r) (by unfold maxLen; omega) (by omega) hB ?_;intro v' w' hown hgrow _ _;refine K v' w' ?_ hgrow;unfold OwnF;rw [List.length_append,qdj]; exact hown
end
section
variable {Q:Exit→Act→World→Prop} {act:Act} {w:World} {o:Oper} {s:Spec} {K:Act→World→Prop}
end
end Go.Proofs.YtflhjpokjdjbpaaGreatDoor
namespace Go.Proofs.YtflhjpokjdjbpaaGreatDoor
open Go.RowKit
def KRow (B:Nat) (k n:Int) (w:World) (v:Value):Prop:=∃ g,v = .pointer (some ⟨g,0,none⟩)∧B≤g∧KVar w g k n
def Spec.krow (B:Nat) (k n:Int):Spec:=⟨fun v w=>KRow B k n w v,fun v w w' h hb=>by
 obtain ⟨g,h1,h2,h3⟩:=h;exact ⟨g,h1,h2,h3.keep hb⟩⟩
def Spec.oneF (f:Fld):Spec:=⟨fun v w=>∃ b,v = .slice (some ⟨b,0,none⟩) 1 1∧qfo w (some ⟨b,0,none⟩) [f] 1,fun _ _ _ h hb=>by
 obtain ⟨b,h1,h2⟩:=h;exact ⟨b,h1,h2.keep hb⟩⟩
section
variable {Q:Exit→Act→World→Prop} {act:Act} {w:World} {o:Oper} {s:Spec} {K:Act→World→Prop}
theorem qz4 (ho:o.op = .alloc 33) {B:Nat} (hB:B≤w.heap.size) (hs:∀ v w',KRow B 0 0 w' v→s.p v w') :
  o.wp Tryz.prog act w (fun a' w'=>∃ v,a'=act.put o.dst v∧Below w.heap.size w w'∧s.p v w') Q:=by
 have hz:(Tryz.prog.info? 33).bind (·.zero)=some (.agg #[.int .i64 0,.int .i64 0]):=by kernel_rfl
 refine j0 (v:=.pointer (some ⟨w.heap.size,0,none⟩)) (w':=w.alloc (.cells #[.int .i64 0,.int .i64 0] 33)) ?_ (qd _ _) (hs _ _ ⟨_,rfl,hB,heap_alloc_new _ _⟩);cases hq:Tryz.prog.info? 33 with
 | none=>rw [hq] at hz; cases hz
 | some i =>
  rw [hq] at hz;simp only [Option.bind_some] at hz;unfold execOp;simp [ho,Instr.alloc,zeroValue,typeInfo,hq,hz,newRow,newVar,Value.cells]
theorem qqj {x:Operand} (ho:o.op = .buildSlice 27 1 #[(0,x)]) {f:Fld} (hx:act.eval x = .agg #[.string f.1,.string f.2]) (hs:∀ w',w'.cell? ⟨w.heap.size,0,none⟩=some (.string f.1)→w'.cell? ⟨w.heap.size,1,none⟩=some (.string f.2)→s.p (.slice (some ⟨w.heap.size,0,none⟩) 1 1) w') :
  o.wp Tryz.prog act w (fun a' w'=>∃ v,a'=act.put o.dst v∧Below w.heap.size w w'∧s.p v w') Q:=by
 obtain ⟨i0,hi,hz0,hz1,hz2⟩:=info_parts Tryz.info78;have hrun:=run_buildSlice (P:=Tryz.prog) w 27 78 1 #[(0,.agg #[.string f.1,.string f.2])] #[.string f.1,.string f.2] i0 _ Tryz.underlying27 hi hz0 (by rw [hz1]; decide) (by rw [hz1]; decide) (by rw [hz1]; simp [Instr.fill,Value.cells,Array.range_succ,show Array.range 0=#[] from rfl]);refine j0 (v:=.slice (some ⟨w.heap.size,0,none⟩) 1 1) (w':=w.alloc (.cells #[.string f.1,.string f.2] 78)) ?_ (qd _ _) (hs _ (by rw [jm]; rfl) (by rw [jm]; rfl));unfold execOp;simp only [ho,List.map_toArray,List.map_cons,List.map_nil,hx];rw [Sem.run_bind,hrun]; rfl
theorem qf4 {x:Operand} (ho:o.op = .extract x 0) {u v:Value} (hx:act.eval x = .tuple #[u,v]) (hs:s.p u w) :
  o.wp Tryz.prog act w (fun a' w'=>∃ v,a'=act.put o.dst v∧Below w.heap.size w w'∧s.p v w') Q :=
 j0 (v:=u) (by unfold execOp; simp [ho,hx,Instr.extract]) (Below.refl _ _) hs
theorem qdc {x:Operand} (ho:o.op = .extract x 1) {u v:Value} (hx:act.eval x = .tuple #[u,v]) (hs:s.p v w) :
  o.wp Tryz.prog act w (fun a' w'=>∃ v,a'=act.put o.dst v∧Below w.heap.size w w'∧s.p v w') Q :=
 j0 (v:=v) (by unfold execOp; simp [ho,hx,Instr.extract]) (Below.refl _ _) hs
theorem qmb {x y:Operand} (ho:o.op = .call { callee:=.builtin .append,args:=#[x,y],argTypes:=#[27,27] }) {B:Nat} {l r:List Fld} {a:Option Addr} {c:Nat} (hx:OwnF B w (act.eval x) l)
  (hy:act.eval y = .slice a r.length c) (hr:qfo w a r c) (hn:l.length+r.length≤4398046511104) (hB:B≤w.heap.size)
  (h:∀ v' w',OwnF B w' v' (l++r)→w.grownBy w' (act.eval x).ownBlock→K (act.put o.dst v') w'):o.wp Tryz.prog act w K Q:=by
 obtain ⟨i0,hi,hz0,hz1,hz2⟩:=info_parts Tryz.info78;have fin:∀ v w',(Builtin.append_ #[27,27] o.type #[act.eval x,.slice a r.length c]).run Tryz.prog w = .ok v w'→OwnF B w' v (l++r)→w.grownBy w' (act.eval x).ownBlock→o.wp Tryz.prog act w K Q:=fun v w' h1 h2 h3=>by
  unfold Oper.wp execOp;simp only [ho,resolve,invoke,builtin,Sem.run_bind,Sem.run_pure,Result.andThen_ok,List.map_toArray,List.map_cons,List.map_nil,hy,h1];exact h v w' h2 h3
 cases a with
 | none =>
  obtain ⟨rfl,rfl⟩:=hr.2 rfl;refine fin (act.eval x) w (run_append_owned_none (P:=Tryz.prog) (w:=w) B 27 o.type 78 i0 2 Tryz.underlying27 hi (act.eval x) l.length (qaj l) hx) ?_ ⟨rfl,rfl,rfl,Nat.le_refl _,fun _ _ _=>rfl⟩;rw [List.append_nil]; exact hx
 | some ad =>
  obtain ⟨v',w',hr2,h2,h3,_,_⟩:=run_append_own_at (P:=Tryz.prog) w B 27 o.type 78 i0 _ 2 32 Tryz.underlying27 hi hz0 hz1 hz2 rfl (by decide) (act.eval x) l.length (qaj l) hx ad r.length c (qaj r) (qdh r) (hr.1.cells) (qjb r) (by unfold maxLen; omega) (by omega) hB;refine fin v' w' hr2 ?_ h3;unfold OwnF;rw [List.length_append,qdj]; exact h2
end
end Go.Proofs.YtflhjpokjdjbpaaGreatDoor
namespace Go.Proofs.YtflhjpokjdjbpaaGreatDoor
open Go.RowKit
set_option linter.unusedVariables false
theorem qse (s:RS) (h:List UInt8) (body:Int) (ba:Option Addr) (bc:Nat) (fa ga la:Option Addr) (fc gc lc:Nat) (g:Nat) (mm:Int) (w:World) (hb:qg w ba h bc) (hl:h.length≤1000000) (hm:MVr w g (rowR s fa fc ga gc la lc)) (hok:HdOk w mm) (er:Int) (st:Int) (rs:ByteArray) (z2:Int) (ys:List Fld) (hA:qaa h=(er,st,rs,z2,ys)) (h0:¬ er=0) :
  Calls Tryz.prog 59 #[.pointer (some ⟨g,0,none⟩),.slice ba h.length bc,.int .i64 body] w fun e w'=>e = .returned (.tuple #[.int .i64 0,.int .i64 er])∧Below w.heap.size w w':=by
 have HCALL:=Box.mk (qbp h ba bc mm w hb (by omega) hok);rw [hA] at HCALL;clear hb hm hok hA;go_enter Tryz.func59,Tryz.ntmps59
 go_wp2_with fail;refine HCALL.out.mono ?_;rintro e w1 ⟨f2,c2,he,hf2,hfr2,hb1⟩;dsimp only at he;subst he;have HB1:=Box.mk hb1;have HN:=Box.mk (show (w1.alloc (.cells #[.int .i64 0,.string ⟨#[]⟩,.int .i64 0,.slice none 0 0,.slice none 0 0] 31)).heap[w1.heap.size]? = some (.cells #[.int .i64 0,.string ⟨#[]⟩,.int .i64 0,.slice none 0 0,.slice none 0 0] 31 (0,0)) from heap_alloc_new w1 (.cells #[.int .i64 0,.string ⟨#[]⟩,.int .i64 0,.slice none 0 0,.slice none 0 0] 31));have HQ:=Box.mk (show ((w1.alloc (.cells #[.int .i64 0,.string ⟨#[]⟩,.int .i64 0,.slice none 0 0,.slice none 0 0] 31)).setRow w1.heap.size #[.int .i64 st,.string rs,.int .i64 z2,.slice f2 (List.length ys) c2,.slice none 0 0]).heap[w1.heap.size]? = some (.cells #[.int .i64 st,.string rs,.int .i64 z2,.slice f2 (List.length ys) c2,.slice none 0 0] 31 (0,0)) from setRow_heap _ _ _ _ _ _ HN.out);have hs0:((w1.alloc (.cells #[.int .i64 0,.string ⟨#[]⟩,.int .i64 0,.slice none 0 0,.slice none 0 0] 31)).setRow w1.heap.size #[.int .i64 st,.string rs,.int .i64 z2,.slice f2 (List.length ys) c2,.slice none 0 0]).cell? ⟨w1.heap.size,0,none⟩=some (.int .i64 st):=by rw [cell_of_row _ _ _ _ _ _ HQ.out]; rfl
 have hw1:=hb1.size;have e0:(er != 0)=true:=by rw [bne_iff_ne]; exact h0
 clear HCALL hf2 hfr2 hb1 h0;go_wp2_with (refine wpList_store_row rfl 31 _ _ rfl w1.heap.size #[.int .i64 st,.string rs,.int .i64 z2,.slice f2 (List.length ys) c2,.slice none 0 0] rfl rfl 31 _ HN.out ko rfl (qhs ..) ?_)
 go_ret2;exact ⟨rfl,below_setRow (qk HB1.out (.cells #[.int .i64 0,.string ⟨#[]⟩,.int .i64 0,.slice none 0 0,.slice none 0 0] 31)) hw1 _⟩
theorem qsm (s:RS) (h:List UInt8) (body:Int) (ba:Option Addr) (bc:Nat) (fa ga la:Option Addr) (fc gc lc:Nat) (g:Nat) (mm:Int) (w:World) (hb:qg w ba h bc) (hl:h.length≤1000000) (hm:MVr w g (rowR s fa fc ga gc la lc)) (hok:HdOk w mm) (st:Int) (rs:ByteArray) (z2:Int) (ys:List Fld) (hA:qaa h=(0,st,rs,z2,ys)) (h1:st=101) :
  Calls Tryz.prog 59 #[.pointer (some ⟨g,0,none⟩),.slice ba h.length bc,.int .i64 body] w fun e w'=>e = .returned (.tuple #[.int .i64 0,.int .i64 2])∧Below w.heap.size w w':=by
 have HCALL:=Box.mk (qbp h ba bc mm w hb (by omega) hok);rw [hA] at HCALL;clear hb hm hok hA;go_enter Tryz.func59,Tryz.ntmps59
 go_wp2_with fail;refine HCALL.out.mono ?_;rintro e w1 ⟨f2,c2,he,hf2,hfr2,hb1⟩;dsimp only at he;subst he;have HB1:=Box.mk hb1;have HN:=Box.mk (show (w1.alloc (.cells #[.int .i64 0,.string ⟨#[]⟩,.int .i64 0,.slice none 0 0,.slice none 0 0] 31)).heap[w1.heap.size]? = some (.cells #[.int .i64 0,.string ⟨#[]⟩,.int .i64 0,.slice none 0 0,.slice none 0 0] 31 (0,0)) from heap_alloc_new w1 (.cells #[.int .i64 0,.string ⟨#[]⟩,.int .i64 0,.slice none 0 0,.slice none 0 0] 31));have HQ:=Box.mk (show ((w1.alloc (.cells #[.int .i64 0,.string ⟨#[]⟩,.int .i64 0,.slice none 0 0,.slice none 0 0] 31)).setRow w1.heap.size #[.int .i64 st,.string rs,.int .i64 z2,.slice f2 (List.length ys) c2,.slice none 0 0]).heap[w1.heap.size]? = some (.cells #[.int .i64 st,.string rs,.int .i64 z2,.slice f2 (List.length ys) c2,.slice none 0 0] 31 (0,0)) from setRow_heap _ _ _ _ _ _ HN.out);have hs0:((w1.alloc (.cells #[.int .i64 0,.string ⟨#[]⟩,.int .i64 0,.slice none 0 0,.slice none 0 0] 31)).setRow w1.heap.size #[.int .i64 st,.string rs,.int .i64 z2,.slice f2 (List.length ys) c2,.slice none 0 0]).cell? ⟨w1.heap.size,0,none⟩=some (.int .i64 st):=by rw [cell_of_row _ _ _ _ _ _ HQ.out]; rfl
 have hw1:=hb1.size;have e1:(st == 101)=true:=by rw [h1]; rfl
 clear HCALL hf2 hfr2 hb1 h1;go_wp2_with (refine wpList_store_row rfl 31 _ _ rfl w1.heap.size #[.int .i64 st,.string rs,.int .i64 z2,.slice f2 (List.length ys) c2,.slice none 0 0] rfl rfl 31 _ HN.out ko rfl (qhs ..) ?_)
 go_ret2;exact ⟨rfl,below_setRow (qk HB1.out (.cells #[.int .i64 0,.string ⟨#[]⟩,.int .i64 0,.slice none 0 0,.slice none 0 0] 31)) hw1 _⟩
theorem qu4 (s:RS) (h:List UInt8) (body:Int) (ba:Option Addr) (bc:Nat) (fa ga la:Option Addr) (fc gc lc:Nat) (g:Nat) (mm:Int) (w:World) (hb:qg w ba h bc) (hl:h.length≤1000000) (hm:MVr w g (rowR s fa fc ga gc la lc)) (hok:HdOk w mm) (st:Int) (rs:ByteArray) (z2:Int) (ys:List Fld) (hA:qaa h=(0,st,rs,z2,ys)) (h1:¬ st=101) (h2:st≤199) :
  Calls Tryz.prog 59 #[.pointer (some ⟨g,0,none⟩),.slice ba h.length bc,.int .i64 body] w fun e w'=>e = .returned (.tuple #[.int .i64 4,.int .i64 0])∧Below w.heap.size w w':=by
 have HCALL:=Box.mk (qbp h ba bc mm w hb (by omega) hok);rw [hA] at HCALL;clear hb hm hok hA;go_enter Tryz.func59,Tryz.ntmps59
 go_wp2_with fail;refine HCALL.out.mono ?_;rintro e w1 ⟨f2,c2,he,hf2,hfr2,hb1⟩;dsimp only at he;subst he;have HB1:=Box.mk hb1;have HN:=Box.mk (show (w1.alloc (.cells #[.int .i64 0,.string ⟨#[]⟩,.int .i64 0,.slice none 0 0,.slice none 0 0] 31)).heap[w1.heap.size]? = some (.cells #[.int .i64 0,.string ⟨#[]⟩,.int .i64 0,.slice none 0 0,.slice none 0 0] 31 (0,0)) from heap_alloc_new w1 (.cells #[.int .i64 0,.string ⟨#[]⟩,.int .i64 0,.slice none 0 0,.slice none 0 0] 31));have HQ:=Box.mk (show ((w1.alloc (.cells #[.int .i64 0,.string ⟨#[]⟩,.int .i64 0,.slice none 0 0,.slice none 0 0] 31)).setRow w1.heap.size #[.int .i64 st,.string rs,.int .i64 z2,.slice f2 (List.length ys) c2,.slice none 0 0]).heap[w1.heap.size]? = some (.cells #[.int .i64 st,.string rs,.int .i64 z2,.slice f2 (List.length ys) c2,.slice none 0 0] 31 (0,0)) from setRow_heap _ _ _ _ _ _ HN.out);have hs0:((w1.alloc (.cells #[.int .i64 0,.string ⟨#[]⟩,.int .i64 0,.slice none 0 0,.slice none 0 0] 31)).setRow w1.heap.size #[.int .i64 st,.string rs,.int .i64 z2,.slice f2 (List.length ys) c2,.slice none 0 0]).cell? ⟨w1.heap.size,0,none⟩=some (.int .i64 st):=by rw [cell_of_row _ _ _ _ _ _ HQ.out]; rfl
 have hw1:=hb1.size;have e1:(st == 101)=false:=by rw [beq_eq_false_iff_ne]; exact h1
 clear HCALL hf2 hfr2 hb1 h1;go_wp2_with (refine wpList_store_row rfl 31 _ _ rfl w1.heap.size #[.int .i64 st,.string rs,.int .i64 z2,.slice f2 (List.length ys) c2,.slice none 0 0] rfl rfl 31 _ HN.out ko rfl (qhs ..) ?_)
 go_ret2;exact ⟨rfl,below_setRow (qk HB1.out (.cells #[.int .i64 0,.string ⟨#[]⟩,.int .i64 0,.slice none 0 0,.slice none 0 0] 31)) hw1 _⟩
theorem qy9 (w:World) (g:Nat) (st:Int) (rs:ByteArray) (z2:Int) (a:Option Addr) (nc:Nat × Nat) (h:w.heap[g]? = some (.cells #[.int .i64 st,.string rs,.int .i64 z2,.slice a nc.1 nc.2,.slice none 0 0] 31 (0,0))) :
  (Instr.loadAt 31 (.pointer (some ⟨g,0,none⟩))).run Tryz.prog w = .ok (.agg #[.int .i64 st,.string rs,.int .i64 z2,.slice a nc.1 nc.2,.slice none 0 0]) w:=by
 simp [Instr.loadAt,Instr.sureAddr,run_loadVar_row w g _ 31 _ _ _ h Tryz.underlying31 rfl ko]
theorem qw2 (s:RS) (h:List UInt8) (body:Int) (ba:Option Addr) (bc:Nat) (fa ga la:Option Addr) (fc gc lc:Nat) (g:Nat) (mm:Int) (w:World) (hb:qg w ba h bc) (hl:h.length≤1000000) (hm:MVr w g (rowR s fa fc ga gc la lc)) (hok:HdOk w mm) (st:Int) (rs:ByteArray) (z2:Int) (ys:List Fld) (hA:qaa h=(0,st,rs,z2,ys)) (hst:¬ st≤199) (hys:qbe ys∧ys.length≤64) (k l ef:Int) (hF:kq s.meth st z2 ys=(k,l,ef)) (er:Int) (her:(if ef=3∨k=2∧body<l then 9 else ef)=er) :
  Calls Tryz.prog 59 #[.pointer (some ⟨g,0,none⟩),.slice ba h.length bc,.int .i64 body] w fun e w'=>∃ f2 c2,e = .returned (.tuple #[.int .i64 1,.int .i64 er])∧MVr w' g #[.bool s.rep,.string s.meth,.int .i64 1,.string s.m,.string s.t,.int .i64 s.z,.slice fa (List.length s.xs) fc,.bool s.fr,.slice none 0 0,.int .i64 st,.string rs,.int .i64 z2,.slice f2 (List.length ys) c2,.slice none 0 0,.int .i64 k,.int .i64 l,.int .i64 l,.int .i64 0,.int .i64 0,.int .i64 0,.int .i64 0,.slice none (List.length ([]:List UInt8)) 0]∧qm w' f2 ys∧(∀ y,f2=some y→ys≠[]→w.heap.size≤y.block)∧w.grownBy w' (some g):=by
 obtain ⟨cs,hcs⟩ : ∃ cs:Array Value,cs=(rowR s fa fc ga gc la lc):=⟨_,rfl⟩;have HCS:=Box.mk hcs;rw [← hcs] at hm;have hcs22:cs.size=22:=by rw [hcs]; rfl
 have hlt:=hm.lt;have HM0:=Box.mk hm;clear hcs hm;have HCALL:=Box.mk (qbp h ba bc mm w hb (by omega) hok);rw [hA] at HCALL;have HOK:=Box.mk hok;have HFE:=Box.mk hF;have HYS:=Box.mk hys;have hx64:ys.length≤1000000:=by omega
 have HCF:=Box.mk (fun W=>qfx k l ef body er W her);have e1:(st == 101)=false:=by rw [beq_eq_false_iff_ne]; omega
 clear hb hok hA hF hys her;go_enter Tryz.func59,Tryz.ntmps59
 go_wp2_with fail;refine HCALL.out.mono ?_;rintro e w1 ⟨f2,c2,he,hf2,hfr2,hb1⟩;dsimp only at he hf2;subst he;have HN:=Box.mk (show (w1.alloc (.cells #[.int .i64 0,.string ⟨#[]⟩,.int .i64 0,.slice none 0 0,.slice none 0 0] 31)).heap[w1.heap.size]? = some (.cells #[.int .i64 0,.string ⟨#[]⟩,.int .i64 0,.slice none 0 0,.slice none 0 0] 31 (0,0)) from heap_alloc_new w1 (.cells #[.int .i64 0,.string ⟨#[]⟩,.int .i64 0,.slice none 0 0,.slice none 0 0] 31));have hw1:=hb1.size;have HM1:=Box.mk (HM0.out.keep hb1);have HF1:=Box.mk hf2;have HFR:=Box.mk hfr2;have HOK1:=Box.mk (HOK.out.keep hb1);have HG1:=Box.mk (qs hb1 (some g));clear HCALL hf2 hfr2 hb1 HM0 HOK;go_upto_region 2 with (refine wpList_store_row rfl 31 _ _ rfl w1.heap.size #[.int .i64 st,.string rs,.int .i64 z2,.slice f2 (List.length ys) c2,.slice none 0 0] rfl rfl 31 _ HN.out ko rfl (qhs ..) ?_)
 obtain ⟨W2,hW2⟩ : ∃ W2,W2=(w1.alloc (.cells #[.int .i64 0,.string ⟨#[]⟩,.int .i64 0,.slice none 0 0,.slice none 0 0] 31)).setRow w1.heap.size #[.int .i64 st,.string rs,.int .i64 z2,.slice f2 (List.length ys) c2,.slice none 0 0]:=⟨_,rfl⟩;have HQ2:=Box.mk (show W2.heap[w1.heap.size]? = some (.cells #[.int .i64 st,.string rs,.int .i64 z2,.slice f2 (List.length ys) c2,.slice none 0 0] 31 (0,0)) by rw [hW2]; exact setRow_heap _ _ _ _ _ _ HN.out);have HB2:=Box.mk (show Below w1.heap.size w1 W2 by rw [hW2]; exact below_setRow (qd _ _) (Nat.le_refl _) _);have HM2:=Box.mk (HM1.out.keep HB2.out);have HF2:=Box.mk (HF1.out.keep HB2.out);have HOK2:=Box.mk (HOK1.out.keep HB2.out);have HG2:=Box.mk (qh HG1.out (qs HB2.out (some g)));have HFO:=Box.mk (show ∀ y,f2=some y→ys≠[]→y.block≠w1.heap.size∧w.heap.size≤y.block from fun y e hx=>⟨by have:=HF1.out.old e hx; omega,HFR.out y e⟩);have hw2:w1.heap.size<W2.heap.size:=(Array.getElem?_eq_some_iff.1 HQ2.out).1;have hs0:W2.cell? ⟨w1.heap.size,0,none⟩=some (.int .i64 st):=by rw [cell_of_row _ _ _ _ _ _ HQ2.out]; rfl
 rw [← hW2];clear hW2 HM1 HF1 HOK1 HG1 HB2 HN HFR;go_wp2_with fail;rename_i KK hKK;refine qz [10] (fun p=>match p with | 0=>[0,1,2,3,4,5,6,7,8,9] | _=>[8,11])
  (fun p=>match p with | 0=>[.val (.pointer (some ⟨g,0,none⟩)),.val (.pointer (some ⟨g,0,none⟩)),.val (.pointer (some ⟨g,1,none⟩)),.val (.string s.meth),.val (.agg #[.int .i64 st,.string rs,.int .i64 z2,.slice f2 (List.length ys) c2,.slice none 0 0]),.val (qc2 (k,l,ef)),.val (qc2 (k,l,ef)),.val (.agg #[.int .i64 k,.int .i64 l]),.val (.int .i64 ef),.krow W2.heap.size 0 0,.any,.nope] | _=>[.any,.any,.any,.any,.any,.any,.val (qc2 (k,l,ef)),.any,.val (.int .i64 ef),.krow W2.heap.size k l,.any,.val (.int .i64 ef)])
  (fun _=>fun wx=>Below W2.heap.size W2 wx)
  (by kernel_rfl) (by kernel_rfl) (by kernel_rfl) (by kernel_rfl) (by kernel_rfl) (by kernel_rfl) ?_ (Below.refl _ _) ?_ ?_ ?_
 · intro p wa wb h hb
   exact qe h hb
 · intro p hp
   match p,hp with
   | 0,_ =>
    refine ⟨?_,?_,?_,?_,?_,?_,?_,?_,?_,?_,trivial⟩ <;> intro a1 wx hv hf hd
    · exact ⟨qb rfl,qi rfl (hf.base 0 rfl)⟩
    · exact ⟨qb rfl,qaf rfl (hd 0 rfl) rfl⟩
    · exact ⟨qb rfl,qb0 rfl (hd 1 rfl) (by decide) rfl rfl⟩
    · exact ⟨qb rfl,jg rfl (hd 2 rfl) (by rw [(HM2.out.keep hv).cell,HCS.out]; rfl) (qbx _) rfl⟩
    · exact ⟨qb rfl,kw rfl (by rw [show a1.eval (.tmp 8) = .pointer (some ⟨w1.heap.size,0,none⟩) from hf.base 8 rfl]; exact qy9 _ _ _ _ _ _ (ys.length,c2) (by rw [hv.block _ hw2]; exact HQ2.out)) rfl⟩
    · refine ⟨qb rfl,jz rfl (by kernel_rfl) ?_⟩
      show Calls _ _ #[a1.eval (.tmp 32),a1.eval (.tmp 33)] _ _
      rw [show a1.eval (.tmp 32) = .string s.meth from hd 3 rfl,show a1.eval (.tmp 33) = .agg #[.int .i64 st,.string rs,.int .i64 z2,.slice f2 (List.length ys) c2,.slice none 0 0] from hd 4 rfl];refine (qls s.meth st rs z2 ys f2 c2 none 0 0 mm wx (HF2.out.keep hv) (qe7 HYS.out.1) hx64 (ql3 HYS.out.1 HYS.out.2 teN) (HOK2.out.keep hv)).mono ?_;rintro e w' ⟨he,hbb⟩;rw [HFE.out] at he;exact ⟨_,he,hbb,rfl⟩
    · exact ⟨qb rfl,qi rfl (hd 5 rfl)⟩
    · exact ⟨qb rfl,qf4 rfl (hd 6 rfl) rfl⟩
    · exact ⟨qb rfl,qdc rfl (hd 6 rfl) rfl⟩
    · exact ⟨qb rfl,qz4 rfl hv.size fun v w' h=>h⟩
   | 1,_ =>
    refine ⟨?_,?_,trivial⟩ <;> intro a1 wx hv hf hd
    · exact ⟨qb rfl,qdc rfl (hd 6 rfl) rfl⟩
    · exact ⟨qb rfl,qr rfl (hd 8 rfl)⟩
 · intro p hp
   match p,hp with
   | 0,_ =>
    intro a2 wx hv hf hd;obtain ⟨g9,e9,hB9,hk9⟩:=hd 9 rfl;refine ⟨qb rfl,wp_store_row 33 _ _ rfl g9 #[.int .i64 k,.int .i64 l] e9 (hd 7 rfl) 33 _ hk9 jn rfl (oneK ..) ?_⟩;exact ⟨undef,rfl,below_setRow hv hB9 _,trivial,⟨.inr fun _ _ _=>trivial,.inr fun _ _ _=>trivial,.inr fun _ _ _=>trivial,.inr fun _ _ _=>trivial,.inr fun _ _ _=>trivial,.inr fun _ _ _=>trivial,.inr fun _ _ h=>h,.inr fun _ _ _=>trivial,.inr fun _ _ h=>h,.inr fun v hv0 _=>by have h9:=hv0 _ 10 rfl rfl; rw [h9,e9]; exact ⟨g9,rfl,hB9,setRow_heap _ _ _ _ _ _ hk9⟩,.inl rfl,.inr fun _ _ h=>h.elim,trivial⟩⟩
 · intro a2 w3 hv hf hh
   have e9:a2.eval (.tmp 9) = .int .i64 ef:=hh 11 (by decide);obtain ⟨gk,e10a,hgk,hk3⟩:=hh 9 (by decide);have e10:a2.eval (.tmp 10) = .pointer (some ⟨gk,0,none⟩):=e10a;clear hh e10a;rw [jl hf];clear hf;simp only [kg,e9,e10];generalize a2.eval (.tmp 29)=u29;generalize a2.eval (.tmp 30)=u30;generalize a2.eval (.tmp 31)=u31;generalize a2.eval (.tmp 32)=u32;generalize a2.eval (.tmp 33)=u33;generalize a2.eval (.tmp 34)=u34;generalize a2.eval (.tmp 28)=u28;generalize a2.eval (.tmp 35)=u35;generalize a2.eval (.tmp 36)=u36;clear e9 e10 a2;simp only [Act.put,List.setIfInBounds_toArray,List.set_cons_succ,List.set_cons_zero];refine hKK _ _ ?_;clear hKK;have HQ5:=Box.mk (show w3.heap[w1.heap.size]? = some (.cells #[.int .i64 st,.string rs,.int .i64 z2,.slice f2 (List.length ys) c2,.slice none 0 0] 31 (0,0)) by rw [hv.block _ hw2]; exact HQ2.out);have HK5:=Box.mk hk3;have HM5:=Box.mk (HM2.out.keep hv);have HF5:=Box.mk (HF2.out.keep hv);have HG5:=Box.mk (qh HG2.out (qs hv (some g)));have hw3:=hv.size;obtain ⟨c1,hc1⟩ : ∃ y0:Array Value,y0=#[.bool s.rep,.string s.meth,.int .i64 s.ph,.string s.m,.string s.t,.int .i64 s.z,.slice fa (List.length s.xs) fc,.bool s.fr,.slice none 0 0,.int .i64 st,.string rs,.int .i64 z2,.slice f2 (List.length ys) c2,.slice none 0 0,.int .i64 s.fk,.int .i64 s.fl,.int .i64 s.left,.int .i64 s.size,.int .i64 s.ck.ph,.int .i64 s.ck.left,.int .i64 s.ck.tr,.slice la (List.length s.ck.line) lc]:=⟨_,rfl⟩;have HC1:=Box.mk hc1;clear hc1 hv hk3 HQ2 HM2 HF2 HG2 HOK2;go_upto_region 10 with (first | refine wpList_load_row rfl 31 _ rfl w1.heap.size rfl 31 #[.int .i64 st,.string rs,.int .i64 z2,.slice f2 (List.length ys) c2,.slice none 0 0] (0,0) _ HQ5.out Tryz.underlying31 rfl ko ?_ | refine jk rfl 31 _ _ rfl g 9 #[.int .i64 st,.string rs,.int .i64 z2,.slice f2 (List.length ys) c2,.slice none 0 0] rfl rfl 61 _ c1 HM5.out ko (by rw [hcs22]; show 9+5≤22; decide) (qhs ..) (by rw [HCS.out,HC1.out]; rfl) ?_)
   obtain ⟨W6,hW6⟩ : ∃ W6,W6=w3.setRow g c1:=⟨_,rfl⟩;have HM6:=Box.mk (show MVr W6 g #[.bool s.rep,.string s.meth,.int .i64 s.ph,.string s.m,.string s.t,.int .i64 s.z,.slice fa (List.length s.xs) fc,.bool s.fr,.slice none 0 0,.int .i64 st,.string rs,.int .i64 z2,.slice f2 (List.length ys) c2,.slice none 0 0,.int .i64 s.fk,.int .i64 s.fl,.int .i64 s.left,.int .i64 s.size,.int .i64 s.ck.ph,.int .i64 s.ck.left,.int .i64 s.ck.tr,.slice la (List.length s.ck.line) lc] by rw [hW6,← HC1.out]; exact setRow_heap _ _ _ _ _ _ HM5.out);have HK6:=Box.mk (show KVar W6 gk k l by rw [hW6]; exact (setRow_other _ _ _ _ (by omega)).trans HK5.out);have HF6:=Box.mk (show qm W6 f2 ys by rw [hW6]; exact qda HF5.out fun y e hx=>setRow_other _ _ _ _ (by have:=(HFO.out y e hx).2; omega));have HG6:=Box.mk (show w.grownBy W6 (some g) by rw [hW6]; exact qh HG5.out (jy _ _ _));have HCB:=Box.mk (qrk g (.bool s.rep) (.string s.meth) (.string s.m) (.string s.t) (.int .i64 s.z) (.slice fa (List.length s.xs) fc) (.bool s.fr) (.slice none 0 0) (.int .i64 st) (.string rs) (.int .i64 z2) (.slice f2 (List.length ys) c2) (.slice none 0 0) (s.ph) (s.fk) (s.fl) (s.left) (s.size) (s.ck.ph) (s.ck.left) (s.ck.tr) k l la (List.length s.ck.line) lc W6 (HM6.out));rw [← hW6];clear hW6 HQ5 HM5 HK5 HF5 HG5 HC1 HCS hcs22 HM6;go_wp2_with (refine wpList_load_row rfl 33 _ rfl gk rfl 33 #[.int .i64 k,.int .i64 l] (0,0) _ HK6.out Tryz.underlying33 rfl jn ?_)
   refine HCB.out.mono ?_;rintro e w7 ⟨rfl,hm7,hg7⟩;have HM7:=Box.mk hm7;have HK7:=Box.mk (show KVar w7 gk k l from (hg7.block _ (Array.getElem?_eq_some_iff.1 HK6.out).1 (fun e=>by injection e with e; omega)).trans HK6.out);have HF7:=Box.mk (HF6.out.grownR hg7 fun y e hx=>by have:=(HFO.out y e hx).2; omega);have HG7:=Box.mk (qh HG6.out hg7);clear hm7 hg7 HK6 HF6 HG6 HCB;go_wp2_with (refine wpList_load_row rfl 33 _ rfl gk rfl 33 #[.int .i64 k,.int .i64 l] (0,0) _ HK7.out Tryz.underlying33 rfl jn ?_)
   refine (HCF.out w7).mono ?_;rintro e w8 ⟨rfl,hb8⟩;have HM8:=Box.mk (HM7.out.keep hb8);have HF8:=Box.mk (HF7.out.keep hb8);have HG8:=Box.mk (qh HG7.out (qs hb8 (some g)));clear hb8 HM7 HK7 HF7 HG7;go_wp2_with fail;go_ret2;exact ⟨f2,c2,rfl,HM8.out,HF8.out,fun y e hx=>(HFO.out y e hx).2,HG8.out⟩
def RetM (P:Nat→Prop) (w:World) (g:Nat) (x:NX) (e:Ending) (w':World):Prop :=
 (x.er=0 ∧ ∃ fa fc ga gc la lc pa pc,e = .returned (.tuple #[.agg #[.int .i64 x.kind,.slice pa (List.length x.data) pc],.int .i64 x.n,.int .i64 0])∧MVr w' g (rowR x.r fa fc ga gc la lc)∧RMem P w' x.r fa ga la lc∧(∀ y,la=some y→x.r.ck.line≠[]→P y.block)∧qg w' pa x.data pc∧w.grownBy w' (some g)) ∨
 (¬ x.er=0 ∧ ∃ k n:Int,e = .returned (.tuple #[.agg #[.int .i64 k,.slice none 0 0],.int .i64 n,.int .i64 x.er])∧w.grownBy w' (some g))
theorem qzc (b:List UInt8) (most body room:Int) (ba:Option Addr) (bc:Nat) (g:Nat) (cs:Array Value) (w:World) (mm:Int) (hb:qg w ba b bc) (hl:b.length≤1000000) (hm:MVr w g cs) (hok:HdOk w mm) (hE:endS b most=(0,4)) :
  Calls Tryz.prog 39 #[.pointer (some ⟨g,0,none⟩),.slice ba b.length bc,.agg #[.int .i64 most,.int .i64 body,.int .i64 room]] w fun e w'=>e = .returned (.tuple #[.agg #[.int .i64 0,.slice none 0 0],.int .i64 0,.int .i64 0])∧Below w.heap.size w w':=by
 obtain ⟨W1,hW1⟩ : ∃ W1,W1=(w.alloc (.cells #[.int .i64 most,.int .i64 body,.int .i64 room] 69)).alloc (.cells #[.int .i64 0,.slice none 0 0] 41):=⟨_,rfl⟩;have HB1:=Box.mk (show Below w.heap.size w W1 by rw [hW1]; exact qk (qd _ _) _);have HL1:=Box.mk (show LVr W1 w.heap.size most body room by rw [hW1]; exact LVr.keep (heap_alloc_new w (.cells #[.int .i64 most,.int .i64 body,.int .i64 room] 69)) (qd _ _));have HO:=Box.mk (show PVr W1 (w.heap.size+1) #[.int .i64 0,.slice none 0 0] by
  have h:=heap_alloc_new (w.alloc (.cells #[.int .i64 most,.int .i64 body,.int .i64 room] 69)) (.cells #[.int .i64 0,.slice none 0 0] 41);rw [World.size_alloc] at h;rw [hW1]; exact h)
 have HW1:=Box.mk hW1;have HM1:=Box.mk (hm.keep HB1.out);have hlt:=hm.lt;have hlw:w.heap.size+1<W1.heap.size:=(Array.getElem?_eq_some_iff.1 HO.out).1;have hl0:W1.cell? ⟨w.heap.size,0,none⟩=some (.int .i64 most):=by rw [cell_of_row _ _ _ _ _ _ HL1.out]; rfl
 have HBB:=Box.mk (hb.keep HB1.out);have HCALL:=Box.mk (qcn b ba bc most mm W1 HBB.out (by omega) (hok.keep HB1.out));rw [hE] at HCALL;clear hW1 hm hb hE hok;go_enter Tryz.func39,Tryz.ntmps39
 go_wp2_with fail;rw [← HW1.out];refine HCALL.out.mono ?_;rintro e w2 ⟨rfl,hb2⟩;have HO2:=Box.mk (HO.out.keep hb2);have HB2:=Box.mk (qe HB1.out hb2);clear HW1 HCALL hb2;go_wp2_with (refine wpList_store_row rfl 41 _ _ rfl (w.heap.size+1) #[.int .i64 0,.slice none 0 0] rfl rfl 41 _ HO2.out j1 rfl (qap ..) ?_)
 (try simp only [Exit.inBlock,Exit.then])
 refine bodyPost_ret (ji rfl _ _ (w.heap.size+1) 41 #[.int .i64 0,.slice none 0 0] (0,0) _ rfl (setRow_heap _ _ _ _ _ _ HO2.out) Tryz.underlying41 rfl j1) rfl ?_;exact ⟨rfl,below_setRow HB2.out (by omega) _⟩
theorem jc6 (b:List UInt8) (most body room:Int) (ba:Option Addr) (bc:Nat) (g:Nat) (cs:Array Value) (w:World) (mm:Int) (hb:qg w ba b bc) (hl:b.length≤1000000) (hm:MVr w g cs) (hok:HdOk w mm) (hE:endS b most=(0,3)) :
  Calls Tryz.prog 39 #[.pointer (some ⟨g,0,none⟩),.slice ba b.length bc,.agg #[.int .i64 most,.int .i64 body,.int .i64 room]] w fun e w'=>e = .returned (.tuple #[.agg #[.int .i64 0,.slice none 0 0],.int .i64 0,.int .i64 3])∧Below w.heap.size w w':=by
 obtain ⟨W1,hW1⟩ : ∃ W1,W1=(w.alloc (.cells #[.int .i64 most,.int .i64 body,.int .i64 room] 69)).alloc (.cells #[.int .i64 0,.slice none 0 0] 41):=⟨_,rfl⟩;have HB1:=Box.mk (show Below w.heap.size w W1 by rw [hW1]; exact qk (qd _ _) _);have HL1:=Box.mk (show LVr W1 w.heap.size most body room by rw [hW1]; exact LVr.keep (heap_alloc_new w (.cells #[.int .i64 most,.int .i64 body,.int .i64 room] 69)) (qd _ _));have HO:=Box.mk (show PVr W1 (w.heap.size+1) #[.int .i64 0,.slice none 0 0] by
  have h:=heap_alloc_new (w.alloc (.cells #[.int .i64 most,.int .i64 body,.int .i64 room] 69)) (.cells #[.int .i64 0,.slice none 0 0] 41);rw [World.size_alloc] at h;rw [hW1]; exact h)
 have HW1:=Box.mk hW1;have HM1:=Box.mk (hm.keep HB1.out);have hlt:=hm.lt;have hlw:w.heap.size+1<W1.heap.size:=(Array.getElem?_eq_some_iff.1 HO.out).1;have hl0:W1.cell? ⟨w.heap.size,0,none⟩=some (.int .i64 most):=by rw [cell_of_row _ _ _ _ _ _ HL1.out]; rfl
 have HBB:=Box.mk (hb.keep HB1.out);have HCALL:=Box.mk (qcn b ba bc most mm W1 HBB.out (by omega) (hok.keep HB1.out));rw [hE] at HCALL;clear hW1 hm hb hE hok;go_enter Tryz.func39,Tryz.ntmps39
 go_wp2_with fail;rw [← HW1.out];refine HCALL.out.mono ?_;rintro e w2 ⟨rfl,hb2⟩;have HO2:=Box.mk (HO.out.keep hb2);have HB2:=Box.mk (qe HB1.out hb2);clear HW1 HCALL hb2;go_wp2_with (refine wpList_store_row rfl 41 _ _ rfl (w.heap.size+1) #[.int .i64 0,.slice none 0 0] rfl rfl 41 _ HO2.out j1 rfl (qap ..) ?_)
 (try simp only [Exit.inBlock,Exit.then])
 refine bodyPost_ret (ji rfl _ _ (w.heap.size+1) 41 #[.int .i64 0,.slice none 0 0] (0,0) _ rfl (setRow_heap _ _ _ _ _ _ HO2.out) Tryz.underlying41 rfl j1) rfl ?_;exact ⟨rfl,below_setRow HB2.out (by omega) _⟩
theorem qtv (b:List UInt8) (most body room:Int) (ba:Option Addr) (bc:Nat) (g:Nat) (cs:Array Value) (w:World) (mm:Int) (hb:qg w ba b bc) (hl:b.length≤1000000) (hm:MVr w g cs) (hok:HdOk w mm) (n:Nat) (hE:endS b most=((n:Int),0)) (h4:4≤n) (hn:n≤b.length) (hrep:cs[0]? = some (.bool false)) (kd er:Int) (X:World→World→Prop)
  (hC:∀ W,Below w.heap.size w W→Calls Tryz.prog 58 #[.pointer (some ⟨g,0,none⟩),.slice ba n bc,.int .i64 body] W fun e w'=>e = .returned (.tuple #[.int .i64 kd,.int .i64 er])∧W.grownBy w' (some g)∧X W w')
  (hX:∀ W w1 w2,X W w1→(∀ k,k<w1.heap.size→k=g∨W.heap.size≤k→w2.heap[k]? = w1.heap[k]?)→X W w2) :
  Calls Tryz.prog 39 #[.pointer (some ⟨g,0,none⟩),.slice ba b.length bc,.agg #[.int .i64 most,.int .i64 body,.int .i64 room]] w fun e w'=>e = .returned (.tuple #[.agg #[.int .i64 kd,.slice none 0 0],.int .i64 (n:Int),.int .i64 er])∧w.grownBy w' (some g) ∧ ∃ W,Below w.heap.size w W∧X W w':=by
 have HREP:=Box.mk hrep;have hnc:b.length≤bc:=kb hb;clear hrep;obtain ⟨W1,hW1⟩ : ∃ W1,W1=(w.alloc (.cells #[.int .i64 most,.int .i64 body,.int .i64 room] 69)).alloc (.cells #[.int .i64 0,.slice none 0 0] 41):=⟨_,rfl⟩;have HB1:=Box.mk (show Below w.heap.size w W1 by rw [hW1]; exact qk (qd _ _) _);have HL1:=Box.mk (show LVr W1 w.heap.size most body room by rw [hW1]; exact LVr.keep (heap_alloc_new w (.cells #[.int .i64 most,.int .i64 body,.int .i64 room] 69)) (qd _ _));have HO:=Box.mk (show PVr W1 (w.heap.size+1) #[.int .i64 0,.slice none 0 0] by
  have h:=heap_alloc_new (w.alloc (.cells #[.int .i64 most,.int .i64 body,.int .i64 room] 69)) (.cells #[.int .i64 0,.slice none 0 0] 41);rw [World.size_alloc] at h;rw [hW1]; exact h)
 have HW1:=Box.mk hW1;have HM1:=Box.mk (hm.keep HB1.out);have hlt:=hm.lt;have hlw:w.heap.size+1<W1.heap.size:=(Array.getElem?_eq_some_iff.1 HO.out).1;have hl0:W1.cell? ⟨w.heap.size,0,none⟩=some (.int .i64 most):=by rw [cell_of_row _ _ _ _ _ _ HL1.out]; rfl
 have HBB:=Box.mk (hb.keep HB1.out);have HCALL:=Box.mk (qcn b ba bc most mm W1 HBB.out (by omega) (hok.keep HB1.out));rw [hE] at HCALL;clear hW1 hm hb hE hok;have HC:=Box.mk hC;have HX:=Box.mk hX;clear hC hX;go_enter Tryz.func39,Tryz.ntmps39
 go_wp2_with fail;rw [← HW1.out];refine HCALL.out.mono ?_;rintro e w2 ⟨rfl,hb2⟩;have HO2:=Box.mk (HO.out.keep hb2);have HL2:=Box.mk (HL1.out.keep hb2);have HB2:=Box.mk (qe HB1.out hb2);have hlw2:w.heap.size+1<w2.heap.size:=Nat.lt_of_lt_of_le hlw hb2.size;have hm02:w2.cell? ⟨g,0,none⟩=some (.bool false):=by rw [(HM1.out.keep hb2).cell]; exact HREP.out
 clear HW1 HCALL hb2 HO HL1 HB1 hlw hl0 HREP;go_wp2_with fail;rename_i KK hKK;refine qz [7] (fun p=>match p with | 0=>[0,1,2,3,4,5,6] | _=>[8,9,10,11,12])
  (fun p=>match p with | 0=>[.val (.func (.func 58) #[] #[]),.val (.pointer (some ⟨g,0,none⟩)),.val (.slice ba b.length bc),.val (.int .i64 (n:Int)),.val (.slice ba n bc),.val (.pointer (some ⟨w.heap.size,1,none⟩)),.val (.int .i64 body),.any,.nope,.nope,.nope,.nope,.nope] | _=>[.any,.any,.any,.any,.any,.any,.any,.val (.tuple #[.int .i64 kd,.int .i64 er]),.val (.tuple #[.int .i64 kd,.int .i64 er]),.val (.int .i64 kd),.val (.int .i64 er),.val (.int .i64 kd),.val (.int .i64 er)])
  (fun p=>match p with | 0=>fun wx=>Below w2.heap.size w2 wx | _=>fun wx=>∃ W,Below w2.heap.size w2 W∧W.grownBy wx (some g)∧X W wx)
  (by kernel_rfl) (by kernel_rfl) (by kernel_rfl) (by kernel_rfl) (by kernel_rfl) (by kernel_rfl) ?_ (Below.refl _ _) ?_ ?_ ?_
 · intro p wa wb h hb
   match p,h with
   | 0,h=>exact qe h hb
   | (_+1),⟨W,h1,h2,h3⟩=>exact ⟨W,h1,qh h2 (qs hb _),HX.out _ _ _ h3 fun k hk _=>hb.block k hk⟩
 · intro p hp
   match p,hp with
   | 0,_ =>
    refine ⟨?_,?_,?_,?_,?_,?_,?_,trivial⟩ <;> intro a1 wx hv hf hd
    · exact ⟨qb rfl,qi rfl (hf.base 11 rfl)⟩
    · exact ⟨qb rfl,qi rfl (hf.base 0 rfl)⟩
    · exact ⟨qb rfl,qi rfl (hf.base 1 rfl)⟩
    · exact ⟨qb rfl,qi rfl (hf.base 9 rfl)⟩
    · exact ⟨qb rfl,qen rfl (hd 2 rfl) (hd 3 rfl) hn hnc rfl⟩
    · exact ⟨qb rfl,qck rfl (hf.base 5 rfl) (by decide) rfl⟩
    · exact ⟨qb rfl,jg rfl (hd 5 rfl) (by rw [cell_of_row _ _ _ _ _ _ (HL2.out.keep hv)]; rfl) (qay _) rfl⟩
   | 1,_ =>
    refine ⟨?_,?_,?_,?_,?_,trivial⟩ <;> intro a1 wx hv hf hd
    · exact ⟨qb rfl,qi rfl (hd 7 rfl)⟩
    · exact ⟨qb rfl,qf4 rfl (hd 8 rfl) rfl⟩
    · exact ⟨qb rfl,qdc rfl (hd 8 rfl) rfl⟩
    · exact ⟨qb rfl,qr rfl (hd 9 rfl)⟩
    · exact ⟨qb rfl,qr rfl (hd 10 rfl)⟩
 · intro p hp
   match p,hp with
   | 0,_ =>
    intro a2 wx hv hf hd;have e1:a2.eval (.tmp 33) = .pointer (some ⟨g,0,none⟩):=hd 1 rfl;have e2:a2.eval (.tmp 36) = .slice ba n bc:=hd 4 rfl;have e3:a2.eval (.tmp 38) = .int .i64 body:=hd 6 rfl;refine ⟨qb rfl,qqf rfl (hd 0 rfl) (by kernel_rfl) (by show Calls _ _ #[a2.eval (.tmp 33),a2.eval (.tmp 36),a2.eval (.tmp 38)] _ _; rw [e1,e2,e3]; exact HC.out wx (qe HB2.out hv)) ?_⟩;rintro e w' ⟨rfl,h1,h2⟩;exact ⟨_,rfl,_,rfl,⟨wx,hv,h1,h2⟩,rfl,⟨.inr fun _ _ _=>trivial,.inr fun _ _ _=>trivial,.inr fun _ _ _=>trivial,.inr fun _ _ _=>trivial,.inr fun _ _ _=>trivial,.inr fun _ _ _=>trivial,.inr fun _ _ _=>trivial,.inl rfl,.inr fun _ _ h=>h.elim,.inr fun _ _ h=>h.elim,.inr fun _ _ h=>h.elim,.inr fun _ _ h=>h.elim,.inr fun _ _ h=>h.elim,trivial⟩⟩
 · intro a2 w3 hv hf hh
   have e12:a2.eval (.tmp 12) = .int .i64 kd:=hh 11 (by decide);have e10:a2.eval (.tmp 10) = .int .i64 er:=hh 12 (by decide);clear hh;rw [jl hf];clear hf;simp only [kg,e12,e10];generalize a2.eval (.tmp 32)=u32;generalize a2.eval (.tmp 33)=u33;generalize a2.eval (.tmp 34)=u34;generalize a2.eval (.tmp 35)=u35;generalize a2.eval (.tmp 36)=u36;generalize a2.eval (.tmp 37)=u37;generalize a2.eval (.tmp 38)=u38;generalize a2.eval (.tmp 39)=u39;generalize a2.eval (.tmp 31)=u31;generalize a2.eval (.tmp 40)=u40;generalize a2.eval (.tmp 41)=u41;clear e12 e10 a2;simp only [Act.put,List.setIfInBounds_toArray,List.set_cons_succ,List.set_cons_zero];refine hKK _ _ ?_;clear hKK;obtain ⟨W,h1,h2,h3⟩:=hv;have hww:=h1.size;have HPN:=Box.mk (show PVr w3 (w.heap.size+1) #[.int .i64 0,.slice none 0 0] from (h2.block _ (by omega) (fun e=>by injection e with e; omega)).trans (by rw [h1.block _ hlw2]; exact HO2.out));have HH:=Box.mk (And.intro h1 (And.intro h2 h3));clear h1 h2 h3 hm02;go_wp2_with (refine wpList_store_row rfl 41 _ _ rfl (w.heap.size+1) #[.int .i64 kd,.slice none 0 0] rfl rfl 41 _ HPN.out j1 rfl (qap ..) ?_)
   (try simp only [Exit.inBlock,Exit.then])
   refine bodyPost_ret (ji rfl _ _ (w.heap.size+1) 41 #[.int .i64 kd,.slice none 0 0] (0,0) _ rfl (setRow_heap _ _ _ _ _ _ HPN.out) Tryz.underlying41 rfl j1) rfl ?_;have hb1:=qe HB2.out HH.out.1;exact ⟨rfl,js (qh (qs hb1 _) HH.out.2.1) (by omega) _,W,hb1,HX.out _ _ _ HH.out.2.2 fun k hk hkg=>setRow_other _ _ _ _ (by rcases hkg with h | h <;> omega)⟩
theorem qid (b:List UInt8) (most body room:Int) (ba:Option Addr) (bc:Nat) (g:Nat) (cs:Array Value) (w:World) (mm:Int) (hb:qg w ba b bc) (hl:b.length≤1000000) (hm:MVr w g cs) (hok:HdOk w mm) (n:Nat) (hE:endS b most=((n:Int),0)) (h4:4≤n) (hn:n≤b.length) (hrep:cs[0]? = some (.bool true)) (kd er:Int) (X:World→World→Prop)
  (hC:∀ W,Below w.heap.size w W→Calls Tryz.prog 59 #[.pointer (some ⟨g,0,none⟩),.slice ba n bc,.int .i64 body] W fun e w'=>e = .returned (.tuple #[.int .i64 kd,.int .i64 er])∧W.grownBy w' (some g)∧X W w')
  (hX:∀ W w1 w2,X W w1→(∀ k,k<w1.heap.size→k=g∨W.heap.size≤k→w2.heap[k]? = w1.heap[k]?)→X W w2) :
  Calls Tryz.prog 39 #[.pointer (some ⟨g,0,none⟩),.slice ba b.length bc,.agg #[.int .i64 most,.int .i64 body,.int .i64 room]] w fun e w'=>e = .returned (.tuple #[.agg #[.int .i64 kd,.slice none 0 0],.int .i64 (n:Int),.int .i64 er])∧w.grownBy w' (some g) ∧ ∃ W,Below w.heap.size w W∧X W w':=by
 have HREP:=Box.mk hrep;have hnc:b.length≤bc:=kb hb;clear hrep;obtain ⟨W1,hW1⟩ : ∃ W1,W1=(w.alloc (.cells #[.int .i64 most,.int .i64 body,.int .i64 room] 69)).alloc (.cells #[.int .i64 0,.slice none 0 0] 41):=⟨_,rfl⟩;have HB1:=Box.mk (show Below w.heap.size w W1 by rw [hW1]; exact qk (qd _ _) _);have HL1:=Box.mk (show LVr W1 w.heap.size most body room by rw [hW1]; exact LVr.keep (heap_alloc_new w (.cells #[.int .i64 most,.int .i64 body,.int .i64 room] 69)) (qd _ _));have HO:=Box.mk (show PVr W1 (w.heap.size+1) #[.int .i64 0,.slice none 0 0] by
  have h:=heap_alloc_new (w.alloc (.cells #[.int .i64 most,.int .i64 body,.int .i64 room] 69)) (.cells #[.int .i64 0,.slice none 0 0] 41);rw [World.size_alloc] at h;rw [hW1]; exact h)
 have HW1:=Box.mk hW1;have HM1:=Box.mk (hm.keep HB1.out);have hlt:=hm.lt;have hlw:w.heap.size+1<W1.heap.size:=(Array.getElem?_eq_some_iff.1 HO.out).1;have hl0:W1.cell? ⟨w.heap.size,0,none⟩=some (.int .i64 most):=by rw [cell_of_row _ _ _ _ _ _ HL1.out]; rfl
 have HBB:=Box.mk (hb.keep HB1.out);have HCALL:=Box.mk (qcn b ba bc most mm W1 HBB.out (by omega) (hok.keep HB1.out));rw [hE] at HCALL;clear hW1 hm hb hE hok;have HC:=Box.mk hC;have HX:=Box.mk hX;clear hC hX;go_enter Tryz.func39,Tryz.ntmps39
 go_wp2_with fail;rw [← HW1.out];refine HCALL.out.mono ?_;rintro e w2 ⟨rfl,hb2⟩;have HO2:=Box.mk (HO.out.keep hb2);have HL2:=Box.mk (HL1.out.keep hb2);have HB2:=Box.mk (qe HB1.out hb2);have hlw2:w.heap.size+1<w2.heap.size:=Nat.lt_of_lt_of_le hlw hb2.size;have hm02:w2.cell? ⟨g,0,none⟩=some (.bool true):=by rw [(HM1.out.keep hb2).cell]; exact HREP.out
 clear HW1 HCALL hb2 HO HL1 HB1 hlw hl0 HREP;go_wp2_with fail;rename_i KK hKK;refine qz [7] (fun p=>match p with | 0=>[0,1,2,3,4,5,6] | _=>[8,9,10,11,12])
  (fun p=>match p with | 0=>[.val (.func (.func 59) #[] #[]),.val (.pointer (some ⟨g,0,none⟩)),.val (.slice ba b.length bc),.val (.int .i64 (n:Int)),.val (.slice ba n bc),.val (.pointer (some ⟨w.heap.size,1,none⟩)),.val (.int .i64 body),.any,.nope,.nope,.nope,.nope,.nope] | _=>[.any,.any,.any,.any,.any,.any,.any,.val (.tuple #[.int .i64 kd,.int .i64 er]),.val (.tuple #[.int .i64 kd,.int .i64 er]),.val (.int .i64 kd),.val (.int .i64 er),.val (.int .i64 kd),.val (.int .i64 er)])
  (fun p=>match p with | 0=>fun wx=>Below w2.heap.size w2 wx | _=>fun wx=>∃ W,Below w2.heap.size w2 W∧W.grownBy wx (some g)∧X W wx)
  (by kernel_rfl) (by kernel_rfl) (by kernel_rfl) (by kernel_rfl) (by kernel_rfl) (by kernel_rfl) ?_ (Below.refl _ _) ?_ ?_ ?_
 · intro p wa wb h hb
   match p,h with
   | 0,h=>exact qe h hb
   | (_+1),⟨W,h1,h2,h3⟩=>exact ⟨W,h1,qh h2 (qs hb _),HX.out _ _ _ h3 fun k hk _=>hb.block k hk⟩
 · intro p hp
   match p,hp with
   | 0,_ =>
    refine ⟨?_,?_,?_,?_,?_,?_,?_,trivial⟩ <;> intro a1 wx hv hf hd
    · exact ⟨qb rfl,qi rfl (hf.base 11 rfl)⟩
    · exact ⟨qb rfl,qi rfl (hf.base 0 rfl)⟩
    · exact ⟨qb rfl,qi rfl (hf.base 1 rfl)⟩
    · exact ⟨qb rfl,qi rfl (hf.base 9 rfl)⟩
    · exact ⟨qb rfl,qen rfl (hd 2 rfl) (hd 3 rfl) hn hnc rfl⟩
    · exact ⟨qb rfl,qck rfl (hf.base 5 rfl) (by decide) rfl⟩
    · exact ⟨qb rfl,jg rfl (hd 5 rfl) (by rw [cell_of_row _ _ _ _ _ _ (HL2.out.keep hv)]; rfl) (qay _) rfl⟩
   | 1,_ =>
    refine ⟨?_,?_,?_,?_,?_,trivial⟩ <;> intro a1 wx hv hf hd
    · exact ⟨qb rfl,qi rfl (hd 7 rfl)⟩
    · exact ⟨qb rfl,qf4 rfl (hd 8 rfl) rfl⟩
    · exact ⟨qb rfl,qdc rfl (hd 8 rfl) rfl⟩
    · exact ⟨qb rfl,qr rfl (hd 9 rfl)⟩
    · exact ⟨qb rfl,qr rfl (hd 10 rfl)⟩
 · intro p hp
   match p,hp with
   | 0,_ =>
    intro a2 wx hv hf hd;have e1:a2.eval (.tmp 33) = .pointer (some ⟨g,0,none⟩):=hd 1 rfl;have e2:a2.eval (.tmp 36) = .slice ba n bc:=hd 4 rfl;have e3:a2.eval (.tmp 38) = .int .i64 body:=hd 6 rfl;refine ⟨qb rfl,qqf rfl (hd 0 rfl) (by kernel_rfl) (by show Calls _ _ #[a2.eval (.tmp 33),a2.eval (.tmp 36),a2.eval (.tmp 38)] _ _; rw [e1,e2,e3]; exact HC.out wx (qe HB2.out hv)) ?_⟩;rintro e w' ⟨rfl,h1,h2⟩;exact ⟨_,rfl,_,rfl,⟨wx,hv,h1,h2⟩,rfl,⟨.inr fun _ _ _=>trivial,.inr fun _ _ _=>trivial,.inr fun _ _ _=>trivial,.inr fun _ _ _=>trivial,.inr fun _ _ _=>trivial,.inr fun _ _ _=>trivial,.inr fun _ _ _=>trivial,.inl rfl,.inr fun _ _ h=>h.elim,.inr fun _ _ h=>h.elim,.inr fun _ _ h=>h.elim,.inr fun _ _ h=>h.elim,.inr fun _ _ h=>h.elim,trivial⟩⟩
 · intro a2 w3 hv hf hh
   have e12:a2.eval (.tmp 12) = .int .i64 kd:=hh 11 (by decide);have e10:a2.eval (.tmp 10) = .int .i64 er:=hh 12 (by decide);clear hh;rw [jl hf];clear hf;simp only [kg,e12,e10];generalize a2.eval (.tmp 32)=u32;generalize a2.eval (.tmp 33)=u33;generalize a2.eval (.tmp 34)=u34;generalize a2.eval (.tmp 35)=u35;generalize a2.eval (.tmp 36)=u36;generalize a2.eval (.tmp 37)=u37;generalize a2.eval (.tmp 38)=u38;generalize a2.eval (.tmp 39)=u39;generalize a2.eval (.tmp 31)=u31;generalize a2.eval (.tmp 40)=u40;generalize a2.eval (.tmp 41)=u41;clear e12 e10 a2;simp only [Act.put,List.setIfInBounds_toArray,List.set_cons_succ,List.set_cons_zero];refine hKK _ _ ?_;clear hKK;obtain ⟨W,h1,h2,h3⟩:=hv;have hww:=h1.size;have HPN:=Box.mk (show PVr w3 (w.heap.size+1) #[.int .i64 0,.slice none 0 0] from (h2.block _ (by omega) (fun e=>by injection e with e; omega)).trans (by rw [h1.block _ hlw2]; exact HO2.out));have HH:=Box.mk (And.intro h1 (And.intro h2 h3));clear h1 h2 h3 hm02;go_wp2_with (refine wpList_store_row rfl 41 _ _ rfl (w.heap.size+1) #[.int .i64 kd,.slice none 0 0] rfl rfl 41 _ HPN.out j1 rfl (qap ..) ?_)
   (try simp only [Exit.inBlock,Exit.then])
   refine bodyPost_ret (ji rfl _ _ (w.heap.size+1) 41 #[.int .i64 kd,.slice none 0 0] (0,0) _ rfl (setRow_heap _ _ _ _ _ _ HPN.out) Tryz.underlying41 rfl j1) rfl ?_;have hb1:=qe HB2.out HH.out.1;exact ⟨rfl,js (qh (qs hb1 _) HH.out.2.1) (by omega) _,W,hb1,HX.out _ _ _ HH.out.2.2 fun k hk hkg=>setRow_other _ _ _ _ (by rcases hkg with h | h <;> omega)⟩
theorem jdj (h:List UInt8):(qaa h).1=0→100≤(qaa h).2.1:=by
 unfold qaa
 split
 · rename_i l0 ls hL
   cases hp:ks l0 with
   | none=>intro h; cases h
   | some f =>
    simp only
    split
    · intro _
      unfold ks at hp
      split at hp
      · rename_i hc
        obtain rfl:=Option.some.inj hp;exact hc.2.2.2.2.2.1
      · cases hp
    · rename_i hf
      intro h; exact absurd h hf
 · intro h; cases h
theorem jfs {ef:Int} (hz:¬ ef=0):¬ (if ef=3 then (9:Int) else ef)=0:=by
 split
 · decide
 · exact hz
theorem qcc {P:Nat→Prop} {w w':World} {g:Nat} {x:NX} {e:Ending} {k n er:Int} (hx:x.er=er) (h0:¬ er=0) (he:e = .returned (.tuple #[.agg #[.int .i64 k,.slice none 0 0],.int .i64 n,.int .i64 er])) (hg:w.grownBy w' (some g)):RetM P w g x e w' :=
 .inr ⟨by rw [hx]; exact h0,k,n,by rw [hx]; exact he,hg⟩
def XReq (g:Nat) (s:RS) (fa ga:Option Addr) (fc gc:Nat) (m t:ByteArray) (z:Int) (xs:List Fld) (k l:Int) (W w':World):Prop :=
 ∃ f2 c2,(∀ fr,fr = !decide (k=1)→MVr w' g #[.bool s.rep,.string s.meth,.int .i64 1,.string m,.string t,.int .i64 z,.slice f2 (List.length xs) c2,.bool fr,.slice none 0 0,.int .i64 s.st,.string s.rs,.int .i64 s.z2,.slice ga (List.length s.ys) gc,.slice none 0 0,.int .i64 k,.int .i64 l,.int .i64 l,.int .i64 0,.int .i64 0,.int .i64 0,.int .i64 0,.slice none (List.length ([]:List UInt8)) 0])∧qm w' f2 xs ∧ ∀ y,f2=some y→xs≠[]→W.heap.size≤y.block
def XRep (g:Nat) (s:RS) (fa:Option Addr) (fc:Nat) (st:Int) (rs:ByteArray) (z2:Int) (ys:List Fld) (k l:Int) (W w':World):Prop :=
 ∃ f2 c2,MVr w' g #[.bool s.rep,.string s.meth,.int .i64 1,.string s.m,.string s.t,.int .i64 s.z,.slice fa (List.length s.xs) fc,.bool s.fr,.slice none 0 0,.int .i64 st,.string rs,.int .i64 z2,.slice f2 (List.length ys) c2,.slice none 0 0,.int .i64 k,.int .i64 l,.int .i64 l,.int .i64 0,.int .i64 0,.int .i64 0,.int .i64 0,.slice none (List.length ([]:List UInt8)) 0]∧qm w' f2 ys ∧ ∀ y,f2=some y→ys≠[]→W.heap.size≤y.block
theorem XReq.same {g:Nat} {s:RS} {fa ga:Option Addr} {fc gc:Nat} {m t:ByteArray} {z:Int} {xs:List Fld} {k l:Int} (W w1 w2:World) (h:XReq g s fa ga fc gc m t z xs k l W w1) (hb:∀ q,q<w1.heap.size→q=g∨W.heap.size≤q→w2.heap[q]? = w1.heap[q]?):XReq g s fa ga fc gc m t z xs k l W w2:=by
 obtain ⟨f2,c2,h1,h2,h3⟩:=h;exact ⟨f2,c2,fun fr hf=>(hb g (h1 fr hf).lt (.inl rfl)).trans (h1 fr hf),qda h2 fun y e hx=>hb _ (h2.old e hx) (.inr (h3 y e hx)),h3⟩
theorem XRep.same {g:Nat} {s:RS} {fa:Option Addr} {fc:Nat} {st:Int} {rs:ByteArray} {z2:Int} {ys:List Fld} {k l:Int} (W w1 w2:World) (h:XRep g s fa fc st rs z2 ys k l W w1) (hb:∀ q,q<w1.heap.size→q=g∨W.heap.size≤q→w2.heap[q]? = w1.heap[q]?):XRep g s fa fc st rs z2 ys k l W w2:=by
 obtain ⟨f2,c2,h1,h2,h3⟩:=h;exact ⟨f2,c2,(hb g h1.lt (.inl rfl)).trans h1,qda h2 fun y e hx=>hb _ (h2.old e hx) (.inr (h3 y e hx)),h3⟩
theorem qth (k l ef body:Int) (h:¬ ef=0→k=0):(if ef=3∨k=2∧body<l then 9 else ef)=if ef≠0 then (if ef=3 then 9 else ef) else if k=2∧body<l then 9 else 0:=by
 by_cases h0:ef=0
 · subst h0
   simp
 · have hk:=h h0
   subst hk;simp [h0]
theorem jcc (P:Nat→Prop) (s:RS) (b:List UInt8) (most body room:Int) (ba:Option Addr) (bc:Nat) (fa ga la:Option Addr) (fc gc lc:Nat) (g:Nat) (mm:Int) (w:World) (hb:qg w ba b bc) (hl:b.length≤1000000) (hm:MVr w g (rowR s fa fc ga gc la lc)) (hr:RMem P w s fa ga la lc) (hlf:∀ y,la=some y→s.ck.line≠[]→P y.block) (hok:HdOk w mm) (hP:∀ k,w.heap.size≤k→P k) (hPg:∀ k,P k→k≠g) (hs:OkN body s) :
  Calls Tryz.prog 39 #[.pointer (some ⟨g,0,none⟩),.slice ba b.length bc,.agg #[.int .i64 most,.int .i64 body,.int .i64 room]] w (RetM P w g (qav s b most body)):=by
 rcases qk1 b most with h | h | ⟨n,hE,h4,hn⟩
 · have e:qav s b most body=⟨0,s,0,[],0⟩:=by unfold qav; rw [if_pos (by rw [h])]
   rw [e];refine (qzc b most body room ba bc g _ w mm hb hl hm hok h).mono ?_;rintro e w' ⟨he,hbb⟩;exact .inl ⟨rfl,fa,fc,ga,gc,la,lc,none,0,he,hm.keep hbb,hr.keep hbb,hlf,.inl ⟨rfl,rfl,rfl⟩,qs hbb _⟩
 · have e:qav s b most body=errX 3:=by
    unfold qav;rw [if_neg (by rw [h]; show ¬ (3:Int)=4; decide),if_pos (by rw [h]; show (3:Int)≠0; decide),h]
   rw [e];refine (jc6 b most body room ba bc g _ w mm hb hl hm hok h).mono ?_;rintro e w' ⟨he,hbb⟩;exact qcc rfl (by decide) he (qs hbb _)
 · have e:qav s b most body=qbo s (b.take n) body:=by
    unfold qav;rw [if_neg (by rw [hE]; show ¬ (0:Int)=4; decide),if_neg (by rw [hE]; exact fun h=>h rfl),hE];show qbo s (b.take (Int.toNat (n:Int))) body=_
    rw [Int.toNat_natCast]
   have hln:(b.take n).length=n:=by rw [List.length_take]; omega
   have hl2:(b.take n).length≤1000000:=by omega
   rw [e];clear e;unfold qbo;by_cases hrep:s.rep=true
   · rw [if_pos hrep,hln]
     have hsm:=qqt hl2;have hst:=jdj (b.take n);have hA:qaa (b.take n)=((qaa (b.take n)).1,(qaa (b.take n)).2.1,(qaa (b.take n)).2.2.1,(qaa (b.take n)).2.2.2.1,(qaa (b.take n)).2.2.2.2):=rfl;generalize (qaa (b.take n)).1=er at *;generalize (qaa (b.take n)).2.1=st at *;generalize (qaa (b.take n)).2.2.1=rs at *;generalize (qaa (b.take n)).2.2.2.1=z2 at *;generalize (qaa (b.take n)).2.2.2.2=ys at *;have hrow:((rowR s fa fc ga gc la lc):Array Value)[0]? = some (.bool true):=by rw [← hrep]; rfl
     by_cases h0:er=0
     · subst h0
       have hst:=hst rfl;rw [if_neg (fun h=>h rfl)];by_cases h1:st=101
       · rw [if_pos h1]
         refine (qid b most body room ba bc g _ w mm hb hl hm hok n hE h4 hn hrow 0 2 (fun _ _=>True) (fun W hW=>?_) (fun _ _ _ _ _=>trivial)).mono ?_
         · have hc:=qsm s (b.take n) body ba bc fa ga la fc gc lc g mm W (ki (hb.keep hW) n) hl2 (hm.keep hW) (hok.keep hW) st rs z2 ys hA h1
           rw [hln] at hc;exact hc.mono fun e w' ⟨he,hbb⟩=>⟨he,qs hbb _,trivial⟩
         · rintro e w' ⟨he,hg,_⟩
           exact qcc rfl (by decide) he hg
       · rw [if_neg h1]
         by_cases h2:100≤st∧st≤199
         · rw [if_pos h2]
           refine (qid b most body room ba bc g _ w mm hb hl hm hok n hE h4 hn hrow 4 0 (fun W w'=>MVr w' g (rowR s fa fc ga gc la lc)) (fun W hW=>?_) (fun W w1 w2 h hq=>(hq g h.lt (.inl rfl)).trans h)).mono ?_
           · have hc:=qu4 s (b.take n) body ba bc fa ga la fc gc lc g mm W (ki (hb.keep hW) n) hl2 (hm.keep hW) (hok.keep hW) st rs z2 ys hA h1 h2.2
             rw [hln] at hc;exact hc.mono fun e w' ⟨he,hbb⟩=>⟨he,qs hbb _,(hm.keep hW).keep hbb⟩
           · rintro e w' ⟨he,hg,W,hW,hx⟩
             exact .inl ⟨rfl,fa,fc,ga,gc,la,lc,none,0,he,hx,hr.grown hg hPg hm (qw rfl),hlf,.inl ⟨rfl,rfl,rfl⟩,hg⟩
         · rw [if_neg h2]
           have hrg:=qka s.meth st z2 ys;have hF:kq s.meth st z2 ys=((kq s.meth st z2 ys).1,(kq s.meth st z2 ys).2.1,(kq s.meth st z2 ys).2.2):=rfl;unfold finX;generalize (kq s.meth st z2 ys).1=k at *;generalize (kq s.meth st z2 ys).2.1=l at *;generalize (kq s.meth st z2 ys).2.2=ef at *;have hfe:=qth k l ef body (fun h=>by rcases hrg with h1 | h1 <;> omega)
           refine (qid b most body room ba bc g _ w mm hb hl hm hok n hE h4 hn hrow 1 (if ef=3∨k=2∧body<l then 9 else ef) (XRep g s fa fc st rs z2 ys k l) (fun W hW=>?_) XRep.same).mono ?_
           · have hc:=qw2 s (b.take n) body ba bc fa ga la fc gc lc g mm W (ki (hb.keep hW) n) hl2 (hm.keep hW) (hok.keep hW) st rs z2 ys hA (by omega) hsm k l ef hF _ rfl
             rw [hln] at hc;exact hc.mono fun e w' ⟨f2,c2,he,h1,h2,h3,h4⟩=>⟨he,h4,f2,c2,h1,h2,h3⟩
           · rintro e w' ⟨he,hg,W,hW,f2,c2,hx1,hx2,hx3⟩
             rw [hfe] at he;by_cases hz:ef=0
             · rw [if_neg (fun h=>h hz)] at he ⊢
               by_cases hk:k=2∧body<l
               · rw [if_pos hk] at he ⊢
                 exact qcc rfl (by decide) he hg
               · rw [if_neg hk] at he ⊢
                 exact .inl ⟨rfl,fa,fc,f2,c2,none,0,none,0,he,hx1,⟨hr.f1.grownR hg fun y e hx=>hPg _ (hr.n1 y e hx),hx2,.inl ⟨rfl,rfl,rfl⟩,hr.n1,fun y e hx=>hP _ (Nat.le_trans hW.size (hx3 y e hx))⟩,(fun y e _=>by cases e),.inl ⟨rfl,rfl,rfl⟩,hg⟩
             · rw [if_pos hz] at he ⊢
               exact qcc rfl (jfs hz) he hg
     · rw [if_pos h0]
       refine (qid b most body room ba bc g _ w mm hb hl hm hok n hE h4 hn hrow 0 er (fun _ _=>True) (fun W hW=>?_) (fun _ _ _ _ _=>trivial)).mono ?_
       · have hc:=qse s (b.take n) body ba bc fa ga la fc gc lc g mm W (ki (hb.keep hW) n) hl2 (hm.keep hW) (hok.keep hW) er st rs z2 ys hA h0
         rw [hln] at hc;exact hc.mono fun e w' ⟨he,hbb⟩=>⟨he,qs hbb _,trivial⟩
       · rintro e w' ⟨he,hg,_⟩
         exact qcc rfl h0 he hg
   · have hrep:s.rep=false:=by cases h:s.rep with
      | true=>exact absurd h hrep
      | false=>rfl
     rw [if_neg (by rw [hrep]; decide),hln];have hsm:=qq9 hl2;have hA:qa0 (b.take n)=((qa0 (b.take n)).1,(qa0 (b.take n)).2.1,(qa0 (b.take n)).2.2.1,(qa0 (b.take n)).2.2.2.1,(qa0 (b.take n)).2.2.2.2):=rfl;generalize (qa0 (b.take n)).1=er at *;generalize (qa0 (b.take n)).2.1=m at *;generalize (qa0 (b.take n)).2.2.1=t at *;generalize (qa0 (b.take n)).2.2.2.1=z at *;generalize (qa0 (b.take n)).2.2.2.2=xs at *;have hrow:((rowR s fa fc ga gc la lc):Array Value)[0]? = some (.bool false):=by rw [← hrep]; rfl
     by_cases h0:er=0
     · subst h0
       rw [if_neg (fun h=>h rfl)];have hrg:=qgh z xs 1;have hF:j3 z xs 1=((j3 z xs 1).1,(j3 z xs 1).2.1,(j3 z xs 1).2.2):=rfl;unfold finX;generalize (j3 z xs 1).1=k at *;generalize (j3 z xs 1).2.1=l at *;generalize (j3 z xs 1).2.2=ef at *;have hfe:=qth k l ef body (fun h=>by rcases hrg with h1 | h1 <;> omega)
       refine (qtv b most body room ba bc g _ w mm hb hl hm hok n hE h4 hn hrow 1 (if ef=3∨k=2∧body<l then 9 else ef) (XReq g s fa ga fc gc m t z xs k l) (fun W hW=>?_) XReq.same).mono ?_
       · have hc:=qu8 s (b.take n) body ba bc fa ga la fc gc lc g mm W (ki (hb.keep hW) n) hl2 (hm.keep hW) (hok.keep hW) m t z xs hA hsm k l ef hF _ rfl
         rw [hln] at hc;exact hc.mono fun e w' ⟨f2,c2,he,h1,h2,h3,h4⟩=>⟨he,h4,f2,c2,h1,h2,h3⟩
       · rintro e w' ⟨he,hg,W,hW,f2,c2,hx1,hx2,hx3⟩
         rw [hfe] at he;by_cases hz:ef=0
         · rw [if_neg (fun h=>h hz)] at he ⊢
           by_cases hk:k=2∧body<l
           · rw [if_pos hk] at he ⊢
             exact qcc rfl (by decide) he hg
           · rw [if_neg hk] at he ⊢
             exact .inl ⟨rfl,f2,c2,ga,gc,none,0,none,0,he,hx1 _ rfl,⟨hx2,hr.f2.grownR hg fun y e hx=>hPg _ (hr.n2 y e hx),.inl ⟨rfl,rfl,rfl⟩,fun y e hx=>hP _ (Nat.le_trans hW.size (hx3 y e hx)),hr.n2⟩,(fun y e _=>by cases e),.inl ⟨rfl,rfl,rfl⟩,hg⟩
         · rw [if_pos hz] at he ⊢
           exact qcc rfl (jfs hz) he hg
     · rw [if_pos h0]
       refine (qtv b most body room ba bc g _ w mm hb hl hm hok n hE h4 hn hrow 0 er (fun _ _=>True) (fun W hW=>?_) (fun _ _ _ _ _=>trivial)).mono ?_
       · have hc:=qrs s (b.take n) body ba bc fa ga la fc gc lc g mm W (ki (hb.keep hW) n) hl2 (hm.keep hW) (hok.keep hW) er m t z xs hA h0
         rw [hln] at hc;exact hc.mono fun e w' ⟨he,hbb⟩=>⟨he,qs hbb _,trivial⟩
       · rintro e w' ⟨he,hg,_⟩
         exact qcc rfl h0 he hg
end Go.Proofs.YtflhjpokjdjbpaaGreatDoor

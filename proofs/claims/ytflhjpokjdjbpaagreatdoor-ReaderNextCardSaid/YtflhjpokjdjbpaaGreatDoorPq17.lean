/- The law ReaderNext. Opening the arguments of the laws on fields. -/
import Derived.Test.YtflhjpokjdjbpaaGreatDoorPq16
set_option linter.unusedVariables false
set_option linter.unusedSimpArgs false
set_option maxRecDepth 100000
set_option maxHeartbeats 8000000
namespace Go.Proofs.YtflhjpokjdjbpaaGreatDoor
open Go.RowKit
set_option linter.unusedVariables false
structure NxE (w:World) (L:(Nat→Prop) × (Nat→Prop)) (g0 g1 q29 q33:Nat) (s0 s1 t:RS) (ba:Option Addr) (b:List UInt8) (bc:Nat) (W:World):Prop where
 x:StV L s0 W g0
 y:StV L s1 W g1
 ra:StV L t W q29
 rb:StV L t W q33
 by_:qg W ba b bc
 bl:Below w.heap.size w W
 ne:g0≠g1∧g0≠q29∧g0≠q33∧g1≠q29∧g1≠q33
 lo:w.heap.size≤g0∧w.heap.size≤g1
theorem NxE.keep {w:World} {L:(Nat→Prop) × (Nat→Prop)} {g0 g1 q29 q33:Nat} {s0 s1 t:RS} {ba:Option Addr} {b:List UInt8} {bc:Nat} {W W':World} (h:NxE w L g0 g1 q29 q33 s0 s1 t ba b bc W) (hb:Below W.heap.size W W'):NxE w L g0 g1 q29 q33 s0 s1 t ba b bc W' :=
 ⟨h.x.keep hb,h.y.keep hb,h.ra.keep hb,h.rb.keep hb,h.by_.keep hb,qe h.bl hb,h.ne,h.lo⟩
theorem qnq (a:Option Addr) (n c:Nat) (reply:Bool) (mt at_:Int) (x:UInt8) (ra:Option Addr) (raw:List UInt8) (rc:Nat) (ca:Option Addr) (cl cc:Nat) (oa:Option Addr) (ol oc:Nat) (most0 body0:Int) (wild:Bool) (mm:Int) (w:World) (hi:qgu w a n) (hn:n≤maxLen) (hraw:qg w ra raw rc) (hcu:qgu w ca cl) (hou:qgu w oa ol) (hk:HdOk w mm) :
  Calls Tryz.prog 3 #[.slice a n c,.bool reply,.int .i64 mt,.int .i64 at_,.int .u8 x.toNat,.slice ra raw.length rc,.slice ca cl cc,.slice oa ol oc,.int .i64 most0,.int .i64 body0,.bool wild] w fun e w'=>e = .returned (.bool true)∧Below w.heap.size w w':=by
 have HOK:=Box.mk hk;have HRW:=Box.mk hraw;have HCU:=Box.mk hcu;have HOU:=Box.mk hou;have HST:=Box.mk (qz0 a n c reply at_ x w hi hn);clear hi hn hraw hcu hou hk;go_enter Tryz.func3,Tryz.ntmps3
 go_wp2_with fail;refine HST.out.mono ?_;rintro e w1 ⟨v,b0,rfl,ho,_,hbl,hb1⟩;obtain ⟨gv,vc,rfl,_,hby⟩:=ho.form;have HBY:=Box.mk hby;have HB1:=Box.mk hb1;clear ho hb1 hby HST;go_upto_if 42 with fail
 go_cut [23] (fun v wx=>∃ (b:List UInt8) (ba:Option Addr) (bc:Nat),v = .slice ba b.length bc∧wx=w1∧b.length≤1900∧Box (qg w1 ba b bc))
 case first =>
  cases wild
  · go_wp2_with fail
    go_meet
    exact ⟨b0,_,vc,rfl,rfl,hbl,HBY⟩
  · go_wp2_with fail
    refine (qxw raw ra rc 300 _ (HRW.out.keep HB1.out) (by decide)).mono ?_;rintro e w2 ⟨s,hse,hsl,rfl,hsb,rfl⟩;have HSB:=Box.mk hsb;clear hsb hse;go_wp2_with fail;go_meet
    exact ⟨s,ra,rc,rfl,rfl,by omega,HSB⟩
 case rest =>
  obtain ⟨b,ba,bc,rfl,rfl,hbl2,HBY2⟩:=hcut;clear HBY HRW;obtain ⟨most,hmost,hme⟩:=qci most0 300 (by decide) (by decide);obtain ⟨body,hbody,hbe⟩:=qci body0 40 (by decide) (by decide);go_wp2_with fail;refine (qk2 most0 300 _ (by decide) (by decide)).mono ?_;rintro e w2 ⟨he,hw⟩;subst hw;rw [hme] at he;subst he;go_wp2_with fail;refine (qk2 body0 40 _ (by decide) (by decide)).mono ?_;rintro e w3 ⟨he,hw⟩;subst hw;rw [hbe] at he;subst he;clear hme hbe;obtain ⟨mostI,hmI⟩ : ∃ mostI:Int,mostI=(most:Int):=⟨_,rfl⟩;obtain ⟨bodyI,hbI⟩ : ∃ bodyI:Int,bodyI=(body:Int):=⟨_,rfl⟩;have HBD:=Box.mk (show 0≤bodyI∧bodyI≤1000000000 by omega);go_wp2_with fail;rw [← hmI,← hbI];clear hmI hbI;refine (jg0 reply mt _).mono ?_;rintro e w4 ⟨p,c0,hc0,rfl,hb4⟩;have HC0:=Box.mk hc0;have h22:c0.size=22:=by rw [hc0]; rfl
  have hone:c0.all (·.oneCell')=true:=by rw [hc0]; simp [Value.oneCell']
  have HSZ:=Box.mk (show (Tryz.prog.info? 37).map (·.size)=some c0.size by rw [h22]; exact jw);have HB4:=Box.mk (qe HB1.out hb4);have HBY4:=Box.mk (HBY2.out.keep hb4);obtain ⟨W4,hW4⟩ : ∃ W4,W4=(((w4.alloc (.cells zR 37)).alloc (.cells zR 37)).setRow w4.heap.size c0).setRow (w4.heap.size+1) c0:=⟨_,rfl⟩;have HX2:=Box.mk (show RVr ((w4.alloc (.cells zR 37)).alloc (.cells zR 37)) w4.heap.size zR from
   ((qd (w4.alloc (.cells zR 37)) _).block _ (by rw [World.size_alloc]; omega)).trans (heap_alloc_new _ _))
  have HY2:=Box.mk (show RVr (((w4.alloc (.cells zR 37)).alloc (.cells zR 37)).setRow w4.heap.size c0) (w4.heap.size+1) zR by
   have h:=heap_alloc_new (w4.alloc (.cells zR 37)) (.cells zR 37);rw [World.size_alloc] at h;exact (setRow_other _ _ _ _ (by omega)).trans h)
  have hb44:Below w4.heap.size w4 W4:=by rw [hW4]; exact below_setRow (below_setRow (qk (qd _ _) _) (Nat.le_refl _) _) (by omega) _
  have hr0:RVr W4 w4.heap.size c0:=by rw [hW4]; exact (setRow_other _ _ _ _ (by omega)).trans (setRow_heap _ _ _ _ _ _ HX2.out)
  have hr1:RVr W4 (w4.heap.size+1) c0:=by rw [hW4]; exact setRow_heap _ _ _ _ _ _ HY2.out
  obtain ⟨g0,hg0⟩ : ∃ g0,g0=w4.heap.size:=⟨_,rfl⟩;obtain ⟨g1,hg1⟩ : ∃ g1,g1=w4.heap.size+1:=⟨_,rfl⟩;obtain ⟨L,hL⟩ : ∃ L:(Nat→Prop) × (Nat→Prop),L=(fun k=>k≠g0∧k≠g1,fun _=>True):=⟨_,rfl⟩;have HJ0:=Box.mk (show NxS w (fun k=>k≠g0∧k≠g1,fun _=>True) g0 g1 (begR reply p) ba b bc bodyI W4 from
   ⟨⟨none,0,none,0,none,0,by rw [hg0]; rw [hc0] at hr0; exact hr0,qgw.zeroN _ _ _ _⟩,⟨none,0,none,0,none,0,by rw [hg1]; rw [hc0] at hr1; exact hr1,qgw.zeroN _ _ _ _⟩,HBY4.out.keep hb44,qe HB4.out hb44,jey ..,jf1 ..,hbl2⟩)
  have HGG:=Box.mk (show g0≠g1∧w.heap.size≤g0∧w.heap.size≤g1 by have:=HB4.out.size; omega);have HW4:=Box.mk hW4;clear hc0 hb4 hb44 hr0 hr1 hW4 hL HC0 HB1 HBY2 HB4 HBY4 hbl2;go_upto_region 6 with (first | (refine wpList_store_row rfl 37 _ _ rfl w4.heap.size c0 rfl rfl 37 _ HX2.out HSZ.out h22.symm hone ?_) | (refine wpList_store_row rfl 37 _ _ rfl (w4.heap.size+1) c0 rfl rfl 37 _ HY2.out HSZ.out h22.symm hone ?_))
  rw [← HW4.out,← hg1,← hg0];clear HW4 HX2 HY2 HSZ h22 hone hg0 hg1;go_wp2_with fail;go_loopw [23,26] (fun bv iv wr=>∃ i:Nat,i≤60∧iv = .int .i64 i ∧ ∃ (s:RS) (b:List UInt8) (ba:Option Addr) (bc:Nat),bv = .slice ba b.length bc∧Box (NxS w (fun k=>k≠g0∧k≠g1,fun _=>True) g0 g1 s ba b bc bodyI wr)) (fun _ iv _=>60-(intOf iv).toNat)
  case atStart=>exact ⟨0,by decide,rfl,_,b,ba,bc,rfl,HJ0⟩
  case round =>
   clear HJ0;obtain ⟨i,hi60,rfl,s,b,ba,bc,rfl,HJ⟩:=hrel;by_cases hlt:i<60
   · have hlen:=HJ.out.len
     go_upto_if 64 with fail
     go_cut [27] (fun v wx=>∃ nq:Nat,v = .int .i64 nq∧wx=wr∧nq≤b.length)
     case first =>
      by_cases hic:i<cl
      · obtain ⟨cad,z,rfl,hz,_⟩:=(HCU.out.keep HJ.out.bl) i hic
        obtain ⟨q,hq,hqe⟩:=qci z (b.length+1) (by omega) (by omega);have hcall:Calls Tryz.prog 6 #[.int .i64 z,.int .i64 ((b.length:Int)+1)] wr fun e w'=>e = .returned (.int .i64 (q:Int))∧w'=wr:=(qk2 z (b.length+1) wr (by omega) (by omega)).mono fun e w' h=>⟨by rw [← hqe]; exact h.1,h.2⟩;clear hqe;go_wp2_with fail;refine hcall.mono ?_;rintro e w2 ⟨rfl,hw⟩;subst hw;go_wp2_with fail;go_meet
        exact ⟨q,rfl,rfl,by omega⟩
      · go_wp2_with fail
        go_meet
        exact ⟨b.length,rfl,rfl,Nat.le_refl _⟩
     case rest =>
      obtain ⟨nq,rfl,rfl,hnq⟩:=hcut;go_upto_if 76 with fail
      go_cut [28] (fun v wx=>∃ room:Int,v = .int .i64 room∧wx=wc ∧ -1≤room∧room≤40)
      case first =>
       by_cases hic:i<ol
       · obtain ⟨cad,z,rfl,hz,_⟩:=(HOU.out.keep HJ.out.bl) i hic
         obtain ⟨q,hq,hqe⟩:=qci z 12 (by decide) (by decide);go_wp2_with fail;refine (qk2 z 12 _ (by decide) (by decide)).mono ?_;rintro e w2 ⟨he,hw⟩;subst hw;rw [hqe] at he;subst he;go_wp2_with fail;go_meet
         exact ⟨(q:Int)-1,by go_num,rfl,by omega,by omega⟩
       · go_wp2_with fail
         go_meet
         exact ⟨40,rfl,rfl,by decide,by decide⟩
      case rest =>
       obtain ⟨room,rfl,hwe,hro1,hro2⟩:=hcut;subst hwe;obtain ⟨X,hX⟩ : ∃ X,X=qbg s (b.take nq) mostI bodyI room:=⟨_,rfl⟩;have HX:=Box.mk hX;have HNQ:=Box.mk hnq;have HRM:=Box.mk (show -1000000000≤room∧room≤1000000000 by omega);have HNM:=Box.mk (show NmS X.r by rw [hX]; exact qf8 HJ.out.nm _ _ _ _);have htl:(b.take nq).length≤1000000:=by rw [List.length_take]; omega
       have HLN:=Box.mk (show X.r.xs.length≤64∧X.r.ys.length≤64 by rw [hX]; exact qzk HBD.out htl HJ.out.ok);have HOX:=Box.mk (show X.er=0→OkN bodyI X.r∧X.n≤b.length by
        rw [hX];intro h0;have h1:=ql6 HBD.out htl HJ.out.ok h0;refine ⟨h1.1,Nat.le_trans h1.2.1 ?_⟩;rw [List.length_take]; omega)
       obtain ⟨L,hL⟩ : ∃ L:(Nat→Prop) × (Nat→Prop),L=(fun k=>k≠g0∧k≠g1,fun _=>True):=⟨_,rfl⟩;clear hX hnq hro1 hro2 htl hL L;go_upto_region 14 with fail
       rename_i K hK;refine qz [15,16] (fun p=>match p with | 0=>[0,1,2,3,4,5,6,7,8,9,10,11,12,13,14] | 1=>[10,11,12] | _=>[11,12,17,18])
        (fun p=>match p with | 0=>[.srow (fun k=>k≠g0∧k≠g1,fun _=>True) s,.bytes b,.val (.int .i64 (nq:Int)),.bytes (b.take nq),.val (.int .i64 mostI),.val (.int .i64 bodyI),.val (.int .i64 room),.nxt (fun k=>k≠g0∧k≠g1,fun _=>True) X,.nxt (fun k=>k≠g0∧k≠g1,fun _=>True) X,.srow (fun k=>k≠g0∧k≠g1,fun _=>True) X.r,.prow X,.val (.int .i64 (X.n:Int)),.val (.int .i64 X.er),.rnew wc.heap.size,.pnew wc.heap.size,.any,.any,.nope,.nope] | 1=>[.any,.any,.any,.any,.any,.any,.any,.any,.nxt (fun k=>k≠g0∧k≠g1,fun _=>True) X,.any,.prow X,.val (.int .i64 (X.n:Int)),.val (.int .i64 X.er),.rst wc.heap.size (fun k=>k≠g0∧k≠g1,fun _=>True) X.r,.pnew wc.heap.size,.any,.any,.nope,.nope] | _=>[.any,.any,.any,.any,.any,.any,.any,.any,.nxt (fun k=>k≠g0∧k≠g1,fun _=>True) X,.any,.any,.val (.int .i64 (X.n:Int)),.val (.int .i64 X.er),.rst wc.heap.size (fun k=>k≠g0∧k≠g1,fun _=>True) X.r,.pst wc.heap.size X,.any,.any,.val (.int .i64 (X.n:Int)),.val (.int .i64 X.er)])
        (fun _ wx=>Below wc.heap.size wc wx)
        (by kernel_rfl) (by kernel_rfl) (by kernel_rfl) (by kernel_rfl) (by kernel_rfl) (by kernel_rfl) (fun _ _ _ h hb=>qe h hb) (Below.refl _ _) ?_ ?_ ?_
       · intro p hp
         match p,hp with
         | 0,_ =>
          refine ⟨?_,?_,?_,?_,?_,?_,?_,?_,?_,?_,?_,?_,?_,?_,?_,trivial⟩ <;> intro a1 wx hv hf hd
          · exact ⟨qb rfl,qbd rfl (hf.base 24 rfl) (HJ.out.x.keep hv) fun v h=>h⟩
          · exact ⟨qb rfl,qi rfl ⟨_,_,hf.base 23 rfl,HJ.out.by_.keep hv⟩⟩
          · exact ⟨qb rfl,qi rfl (hf.base 27 rfl)⟩
          · exact ⟨qb rfl,qqg rfl (hd 1 rfl) (hd 2 rfl) HNQ.out fun v h=>h⟩
          · exact ⟨qb rfl,qi rfl (hf.base 8 rfl)⟩
          · exact ⟨qb rfl,qi rfl (hf.base 9 rfl)⟩
          · exact ⟨qb rfl,qi rfl (hf.base 28 rfl)⟩
          · exact ⟨qb rfl,qj4 rfl (HOK.out.keep (qe HJ.out.bl hv)) (hd 0 rfl) (hd 3 rfl) (hd 4 rfl) (hd 5 rfl) (hd 6 rfl) (by rw [List.length_take]; have:=HJ.out.len; omega) HJ.out.ok HBD.out HRM.out (fun k hk=>⟨by have h1:=HJ.out.x.lt; have h2:=HJ.out.y.lt; have h3:=hv.size; exact ⟨by omega,by omega⟩,trivial⟩) fun v w' h=>by rw [← HX.out] at h; exact h⟩
          · exact ⟨qb rfl,qi rfl (hd 7 rfl)⟩
          · exact ⟨qb rfl,qlv rfl (hd 8 rfl) fun v h=>h⟩
          · exact ⟨qb rfl,qht rfl (hd 8 rfl) fun v h=>h⟩
          · exact ⟨qb rfl,qe1 rfl (hd 8 rfl) rfl⟩
          · exact ⟨qb rfl,qdr rfl (hd 8 rfl) rfl⟩
          · exact ⟨qb rfl,qma rfl hv.size fun v w' h=>h⟩
          · exact ⟨qb rfl,qn8 rfl hv.size fun v w' h=>h⟩
         | 1,_ =>
          refine ⟨?_,?_,?_,trivial⟩ <;> intro a1 wx hv hf hd
          · exact ⟨qb rfl,qht rfl (hd 8 rfl) fun v h=>h⟩
          · exact ⟨qb rfl,qe1 rfl (hd 8 rfl) rfl⟩
          · exact ⟨qb rfl,qdr rfl (hd 8 rfl) rfl⟩
         | 2,_ =>
          refine ⟨?_,?_,?_,?_,trivial⟩ <;> intro a1 wx hv hf hd
          · exact ⟨qb rfl,qe1 rfl (hd 8 rfl) rfl⟩
          · exact ⟨qb rfl,qdr rfl (hd 8 rfl) rfl⟩
          · exact ⟨qb rfl,qr rfl (hd 11 rfl)⟩
          · exact ⟨qb rfl,qr rfl (hd 12 rfl)⟩
       · intro p hp
         match p,hp with
         | 0,_ =>
          intro a2 wx hv hf hd;refine ⟨qb rfl,qp3 rfl (hd 13 rfl) (hd 9 rfl) HNM.out fun q' cs eq hN hr hst=>?_⟩;exact ⟨undef,rfl,below_setRow hv hN _,trivial,⟨.inr fun _ _ _=>trivial,.inr fun _ _ _=>trivial,.inr fun _ _ _=>trivial,.inr fun _ _ _=>trivial,.inr fun _ _ _=>trivial,.inr fun _ _ _=>trivial,.inr fun _ _ _=>trivial,.inr fun _ _ _=>trivial,.inr fun _ _ h=>NxV.rowZ h HNM.out hr qj8 qfq,.inr fun _ _ _=>trivial,.inr fun _ _ h=>AgP.rowZ h hr qfq,.inr fun _ _ h=>h,.inr fun _ _ h=>h,.inr fun v hq2 _=>by rw [hq2 _ _ rfl rfl]; exact hst,.inr fun _ _ h=>PNew.rowR h hr,.inl rfl,.inr fun _ _ _=>trivial,.inr fun _ _ h=>h.elim,.inr fun _ _ h=>h.elim,trivial⟩⟩
         | 1,_ =>
          intro a2 wx hv hf hd;refine ⟨qb rfl,qo1 rfl (hd 14 rfl) (hd 10 rfl) fun q' cs eq hN hr hst=>?_⟩;exact ⟨undef,rfl,below_setRow hv hN _,trivial,⟨.inr fun _ _ _=>trivial,.inr fun _ _ _=>trivial,.inr fun _ _ _=>trivial,.inr fun _ _ _=>trivial,.inr fun _ _ _=>trivial,.inr fun _ _ _=>trivial,.inr fun _ _ _=>trivial,.inr fun _ _ _=>trivial,.inr fun _ _ h=>NxV.rowZ h HNM.out hr qr2 qqq,.inr fun _ _ _=>trivial,.inr fun _ _ _=>trivial,.inr fun _ _ h=>h,.inr fun _ _ h=>h,.inr fun _ _ h=>RSt.rowP h HNM.out hr,.inr fun v hq2 _=>by rw [hq2 _ _ rfl rfl]; exact hst,.inr fun _ _ _=>trivial,.inl rfl,.inr fun _ _ h=>h.elim,.inr fun _ _ h=>h.elim,trivial⟩⟩
       · intro a2 W14 hv hf hh
         obtain ⟨q29,e29,hn29,hra⟩ : RSt wc.heap.size (fun k=>k≠g0∧k≠g1,fun _=>True) X.r W14 (a2.eval (.tmp 29)):=hh 13 (by decide);obtain ⟨q30,e30,hjk,hrb⟩ : PSt wc.heap.size X W14 (a2.eval (.tmp 30)):=hh 14 (by decide);clear hjk;have e31:a2.eval (.tmp 31) = .int .i64 (X.n:Int):=hh 17 (by decide);have e32:a2.eval (.tmp 32) = .int .i64 X.er:=hh 18 (by decide);clear hh;rw [jl hf];clear hf;simp only [kg,e29,e30,e31,e32];generalize a2.eval (.tmp 83)=u83;generalize a2.eval (.tmp 84)=u84;generalize a2.eval (.tmp 85)=u85;generalize a2.eval (.tmp 86)=u86;generalize a2.eval (.tmp 87)=u87;generalize a2.eval (.tmp 88)=u88;generalize a2.eval (.tmp 89)=u89;generalize a2.eval (.tmp 90)=u90;generalize a2.eval (.tmp 91)=u91;generalize a2.eval (.tmp 92)=u92;generalize a2.eval (.tmp 93)=u93;generalize a2.eval (.tmp 94)=u94;generalize a2.eval (.tmp 95)=u95;clear e29 e30 e31 e32 a2;simp only [Act.put,List.setIfInBounds_toArray,List.set_cons_succ,List.set_cons_zero];refine hK _ _ ?_;clear hK;have HB14:=Box.mk (show Below wc.heap.size wc W14 from hv);have H29:=Box.mk hra;have H30:=Box.mk hrb;clear hv hra hrb;go_upto_region 15 with fail
         have HJ15:=Box.mk (show NxS w (fun k=>k≠g0∧k≠g1,fun _=>True) g0 g1 s ba b bc bodyI W14 from ⟨HJ.out.x.keep HB14.out,HJ.out.y.keep HB14.out,HJ.out.by_.keep HB14.out,qe HJ.out.bl HB14.out,HJ.out.ok,HJ.out.nm,HJ.out.len⟩);have HSZ:=Box.mk (show g0<wc.heap.size∧g1<wc.heap.size from ⟨HJ.out.x.lt,HJ.out.y.lt⟩);clear HJ;have HJ:=HJ15;clear HJ15;rename_i K hK;refine qz [15,16] (fun p=>match p with | 0=>[0,1,2,3,4,5,6,7,8,9,10,11,12,13,14] | 1=>[10,11,12] | _=>[11,12,17,18])
          (fun p=>match p with | 0=>[.srow (fun k=>k≠g0∧k≠g1,fun _=>True) s,.bytes b,.val (.int .i64 (nq:Int)),.bytes (b.take nq),.val (.int .i64 mostI),.val (.int .i64 bodyI),.val (.int .i64 room),.nxt (fun k=>k≠g0∧k≠g1,fun _=>True) X,.nxt (fun k=>k≠g0∧k≠g1,fun _=>True) X,.srow (fun k=>k≠g0∧k≠g1,fun _=>True) X.r,.prow X,.val (.int .i64 (X.n:Int)),.val (.int .i64 X.er),.rnew W14.heap.size,.pnew W14.heap.size,.any,.any,.nope,.nope] | 1=>[.any,.any,.any,.any,.any,.any,.any,.any,.nxt (fun k=>k≠g0∧k≠g1,fun _=>True) X,.any,.prow X,.val (.int .i64 (X.n:Int)),.val (.int .i64 X.er),.rst W14.heap.size (fun k=>k≠g0∧k≠g1,fun _=>True) X.r,.pnew W14.heap.size,.any,.any,.nope,.nope] | _=>[.any,.any,.any,.any,.any,.any,.any,.any,.nxt (fun k=>k≠g0∧k≠g1,fun _=>True) X,.any,.any,.val (.int .i64 (X.n:Int)),.val (.int .i64 X.er),.rst W14.heap.size (fun k=>k≠g0∧k≠g1,fun _=>True) X.r,.pst W14.heap.size X,.any,.any,.val (.int .i64 (X.n:Int)),.val (.int .i64 X.er)])
          (fun _ wx=>Below W14.heap.size W14 wx)
          (by kernel_rfl) (by kernel_rfl) (by kernel_rfl) (by kernel_rfl) (by kernel_rfl) (by kernel_rfl) (fun _ _ _ h hb=>qe h hb) (Below.refl _ _) ?_ ?_ ?_
         · intro p hp
           match p,hp with
           | 0,_ =>
            refine ⟨?_,?_,?_,?_,?_,?_,?_,?_,?_,?_,?_,?_,?_,?_,?_,trivial⟩ <;> intro a1 wx hv hf hd
            · exact ⟨qb rfl,qbd rfl (hf.base 25 rfl) (HJ.out.y.keep hv) fun v h=>h⟩
            · exact ⟨qb rfl,qi rfl ⟨_,_,hf.base 23 rfl,HJ.out.by_.keep hv⟩⟩
            · exact ⟨qb rfl,qi rfl (hf.base 27 rfl)⟩
            · exact ⟨qb rfl,qqg rfl (hd 1 rfl) (hd 2 rfl) HNQ.out fun v h=>h⟩
            · exact ⟨qb rfl,qi rfl (hf.base 8 rfl)⟩
            · exact ⟨qb rfl,qi rfl (hf.base 9 rfl)⟩
            · exact ⟨qb rfl,qi rfl (hf.base 28 rfl)⟩
            · exact ⟨qb rfl,qyy rfl (fun _=>trivial) (hd 0 rfl) (hd 3 rfl) (hd 4 rfl) (hd 5 rfl) (hd 6 rfl) (by rw [List.length_take]; have:=HJ.out.len; omega) HJ.out.ok HBD.out HRM.out (fun k hk=>⟨by have h1:=HJ.out.x.lt; have h2:=HJ.out.y.lt; have h3:=hv.size; exact ⟨by omega,by omega⟩,trivial⟩) fun v w' h=>by rw [← HX.out] at h; exact h⟩
            · exact ⟨qb rfl,qi rfl (hd 7 rfl)⟩
            · exact ⟨qb rfl,qlv rfl (hd 8 rfl) fun v h=>h⟩
            · exact ⟨qb rfl,qht rfl (hd 8 rfl) fun v h=>h⟩
            · exact ⟨qb rfl,qe1 rfl (hd 8 rfl) rfl⟩
            · exact ⟨qb rfl,qdr rfl (hd 8 rfl) rfl⟩
            · exact ⟨qb rfl,qma rfl hv.size fun v w' h=>h⟩
            · exact ⟨qb rfl,qn8 rfl hv.size fun v w' h=>h⟩
           | 1,_ =>
            refine ⟨?_,?_,?_,trivial⟩ <;> intro a1 wx hv hf hd
            · exact ⟨qb rfl,qht rfl (hd 8 rfl) fun v h=>h⟩
            · exact ⟨qb rfl,qe1 rfl (hd 8 rfl) rfl⟩
            · exact ⟨qb rfl,qdr rfl (hd 8 rfl) rfl⟩
           | 2,_ =>
            refine ⟨?_,?_,?_,?_,trivial⟩ <;> intro a1 wx hv hf hd
            · exact ⟨qb rfl,qe1 rfl (hd 8 rfl) rfl⟩
            · exact ⟨qb rfl,qdr rfl (hd 8 rfl) rfl⟩
            · exact ⟨qb rfl,qr rfl (hd 11 rfl)⟩
            · exact ⟨qb rfl,qr rfl (hd 12 rfl)⟩
         · intro p hp
           match p,hp with
           | 0,_ =>
            intro a2 wx hv hf hd;refine ⟨qb rfl,qp3 rfl (hd 13 rfl) (hd 9 rfl) HNM.out fun q' cs eq hN hr hst=>?_⟩;exact ⟨undef,rfl,below_setRow hv hN _,trivial,⟨.inr fun _ _ _=>trivial,.inr fun _ _ _=>trivial,.inr fun _ _ _=>trivial,.inr fun _ _ _=>trivial,.inr fun _ _ _=>trivial,.inr fun _ _ _=>trivial,.inr fun _ _ _=>trivial,.inr fun _ _ _=>trivial,.inr fun _ _ h=>NxV.rowZ h HNM.out hr qj8 qfq,.inr fun _ _ _=>trivial,.inr fun _ _ h=>AgP.rowZ h hr qfq,.inr fun _ _ h=>h,.inr fun _ _ h=>h,.inr fun v hq2 _=>by rw [hq2 _ _ rfl rfl]; exact hst,.inr fun _ _ h=>PNew.rowR h hr,.inl rfl,.inr fun _ _ _=>trivial,.inr fun _ _ h=>h.elim,.inr fun _ _ h=>h.elim,trivial⟩⟩
           | 1,_ =>
            intro a2 wx hv hf hd;refine ⟨qb rfl,qo1 rfl (hd 14 rfl) (hd 10 rfl) fun q' cs eq hN hr hst=>?_⟩;exact ⟨undef,rfl,below_setRow hv hN _,trivial,⟨.inr fun _ _ _=>trivial,.inr fun _ _ _=>trivial,.inr fun _ _ _=>trivial,.inr fun _ _ _=>trivial,.inr fun _ _ _=>trivial,.inr fun _ _ _=>trivial,.inr fun _ _ _=>trivial,.inr fun _ _ _=>trivial,.inr fun _ _ h=>NxV.rowZ h HNM.out hr qr2 qqq,.inr fun _ _ _=>trivial,.inr fun _ _ _=>trivial,.inr fun _ _ h=>h,.inr fun _ _ h=>h,.inr fun _ _ h=>RSt.rowP h HNM.out hr,.inr fun v hq2 _=>by rw [hq2 _ _ rfl rfl]; exact hst,.inr fun _ _ _=>trivial,.inl rfl,.inr fun _ _ h=>h.elim,.inr fun _ _ h=>h.elim,trivial⟩⟩
         · intro a2 W15 hv hf hh
           obtain ⟨q33,e33,hn33,hra⟩ : RSt W14.heap.size (fun k=>k≠g0∧k≠g1,fun _=>True) X.r W15 (a2.eval (.tmp 33)):=hh 13 (by decide);obtain ⟨q34,e34,hjk,hrb⟩ : PSt W14.heap.size X W15 (a2.eval (.tmp 34)):=hh 14 (by decide);clear hjk;have e35:a2.eval (.tmp 35) = .int .i64 (X.n:Int):=hh 17 (by decide);have e36:a2.eval (.tmp 36) = .int .i64 X.er:=hh 18 (by decide);clear hh;rw [jl hf];clear hf;simp only [kg,e33,e34,e35,e36];generalize a2.eval (.tmp 96)=u96;generalize a2.eval (.tmp 97)=u97;generalize a2.eval (.tmp 98)=u98;generalize a2.eval (.tmp 99)=u99;generalize a2.eval (.tmp 100)=u100;generalize a2.eval (.tmp 101)=u101;generalize a2.eval (.tmp 102)=u102;generalize a2.eval (.tmp 103)=u103;generalize a2.eval (.tmp 104)=u104;generalize a2.eval (.tmp 105)=u105;generalize a2.eval (.tmp 106)=u106;generalize a2.eval (.tmp 107)=u107;generalize a2.eval (.tmp 108)=u108;clear e33 e34 e35 e36 a2;simp only [Act.put,List.setIfInBounds_toArray,List.set_cons_succ,List.set_cons_zero];refine hK _ _ ?_;clear hK;have HB15:=Box.mk (show Below W14.heap.size W14 W15 from hv);have H29:=Box.mk (H29.out.keep hv);have H30:=Box.mk (H30.out.keep hv);have H33:=Box.mk hra;have HQ:=Box.mk (show wc.heap.size≤q29∧wc.heap.size≤q33 from ⟨hn29,Nat.le_trans HB14.out.size hn33⟩);clear hn29 hn33;have H34:=Box.mk hrb;have HJ:=Box.mk (show NxS w (fun k=>k≠g0∧k≠g1,fun _=>True) g0 g1 s ba b bc bodyI W15 from ⟨HJ.out.x.keep hv,HJ.out.y.keep hv,HJ.out.by_.keep hv,qe HJ.out.bl hv,HJ.out.ok,HJ.out.nm,HJ.out.len⟩);clear hv hra hrb;go_upto_region 16 with fail
           rename_i K hK;have P30:∀ {w3:World},Below W15.heap.size W15 w3→w3.cell? ⟨q30,0,none⟩=some (.int .i64 X.kind) ∧ ∃ pa pc,w3.cell? ⟨q30,1,none⟩=some (.slice pa (List.length X.data) pc)∧qg w3 pa X.data pc:=fun hb=>by
            obtain ⟨pa,pc,h1,h2⟩:=H30.out.keep hb;exact ⟨by rw [cell_of_row _ _ _ _ _ _ h1]; rfl,pa,pc,by rw [cell_of_row _ _ _ _ _ _ h1]; rfl,h2⟩
           have P34:∀ {w3:World},Below W15.heap.size W15 w3→w3.cell? ⟨q34,0,none⟩=some (.int .i64 X.kind) ∧ ∃ pa pc,w3.cell? ⟨q34,1,none⟩=some (.slice pa (List.length X.data) pc)∧qg w3 pa X.data pc:=fun hb=>by
            obtain ⟨pa,pc,h1,h2⟩:=H34.out.keep hb;exact ⟨by rw [cell_of_row _ _ _ _ _ _ h1]; rfl,pa,pc,by rw [cell_of_row _ _ _ _ _ _ h1]; rfl,h2⟩
           refine qas (S:=[.val (.int .i64 X.er),.val (.int .i64 X.er),.val (.bool false),.val (.bool false),.val (.int .i64 (X.n:Int)),.val (.int .i64 (X.n:Int)),.val (.bool false),.val (.bool false),.val (.bool false),.val (.pointer (some ⟨q30,0,none⟩)),.val (.int .i64 X.kind),.val (.pointer (some ⟨q34,0,none⟩)),.val (.int .i64 X.kind),.val (.bool false),.val (.bool false),.val (.bool false),.val (.pointer (some ⟨q30,1,none⟩)),.bytes X.data,.val (.string ⟨X.data.toArray⟩),.val (.pointer (some ⟨q34,1,none⟩)),.bytes X.data,.val (.string ⟨X.data.toArray⟩),.val (.bool false),.val (.bool false),.val (.bool false),.srow (fun k=>k≠g0∧k≠g1,fun _=>True) X.r,.srow (fun k=>k≠g0∧k≠g1,fun _=>True) X.r,.val (.bool true),.val (.bool false),.val (.bool false),.val (.bool false),.srow (fun k=>k≠g0∧k≠g1,fun _=>True) X.r,.val (.bool (qjm X.r)),.srow (fun k=>k≠g0∧k≠g1,fun _=>True) X.r,.val (.bool (qjm X.r)),.val (.bool false),.val (.bool false)])
            (by kernel_rfl) (by kernel_rfl) (by kernel_rfl) ?_ ?_
           · refine ⟨?_,?_,?_,?_,?_,?_,?_,?_,?_,?_,?_,?_,?_,?_,?_,?_,?_,?_,?_,?_,?_,?_,?_,?_,?_,?_,?_,?_,?_,?_,?_,?_,?_,?_,?_,?_,?_,trivial⟩ <;> intro a1 w3 hb hf hd
             · exact ⟨qb rfl,qi rfl (hf.base 32 rfl)⟩
             · exact ⟨qb rfl,qi rfl (hf.base 36 rfl)⟩
             · exact ⟨qb rfl,jcp rfl (hd 0 rfl) (hd 1 rfl) rfl⟩
             · exact ⟨qb rfl,qi rfl (hd 2 rfl)⟩
             · exact ⟨qy rfl rfl (hd 3 rfl),qi rfl (hf.base 31 rfl)⟩
             · exact ⟨qy rfl rfl (hd 3 rfl),qi rfl (hf.base 35 rfl)⟩
             · exact ⟨qy rfl rfl (hd 3 rfl),qws rfl (hd 4 rfl) (hd 5 rfl) rfl⟩
             · exact ⟨qb rfl,qg9 rfl (hd 3 rfl) (hd 6 rfl)⟩
             · exact ⟨qb rfl,qi rfl (hd 7 rfl)⟩
             · exact ⟨qy rfl rfl (hd 8 rfl),qe4 rfl (hf.base 30 rfl) (by decide) rfl⟩
             · exact ⟨qy rfl rfl (hd 8 rfl),jg rfl (hd 9 rfl) (P30 hb).1 (qay _) rfl⟩
             · exact ⟨qy rfl rfl (hd 8 rfl),qe4 rfl (hf.base 34 rfl) (by decide) rfl⟩
             · exact ⟨qy rfl rfl (hd 8 rfl),jg rfl (hd 11 rfl) (P34 hb).1 (qay _) rfl⟩
             · exact ⟨qy rfl rfl (hd 8 rfl),qws rfl (hd 10 rfl) (hd 12 rfl) rfl⟩
             · exact ⟨qb rfl,qg9 rfl (hd 8 rfl) (hd 13 rfl)⟩
             · exact ⟨qb rfl,qi rfl (hd 14 rfl)⟩
             · exact ⟨qy rfl rfl (hd 15 rfl),qe4 rfl (hf.base 30 rfl) (by decide) rfl⟩
             · obtain ⟨pa,pc,h1,h2⟩:=(P30 hb).2
               exact ⟨qy rfl rfl (hd 15 rfl),jg rfl (hd 16 rfl) h1 (ql2 _) ⟨pa,pc,rfl,h2⟩⟩
             · exact ⟨qy rfl rfl (hd 15 rfl),qj6 rfl (hd 17 rfl) rfl⟩
             · exact ⟨qy rfl rfl (hd 15 rfl),qe4 rfl (hf.base 34 rfl) (by decide) rfl⟩
             · obtain ⟨pa,pc,h1,h2⟩:=(P34 hb).2
               exact ⟨qy rfl rfl (hd 15 rfl),jg rfl (hd 19 rfl) h1 (ql2 _) ⟨pa,pc,rfl,h2⟩⟩
             · exact ⟨qy rfl rfl (hd 15 rfl),qj6 rfl (hd 20 rfl) rfl⟩
             · exact ⟨qy rfl rfl (hd 15 rfl),jcl rfl (hd 18 rfl) (hd 21 rfl) rfl⟩
             · exact ⟨qb rfl,qg9 rfl (hd 15 rfl) (hd 22 rfl)⟩
             · exact ⟨qb rfl,qi rfl (hd 23 rfl)⟩
             · exact ⟨qy rfl rfl (hd 24 rfl),qbd rfl (hf.base 29 rfl) (H29.out.keep hb) fun v h=>h⟩
             · exact ⟨qy rfl rfl (hd 24 rfl),qbd rfl (hf.base 33 rfl) (H33.out.keep hb) fun v h=>h⟩
             · obtain ⟨fa1,fc1,ga1,gc1,la1,lc1,e1,m1⟩:=hd 25 rfl
               obtain ⟨fa2,fc2,ga2,gc2,la2,lc2,e2,m2⟩:=hd 26 rfl;refine ⟨qy rfl rfl (hd 24 rfl),jz rfl (by kernel_rfl) ?_⟩;show Calls _ _ #[a1.eval (.tmp 134),a1.eval (.tmp 135)] w3 _
               rw [show a1.eval (.tmp 134)=_ from e1,show a1.eval (.tmp 135)=_ from e2];refine (qne X.r fa1 ga1 la1 fa2 ga2 la2 fc1 gc1 lc1 fc2 gc2 lc2 w3 m1.m.f1 m2.m.f1 m1.m.f2 m2.m.f2 m1.m.ln m2.m.ln HLN.out.1 HLN.out.2).mono ?_;rintro e w' ⟨rfl,hb'⟩;exact ⟨_,rfl,hb',rfl⟩
             · exact ⟨qy rfl rfl (hd 24 rfl),jd2 rfl (hd 27 rfl) rfl⟩
             · exact ⟨qb rfl,qg9 rfl (hd 24 rfl) (hd 28 rfl)⟩
             · exact ⟨qb rfl,qi rfl (hd 29 rfl)⟩
             · exact ⟨qy rfl rfl (hd 30 rfl),qbd rfl (hf.base 29 rfl) (H29.out.keep hb) fun v h=>h⟩
             · obtain ⟨fa1,fc1,ga1,gc1,la1,lc1,e1,m1⟩:=hd 31 rfl
               refine ⟨qy rfl rfl (hd 30 rfl),jz rfl (by kernel_rfl) ?_⟩;show Calls _ _ #[a1.eval (.tmp 140)] w3 _
               rw [show a1.eval (.tmp 140)=_ from e1];refine (qng X.r fa1 ga1 la1 fc1 gc1 lc1 w3).mono ?_;rintro e w' ⟨rfl,hb'⟩;exact ⟨_,rfl,hb',rfl⟩
             · exact ⟨qy rfl rfl (hd 30 rfl),qbd rfl (hf.base 33 rfl) (H33.out.keep hb) fun v h=>h⟩
             · obtain ⟨fa1,fc1,ga1,gc1,la1,lc1,e1,m1⟩:=hd 33 rfl
               refine ⟨qy rfl rfl (hd 30 rfl),jz rfl (by kernel_rfl) ?_⟩;show Calls _ _ #[a1.eval (.tmp 142)] w3 _
               rw [show a1.eval (.tmp 142)=_ from e1];refine (qr3 X.r fa1 ga1 la1 fc1 gc1 lc1 w3).mono ?_;rintro e w' ⟨rfl,hb'⟩;exact ⟨_,rfl,hb',rfl⟩
             · exact ⟨qy rfl rfl (hd 30 rfl),jcq rfl (hd 32 rfl) (hd 34 rfl) rfl⟩
             · exact ⟨qb rfl,qg9 rfl (hd 30 rfl) (hd 35 rfl)⟩
           · intro a2 W16 hb hf hh
             have e145:a2.eval (.tmp 145) = .bool false:=hh 36 (by decide);clear hh P30 P34;rw [jl hf];clear hf;simp only [kg,e145];generalize a2.eval (.tmp 109)=u109;generalize a2.eval (.tmp 110)=u110;generalize a2.eval (.tmp 111)=u111;generalize a2.eval (.tmp 112)=u112;generalize a2.eval (.tmp 113)=u113;generalize a2.eval (.tmp 114)=u114;generalize a2.eval (.tmp 115)=u115;generalize a2.eval (.tmp 116)=u116;generalize a2.eval (.tmp 117)=u117;generalize a2.eval (.tmp 118)=u118;generalize a2.eval (.tmp 119)=u119;generalize a2.eval (.tmp 120)=u120;generalize a2.eval (.tmp 121)=u121;generalize a2.eval (.tmp 122)=u122;generalize a2.eval (.tmp 123)=u123;generalize a2.eval (.tmp 124)=u124;generalize a2.eval (.tmp 125)=u125;generalize a2.eval (.tmp 126)=u126;generalize a2.eval (.tmp 127)=u127;generalize a2.eval (.tmp 128)=u128;generalize a2.eval (.tmp 129)=u129;generalize a2.eval (.tmp 130)=u130;generalize a2.eval (.tmp 131)=u131;generalize a2.eval (.tmp 132)=u132;generalize a2.eval (.tmp 133)=u133;generalize a2.eval (.tmp 134)=u134;generalize a2.eval (.tmp 135)=u135;generalize a2.eval (.tmp 136)=u136;generalize a2.eval (.tmp 137)=u137;generalize a2.eval (.tmp 138)=u138;generalize a2.eval (.tmp 139)=u139;generalize a2.eval (.tmp 140)=u140;generalize a2.eval (.tmp 141)=u141;generalize a2.eval (.tmp 142)=u142;generalize a2.eval (.tmp 143)=u143;generalize a2.eval (.tmp 144)=u144;clear e145 a2;simp only [Act.put,List.setIfInBounds_toArray,List.set_cons_succ,List.set_cons_zero];refine hK _ _ ?_;clear hK;have HB16:=Box.mk (show Below W15.heap.size W15 W16 from hb);clear hb;by_cases her:X.er=0
             · have HXN:=Box.mk (HOX.out her).2
               have HOKX:=Box.mk (HOX.out her).1;have herB:(X.er != 0)=false:=by rw [her]; rfl
               clear her;go_upto_region 20 with fail
               have HE:=Box.mk (show NxE w (fun k=>k≠g0∧k≠g1,fun _=>True) g0 g1 q29 q33 s s X.r ba b bc W16 from ⟨HJ.out.x.keep HB16.out,HJ.out.y.keep HB16.out,H29.out.keep HB16.out,H33.out.keep HB16.out,HJ.out.by_.keep HB16.out,qe HJ.out.bl HB16.out,⟨HGG.out.1,by have:=HSZ.out; have:=HQ.out; omega,by have:=HSZ.out; have:=HQ.out; omega,by have:=HSZ.out; have:=HQ.out; omega,by have:=HSZ.out; have:=HQ.out; omega⟩,HGG.out.2⟩);have hlen2:=HJ.out.len;have HJN:=Box.mk HJ.out.nm;clear HJ H29 H30 H33 H34 herB;refine qco [5,6] (fun p=>match p with | 0=>[0,1,2,3,4] | 1=>[1,2,3,4] | _=>[2,3,4,7])
                (fun p=>match p with | 0=>[.srow (fun k=>k≠g0∧k≠g1,fun _=>True) X.r,.srow (fun k=>k≠g0∧k≠g1,fun _=>True) X.r,.val (.slice ba b.length bc),.val (.int .i64 (X.n:Int)),.bytes (b.drop X.n),.any,.any,.nope] | 1=>[.any,.srow (fun k=>k≠g0∧k≠g1,fun _=>True) X.r,.val (.slice ba b.length bc),.val (.int .i64 (X.n:Int)),.bytes (b.drop X.n),.any,.any,.nope] | _=>[.any,.any,.val (.slice ba b.length bc),.val (.int .i64 (X.n:Int)),.bytes (b.drop X.n),.any,.any,.bytes (b.drop X.n)])
                (fun p=>match p with | 0=>NxE w (fun k=>k≠g0∧k≠g1,fun _=>True) g0 g1 q29 q33 s s X.r ba b bc | 1=>NxE w (fun k=>k≠g0∧k≠g1,fun _=>True) g0 g1 q29 q33 X.r s X.r ba b bc | _=>NxE w (fun k=>k≠g0∧k≠g1,fun _=>True) g0 g1 q29 q33 X.r X.r X.r ba b bc)
                (by kernel_rfl) (by kernel_rfl) (by kernel_rfl) (by kernel_rfl) (by kernel_rfl) (by kernel_rfl) ?_ HE.out ?_ ?_ ?_
               · intro p wa wb h hb
                 match p,h with
                 | 0,h=>exact NxE.keep h hb
                 | 1,h=>exact NxE.keep h hb
                 | (_+2),h=>exact NxE.keep h hb
               · intro p hp
                 match p,hp with
                 | 0,_ =>
                  refine ⟨?_,?_,?_,?_,?_,trivial⟩ <;> intro a1 wx hv hf hd
                  · exact ⟨qb rfl,qbd rfl (hf.base 29 rfl) hv.ra fun v h=>h⟩
                  · exact ⟨qb rfl,qbd rfl (hf.base 33 rfl) hv.rb fun v h=>h⟩
                  · exact ⟨qb rfl,qi rfl (hf.base 23 rfl)⟩
                  · exact ⟨qb rfl,qi rfl (hf.base 31 rfl)⟩
                  · exact ⟨qb rfl,qgq rfl ⟨_,_,hd 2 rfl,hv.by_⟩ (hd 3 rfl) HXN.out fun v h=>h⟩
                 | 1,_ =>
                  refine ⟨?_,?_,?_,?_,trivial⟩ <;> intro a1 wx hv hf hd
                  · exact ⟨qb rfl,qbd rfl (hf.base 33 rfl) hv.rb fun v h=>h⟩
                  · exact ⟨qb rfl,qi rfl (hf.base 23 rfl)⟩
                  · exact ⟨qb rfl,qi rfl (hf.base 31 rfl)⟩
                  · exact ⟨qb rfl,qgq rfl ⟨_,_,hd 2 rfl,hv.by_⟩ (hd 3 rfl) HXN.out fun v h=>h⟩
                 | 2,_ =>
                  refine ⟨?_,?_,?_,?_,trivial⟩ <;> intro a1 wx hv hf hd
                  · exact ⟨qb rfl,qi rfl (hf.base 23 rfl)⟩
                  · exact ⟨qb rfl,qi rfl (hf.base 31 rfl)⟩
                  · exact ⟨qb rfl,qgq rfl ⟨_,_,hd 2 rfl,hv.by_⟩ (hd 3 rfl) HXN.out fun v h=>h⟩
                  · exact ⟨qb rfl,qr rfl (hd 4 rfl)⟩
               · intro p hp
                 match p,hp with
                 | 0,_ =>
                  intro a2 wx hv hf hd;refine ⟨qb rfl,qjy rfl (hf.base 24 rfl) hv.x (fun e=>e.1 rfl) (hd 0 rfl) fun cs ds hr hu hst=>?_⟩;exact ⟨undef,rfl,⟨hst,hv.y.rowL (fun e=>hv.ne.1 e.symm) (fun e=>e.1 rfl) hr hu,hv.ra.rowL (fun e=>hv.ne.2.1 e.symm) (fun e=>e.1 rfl) hr hu,hv.rb.rowL (fun e=>hv.ne.2.2.1 e.symm) (fun e=>e.1 rfl) hr hu,jc hr hu hv.by_,below_setRow hv.bl hv.lo.1 _,hv.ne,hv.lo⟩,trivial,⟨.inr fun _ _ _=>trivial,.inr fun _ _ h=>AgS.rowL h (fun e=>e.1 rfl) hr hu,.inr fun _ _ h=>h,.inr fun _ _ h=>h,.inr fun _ _ h=>qbw hr hu h,.inl rfl,.inr fun _ _ _=>trivial,.inr fun _ _ h=>h.elim,trivial⟩⟩
                 | 1,_ =>
                  intro a2 wx hv hf hd;refine ⟨qb rfl,qjy rfl (hf.base 25 rfl) hv.y (fun e=>e.2 rfl) (hd 1 rfl) fun cs ds hr hu hst=>?_⟩;exact ⟨undef,rfl,⟨hv.x.rowL hv.ne.1 (fun e=>e.2 rfl) hr hu,hst,hv.ra.rowL (fun e=>hv.ne.2.2.2.1 e.symm) (fun e=>e.2 rfl) hr hu,hv.rb.rowL (fun e=>hv.ne.2.2.2.2 e.symm) (fun e=>e.2 rfl) hr hu,jc hr hu hv.by_,below_setRow hv.bl hv.lo.2 _,hv.ne,hv.lo⟩,trivial,⟨.inr fun _ _ _=>trivial,.inr fun _ _ _=>trivial,.inr fun _ _ h=>h,.inr fun _ _ h=>h,.inr fun _ _ h=>qbw hr hu h,.inr fun _ _ _=>trivial,.inl rfl,.inr fun _ _ h=>h.elim,trivial⟩⟩
               · intro a2 W20 hv hf hh
                 obtain ⟨da,dc,e23,hdb⟩ : qcf W20 (a2.eval (.tmp 23)) (b.drop X.n):=hh 7 (by decide);clear hh;rw [jl hf];clear hf;simp only [kg,e23];generalize a2.eval (.tmp 149)=u149;generalize a2.eval (.tmp 150)=u150;generalize a2.eval (.tmp 151)=u151;generalize a2.eval (.tmp 152)=u152;generalize a2.eval (.tmp 153)=u153;clear e23 a2;simp only [Act.put,List.setIfInBounds_toArray,List.set_cons_succ,List.set_cons_zero];have HJ2:=Box.mk (show NxS w (fun k=>k≠g0∧k≠g1,fun _=>True) g0 g1 X.r da (b.drop X.n) dc bodyI W20 from ⟨hv.x,hv.y,hdb,hv.bl,HOKX.out,HNM.out,by rw [List.length_drop]; omega⟩);obtain ⟨b3,hb3⟩ : ∃ b3,b3=b.drop X.n:=⟨_,rfl⟩;rw [← hb3] at HJ2 ⊢;clear hv hdb hb3 HE;go_wp2_with fail;go_roundw
                 case rel=>exact ⟨i+1,by omega,by go_num,X.r,b3,da,dc,rfl,HJ2⟩
                 case measure=>simp [intOf]; omega
             · have herB:(X.er != 0)=true:=by rw [bne_iff_ne]; exact her
               clear her;go_wp2_with fail;refine (qol mm _ (HOK.out.keep (qe HJ.out.bl HB16.out))).mono ?_;rintro e wz ⟨rfl,hbz⟩;go_wp2_with fail;go_ret;exact ⟨rfl,qe (qe HJ.out.bl HB16.out) hbz⟩
   · go_wp2_with fail
     refine (qol mm _ (HOK.out.keep HJ.out.bl)).mono ?_;rintro e wz ⟨rfl,hbz⟩;go_wp2_with fail;go_ret;exact ⟨rfl,qe HJ.out.bl hbz⟩
end Go.Proofs.YtflhjpokjdjbpaaGreatDoor
namespace Go.Proofs.YtflhjpokjdjbpaaGreatDoor
open Go.ChangeShapes Go.WideShapes Go.ChangeAt Go.RowKit
theorem jet {x:Int} (h:(Lit.int .i64 x).wf=true):-9223372036854775808≤x∧x≤9223372036854775807:=bounds_i64 h
theorem qk3 {H:Type} {enc:TypeId × Value→H} {W:World} {a:Option Addr} {len cap:Nat} {d:DataW H} {ps:List MemPlace} {base:Nat}
  (h:DataW.Trod enc Tryz.prog W base (fun _=>true) true 22 (.slice a len cap) d ps):qgu W a len∧len≤maxLen:=by
 obtain ⟨fuel,hf⟩:=h;rcases open_ints Tryz.underlying22 Tryz.underlying3 (by kernel_rfl) hf with ⟨hcs,_⟩ | ⟨x,l,c,zs,hcs,_,hl,hm,hz,_,hcell,hwz⟩
 · simp [Value.cells] at hcs
   obtain ⟨rfl,rfl,rfl⟩:=hcs;exact ⟨fun k hk=>absurd hk (Nat.not_lt_zero _),Nat.zero_le _⟩
 · simp [Value.cells] at hcs
   obtain ⟨rfl,rfl,rfl⟩:=hcs;have hz':zs.length=cap:=by simpa using hz
   refine ⟨fun k hk=>?_,Nat.le_trans hl hm⟩;have hk':k<zs.length:=by omega
   have e:zs.getD k 0=zs[k]:=by rw [List.getD_eq_getElem?_getD,List.getElem?_eq_getElem hk']; rfl
   refine ⟨x,zs[k],rfl,by rw [hcell k hk',e],jet (hwz zs[k] (List.getElem_mem _))⟩
end Go.Proofs.YtflhjpokjdjbpaaGreatDoor

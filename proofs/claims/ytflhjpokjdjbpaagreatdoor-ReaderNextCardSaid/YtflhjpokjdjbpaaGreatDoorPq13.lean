/- The project's reader: readChunks. The project's reader: readLength, readToClose. The project's reader: the steps of Next. -/
import Derived.Test.YtflhjpokjdjbpaaGreatDoorPq12
set_option linter.unusedVariables false
set_option linter.unusedSimpArgs false
set_option maxRecDepth 100000
set_option maxHeartbeats 4000000
namespace Go.Proofs.YtflhjpokjdjbpaaGreatDoor
open Go.RowKit
set_option linter.unusedVariables false
theorem qvb (s:RS) (b:List UInt8) (most body room:Int) (ba:Option Addr) (bc:Nat) (fa ga la:Option Addr) (fc gc lc:Nat) (g:Nat) (w:World) (hb:qg w ba b bc) (hl:b.length≤1000000) (hm:MVr w g (rowR s fa fc ga gc la lc)) (hln:qg w la s.ck.line lc) (hck:OkC s.ck) (hsz:0≤s.size∧s.size≤1000000000) (hy:0≤body∧body≤1000000000) (hr0:0≤room∧room≤1000000000) (er:Int) (c:Chk) (out:List UInt8) (n:Nat) (hF:jp (minI room (body+1-s.size)) s.ck [] 0 b=(er,c,out,n)) (hol:out.length≤1000000) (h0:er=0) (hbs:¬ body<s.size+((List.length out:Nat):Int)) (ho:0<out.length) :
  Calls Tryz.prog 61 #[.pointer (some ⟨g,0,none⟩),.slice ba b.length bc,.agg #[.int .i64 most,.int .i64 body,.int .i64 room]] w fun e w'=>∃ a cc oa oc,e = .returned (.tuple #[.agg #[.int .i64 2,.slice oa (List.length out) oc],.int .i64 n,.int .i64 0])∧MVr w' g #[.bool s.rep,.string s.meth,.int .i64 s.ph,.string s.m,.string s.t,.int .i64 s.z,.slice fa (List.length s.xs) fc,.bool s.fr,.slice none 0 0,.int .i64 s.st,.string s.rs,.int .i64 s.z2,.slice ga (List.length s.ys) gc,.slice none 0 0,.int .i64 s.fk,.int .i64 s.fl,.int .i64 s.left,.int .i64 (s.size+((List.length out:Nat):Int)),.int .i64 c.ph,.int .i64 c.left,.int .i64 c.tr,.slice a (List.length c.line) cc]∧qg w' a c.line cc∧qg w' oa out oc∧(∀ y,a=some y→c.line≠[]→w.heap.size≤y.block)∧w.grownBy w' (some g):=by
 obtain ⟨cs,hcs⟩ : ∃ cs:Array Value,cs=(rowR s fa fc ga gc la lc):=⟨_,rfl⟩;have HCS:=Box.mk hcs;rw [← hcs] at hm;have hcs22:cs.size=22:=by rw [hcs]; rfl
 clear hcs;obtain ⟨W1,hW1⟩ : ∃ W1,W1=(w.alloc (.cells #[.int .i64 most,.int .i64 body,.int .i64 room] 69)).alloc (.cells #[.int .i64 0,.slice none 0 0] 41):=⟨_,rfl⟩;have HB1:=Box.mk (show Below w.heap.size w W1 by rw [hW1]; exact qk (qd _ _) _);have HL1:=Box.mk (show LVr W1 w.heap.size most body room by rw [hW1]; exact LVr.keep (heap_alloc_new w (.cells #[.int .i64 most,.int .i64 body,.int .i64 room] 69)) (qd _ _));have HO:=Box.mk (show PVr W1 (w.heap.size+1) #[.int .i64 0,.slice none 0 0] by
  have h:=heap_alloc_new (w.alloc (.cells #[.int .i64 most,.int .i64 body,.int .i64 room] 69)) (.cells #[.int .i64 0,.slice none 0 0] 41);rw [World.size_alloc] at h;rw [hW1]; exact h)
 have HW1:=Box.mk hW1;have HM1:=Box.mk (hm.keep HB1.out);have hlt:=hm.lt;have hlw:w.heap.size+1<W1.heap.size:=(Array.getElem?_eq_some_iff.1 HO.out).1;clear hW1 hm;have HN:=Box.mk (show NoU8 cs by rw [HCS.out]; exact qw rfl);have HBB:=Box.mk (hb.keep HB1.out);have HLN:=Box.mk (hln.keep HB1.out);have H17:=Box.mk (show cs[17]? = some (.int .i64 s.size) by rw [HCS.out]; rfl);have HCK:=Box.mk hck;obtain ⟨rk,hrk⟩ : ∃ rk:Int,rk=minI room (body+1-s.size):=⟨_,rfl⟩;have hrkb:-9223372036854775808≤rk∧rk≤9223372036854775807:=by have:=qbt room (body+1-s.size); rw [hrk]; omega
 have HRK:=Box.mk hrk;have HSZ:=Box.mk hsz;have HY:=Box.mk hy;have HFE:=Box.mk (show jp rk s.ck [] 0 b=(er,c,out,n) by rw [hrk]; exact hF);obtain ⟨hsz0,hsz1⟩:=hsz;clear hb hln hck hF hrk hy;have Bh0:=Box.mk h0;clear h0;go_enter Tryz.func61,Tryz.ntmps61
 go_upto_region 1 with fail
 rw [← HW1.out];clear HW1;go_wp2_with fail;rename_i KK hKK;refine qz [15] (fun p=>match p with | 0=>[0,1,2,3,4,5,6,7,8,9,10,11,12,13,14] | _=>[11,12,13,16,17,18])
  (fun p=>match p with | 0=>[.val (.pointer (some ⟨g,0,none⟩)),.val (.pointer (some ⟨g,0,none⟩)),.val (.pointer (some ⟨g,18,none⟩)),.val (.agg #[.int .i64 s.ck.ph,.int .i64 s.ck.left,.int .i64 s.ck.tr,.slice la (List.length s.ck.line) lc]),.val (.slice ba b.length bc),.val (.pointer (some ⟨g,0,none⟩)),.val (.agg #[.int .i64 most,.int .i64 body,.int .i64 room]),.val (.int .i64 rk),.fedR W1.heap.size er c out n,.fedR W1.heap.size er c out n,.agR W1.heap.size c,.bytes out,.val (.int .i64 n),.val (.int .i64 er),.cnewR W1.heap.size,.any,.nope,.nope,.nope] | _=>[.any,.any,.any,.any,.any,.any,.any,.any,.any,.fedR W1.heap.size er c out n,.any,.bytes out,.val (.int .i64 n),.val (.int .i64 er),.cstR W1.heap.size c,.any,.bytes out,.val (.int .i64 n),.val (.int .i64 er)])
  (fun _=>fun wx=>Below W1.heap.size W1 wx)
  (by kernel_rfl) (by kernel_rfl) (by kernel_rfl) (by kernel_rfl) (by kernel_rfl) (by kernel_rfl) ?_ (Below.refl _ _) ?_ ?_ ?_
 · intro p wa wb h hb
   exact qe h hb
 · intro p hp
   match p,hp with
   | 0,_ =>
    refine ⟨?_,?_,?_,?_,?_,?_,?_,?_,?_,?_,?_,?_,?_,?_,?_,trivial⟩ <;> intro a1 wx hv hf hd
    · exact ⟨qb rfl,qi rfl (hf.base 0 rfl)⟩
    · exact ⟨qb rfl,qaf rfl (hd 0 rfl) rfl⟩
    · exact ⟨qb rfl,qb0 rfl (hd 1 rfl) (by decide) rfl rfl⟩
    · have hra:wx.rangeAt g 18 [.int .i64 s.ck.ph,.int .i64 s.ck.left,.int .i64 s.ck.tr,.slice la (List.length s.ck.line) lc]:=fun j v hj=>by
       rw [(HM1.out.keep hv).cell,HCS.out]
       match j,hj with
       | 0,hj=>exact hj
       | 1,hj=>exact hj
       | 2,hj=>exact hj
       | 3,hj=>exact hj
       | (j+4),hj=>simp at hj
      exact ⟨qb rfl,kw rfl (by rw [show a1.eval (.tmp 16) = .pointer (some ⟨g,18,none⟩) from hd 2 rfl]; exact run_loadAt_mid wx g 18 35 _ _ hra Tryz.underlying35 rfl j8) rfl⟩
    · exact ⟨qb rfl,qi rfl (hf.base 1 rfl)⟩
    · exact ⟨qb rfl,qi rfl (hf.base 0 rfl)⟩
    · exact ⟨qb rfl,kw rfl (by rw [show a1.eval (.tmp 5) = .pointer (some ⟨w.heap.size,0,none⟩) from hf.base 5 rfl]; exact qeo _ _ _ _ _ (HL1.out.keep hv)) rfl⟩
    · refine ⟨qb rfl,jz rfl (by kernel_rfl) ?_⟩
      show Calls _ _ #[a1.eval (.tmp 19),a1.eval (.tmp 20)] _ _
      rw [show a1.eval (.tmp 19) = .pointer (some ⟨g,0,none⟩) from hd 5 rfl,show a1.eval (.tmp 20) = .agg #[.int .i64 most,.int .i64 body,.int .i64 room] from hd 6 rfl];refine (qd4 g cs most body room s.size wx (HM1.out.keep hv) H17.out HY.out HSZ.out).mono ?_;rintro e w' ⟨he,hbb⟩;exact ⟨_,he,hbb,by rw [HRK.out]; rfl⟩
    · refine ⟨qb rfl,jz rfl (by kernel_rfl) ?_⟩
      show Calls _ _ #[a1.eval (.tmp 17),a1.eval (.tmp 18),a1.eval (.tmp 21)] _ _
      rw [show a1.eval (.tmp 17) = .agg #[.int .i64 s.ck.ph,.int .i64 s.ck.left,.int .i64 s.ck.tr,.slice la (List.length s.ck.line) lc] from hd 3 rfl,show a1.eval (.tmp 18) = .slice ba b.length bc from hd 4 rfl,show a1.eval (.tmp 21) = .int .i64 rk from hd 7 rfl];refine (qc3 s.ck b rk la ba lc bc wx (HLN.out.keep hv) (HBB.out.keep hv) HCK.out (by omega) hrkb.1 hrkb.2).mono ?_;rintro e w' ⟨a,cc,oa,oc,he,hln,hout,hbb,hlf⟩;rw [HFE.out] at he hln hout hlf;exact ⟨_,he,hbb,a,cc,oa,oc,rfl,hln,hout,fun y e hx=>Nat.le_trans hv.size (hlf y e hx)⟩
    · exact ⟨qb rfl,qi rfl (hd 8 rfl)⟩
    · obtain ⟨a,cc,oa,oc,e1,e2,e3,e4⟩:=hd 9 rfl
      exact ⟨qb rfl,qbf rfl e1 ⟨a,cc,rfl,e2,e4⟩⟩
    · obtain ⟨a,cc,oa,oc,e1,e2,e3,e4⟩:=hd 9 rfl
      exact ⟨qb rfl,km rfl e1 ⟨oa,oc,rfl,e3⟩⟩
    · obtain ⟨a,cc,oa,oc,e1,e2,e3,e4⟩:=hd 9 rfl
      exact ⟨qb rfl,kk rfl e1 rfl⟩
    · obtain ⟨a,cc,oa,oc,e1,e2,e3,e4⟩:=hd 9 rfl
      exact ⟨qb rfl,kj rfl e1 rfl⟩
    · exact ⟨qb rfl,qdv rfl hv.size fun v w' h=>h⟩
   | 1,_ =>
    refine ⟨?_,?_,?_,?_,?_,?_,trivial⟩ <;> intro a1 wx hv hf hd
    · obtain ⟨a,cc,oa,oc,e1,e2,e3,e4⟩:=hd 9 rfl
      exact ⟨qb rfl,km rfl e1 ⟨oa,oc,rfl,e3⟩⟩
    · obtain ⟨a,cc,oa,oc,e1,e2,e3,e4⟩:=hd 9 rfl
      exact ⟨qb rfl,kk rfl e1 rfl⟩
    · obtain ⟨a,cc,oa,oc,e1,e2,e3,e4⟩:=hd 9 rfl
      exact ⟨qb rfl,kj rfl e1 rfl⟩
    · exact ⟨qb rfl,qr rfl (hd 11 rfl)⟩
    · exact ⟨qb rfl,qr rfl (hd 12 rfl)⟩
    · exact ⟨qb rfl,qr rfl (hd 13 rfl)⟩
 · intro p hp
   match p,hp with
   | 0,_ =>
    intro a2 wx hv hf hd;obtain ⟨g9,e9,hB9,hk9⟩:=hd 14 rfl;obtain ⟨a,cc,e10,hln,hlf⟩:=hd 10 rfl;refine ⟨qb rfl,wp_store_row 35 _ _ rfl g9 #[.int .i64 c.ph,.int .i64 c.left,.int .i64 c.tr,.slice a (List.length c.line) cc] e9 e10 35 _ hk9 j8 rfl (oneC ..) ?_⟩;exact ⟨undef,rfl,below_setRow hv hB9 _,trivial,⟨.inr fun _ _ _=>trivial,.inr fun _ _ _=>trivial,.inr fun _ _ _=>trivial,.inr fun _ _ _=>trivial,.inr fun _ _ _=>trivial,.inr fun _ _ _=>trivial,.inr fun _ _ _=>trivial,.inr fun _ _ _=>trivial,.inr fun _ _ _=>trivial,.inr fun _ _ h=>qiz hk9 (qw rfl) h,.inr fun _ _ _=>trivial,.inr fun _ _ h=>qbw hk9 (qw rfl) h,.inr fun _ _ h=>h,.inr fun _ _ h=>h,.inr fun v hv0 _=>by have h9:=hv0 _ 9 rfl rfl; rw [h9,e9]; exact ⟨g9,a,cc,rfl,hB9,setRow_heap _ _ _ _ _ _ hk9,hln.same fun x e hl=>setRow_other _ _ _ _ (qx hk9 (qw rfl) hln x e hl),hlf⟩,.inl rfl,.inr fun _ _ h=>h.elim,.inr fun _ _ h=>h.elim,.inr fun _ _ h=>h.elim,trivial⟩⟩
 · intro a2 w3 hv hf hh
   obtain ⟨oa,oc,e10a,hout⟩:=hh 16 (by decide);have e10:a2.eval (.tmp 10) = .slice oa (List.length out) oc:=e10a;have e11:a2.eval (.tmp 11) = .int .i64 n:=hh 17 (by decide);have e12:a2.eval (.tmp 12) = .int .i64 er:=hh 18 (by decide);obtain ⟨gk,a,cc,e9a,hgk,hk3,hln3,hlf3⟩:=hh 14 (by decide);have HLF:=Box.mk (show ∀ y,a=some y→c.line≠[]→w.heap.size≤y.block from fun y e hx=>by have:=hlf3 y e hx; have:=HB1.out.size; omega);clear hlf3;have e9:a2.eval (.tmp 9) = .pointer (some ⟨gk,0,none⟩):=e9a;clear hh e9a e10a;rw [jl hf];clear hf;simp only [kg,e9,e10,e11,e12];generalize a2.eval (.tmp 14)=u14;generalize a2.eval (.tmp 15)=u15;generalize a2.eval (.tmp 16)=u16;generalize a2.eval (.tmp 17)=u17;generalize a2.eval (.tmp 18)=u18;generalize a2.eval (.tmp 19)=u19;generalize a2.eval (.tmp 20)=u20;generalize a2.eval (.tmp 21)=u21;generalize a2.eval (.tmp 22)=u22;generalize a2.eval (.tmp 13)=u13;generalize a2.eval (.tmp 23)=u23;generalize a2.eval (.tmp 24)=u24;generalize a2.eval (.tmp 25)=u25;generalize a2.eval (.tmp 26)=u26;clear e9 e10 e11 e12 a2;simp only [Act.put,List.setIfInBounds_toArray,List.set_cons_succ,List.set_cons_zero];refine hKK _ _ ?_;clear hKK;have HM3:=Box.mk (HM1.out.keep hv);have HP3:=Box.mk (HO.out.keep hv);have HL3:=Box.mk (HL1.out.keep hv);have HK3:=Box.mk hk3;have HLN3:=Box.mk hln3;have HOUT3:=Box.mk hout;have HG3:=Box.mk (qs (qe HB1.out hv) (some g));have hlw3:w.heap.size+1<w3.heap.size:=Nat.lt_of_lt_of_le hlw hv.size;have hgk2:w.heap.size+1<gk:=Nat.lt_of_lt_of_le hlw hgk;clear hv hk3 hln3 hout HM1 HO HL1 HB1 HBB HLN hlw hgk HFE HRK HCK HSZ HY hrkb;have h0:=Bh0.out;clear Bh0;subst h0;obtain ⟨c1,hc1⟩ : ∃ y0:Array Value,y0=#[.bool s.rep,.string s.meth,.int .i64 s.ph,.string s.m,.string s.t,.int .i64 s.z,.slice fa (List.length s.xs) fc,.bool s.fr,.slice none 0 0,.int .i64 s.st,.string s.rs,.int .i64 s.z2,.slice ga (List.length s.ys) gc,.slice none 0 0,.int .i64 s.fk,.int .i64 s.fl,.int .i64 s.left,.int .i64 s.size,.int .i64 c.ph,.int .i64 c.left,.int .i64 c.tr,.slice a (List.length c.line) cc]:=⟨_,rfl⟩;have HC1:=Box.mk hc1;obtain ⟨c2,hc2⟩ : ∃ y0:Array Value,y0=#[.bool s.rep,.string s.meth,.int .i64 s.ph,.string s.m,.string s.t,.int .i64 s.z,.slice fa (List.length s.xs) fc,.bool s.fr,.slice none 0 0,.int .i64 s.st,.string s.rs,.int .i64 s.z2,.slice ga (List.length s.ys) gc,.slice none 0 0,.int .i64 s.fk,.int .i64 s.fl,.int .i64 s.left,.int .i64 (s.size+((List.length out:Nat):Int)),.int .i64 c.ph,.int .i64 c.left,.int .i64 c.tr,.slice a (List.length c.line) cc]:=⟨_,rfl⟩;have HC2:=Box.mk hc2;clear hc1 hc2;go_upto_region 5 with (first | refine wpList_load_row rfl 35 _ rfl gk rfl 35 #[.int .i64 c.ph,.int .i64 c.left,.int .i64 c.tr,.slice a (List.length c.line) cc] (0,0) _ HK3.out Tryz.underlying35 rfl j8 ?_ | refine jk rfl 35 _ _ rfl g 18 #[.int .i64 c.ph,.int .i64 c.left,.int .i64 c.tr,.slice a (List.length c.line) cc] rfl rfl 61 _ c1 HM3.out j8 (by rw [hcs22]; show 18+4≤22; decide) (oneC ..) (by rw [HCS.out,HC1.out]; rfl) ?_)
   obtain ⟨W4,hW4⟩ : ∃ W4,W4=w3.setRow g c1:=⟨_,rfl⟩;have HM4:=Box.mk (show MVr W4 g c1 by rw [hW4]; exact setRow_heap _ _ _ _ _ _ HM3.out);have HG34:=Box.mk (show w3.grownBy W4 (some g) by rw [hW4]; exact jy _ _ _);have hc17:W4.cell? ⟨g,17,none⟩=some (.int .i64 s.size):=by rw [HM4.out.cell,HC1.out]; rfl
   have hz17:W4.frozen? ⟨g,17,none⟩=false:=HM4.out.frozen 17;rw [← hW4];clear hW4;go_upto_region 6 with fail
   obtain ⟨W5,hW5⟩ : ∃ W5,W5=W4.setCell ⟨g,17,none⟩ (.int .i64 (s.size+((List.length out:Nat):Int))):=⟨_,rfl⟩;have HM5:=Box.mk (show MVr W5 g c2 by rw [hW5]; have h:=HM4.out.put (i:=17) (v:=.int .i64 (s.size+((List.length out:Nat):Int))); rw [show c1.setIfInBounds 17 (.int .i64 (s.size+((List.length out:Nat):Int)))=c2 by rw [HC1.out,HC2.out]; rfl] at h; exact h);have hg35:w3.grownBy W5 (some g):=by rw [hW5]; exact qh HG34.out (qu _ _ _ _)
   have hP5:PVr W5 (w.heap.size+1) #[.int .i64 0,.slice none 0 0]:=(hg35.block _ hlw3 (fun e=>by injection e with e; omega)).trans HP3.out;have hL5:LVr W5 w.heap.size most body room:=(hg35.block _ (by omega) (fun e=>by injection e with e; omega)).trans HL3.out;have hK5:CVar W5 gk c.ph c.left c.tr (.slice a (List.length c.line) cc):=(hg35.block _ HK3.out.lt (fun e=>by injection e with e; omega)).trans HK3.out;have hLN5:=HLN3.out.grownR hg35 (qx HM3.out HN.out HLN3.out);have hOUT5:=HOUT3.out.grownR hg35 (qx HM3.out HN.out HOUT3.out);have hG5:=qh HG3.out hg35;have hlw5:w.heap.size+1<W5.heap.size:=Nat.lt_of_lt_of_le hlw3 hg35.size;have hm17:W5.cell? ⟨g,17,none⟩=some (.int .i64 (s.size+((List.length out:Nat):Int))):=by rw [HM5.out.cell,HC2.out]; rfl
   have hl1:W5.cell? ⟨w.heap.size,1,none⟩=some (.int .i64 body):=by rw [cell_of_row _ _ _ _ _ _ hL5]; rfl
   rw [← hW5];have HDR:∀ k,Below W5.heap.size W5 (W5.drewN k):=fun k=>below_drewN (Below.refl _ _) k;have HM6:=Box.mk (fun k=>HM5.out.keep (HDR k));have HP6:=Box.mk (fun k=>hP5.keep (HDR k));have HK6:=Box.mk (fun k=>hK5.keep (HDR k));have HLN6:=Box.mk (fun k=>hLN5.keep (HDR k));have HOUT6:=Box.mk (fun k=>hOUT5.keep (HDR k));have HG6:=Box.mk (fun k=>qh hG5 (qs (HDR k) (some g)));have HLW:=Box.mk (fun k=>Nat.lt_of_lt_of_le hlw5 (HDR k).size);clear hW5 hc17 hz17 HM3 HM4 HM5 HG34 hg35 hP5 hL5 hK5 hLN5 hOUT5 hG5 hlw5 HDR HP3 HL3 HK3 HLN3 HOUT3 HG3 hlw3 HC1 HCS hcs22 HN H17;have hgt:¬ s.size+((List.length out:Nat):Int) > body:=by omega
   clear hbs;go_wp2_with fail;go_quiet (fail)
   go_wp2_with (refine wpList_store_row rfl 41 _ _ rfl (w.heap.size+1) #[.int .i64 2,.slice oa (List.length out) oc] rfl rfl 41 _ (HP6.out _) j1 rfl (qap ..) ?_)
   (try simp only [Exit.inBlock,Exit.then])
   refine bodyPost_ret (ji rfl _ _ (w.heap.size+1) 41 #[.int .i64 2,.slice oa (List.length out) oc] (0,0) _ rfl (setRow_heap _ _ _ _ _ _ (HP6.out _)) Tryz.underlying41 rfl j1) rfl ?_;exact ⟨a,cc,oa,oc,rfl,by rw [← HC2.out]; exact (setRow_other _ _ _ _ (by omega)).trans (HM6.out _),jc (HP6.out _) (qw rfl) (HLN6.out _),jc (HP6.out _) (qw rfl) (HOUT6.out _),HLF.out,js (HG6.out _) (by omega) _⟩
theorem jc5 (s:RS) (b:List UInt8) (most body room:Int) (ba:Option Addr) (bc:Nat) (fa ga la:Option Addr) (fc gc lc:Nat) (g:Nat) (w:World) (hb:qg w ba b bc) (hl:b.length≤1000000) (hm:MVr w g (rowR s fa fc ga gc la lc)) (hln:qg w la s.ck.line lc) (hck:OkC s.ck) (hsz:0≤s.size∧s.size≤1000000000) (hy:0≤body∧body≤1000000000) (hr0:0≤room∧room≤1000000000) (er:Int) (c:Chk) (out:List UInt8) (n:Nat) (hF:jp (minI room (body+1-s.size)) s.ck [] 0 b=(er,c,out,n)) (hol:out.length≤1000000) (h0:er=0) (hbs:¬ body<s.size+((List.length out:Nat):Int)) (ho:¬ 0<out.length) (hp:¬ c.ph=4) :
  Calls Tryz.prog 61 #[.pointer (some ⟨g,0,none⟩),.slice ba b.length bc,.agg #[.int .i64 most,.int .i64 body,.int .i64 room]] w fun e w'=>∃ a cc,e = .returned (.tuple #[.agg #[.int .i64 0,.slice none 0 0],.int .i64 n,.int .i64 0])∧MVr w' g #[.bool s.rep,.string s.meth,.int .i64 s.ph,.string s.m,.string s.t,.int .i64 s.z,.slice fa (List.length s.xs) fc,.bool s.fr,.slice none 0 0,.int .i64 s.st,.string s.rs,.int .i64 s.z2,.slice ga (List.length s.ys) gc,.slice none 0 0,.int .i64 s.fk,.int .i64 s.fl,.int .i64 s.left,.int .i64 (s.size+((List.length out:Nat):Int)),.int .i64 c.ph,.int .i64 c.left,.int .i64 c.tr,.slice a (List.length c.line) cc]∧qg w' a c.line cc∧(∀ y,a=some y→c.line≠[]→w.heap.size≤y.block)∧w.grownBy w' (some g):=by
 obtain ⟨cs,hcs⟩ : ∃ cs:Array Value,cs=(rowR s fa fc ga gc la lc):=⟨_,rfl⟩;have HCS:=Box.mk hcs;rw [← hcs] at hm;have hcs22:cs.size=22:=by rw [hcs]; rfl
 clear hcs;obtain ⟨W1,hW1⟩ : ∃ W1,W1=(w.alloc (.cells #[.int .i64 most,.int .i64 body,.int .i64 room] 69)).alloc (.cells #[.int .i64 0,.slice none 0 0] 41):=⟨_,rfl⟩;have HB1:=Box.mk (show Below w.heap.size w W1 by rw [hW1]; exact qk (qd _ _) _);have HL1:=Box.mk (show LVr W1 w.heap.size most body room by rw [hW1]; exact LVr.keep (heap_alloc_new w (.cells #[.int .i64 most,.int .i64 body,.int .i64 room] 69)) (qd _ _));have HO:=Box.mk (show PVr W1 (w.heap.size+1) #[.int .i64 0,.slice none 0 0] by
  have h:=heap_alloc_new (w.alloc (.cells #[.int .i64 most,.int .i64 body,.int .i64 room] 69)) (.cells #[.int .i64 0,.slice none 0 0] 41);rw [World.size_alloc] at h;rw [hW1]; exact h)
 have HW1:=Box.mk hW1;have HM1:=Box.mk (hm.keep HB1.out);have hlt:=hm.lt;have hlw:w.heap.size+1<W1.heap.size:=(Array.getElem?_eq_some_iff.1 HO.out).1;clear hW1 hm;have HN:=Box.mk (show NoU8 cs by rw [HCS.out]; exact qw rfl);have HBB:=Box.mk (hb.keep HB1.out);have HLN:=Box.mk (hln.keep HB1.out);have H17:=Box.mk (show cs[17]? = some (.int .i64 s.size) by rw [HCS.out]; rfl);have HCK:=Box.mk hck;obtain ⟨rk,hrk⟩ : ∃ rk:Int,rk=minI room (body+1-s.size):=⟨_,rfl⟩;have hrkb:-9223372036854775808≤rk∧rk≤9223372036854775807:=by have:=qbt room (body+1-s.size); rw [hrk]; omega
 have HRK:=Box.mk hrk;have HSZ:=Box.mk hsz;have HY:=Box.mk hy;have HFE:=Box.mk (show jp rk s.ck [] 0 b=(er,c,out,n) by rw [hrk]; exact hF);obtain ⟨hsz0,hsz1⟩:=hsz;clear hb hln hck hF hrk hy;have Bh0:=Box.mk h0;clear h0;go_enter Tryz.func61,Tryz.ntmps61
 go_upto_region 1 with fail
 rw [← HW1.out];clear HW1;go_wp2_with fail;rename_i KK hKK;refine qz [15] (fun p=>match p with | 0=>[0,1,2,3,4,5,6,7,8,9,10,11,12,13,14] | _=>[11,12,13,16,17,18])
  (fun p=>match p with | 0=>[.val (.pointer (some ⟨g,0,none⟩)),.val (.pointer (some ⟨g,0,none⟩)),.val (.pointer (some ⟨g,18,none⟩)),.val (.agg #[.int .i64 s.ck.ph,.int .i64 s.ck.left,.int .i64 s.ck.tr,.slice la (List.length s.ck.line) lc]),.val (.slice ba b.length bc),.val (.pointer (some ⟨g,0,none⟩)),.val (.agg #[.int .i64 most,.int .i64 body,.int .i64 room]),.val (.int .i64 rk),.fedR W1.heap.size er c out n,.fedR W1.heap.size er c out n,.agR W1.heap.size c,.bytes out,.val (.int .i64 n),.val (.int .i64 er),.cnewR W1.heap.size,.any,.nope,.nope,.nope] | _=>[.any,.any,.any,.any,.any,.any,.any,.any,.any,.fedR W1.heap.size er c out n,.any,.bytes out,.val (.int .i64 n),.val (.int .i64 er),.cstR W1.heap.size c,.any,.bytes out,.val (.int .i64 n),.val (.int .i64 er)])
  (fun _=>fun wx=>Below W1.heap.size W1 wx)
  (by kernel_rfl) (by kernel_rfl) (by kernel_rfl) (by kernel_rfl) (by kernel_rfl) (by kernel_rfl) ?_ (Below.refl _ _) ?_ ?_ ?_
 · intro p wa wb h hb
   exact qe h hb
 · intro p hp
   match p,hp with
   | 0,_ =>
    refine ⟨?_,?_,?_,?_,?_,?_,?_,?_,?_,?_,?_,?_,?_,?_,?_,trivial⟩ <;> intro a1 wx hv hf hd
    · exact ⟨qb rfl,qi rfl (hf.base 0 rfl)⟩
    · exact ⟨qb rfl,qaf rfl (hd 0 rfl) rfl⟩
    · exact ⟨qb rfl,qb0 rfl (hd 1 rfl) (by decide) rfl rfl⟩
    · have hra:wx.rangeAt g 18 [.int .i64 s.ck.ph,.int .i64 s.ck.left,.int .i64 s.ck.tr,.slice la (List.length s.ck.line) lc]:=fun j v hj=>by
       rw [(HM1.out.keep hv).cell,HCS.out]
       match j,hj with
       | 0,hj=>exact hj
       | 1,hj=>exact hj
       | 2,hj=>exact hj
       | 3,hj=>exact hj
       | (j+4),hj=>simp at hj
      exact ⟨qb rfl,kw rfl (by rw [show a1.eval (.tmp 16) = .pointer (some ⟨g,18,none⟩) from hd 2 rfl]; exact run_loadAt_mid wx g 18 35 _ _ hra Tryz.underlying35 rfl j8) rfl⟩
    · exact ⟨qb rfl,qi rfl (hf.base 1 rfl)⟩
    · exact ⟨qb rfl,qi rfl (hf.base 0 rfl)⟩
    · exact ⟨qb rfl,kw rfl (by rw [show a1.eval (.tmp 5) = .pointer (some ⟨w.heap.size,0,none⟩) from hf.base 5 rfl]; exact qeo _ _ _ _ _ (HL1.out.keep hv)) rfl⟩
    · refine ⟨qb rfl,jz rfl (by kernel_rfl) ?_⟩
      show Calls _ _ #[a1.eval (.tmp 19),a1.eval (.tmp 20)] _ _
      rw [show a1.eval (.tmp 19) = .pointer (some ⟨g,0,none⟩) from hd 5 rfl,show a1.eval (.tmp 20) = .agg #[.int .i64 most,.int .i64 body,.int .i64 room] from hd 6 rfl];refine (qd4 g cs most body room s.size wx (HM1.out.keep hv) H17.out HY.out HSZ.out).mono ?_;rintro e w' ⟨he,hbb⟩;exact ⟨_,he,hbb,by rw [HRK.out]; rfl⟩
    · refine ⟨qb rfl,jz rfl (by kernel_rfl) ?_⟩
      show Calls _ _ #[a1.eval (.tmp 17),a1.eval (.tmp 18),a1.eval (.tmp 21)] _ _
      rw [show a1.eval (.tmp 17) = .agg #[.int .i64 s.ck.ph,.int .i64 s.ck.left,.int .i64 s.ck.tr,.slice la (List.length s.ck.line) lc] from hd 3 rfl,show a1.eval (.tmp 18) = .slice ba b.length bc from hd 4 rfl,show a1.eval (.tmp 21) = .int .i64 rk from hd 7 rfl];refine (qc3 s.ck b rk la ba lc bc wx (HLN.out.keep hv) (HBB.out.keep hv) HCK.out (by omega) hrkb.1 hrkb.2).mono ?_;rintro e w' ⟨a,cc,oa,oc,he,hln,hout,hbb,hlf⟩;rw [HFE.out] at he hln hout hlf;exact ⟨_,he,hbb,a,cc,oa,oc,rfl,hln,hout,fun y e hx=>Nat.le_trans hv.size (hlf y e hx)⟩
    · exact ⟨qb rfl,qi rfl (hd 8 rfl)⟩
    · obtain ⟨a,cc,oa,oc,e1,e2,e3,e4⟩:=hd 9 rfl
      exact ⟨qb rfl,qbf rfl e1 ⟨a,cc,rfl,e2,e4⟩⟩
    · obtain ⟨a,cc,oa,oc,e1,e2,e3,e4⟩:=hd 9 rfl
      exact ⟨qb rfl,km rfl e1 ⟨oa,oc,rfl,e3⟩⟩
    · obtain ⟨a,cc,oa,oc,e1,e2,e3,e4⟩:=hd 9 rfl
      exact ⟨qb rfl,kk rfl e1 rfl⟩
    · obtain ⟨a,cc,oa,oc,e1,e2,e3,e4⟩:=hd 9 rfl
      exact ⟨qb rfl,kj rfl e1 rfl⟩
    · exact ⟨qb rfl,qdv rfl hv.size fun v w' h=>h⟩
   | 1,_ =>
    refine ⟨?_,?_,?_,?_,?_,?_,trivial⟩ <;> intro a1 wx hv hf hd
    · obtain ⟨a,cc,oa,oc,e1,e2,e3,e4⟩:=hd 9 rfl
      exact ⟨qb rfl,km rfl e1 ⟨oa,oc,rfl,e3⟩⟩
    · obtain ⟨a,cc,oa,oc,e1,e2,e3,e4⟩:=hd 9 rfl
      exact ⟨qb rfl,kk rfl e1 rfl⟩
    · obtain ⟨a,cc,oa,oc,e1,e2,e3,e4⟩:=hd 9 rfl
      exact ⟨qb rfl,kj rfl e1 rfl⟩
    · exact ⟨qb rfl,qr rfl (hd 11 rfl)⟩
    · exact ⟨qb rfl,qr rfl (hd 12 rfl)⟩
    · exact ⟨qb rfl,qr rfl (hd 13 rfl)⟩
 · intro p hp
   match p,hp with
   | 0,_ =>
    intro a2 wx hv hf hd;obtain ⟨g9,e9,hB9,hk9⟩:=hd 14 rfl;obtain ⟨a,cc,e10,hln,hlf⟩:=hd 10 rfl;refine ⟨qb rfl,wp_store_row 35 _ _ rfl g9 #[.int .i64 c.ph,.int .i64 c.left,.int .i64 c.tr,.slice a (List.length c.line) cc] e9 e10 35 _ hk9 j8 rfl (oneC ..) ?_⟩;exact ⟨undef,rfl,below_setRow hv hB9 _,trivial,⟨.inr fun _ _ _=>trivial,.inr fun _ _ _=>trivial,.inr fun _ _ _=>trivial,.inr fun _ _ _=>trivial,.inr fun _ _ _=>trivial,.inr fun _ _ _=>trivial,.inr fun _ _ _=>trivial,.inr fun _ _ _=>trivial,.inr fun _ _ _=>trivial,.inr fun _ _ h=>qiz hk9 (qw rfl) h,.inr fun _ _ _=>trivial,.inr fun _ _ h=>qbw hk9 (qw rfl) h,.inr fun _ _ h=>h,.inr fun _ _ h=>h,.inr fun v hv0 _=>by have h9:=hv0 _ 9 rfl rfl; rw [h9,e9]; exact ⟨g9,a,cc,rfl,hB9,setRow_heap _ _ _ _ _ _ hk9,hln.same fun x e hl=>setRow_other _ _ _ _ (qx hk9 (qw rfl) hln x e hl),hlf⟩,.inl rfl,.inr fun _ _ h=>h.elim,.inr fun _ _ h=>h.elim,.inr fun _ _ h=>h.elim,trivial⟩⟩
 · intro a2 w3 hv hf hh
   obtain ⟨oa,oc,e10a,hout⟩:=hh 16 (by decide);have e10:a2.eval (.tmp 10) = .slice oa (List.length out) oc:=e10a;have e11:a2.eval (.tmp 11) = .int .i64 n:=hh 17 (by decide);have e12:a2.eval (.tmp 12) = .int .i64 er:=hh 18 (by decide);obtain ⟨gk,a,cc,e9a,hgk,hk3,hln3,hlf3⟩:=hh 14 (by decide);have HLF:=Box.mk (show ∀ y,a=some y→c.line≠[]→w.heap.size≤y.block from fun y e hx=>by have:=hlf3 y e hx; have:=HB1.out.size; omega);clear hlf3;have e9:a2.eval (.tmp 9) = .pointer (some ⟨gk,0,none⟩):=e9a;clear hh e9a e10a;rw [jl hf];clear hf;simp only [kg,e9,e10,e11,e12];generalize a2.eval (.tmp 14)=u14;generalize a2.eval (.tmp 15)=u15;generalize a2.eval (.tmp 16)=u16;generalize a2.eval (.tmp 17)=u17;generalize a2.eval (.tmp 18)=u18;generalize a2.eval (.tmp 19)=u19;generalize a2.eval (.tmp 20)=u20;generalize a2.eval (.tmp 21)=u21;generalize a2.eval (.tmp 22)=u22;generalize a2.eval (.tmp 13)=u13;generalize a2.eval (.tmp 23)=u23;generalize a2.eval (.tmp 24)=u24;generalize a2.eval (.tmp 25)=u25;generalize a2.eval (.tmp 26)=u26;clear e9 e10 e11 e12 a2;simp only [Act.put,List.setIfInBounds_toArray,List.set_cons_succ,List.set_cons_zero];refine hKK _ _ ?_;clear hKK;have HM3:=Box.mk (HM1.out.keep hv);have HP3:=Box.mk (HO.out.keep hv);have HL3:=Box.mk (HL1.out.keep hv);have HK3:=Box.mk hk3;have HLN3:=Box.mk hln3;have HOUT3:=Box.mk hout;have HG3:=Box.mk (qs (qe HB1.out hv) (some g));have hlw3:w.heap.size+1<w3.heap.size:=Nat.lt_of_lt_of_le hlw hv.size;have hgk2:w.heap.size+1<gk:=Nat.lt_of_lt_of_le hlw hgk;clear hv hk3 hln3 hout HM1 HO HL1 HB1 HBB HLN hlw hgk HFE HRK HCK HSZ HY hrkb;have h0:=Bh0.out;clear Bh0;subst h0;obtain ⟨c1,hc1⟩ : ∃ y0:Array Value,y0=#[.bool s.rep,.string s.meth,.int .i64 s.ph,.string s.m,.string s.t,.int .i64 s.z,.slice fa (List.length s.xs) fc,.bool s.fr,.slice none 0 0,.int .i64 s.st,.string s.rs,.int .i64 s.z2,.slice ga (List.length s.ys) gc,.slice none 0 0,.int .i64 s.fk,.int .i64 s.fl,.int .i64 s.left,.int .i64 s.size,.int .i64 c.ph,.int .i64 c.left,.int .i64 c.tr,.slice a (List.length c.line) cc]:=⟨_,rfl⟩;have HC1:=Box.mk hc1;obtain ⟨c2,hc2⟩ : ∃ y0:Array Value,y0=#[.bool s.rep,.string s.meth,.int .i64 s.ph,.string s.m,.string s.t,.int .i64 s.z,.slice fa (List.length s.xs) fc,.bool s.fr,.slice none 0 0,.int .i64 s.st,.string s.rs,.int .i64 s.z2,.slice ga (List.length s.ys) gc,.slice none 0 0,.int .i64 s.fk,.int .i64 s.fl,.int .i64 s.left,.int .i64 (s.size+((List.length out:Nat):Int)),.int .i64 c.ph,.int .i64 c.left,.int .i64 c.tr,.slice a (List.length c.line) cc]:=⟨_,rfl⟩;have HC2:=Box.mk hc2;clear hc1 hc2;go_upto_region 5 with (first | refine wpList_load_row rfl 35 _ rfl gk rfl 35 #[.int .i64 c.ph,.int .i64 c.left,.int .i64 c.tr,.slice a (List.length c.line) cc] (0,0) _ HK3.out Tryz.underlying35 rfl j8 ?_ | refine jk rfl 35 _ _ rfl g 18 #[.int .i64 c.ph,.int .i64 c.left,.int .i64 c.tr,.slice a (List.length c.line) cc] rfl rfl 61 _ c1 HM3.out j8 (by rw [hcs22]; show 18+4≤22; decide) (oneC ..) (by rw [HCS.out,HC1.out]; rfl) ?_)
   obtain ⟨W4,hW4⟩ : ∃ W4,W4=w3.setRow g c1:=⟨_,rfl⟩;have HM4:=Box.mk (show MVr W4 g c1 by rw [hW4]; exact setRow_heap _ _ _ _ _ _ HM3.out);have HG34:=Box.mk (show w3.grownBy W4 (some g) by rw [hW4]; exact jy _ _ _);have hc17:W4.cell? ⟨g,17,none⟩=some (.int .i64 s.size):=by rw [HM4.out.cell,HC1.out]; rfl
   have hz17:W4.frozen? ⟨g,17,none⟩=false:=HM4.out.frozen 17;rw [← hW4];clear hW4;go_upto_region 6 with fail
   obtain ⟨W5,hW5⟩ : ∃ W5,W5=W4.setCell ⟨g,17,none⟩ (.int .i64 (s.size+((List.length out:Nat):Int))):=⟨_,rfl⟩;have HM5:=Box.mk (show MVr W5 g c2 by rw [hW5]; have h:=HM4.out.put (i:=17) (v:=.int .i64 (s.size+((List.length out:Nat):Int))); rw [show c1.setIfInBounds 17 (.int .i64 (s.size+((List.length out:Nat):Int)))=c2 by rw [HC1.out,HC2.out]; rfl] at h; exact h);have hg35:w3.grownBy W5 (some g):=by rw [hW5]; exact qh HG34.out (qu _ _ _ _)
   have hP5:PVr W5 (w.heap.size+1) #[.int .i64 0,.slice none 0 0]:=(hg35.block _ hlw3 (fun e=>by injection e with e; omega)).trans HP3.out;have hL5:LVr W5 w.heap.size most body room:=(hg35.block _ (by omega) (fun e=>by injection e with e; omega)).trans HL3.out;have hK5:CVar W5 gk c.ph c.left c.tr (.slice a (List.length c.line) cc):=(hg35.block _ HK3.out.lt (fun e=>by injection e with e; omega)).trans HK3.out;have hLN5:=HLN3.out.grownR hg35 (qx HM3.out HN.out HLN3.out);have hOUT5:=HOUT3.out.grownR hg35 (qx HM3.out HN.out HOUT3.out);have hG5:=qh HG3.out hg35;have hlw5:w.heap.size+1<W5.heap.size:=Nat.lt_of_lt_of_le hlw3 hg35.size;have hm17:W5.cell? ⟨g,17,none⟩=some (.int .i64 (s.size+((List.length out:Nat):Int))):=by rw [HM5.out.cell,HC2.out]; rfl
   have hl1:W5.cell? ⟨w.heap.size,1,none⟩=some (.int .i64 body):=by rw [cell_of_row _ _ _ _ _ _ hL5]; rfl
   rw [← hW5];have HDR:∀ k,Below W5.heap.size W5 (W5.drewN k):=fun k=>below_drewN (Below.refl _ _) k;have HM6:=Box.mk (fun k=>HM5.out.keep (HDR k));have HP6:=Box.mk (fun k=>hP5.keep (HDR k));have HK6:=Box.mk (fun k=>hK5.keep (HDR k));have HLN6:=Box.mk (fun k=>hLN5.keep (HDR k));have HOUT6:=Box.mk (fun k=>hOUT5.keep (HDR k));have HG6:=Box.mk (fun k=>qh hG5 (qs (HDR k) (some g)));have HLW:=Box.mk (fun k=>Nat.lt_of_lt_of_le hlw5 (HDR k).size);clear hW5 hc17 hz17 HM3 HM4 HM5 HG34 hg35 hP5 hL5 hK5 hLN5 hOUT5 hG5 hlw5 HDR HP3 HL3 HK3 HLN3 HOUT3 HG3 hlw3 HC1 HCS hcs22 HN H17;have hk60:∀ k,(W5.drewN k).cell? ⟨gk,0,none⟩=some (.int .i64 c.ph):=fun k=>by rw [(HK6.out k).cells.1]
   have ep:(c.ph == 4)=false:=by rw [beq_eq_false_iff_ne]; exact hp
   clear hp;have hgt:¬ s.size+((List.length out:Nat):Int) > body:=by omega
   clear hbs;go_wp2_with fail;go_quiet (fail)
   go_wp2_with (refine wpList_store_row rfl 41 _ _ rfl (w.heap.size+1) #[.int .i64 0,.slice none 0 0] rfl rfl 41 _ (HP6.out _) j1 rfl (qap ..) ?_)
   (try simp only [Exit.inBlock,Exit.then])
   refine bodyPost_ret (ji rfl _ _ (w.heap.size+1) 41 #[.int .i64 0,.slice none 0 0] (0,0) _ rfl (setRow_heap _ _ _ _ _ _ (HP6.out _)) Tryz.underlying41 rfl j1) rfl ?_;exact ⟨a,cc,rfl,by rw [← HC2.out]; exact (setRow_other _ _ _ _ (by omega)).trans (HM6.out _),jc (HP6.out _) (qw rfl) (HLN6.out _),HLF.out,js (HG6.out _) (by omega) _⟩
theorem qy2 (s:RS) (b:List UInt8) (most body room:Int) (ba:Option Addr) (bc:Nat) (fa ga la:Option Addr) (fc gc lc:Nat) (g:Nat) (w:World) (hb:qg w ba b bc) (hl:b.length≤1000000) (hm:MVr w g (rowR s fa fc ga gc la lc)) (hln:qg w la s.ck.line lc) (hck:OkC s.ck) (hsz:0≤s.size∧s.size≤1000000000) (hy:0≤body∧body≤1000000000) (hr0:0≤room∧room≤1000000000) (er:Int) (c:Chk) (out:List UInt8) (n:Nat) (hF:jp (minI room (body+1-s.size)) s.ck [] 0 b=(er,c,out,n)) (hol:out.length≤1000000) (h0:er=0) (hbs:¬ body<s.size+((List.length out:Nat):Int)) (ho:¬ 0<out.length) (hp:c.ph=4) :
  Calls Tryz.prog 61 #[.pointer (some ⟨g,0,none⟩),.slice ba b.length bc,.agg #[.int .i64 most,.int .i64 body,.int .i64 room]] w fun e w'=>∃ a cc,e = .returned (.tuple #[.agg #[.int .i64 3,.slice none 0 0],.int .i64 n,.int .i64 0])∧MVr w' g #[.bool s.rep,.string s.meth,.int .i64 2,.string s.m,.string s.t,.int .i64 s.z,.slice fa (List.length s.xs) fc,.bool s.fr,.slice none 0 0,.int .i64 s.st,.string s.rs,.int .i64 s.z2,.slice ga (List.length s.ys) gc,.slice none 0 0,.int .i64 s.fk,.int .i64 s.fl,.int .i64 s.left,.int .i64 (s.size+((List.length out:Nat):Int)),.int .i64 c.ph,.int .i64 c.left,.int .i64 c.tr,.slice a (List.length c.line) cc]∧qg w' a c.line cc∧(∀ y,a=some y→c.line≠[]→w.heap.size≤y.block)∧w.grownBy w' (some g):=by
 obtain ⟨cs,hcs⟩ : ∃ cs:Array Value,cs=(rowR s fa fc ga gc la lc):=⟨_,rfl⟩;have HCS:=Box.mk hcs;rw [← hcs] at hm;have hcs22:cs.size=22:=by rw [hcs]; rfl
 clear hcs;obtain ⟨W1,hW1⟩ : ∃ W1,W1=(w.alloc (.cells #[.int .i64 most,.int .i64 body,.int .i64 room] 69)).alloc (.cells #[.int .i64 0,.slice none 0 0] 41):=⟨_,rfl⟩;have HB1:=Box.mk (show Below w.heap.size w W1 by rw [hW1]; exact qk (qd _ _) _);have HL1:=Box.mk (show LVr W1 w.heap.size most body room by rw [hW1]; exact LVr.keep (heap_alloc_new w (.cells #[.int .i64 most,.int .i64 body,.int .i64 room] 69)) (qd _ _));have HO:=Box.mk (show PVr W1 (w.heap.size+1) #[.int .i64 0,.slice none 0 0] by
  have h:=heap_alloc_new (w.alloc (.cells #[.int .i64 most,.int .i64 body,.int .i64 room] 69)) (.cells #[.int .i64 0,.slice none 0 0] 41);rw [World.size_alloc] at h;rw [hW1]; exact h)
 have HW1:=Box.mk hW1;have HM1:=Box.mk (hm.keep HB1.out);have hlt:=hm.lt;have hlw:w.heap.size+1<W1.heap.size:=(Array.getElem?_eq_some_iff.1 HO.out).1;clear hW1 hm;have HN:=Box.mk (show NoU8 cs by rw [HCS.out]; exact qw rfl);have HBB:=Box.mk (hb.keep HB1.out);have HLN:=Box.mk (hln.keep HB1.out);have H17:=Box.mk (show cs[17]? = some (.int .i64 s.size) by rw [HCS.out]; rfl);have HCK:=Box.mk hck;obtain ⟨rk,hrk⟩ : ∃ rk:Int,rk=minI room (body+1-s.size):=⟨_,rfl⟩;have hrkb:-9223372036854775808≤rk∧rk≤9223372036854775807:=by have:=qbt room (body+1-s.size); rw [hrk]; omega
 have HRK:=Box.mk hrk;have HSZ:=Box.mk hsz;have HY:=Box.mk hy;have HFE:=Box.mk (show jp rk s.ck [] 0 b=(er,c,out,n) by rw [hrk]; exact hF);obtain ⟨hsz0,hsz1⟩:=hsz;clear hb hln hck hF hrk hy;have Bh0:=Box.mk h0;clear h0;have Bhp:=Box.mk hp;clear hp;go_enter Tryz.func61,Tryz.ntmps61
 go_upto_region 1 with fail
 rw [← HW1.out];clear HW1;go_wp2_with fail;rename_i KK hKK;refine qz [15] (fun p=>match p with | 0=>[0,1,2,3,4,5,6,7,8,9,10,11,12,13,14] | _=>[11,12,13,16,17,18])
  (fun p=>match p with | 0=>[.val (.pointer (some ⟨g,0,none⟩)),.val (.pointer (some ⟨g,0,none⟩)),.val (.pointer (some ⟨g,18,none⟩)),.val (.agg #[.int .i64 s.ck.ph,.int .i64 s.ck.left,.int .i64 s.ck.tr,.slice la (List.length s.ck.line) lc]),.val (.slice ba b.length bc),.val (.pointer (some ⟨g,0,none⟩)),.val (.agg #[.int .i64 most,.int .i64 body,.int .i64 room]),.val (.int .i64 rk),.fedR W1.heap.size er c out n,.fedR W1.heap.size er c out n,.agR W1.heap.size c,.bytes out,.val (.int .i64 n),.val (.int .i64 er),.cnewR W1.heap.size,.any,.nope,.nope,.nope] | _=>[.any,.any,.any,.any,.any,.any,.any,.any,.any,.fedR W1.heap.size er c out n,.any,.bytes out,.val (.int .i64 n),.val (.int .i64 er),.cstR W1.heap.size c,.any,.bytes out,.val (.int .i64 n),.val (.int .i64 er)])
  (fun _=>fun wx=>Below W1.heap.size W1 wx)
  (by kernel_rfl) (by kernel_rfl) (by kernel_rfl) (by kernel_rfl) (by kernel_rfl) (by kernel_rfl) ?_ (Below.refl _ _) ?_ ?_ ?_
 · intro p wa wb h hb
   exact qe h hb
 · intro p hp
   match p,hp with
   | 0,_ =>
    refine ⟨?_,?_,?_,?_,?_,?_,?_,?_,?_,?_,?_,?_,?_,?_,?_,trivial⟩ <;> intro a1 wx hv hf hd
    · exact ⟨qb rfl,qi rfl (hf.base 0 rfl)⟩
    · exact ⟨qb rfl,qaf rfl (hd 0 rfl) rfl⟩
    · exact ⟨qb rfl,qb0 rfl (hd 1 rfl) (by decide) rfl rfl⟩
    · have hra:wx.rangeAt g 18 [.int .i64 s.ck.ph,.int .i64 s.ck.left,.int .i64 s.ck.tr,.slice la (List.length s.ck.line) lc]:=fun j v hj=>by
       rw [(HM1.out.keep hv).cell,HCS.out]
       match j,hj with
       | 0,hj=>exact hj
       | 1,hj=>exact hj
       | 2,hj=>exact hj
       | 3,hj=>exact hj
       | (j+4),hj=>simp at hj
      exact ⟨qb rfl,kw rfl (by rw [show a1.eval (.tmp 16) = .pointer (some ⟨g,18,none⟩) from hd 2 rfl]; exact run_loadAt_mid wx g 18 35 _ _ hra Tryz.underlying35 rfl j8) rfl⟩
    · exact ⟨qb rfl,qi rfl (hf.base 1 rfl)⟩
    · exact ⟨qb rfl,qi rfl (hf.base 0 rfl)⟩
    · exact ⟨qb rfl,kw rfl (by rw [show a1.eval (.tmp 5) = .pointer (some ⟨w.heap.size,0,none⟩) from hf.base 5 rfl]; exact qeo _ _ _ _ _ (HL1.out.keep hv)) rfl⟩
    · refine ⟨qb rfl,jz rfl (by kernel_rfl) ?_⟩
      show Calls _ _ #[a1.eval (.tmp 19),a1.eval (.tmp 20)] _ _
      rw [show a1.eval (.tmp 19) = .pointer (some ⟨g,0,none⟩) from hd 5 rfl,show a1.eval (.tmp 20) = .agg #[.int .i64 most,.int .i64 body,.int .i64 room] from hd 6 rfl];refine (qd4 g cs most body room s.size wx (HM1.out.keep hv) H17.out HY.out HSZ.out).mono ?_;rintro e w' ⟨he,hbb⟩;exact ⟨_,he,hbb,by rw [HRK.out]; rfl⟩
    · refine ⟨qb rfl,jz rfl (by kernel_rfl) ?_⟩
      show Calls _ _ #[a1.eval (.tmp 17),a1.eval (.tmp 18),a1.eval (.tmp 21)] _ _
      rw [show a1.eval (.tmp 17) = .agg #[.int .i64 s.ck.ph,.int .i64 s.ck.left,.int .i64 s.ck.tr,.slice la (List.length s.ck.line) lc] from hd 3 rfl,show a1.eval (.tmp 18) = .slice ba b.length bc from hd 4 rfl,show a1.eval (.tmp 21) = .int .i64 rk from hd 7 rfl];refine (qc3 s.ck b rk la ba lc bc wx (HLN.out.keep hv) (HBB.out.keep hv) HCK.out (by omega) hrkb.1 hrkb.2).mono ?_;rintro e w' ⟨a,cc,oa,oc,he,hln,hout,hbb,hlf⟩;rw [HFE.out] at he hln hout hlf;exact ⟨_,he,hbb,a,cc,oa,oc,rfl,hln,hout,fun y e hx=>Nat.le_trans hv.size (hlf y e hx)⟩
    · exact ⟨qb rfl,qi rfl (hd 8 rfl)⟩
    · obtain ⟨a,cc,oa,oc,e1,e2,e3,e4⟩:=hd 9 rfl
      exact ⟨qb rfl,qbf rfl e1 ⟨a,cc,rfl,e2,e4⟩⟩
    · obtain ⟨a,cc,oa,oc,e1,e2,e3,e4⟩:=hd 9 rfl
      exact ⟨qb rfl,km rfl e1 ⟨oa,oc,rfl,e3⟩⟩
    · obtain ⟨a,cc,oa,oc,e1,e2,e3,e4⟩:=hd 9 rfl
      exact ⟨qb rfl,kk rfl e1 rfl⟩
    · obtain ⟨a,cc,oa,oc,e1,e2,e3,e4⟩:=hd 9 rfl
      exact ⟨qb rfl,kj rfl e1 rfl⟩
    · exact ⟨qb rfl,qdv rfl hv.size fun v w' h=>h⟩
   | 1,_ =>
    refine ⟨?_,?_,?_,?_,?_,?_,trivial⟩ <;> intro a1 wx hv hf hd
    · obtain ⟨a,cc,oa,oc,e1,e2,e3,e4⟩:=hd 9 rfl
      exact ⟨qb rfl,km rfl e1 ⟨oa,oc,rfl,e3⟩⟩
    · obtain ⟨a,cc,oa,oc,e1,e2,e3,e4⟩:=hd 9 rfl
      exact ⟨qb rfl,kk rfl e1 rfl⟩
    · obtain ⟨a,cc,oa,oc,e1,e2,e3,e4⟩:=hd 9 rfl
      exact ⟨qb rfl,kj rfl e1 rfl⟩
    · exact ⟨qb rfl,qr rfl (hd 11 rfl)⟩
    · exact ⟨qb rfl,qr rfl (hd 12 rfl)⟩
    · exact ⟨qb rfl,qr rfl (hd 13 rfl)⟩
 · intro p hp
   match p,hp with
   | 0,_ =>
    intro a2 wx hv hf hd;obtain ⟨g9,e9,hB9,hk9⟩:=hd 14 rfl;obtain ⟨a,cc,e10,hln,hlf⟩:=hd 10 rfl;refine ⟨qb rfl,wp_store_row 35 _ _ rfl g9 #[.int .i64 c.ph,.int .i64 c.left,.int .i64 c.tr,.slice a (List.length c.line) cc] e9 e10 35 _ hk9 j8 rfl (oneC ..) ?_⟩;exact ⟨undef,rfl,below_setRow hv hB9 _,trivial,⟨.inr fun _ _ _=>trivial,.inr fun _ _ _=>trivial,.inr fun _ _ _=>trivial,.inr fun _ _ _=>trivial,.inr fun _ _ _=>trivial,.inr fun _ _ _=>trivial,.inr fun _ _ _=>trivial,.inr fun _ _ _=>trivial,.inr fun _ _ _=>trivial,.inr fun _ _ h=>qiz hk9 (qw rfl) h,.inr fun _ _ _=>trivial,.inr fun _ _ h=>qbw hk9 (qw rfl) h,.inr fun _ _ h=>h,.inr fun _ _ h=>h,.inr fun v hv0 _=>by have h9:=hv0 _ 9 rfl rfl; rw [h9,e9]; exact ⟨g9,a,cc,rfl,hB9,setRow_heap _ _ _ _ _ _ hk9,hln.same fun x e hl=>setRow_other _ _ _ _ (qx hk9 (qw rfl) hln x e hl),hlf⟩,.inl rfl,.inr fun _ _ h=>h.elim,.inr fun _ _ h=>h.elim,.inr fun _ _ h=>h.elim,trivial⟩⟩
 · intro a2 w3 hv hf hh
   obtain ⟨oa,oc,e10a,hout⟩:=hh 16 (by decide);have e10:a2.eval (.tmp 10) = .slice oa (List.length out) oc:=e10a;have e11:a2.eval (.tmp 11) = .int .i64 n:=hh 17 (by decide);have e12:a2.eval (.tmp 12) = .int .i64 er:=hh 18 (by decide);obtain ⟨gk,a,cc,e9a,hgk,hk3,hln3,hlf3⟩:=hh 14 (by decide);have HLF:=Box.mk (show ∀ y,a=some y→c.line≠[]→w.heap.size≤y.block from fun y e hx=>by have:=hlf3 y e hx; have:=HB1.out.size; omega);clear hlf3;have e9:a2.eval (.tmp 9) = .pointer (some ⟨gk,0,none⟩):=e9a;clear hh e9a e10a;rw [jl hf];clear hf;simp only [kg,e9,e10,e11,e12];generalize a2.eval (.tmp 14)=u14;generalize a2.eval (.tmp 15)=u15;generalize a2.eval (.tmp 16)=u16;generalize a2.eval (.tmp 17)=u17;generalize a2.eval (.tmp 18)=u18;generalize a2.eval (.tmp 19)=u19;generalize a2.eval (.tmp 20)=u20;generalize a2.eval (.tmp 21)=u21;generalize a2.eval (.tmp 22)=u22;generalize a2.eval (.tmp 13)=u13;generalize a2.eval (.tmp 23)=u23;generalize a2.eval (.tmp 24)=u24;generalize a2.eval (.tmp 25)=u25;generalize a2.eval (.tmp 26)=u26;clear e9 e10 e11 e12 a2;simp only [Act.put,List.setIfInBounds_toArray,List.set_cons_succ,List.set_cons_zero];refine hKK _ _ ?_;clear hKK;have HM3:=Box.mk (HM1.out.keep hv);have HP3:=Box.mk (HO.out.keep hv);have HL3:=Box.mk (HL1.out.keep hv);have HK3:=Box.mk hk3;have HLN3:=Box.mk hln3;have HOUT3:=Box.mk hout;have HG3:=Box.mk (qs (qe HB1.out hv) (some g));have hlw3:w.heap.size+1<w3.heap.size:=Nat.lt_of_lt_of_le hlw hv.size;have hgk2:w.heap.size+1<gk:=Nat.lt_of_lt_of_le hlw hgk;clear hv hk3 hln3 hout HM1 HO HL1 HB1 HBB HLN hlw hgk HFE HRK HCK HSZ HY hrkb;have h0:=Bh0.out;clear Bh0;subst h0;obtain ⟨c1,hc1⟩ : ∃ y0:Array Value,y0=#[.bool s.rep,.string s.meth,.int .i64 s.ph,.string s.m,.string s.t,.int .i64 s.z,.slice fa (List.length s.xs) fc,.bool s.fr,.slice none 0 0,.int .i64 s.st,.string s.rs,.int .i64 s.z2,.slice ga (List.length s.ys) gc,.slice none 0 0,.int .i64 s.fk,.int .i64 s.fl,.int .i64 s.left,.int .i64 s.size,.int .i64 c.ph,.int .i64 c.left,.int .i64 c.tr,.slice a (List.length c.line) cc]:=⟨_,rfl⟩;have HC1:=Box.mk hc1;obtain ⟨c2,hc2⟩ : ∃ y0:Array Value,y0=#[.bool s.rep,.string s.meth,.int .i64 s.ph,.string s.m,.string s.t,.int .i64 s.z,.slice fa (List.length s.xs) fc,.bool s.fr,.slice none 0 0,.int .i64 s.st,.string s.rs,.int .i64 s.z2,.slice ga (List.length s.ys) gc,.slice none 0 0,.int .i64 s.fk,.int .i64 s.fl,.int .i64 s.left,.int .i64 (s.size+((List.length out:Nat):Int)),.int .i64 c.ph,.int .i64 c.left,.int .i64 c.tr,.slice a (List.length c.line) cc]:=⟨_,rfl⟩;have HC2:=Box.mk hc2;clear hc1 hc2;go_upto_region 5 with (first | refine wpList_load_row rfl 35 _ rfl gk rfl 35 #[.int .i64 c.ph,.int .i64 c.left,.int .i64 c.tr,.slice a (List.length c.line) cc] (0,0) _ HK3.out Tryz.underlying35 rfl j8 ?_ | refine jk rfl 35 _ _ rfl g 18 #[.int .i64 c.ph,.int .i64 c.left,.int .i64 c.tr,.slice a (List.length c.line) cc] rfl rfl 61 _ c1 HM3.out j8 (by rw [hcs22]; show 18+4≤22; decide) (oneC ..) (by rw [HCS.out,HC1.out]; rfl) ?_)
   obtain ⟨W4,hW4⟩ : ∃ W4,W4=w3.setRow g c1:=⟨_,rfl⟩;have HM4:=Box.mk (show MVr W4 g c1 by rw [hW4]; exact setRow_heap _ _ _ _ _ _ HM3.out);have HG34:=Box.mk (show w3.grownBy W4 (some g) by rw [hW4]; exact jy _ _ _);have hc17:W4.cell? ⟨g,17,none⟩=some (.int .i64 s.size):=by rw [HM4.out.cell,HC1.out]; rfl
   have hz17:W4.frozen? ⟨g,17,none⟩=false:=HM4.out.frozen 17;rw [← hW4];clear hW4;go_upto_region 6 with fail
   obtain ⟨W5,hW5⟩ : ∃ W5,W5=W4.setCell ⟨g,17,none⟩ (.int .i64 (s.size+((List.length out:Nat):Int))):=⟨_,rfl⟩;have HM5:=Box.mk (show MVr W5 g c2 by rw [hW5]; have h:=HM4.out.put (i:=17) (v:=.int .i64 (s.size+((List.length out:Nat):Int))); rw [show c1.setIfInBounds 17 (.int .i64 (s.size+((List.length out:Nat):Int)))=c2 by rw [HC1.out,HC2.out]; rfl] at h; exact h);have hg35:w3.grownBy W5 (some g):=by rw [hW5]; exact qh HG34.out (qu _ _ _ _)
   have hP5:PVr W5 (w.heap.size+1) #[.int .i64 0,.slice none 0 0]:=(hg35.block _ hlw3 (fun e=>by injection e with e; omega)).trans HP3.out;have hL5:LVr W5 w.heap.size most body room:=(hg35.block _ (by omega) (fun e=>by injection e with e; omega)).trans HL3.out;have hK5:CVar W5 gk c.ph c.left c.tr (.slice a (List.length c.line) cc):=(hg35.block _ HK3.out.lt (fun e=>by injection e with e; omega)).trans HK3.out;have hLN5:=HLN3.out.grownR hg35 (qx HM3.out HN.out HLN3.out);have hOUT5:=HOUT3.out.grownR hg35 (qx HM3.out HN.out HOUT3.out);have hG5:=qh HG3.out hg35;have hlw5:w.heap.size+1<W5.heap.size:=Nat.lt_of_lt_of_le hlw3 hg35.size;have hm17:W5.cell? ⟨g,17,none⟩=some (.int .i64 (s.size+((List.length out:Nat):Int))):=by rw [HM5.out.cell,HC2.out]; rfl
   have hl1:W5.cell? ⟨w.heap.size,1,none⟩=some (.int .i64 body):=by rw [cell_of_row _ _ _ _ _ _ hL5]; rfl
   rw [← hW5];have HDR:∀ k,Below W5.heap.size W5 (W5.drewN k):=fun k=>below_drewN (Below.refl _ _) k;have HM6:=Box.mk (fun k=>HM5.out.keep (HDR k));have HP6:=Box.mk (fun k=>hP5.keep (HDR k));have HK6:=Box.mk (fun k=>hK5.keep (HDR k));have HLN6:=Box.mk (fun k=>hLN5.keep (HDR k));have HOUT6:=Box.mk (fun k=>hOUT5.keep (HDR k));have HG6:=Box.mk (fun k=>qh hG5 (qs (HDR k) (some g)));have HLW:=Box.mk (fun k=>Nat.lt_of_lt_of_le hlw5 (HDR k).size);clear hW5 hc17 hz17 HM3 HM4 HM5 HG34 hg35 hP5 hL5 hK5 hLN5 hOUT5 hG5 hlw5 HDR HP3 HL3 HK3 HLN3 HOUT3 HG3 hlw3 HC1 HCS hcs22 HN H17;have hk60:∀ k,(W5.drewN k).cell? ⟨gk,0,none⟩=some (.int .i64 4):=fun k=>by rw [(HK6.out k).cells.1]; rw [Bhp.out]
   have HC22:=Box.mk (show c2[2]? = some (.int .i64 s.ph) by rw [HC2.out]; rfl);have hgt:¬ s.size+((List.length out:Nat):Int) > body:=by omega
   clear hbs;go_wp2_with fail;go_quiet (fail)
   go_wp2_with fail;refine (qxm g c2 s.ph n _ (HM6.out _) HC22.out).mono ?_;rintro e w7 ⟨rfl,hm7,hg7⟩;have HM7:=Box.mk hm7;have HP7:=Box.mk (show PVr w7 (w.heap.size+1) #[.int .i64 0,.slice none 0 0] from (hg7.block _ (HLW.out _) (fun e=>by injection e with e; omega)).trans (HP6.out _));have HLN7:=Box.mk (qza (HM6.out _) (by rw [HC2.out]; exact qw rfl) (HLN6.out _) hg7);have HG7:=Box.mk (qh (HG6.out _) hg7);clear hm7 hg7;go_wp2_with (refine wpList_store_row rfl 41 _ _ rfl (w.heap.size+1) #[.int .i64 3,.slice none 0 0] rfl rfl 41 _ HP7.out j1 rfl (qap ..) ?_)
   (try simp only [Exit.inBlock,Exit.then])
   refine bodyPost_ret (ji rfl _ _ (w.heap.size+1) 41 #[.int .i64 3,.slice none 0 0] (0,0) _ rfl (setRow_heap _ _ _ _ _ _ HP7.out) Tryz.underlying41 rfl j1) rfl ?_;exact ⟨a,cc,rfl,by have h:=HM7.out; rw [HC2.out] at h; exact (setRow_other _ _ _ _ (by omega)).trans h,HLN7.out.same fun x e hl=>setRow_other _ _ _ _ (qx HP7.out (qw rfl) HLN7.out x e hl),HLF.out,js HG7.out (by omega) _⟩
theorem qg1 (w:World) (ad:Option Addr) (n c k:Nat) (hk:k≤n) (hc:n≤c):(Instr.sliceAt 23 (.slice ad n c) none (some (.int .i64 (k:Int))) none).run Tryz.prog w = .ok (.slice ad k c) w:=by
 have es:(sizeOf (Tryz.prog.elem 23)).run Tryz.prog w = .ok 1 w:=by rw [show Tryz.prog.elem 23=5 by kernel_rfl]; exact qp9 w
 rw [run_sliceAt_slice w 23 _ _ _ _ (by kernel_rfl),run_slice_h w 23 _ _ _ (by kernel_rfl) .i64 (k:Int) (by omega) (by omega),es];have ha:Option.map (fun x:Addr=>x.add 0) ad=ad:=by cases ad <;> simp [Addr.add]
 simp [Result.andThen,sliced,ha]
theorem qoi (g:Nat) (cs:Array Value) (da:Option Addr) (n dc:Nat) (w:World) (hn:n=0) (hm:MVr w g cs) :
  Calls Tryz.prog 85 #[.pointer (some ⟨g,0,none⟩),.slice da n dc] w fun e w'=>e = .returned (.tuple #[.agg #[.int .i64 0,.slice none 0 0],.int .i64 0,.int .i64 0])∧MVr w' g cs∧w.grownBy w' (some g):=by
 subst hn;exact jak g cs da dc w hm
theorem qmc (g:Nat) (cs:Array Value) (z:Int) (d:List UInt8) (da:Option Addr) (n dc:Nat) (w:World) (hn:d.length=n) (hm:MVr w g cs) (h17:cs[17]? = some (.int .i64 z)) (hz:0≤z∧z≤1000000000) (hu:NoU8 cs) (hd:qg w da d dc) (hl:n≤1000000) (h0:0<n) :
  Calls Tryz.prog 85 #[.pointer (some ⟨g,0,none⟩),.slice da n dc] w fun e w'=>∃ pa pc,e = .returned (.tuple #[.agg #[.int .i64 2,.slice pa n pc],.int .i64 n,.int .i64 0])∧qg w' pa d pc∧MVr w' g (cs.setIfInBounds 17 (.int .i64 (z+n)))∧w.grownBy w' (some g):=by
 subst hn;exact qyp g cs z d da dc w hm h17 hz hu hd hl h0
theorem qx8 {cs:Array Value} {i:Nat} {z:Int} (h:NoU8 cs):NoU8 (cs.setIfInBounds i (.int .i64 z)):=fun j y e=>by
 by_cases hj:i=j
 · subst hj
   rw [Array.getElem?_setIfInBounds] at e;simp only [if_true] at e
   split at e
   · injection e with e; cases e
   · cases e
 · rw [Array.getElem?_setIfInBounds_ne hj] at e
   exact h j y e
theorem jcx (b:List UInt8) (most body room:Int) (ba:Option Addr) (bc:Nat) (g:Nat) (cs:Array Value) (w:World) (hm:MVr w g cs) (p left:Int) (h2:cs[2]? = some (.int .i64 p)) (h16:cs[16]? = some (.int .i64 left)) (h0:left=0) :
  Calls Tryz.prog 60 #[.pointer (some ⟨g,0,none⟩),.slice ba b.length bc,.agg #[.int .i64 most,.int .i64 body,.int .i64 room]] w fun e w'=>e = .returned (.tuple #[.agg #[.int .i64 3,.slice none 0 0],.int .i64 0,.int .i64 0])∧MVr w' g (cs.setIfInBounds 2 (.int .i64 2))∧w.grownBy w' (some g):=by
 obtain ⟨W1,hW1⟩ : ∃ W1,W1=(w.alloc (.cells #[.int .i64 most,.int .i64 body,.int .i64 room] 69)).alloc (.cells #[.int .i64 0,.slice none 0 0] 41):=⟨_,rfl⟩;have HB1:=Box.mk (show Below w.heap.size w W1 by rw [hW1]; exact qk (qd _ _) _);have HL1:=Box.mk (show LVr W1 w.heap.size most body room by rw [hW1]; exact LVr.keep (heap_alloc_new w (.cells #[.int .i64 most,.int .i64 body,.int .i64 room] 69)) (qd _ _));have HO:=Box.mk (show PVr W1 (w.heap.size+1) #[.int .i64 0,.slice none 0 0] by
  have h:=heap_alloc_new (w.alloc (.cells #[.int .i64 most,.int .i64 body,.int .i64 room] 69)) (.cells #[.int .i64 0,.slice none 0 0] 41);rw [World.size_alloc] at h;rw [hW1]; exact h)
 have HW1:=Box.mk hW1;have HM1:=Box.mk (hm.keep HB1.out);have hlt:=hm.lt;have hlw:w.heap.size+1<W1.heap.size:=(Array.getElem?_eq_some_iff.1 HO.out).1;clear hW1 hm;have hm16:W1.cell? ⟨g,16,none⟩=some (.int .i64 left):=by rw [HM1.out.cell]; exact h16
 have hle:left≤0:=by omega
 have H2:=Box.mk h2;clear h2 h16 h0;go_enter Tryz.func60,Tryz.ntmps60
 go_upto_region 1 with fail
 rw [← HW1.out];clear HW1;go_wp2_with fail;refine (qxm g cs p 0 W1 HM1.out H2.out).mono ?_;rintro e w2 ⟨rfl,hm2,hg2⟩;have HM2:=Box.mk hm2;have HP2:=Box.mk (show PVr w2 (w.heap.size+1) #[.int .i64 0,.slice none 0 0] from (hg2.block _ hlw (fun e=>by injection e with e; omega)).trans HO.out);have HG2:=Box.mk (qh (qs HB1.out (some g)) hg2);clear hm2 hg2 HM1 HO HB1 HL1;go_wp2_with (refine wpList_store_row rfl 41 _ _ rfl (w.heap.size+1) #[.int .i64 3,.slice none 0 0] rfl rfl 41 _ HP2.out j1 rfl (qap ..) ?_)
 (try simp only [Exit.inBlock,Exit.then])
 refine bodyPost_ret (ji rfl _ _ (w.heap.size+1) 41 #[.int .i64 3,.slice none 0 0] (0,0) _ rfl (setRow_heap _ _ _ _ _ _ HP2.out) Tryz.underlying41 rfl j1) rfl ?_;exact ⟨rfl,(setRow_other _ _ _ _ (by omega)).trans HM2.out,js HG2.out (by omega) _⟩
theorem jep (b:List UInt8) (most body room:Int) (ba:Option Addr) (bc:Nat) (g:Nat) (cs:Array Value) (w:World) (hb:qg w ba b bc) (hl:b.length≤1000000) (hm:MVr w g cs) (left z:Int) (h16:cs[16]? = some (.int .i64 left)) (h17:cs[17]? = some (.int .i64 z)) (hz:0≤z∧z≤1000000000) (hn:NoU8 cs) (hs:17<cs.size) (h0:0<left∧left≤1000000000) (q:Nat) (hq:minI (minI left room) b.length=(q:Int)) (hql:q≤b.length) (hqL:(q:Int)≤left) (hq0:q=0) :
  Calls Tryz.prog 60 #[.pointer (some ⟨g,0,none⟩),.slice ba b.length bc,.agg #[.int .i64 most,.int .i64 body,.int .i64 room]] w fun e w'=>e = .returned (.tuple #[.agg #[.int .i64 0,.slice none 0 0],.int .i64 0,.int .i64 0])∧MVr w' g (cs.setIfInBounds 16 (.int .i64 (left-(q:Int))))∧w.grownBy w' (some g):=by
 obtain ⟨W1,hW1⟩ : ∃ W1,W1=(w.alloc (.cells #[.int .i64 most,.int .i64 body,.int .i64 room] 69)).alloc (.cells #[.int .i64 0,.slice none 0 0] 41):=⟨_,rfl⟩;have HB1:=Box.mk (show Below w.heap.size w W1 by rw [hW1]; exact qk (qd _ _) _);have HL1:=Box.mk (show LVr W1 w.heap.size most body room by rw [hW1]; exact LVr.keep (heap_alloc_new w (.cells #[.int .i64 most,.int .i64 body,.int .i64 room] 69)) (qd _ _));have HO:=Box.mk (show PVr W1 (w.heap.size+1) #[.int .i64 0,.slice none 0 0] by
  have h:=heap_alloc_new (w.alloc (.cells #[.int .i64 most,.int .i64 body,.int .i64 room] 69)) (.cells #[.int .i64 0,.slice none 0 0] 41);rw [World.size_alloc] at h;rw [hW1]; exact h)
 have HW1:=Box.mk hW1;have HM1:=Box.mk (hm.keep HB1.out);have hlt:=hm.lt;have hlw:w.heap.size+1<W1.heap.size:=(Array.getElem?_eq_some_iff.1 HO.out).1;clear hW1 hm;have hm16:W1.cell? ⟨g,16,none⟩=some (.int .i64 left):=by rw [HM1.out.cell]; exact h16
 have hgt:¬ left≤0:=by omega
 have H17:=Box.mk h17;have HN:=Box.mk hn;have HQ:=Box.mk hq;have H16:=Box.mk h16;have HBB:=Box.mk (hb.keep HB1.out);have hcap:b.length≤bc:=kb hb;have HTL:=Box.mk (show (b.take q).length=q by rw [List.length_take]; omega);obtain ⟨h0a,h0b⟩:=h0;clear hb h16 h17 hn hq;have HQ0:=Box.mk hq0;clear hq0;go_enter Tryz.func60,Tryz.ntmps60
 go_upto_region 1 with fail
 rw [← HW1.out];clear HW1;go_wp2_with fail;rename_i KK hKK;refine qas (S:=[.val (.pointer (some ⟨g,0,none⟩)),.val (.pointer (some ⟨g,0,none⟩)),.val (.pointer (some ⟨g,16,none⟩)),.val (.int .i64 left),.val (.pointer (some ⟨w.heap.size,2,none⟩)),.val (.int .i64 room),.val (.slice ba b.length bc),.val (.int .i64 b.length),.val (.int .i64 (q:Int)),.val (.int .i64 (q:Int))])
  (by kernel_rfl) (by kernel_rfl) (by kernel_rfl) ?_ ?_
 · refine ⟨?_,?_,?_,?_,?_,?_,?_,?_,?_,?_,trivial⟩ <;> intro a w' hb hf hd
   · exact ⟨qb rfl,qi rfl (hf.base 0 rfl)⟩
   · exact ⟨qb rfl,qaf rfl (hd 0 rfl) rfl⟩
   · exact ⟨qb rfl,qb0 rfl (hd 1 rfl) (by decide) rfl rfl⟩
   · exact ⟨qb rfl,jg rfl (hd 2 rfl) (by rw [(HM1.out.keep hb).cell]; exact H16.out) (qay _) rfl⟩
   · exact ⟨qb rfl,qck rfl (hf.base 5 rfl) (by decide) rfl⟩
   · exact ⟨qb rfl,jg rfl (hd 4 rfl) (by rw [cell_of_row _ _ _ _ _ _ (HL1.out.keep hb)]; rfl) (qay _) rfl⟩
   · exact ⟨qb rfl,qi rfl (hf.base 1 rfl)⟩
   · exact ⟨qb rfl,qqr rfl (hd 6 rfl) rfl⟩
   · exact ⟨qb rfl,qtu rfl (hd 3 rfl) (hd 5 rfl) (hd 7 rfl) HQ.out rfl⟩
   · exact ⟨qb rfl,qr rfl (hd 8 rfl)⟩
 · intro a2 w2 hv hf hh
   have e9:a2.eval (.tmp 9) = .int .i64 (q:Int):=hh 9 (by decide);clear hh;rw [jl hf];clear hf;simp only [kg,e9];generalize a2.eval (.tmp 20)=u20;generalize a2.eval (.tmp 21)=u21;generalize a2.eval (.tmp 22)=u22;generalize a2.eval (.tmp 23)=u23;generalize a2.eval (.tmp 24)=u24;generalize a2.eval (.tmp 25)=u25;generalize a2.eval (.tmp 26)=u26;generalize a2.eval (.tmp 27)=u27;generalize a2.eval (.tmp 28)=u28;clear e9 a2;simp only [Act.put,List.setIfInBounds_toArray,List.set_cons_succ,List.set_cons_zero];refine hKK _ _ ?_;clear hKK;have HM2:=Box.mk (HM1.out.keep hv);have HP2:=Box.mk (HO.out.keep hv);have HBB2:=Box.mk (HBB.out.keep hv);have HG2:=Box.mk (qs (qe HB1.out hv) (some g));have hc16:w2.cell? ⟨g,16,none⟩=some (.int .i64 left):=by rw [HM2.out.cell]; exact H16.out
   have hz16:w2.frozen? ⟨g,16,none⟩=false:=HM2.out.frozen 16;have hlw2:w.heap.size+1<w2.heap.size:=Nat.lt_of_lt_of_le hlw hv.size;clear hv HM1 HO HBB HB1 HL1 hm16 hlw;go_upto_region 5 with fail
   obtain ⟨W3,hW3⟩ : ∃ W3,W3=w2.setCell ⟨g,16,none⟩ (.int .i64 (left-(q:Int))):=⟨_,rfl⟩;have HG3a:=Box.mk (show w2.grownBy W3 (some g) by rw [hW3]; exact qu _ _ _ _);have HM3:=Box.mk (show MVr W3 g (cs.setIfInBounds 16 (.int .i64 (left-(q:Int)))) by rw [hW3]; exact HM2.out.put);have HP3:=Box.mk (show PVr W3 (w.heap.size+1) #[.int .i64 0,.slice none 0 0] from (HG3a.out.block _ hlw2 (fun e=>by injection e with e; omega)).trans HP2.out);have HBB3:=Box.mk (HBB2.out.grownR HG3a.out (qx HM2.out HN.out HBB2.out));have HG3:=Box.mk (qh HG2.out HG3a.out);have H173:=Box.mk (show (cs.setIfInBounds 16 (.int .i64 (left-(q:Int))))[17]? = some (.int .i64 z) by rw [Array.getElem?_setIfInBounds_ne (by decide)]; exact H17.out);have HN3:=Box.mk (qx8 (i:=16) (z:=left-(q:Int)) HN.out);have hlw3:w.heap.size+1<W3.heap.size:=(Array.getElem?_eq_some_iff.1 HP3.out).1;have hsl:∀ W,(Instr.sliceAt 23 (.slice ba b.length bc) none (some (.int .i64 (q:Int))) none).run Tryz.prog W = .ok (.slice ba q bc) W:=fun W=>qg1 W ba b.length bc q hql hcap;rw [← hW3];clear hW3 hc16 hz16 HM2 HP2 HBB2 HG2 HG3a HN;go_wp2_with fail;refine (qoi g _ ba q bc W3 HQ0.out HM3.out).mono ?_;rintro e w4 ⟨rfl,hm4,hg4⟩;have HM4:=Box.mk hm4;have HP4:=Box.mk (show PVr w4 (w.heap.size+1) #[.int .i64 0,.slice none 0 0] from (hg4.block _ hlw3 (fun e=>by injection e with e; omega)).trans HP3.out);have HG4:=Box.mk (qh HG3.out hg4);clear hm4 hg4 HM3 HP3 HG3 HBB3 H173;go_wp2_with (refine wpList_store_row rfl 41 _ _ rfl (w.heap.size+1) #[.int .i64 0,.slice none 0 0] rfl rfl 41 _ HP4.out j1 rfl (qap ..) ?_)
   (try simp only [Exit.inBlock,Exit.then])
   refine bodyPost_ret (ji rfl _ _ (w.heap.size+1) 41 #[.int .i64 0,.slice none 0 0] (0,0) _ rfl (setRow_heap _ _ _ _ _ _ HP4.out) Tryz.underlying41 rfl j1) rfl ?_;exact ⟨rfl,(setRow_other _ _ _ _ (by omega)).trans HM4.out,js HG4.out (by omega) _⟩
theorem jan (b:List UInt8) (most body room:Int) (ba:Option Addr) (bc:Nat) (g:Nat) (cs:Array Value) (w:World) (hb:qg w ba b bc) (hl:b.length≤1000000) (hm:MVr w g cs) (left z:Int) (h16:cs[16]? = some (.int .i64 left)) (h17:cs[17]? = some (.int .i64 z)) (hz:0≤z∧z≤1000000000) (hn:NoU8 cs) (hs:17<cs.size) (h0:0<left∧left≤1000000000) (q:Nat) (hq:minI (minI left room) b.length=(q:Int)) (hql:q≤b.length) (hqL:(q:Int)≤left) (hq0:0<q) :
  Calls Tryz.prog 60 #[.pointer (some ⟨g,0,none⟩),.slice ba b.length bc,.agg #[.int .i64 most,.int .i64 body,.int .i64 room]] w fun e w'=>∃ pa pc,e = .returned (.tuple #[.agg #[.int .i64 2,.slice pa q pc],.int .i64 q,.int .i64 0])∧qg w' pa (b.take q) pc∧MVr w' g ((cs.setIfInBounds 16 (.int .i64 (left-(q:Int)))).setIfInBounds 17 (.int .i64 (z+(q:Int))))∧w.grownBy w' (some g):=by
 obtain ⟨W1,hW1⟩ : ∃ W1,W1=(w.alloc (.cells #[.int .i64 most,.int .i64 body,.int .i64 room] 69)).alloc (.cells #[.int .i64 0,.slice none 0 0] 41):=⟨_,rfl⟩;have HB1:=Box.mk (show Below w.heap.size w W1 by rw [hW1]; exact qk (qd _ _) _);have HL1:=Box.mk (show LVr W1 w.heap.size most body room by rw [hW1]; exact LVr.keep (heap_alloc_new w (.cells #[.int .i64 most,.int .i64 body,.int .i64 room] 69)) (qd _ _));have HO:=Box.mk (show PVr W1 (w.heap.size+1) #[.int .i64 0,.slice none 0 0] by
  have h:=heap_alloc_new (w.alloc (.cells #[.int .i64 most,.int .i64 body,.int .i64 room] 69)) (.cells #[.int .i64 0,.slice none 0 0] 41);rw [World.size_alloc] at h;rw [hW1]; exact h)
 have HW1:=Box.mk hW1;have HM1:=Box.mk (hm.keep HB1.out);have hlt:=hm.lt;have hlw:w.heap.size+1<W1.heap.size:=(Array.getElem?_eq_some_iff.1 HO.out).1;clear hW1 hm;have hm16:W1.cell? ⟨g,16,none⟩=some (.int .i64 left):=by rw [HM1.out.cell]; exact h16
 have hgt:¬ left≤0:=by omega
 have H17:=Box.mk h17;have HN:=Box.mk hn;have HQ:=Box.mk hq;have H16:=Box.mk h16;have HBB:=Box.mk (hb.keep HB1.out);have hcap:b.length≤bc:=kb hb;have HTL:=Box.mk (show (b.take q).length=q by rw [List.length_take]; omega);obtain ⟨h0a,h0b⟩:=h0;clear hb h16 h17 hn hq;go_enter Tryz.func60,Tryz.ntmps60
 go_upto_region 1 with fail
 rw [← HW1.out];clear HW1;go_wp2_with fail;rename_i KK hKK;refine qas (S:=[.val (.pointer (some ⟨g,0,none⟩)),.val (.pointer (some ⟨g,0,none⟩)),.val (.pointer (some ⟨g,16,none⟩)),.val (.int .i64 left),.val (.pointer (some ⟨w.heap.size,2,none⟩)),.val (.int .i64 room),.val (.slice ba b.length bc),.val (.int .i64 b.length),.val (.int .i64 (q:Int)),.val (.int .i64 (q:Int))])
  (by kernel_rfl) (by kernel_rfl) (by kernel_rfl) ?_ ?_
 · refine ⟨?_,?_,?_,?_,?_,?_,?_,?_,?_,?_,trivial⟩ <;> intro a w' hb hf hd
   · exact ⟨qb rfl,qi rfl (hf.base 0 rfl)⟩
   · exact ⟨qb rfl,qaf rfl (hd 0 rfl) rfl⟩
   · exact ⟨qb rfl,qb0 rfl (hd 1 rfl) (by decide) rfl rfl⟩
   · exact ⟨qb rfl,jg rfl (hd 2 rfl) (by rw [(HM1.out.keep hb).cell]; exact H16.out) (qay _) rfl⟩
   · exact ⟨qb rfl,qck rfl (hf.base 5 rfl) (by decide) rfl⟩
   · exact ⟨qb rfl,jg rfl (hd 4 rfl) (by rw [cell_of_row _ _ _ _ _ _ (HL1.out.keep hb)]; rfl) (qay _) rfl⟩
   · exact ⟨qb rfl,qi rfl (hf.base 1 rfl)⟩
   · exact ⟨qb rfl,qqr rfl (hd 6 rfl) rfl⟩
   · exact ⟨qb rfl,qtu rfl (hd 3 rfl) (hd 5 rfl) (hd 7 rfl) HQ.out rfl⟩
   · exact ⟨qb rfl,qr rfl (hd 8 rfl)⟩
 · intro a2 w2 hv hf hh
   have e9:a2.eval (.tmp 9) = .int .i64 (q:Int):=hh 9 (by decide);clear hh;rw [jl hf];clear hf;simp only [kg,e9];generalize a2.eval (.tmp 20)=u20;generalize a2.eval (.tmp 21)=u21;generalize a2.eval (.tmp 22)=u22;generalize a2.eval (.tmp 23)=u23;generalize a2.eval (.tmp 24)=u24;generalize a2.eval (.tmp 25)=u25;generalize a2.eval (.tmp 26)=u26;generalize a2.eval (.tmp 27)=u27;generalize a2.eval (.tmp 28)=u28;clear e9 a2;simp only [Act.put,List.setIfInBounds_toArray,List.set_cons_succ,List.set_cons_zero];refine hKK _ _ ?_;clear hKK;have HM2:=Box.mk (HM1.out.keep hv);have HP2:=Box.mk (HO.out.keep hv);have HBB2:=Box.mk (HBB.out.keep hv);have HG2:=Box.mk (qs (qe HB1.out hv) (some g));have hc16:w2.cell? ⟨g,16,none⟩=some (.int .i64 left):=by rw [HM2.out.cell]; exact H16.out
   have hz16:w2.frozen? ⟨g,16,none⟩=false:=HM2.out.frozen 16;have hlw2:w.heap.size+1<w2.heap.size:=Nat.lt_of_lt_of_le hlw hv.size;clear hv HM1 HO HBB HB1 HL1 hm16 hlw;go_upto_region 5 with fail
   obtain ⟨W3,hW3⟩ : ∃ W3,W3=w2.setCell ⟨g,16,none⟩ (.int .i64 (left-(q:Int))):=⟨_,rfl⟩;have HG3a:=Box.mk (show w2.grownBy W3 (some g) by rw [hW3]; exact qu _ _ _ _);have HM3:=Box.mk (show MVr W3 g (cs.setIfInBounds 16 (.int .i64 (left-(q:Int)))) by rw [hW3]; exact HM2.out.put);have HP3:=Box.mk (show PVr W3 (w.heap.size+1) #[.int .i64 0,.slice none 0 0] from (HG3a.out.block _ hlw2 (fun e=>by injection e with e; omega)).trans HP2.out);have HBB3:=Box.mk (HBB2.out.grownR HG3a.out (qx HM2.out HN.out HBB2.out));have HG3:=Box.mk (qh HG2.out HG3a.out);have H173:=Box.mk (show (cs.setIfInBounds 16 (.int .i64 (left-(q:Int))))[17]? = some (.int .i64 z) by rw [Array.getElem?_setIfInBounds_ne (by decide)]; exact H17.out);have HN3:=Box.mk (qx8 (i:=16) (z:=left-(q:Int)) HN.out);have hlw3:w.heap.size+1<W3.heap.size:=(Array.getElem?_eq_some_iff.1 HP3.out).1;have hsl:∀ W,(Instr.sliceAt 23 (.slice ba b.length bc) none (some (.int .i64 (q:Int))) none).run Tryz.prog W = .ok (.slice ba q bc) W:=fun W=>qg1 W ba b.length bc q hql hcap;rw [← hW3];clear hW3 hc16 hz16 HM2 HP2 HBB2 HG2 HG3a HN;go_wp2_with fail;refine (qmc g _ z (b.take q) ba q bc W3 HTL.out HM3.out H173.out hz HN3.out (ki HBB3.out q) (by omega) hq0).mono ?_;rintro e w4 ⟨pa,pc,rfl,hd4,hm4,hg4⟩;have HM4:=Box.mk hm4;have HD4:=Box.mk hd4;have HP4:=Box.mk (show PVr w4 (w.heap.size+1) #[.int .i64 0,.slice none 0 0] from (hg4.block _ hlw3 (fun e=>by injection e with e; omega)).trans HP3.out);have HG4:=Box.mk (qh HG3.out hg4);clear hm4 hg4 HM3 HP3 HG3 HBB3 H173 hd4;go_wp2_with (refine wpList_store_row rfl 41 _ _ rfl (w.heap.size+1) #[.int .i64 2,.slice pa q pc] rfl rfl 41 _ HP4.out j1 rfl (qap ..) ?_)
   (try simp only [Exit.inBlock,Exit.then])
   refine bodyPost_ret (ji rfl _ _ (w.heap.size+1) 41 #[.int .i64 2,.slice pa q pc] (0,0) _ rfl (setRow_heap _ _ _ _ _ _ HP4.out) Tryz.underlying41 rfl j1) rfl ?_;exact ⟨pa,pc,rfl,HD4.out.same fun x e hl=>setRow_other _ _ _ _ (qx HP4.out (qw rfl) HD4.out x e hl),(setRow_other _ _ _ _ (by omega)).trans HM4.out,js HG4.out (by omega) _⟩
theorem jb5 (b:List UInt8) (most body room:Int) (ba:Option Addr) (bc:Nat) (g:Nat) (cs:Array Value) (w:World) (hb:qg w ba b bc) (hl:b.length≤1000000) (hm:MVr w g cs) (z:Int) (h17:cs[17]? = some (.int .i64 z)) (hz:0≤z∧z≤1000000000) (hy:0≤body∧body≤1000000000) (hn:NoU8 cs) (q:Nat) (hq:minI (minI room (body+1-z)) b.length=(q:Int)) (hql:q≤b.length) (hq0:q=0) :
  Calls Tryz.prog 62 #[.pointer (some ⟨g,0,none⟩),.slice ba b.length bc,.agg #[.int .i64 most,.int .i64 body,.int .i64 room]] w fun e w'=>e = .returned (.tuple #[.agg #[.int .i64 0,.slice none 0 0],.int .i64 0,.int .i64 0])∧MVr w' g cs∧w.grownBy w' (some g):=by
 obtain ⟨W1,hW1⟩ : ∃ W1,W1=(w.alloc (.cells #[.int .i64 most,.int .i64 body,.int .i64 room] 69)).alloc (.cells #[.int .i64 0,.slice none 0 0] 41):=⟨_,rfl⟩;have HB1:=Box.mk (show Below w.heap.size w W1 by rw [hW1]; exact qk (qd _ _) _);have HL1:=Box.mk (show LVr W1 w.heap.size most body room by rw [hW1]; exact LVr.keep (heap_alloc_new w (.cells #[.int .i64 most,.int .i64 body,.int .i64 room] 69)) (qd _ _));have HO:=Box.mk (show PVr W1 (w.heap.size+1) #[.int .i64 0,.slice none 0 0] by
  have h:=heap_alloc_new (w.alloc (.cells #[.int .i64 most,.int .i64 body,.int .i64 room] 69)) (.cells #[.int .i64 0,.slice none 0 0] 41);rw [World.size_alloc] at h;rw [hW1]; exact h)
 have HW1:=Box.mk hW1;have HM1:=Box.mk (hm.keep HB1.out);have hlt:=hm.lt;have hlw:w.heap.size+1<W1.heap.size:=(Array.getElem?_eq_some_iff.1 HO.out).1;clear hW1 hm;have hm17:W1.cell? ⟨g,17,none⟩=some (.int .i64 z):=by rw [HM1.out.cell]; exact h17
 have H17:=Box.mk h17;have HN:=Box.mk hn;have HBB:=Box.mk (hb.keep HB1.out);have hcap:b.length≤bc:=kb hb;have HTL:=Box.mk (show (b.take q).length=q by rw [List.length_take]; omega);have HCALL:=Box.mk (qd4 g cs most body room z W1 HM1.out h17 hy hz);obtain ⟨rk,hrk⟩ : ∃ rk:Int,rk=minI room (body+1-z):=⟨_,rfl⟩;rw [← hrk] at HCALL hq;have hmn:∀ (ts:Array TypeId) (t:TypeId) (W:World),(Builtin.min_ ts t #[.int .i64 rk,.int .i64 b.length]).run Tryz.prog W = .ok (.int .i64 (q:Int)) W:=fun ts t W=>by
  rw [run_min_int2];have h:=hq;unfold minI at h;congr 2;rw [← h]
  split <;> split <;> omega
 have hl1:W1.cell? ⟨w.heap.size,1,none⟩=some (.int .i64 body):=by rw [cell_of_row _ _ _ _ _ _ HL1.out]; rfl
 clear hb h17 hn hq hrk;have eq0:((q:Int) != 0)=false:=by rw [hq0]; rfl
 have HQ0:=Box.mk hq0;clear hq0;go_enter Tryz.func62,Tryz.ntmps62
 go_upto_region 1 with fail
 rw [← HW1.out];clear HW1;go_wp2_with (refine wpList_load_row rfl 69 _ rfl w.heap.size rfl 69 #[.int .i64 most,.int .i64 body,.int .i64 room] (0,0) _ HL1.out Tryz.underlying69 rfl qoj ?_)
 refine HCALL.out.mono ?_;rintro e w2 ⟨rfl,hv⟩;have HDR:∀ n,Below W1.heap.size W1 (w2.drewN n):=fun n=>qe hv (below_drewN (Below.refl _ _) n);have HM2:=Box.mk (fun n=>HM1.out.keep (HDR n));have HP2:=Box.mk (fun n=>HO.out.keep (HDR n));have HBB2:=Box.mk (fun n=>HBB.out.keep (HDR n));have HG2:=Box.mk (fun n=>qs (qe HB1.out (HDR n)) (some g));have hc17:w2.cell? ⟨g,17,none⟩=some (.int .i64 z):=by rw [(HM1.out.keep hv).cell]; exact H17.out
 have hlw2:∀ n,w.heap.size+1<(w2.drewN n).heap.size:=fun n=>Nat.lt_of_lt_of_le hlw (HDR n).size;have hlb:w2.cell? ⟨w.heap.size,1,none⟩=some (.int .i64 body):=by rw [cell_of_row _ _ _ _ _ _ (HL1.out.keep hv)]; rfl
 have HLW:=Box.mk hlw2;have hsl:∀ W,(Instr.sliceAt 23 (.slice ba b.length bc) none (some (.int .i64 (q:Int))) none).run Tryz.prog W = .ok (.slice ba q bc) W:=fun W=>qg1 W ba b.length bc q hql hcap;clear hv HM1 HO HBB HB1 HL1 hm17 hlw hl1 HCALL HDR hlw2;go_wp2_with fail;go_quiet (fail)
 go_wp2_with fail;refine (qoi g cs ba q bc _ HQ0.out (HM2.out _)).mono ?_;rintro e w4 ⟨rfl,hm4,hg4⟩;have HM4:=Box.mk hm4;have HP4:=Box.mk (show PVr w4 (w.heap.size+1) #[.int .i64 0,.slice none 0 0] from (hg4.block _ (HLW.out _) (fun e=>by injection e with e; omega)).trans (HP2.out _));have HG4:=Box.mk (qh (HG2.out _) hg4);clear hm4 hg4 HM2 HP2 HG2 HBB2;go_wp2_with (refine wpList_store_row rfl 41 _ _ rfl (w.heap.size+1) #[.int .i64 0,.slice none 0 0] rfl rfl 41 _ HP4.out j1 rfl (qap ..) ?_)
 (try simp only [Exit.inBlock,Exit.then])
 refine bodyPost_ret (ji rfl _ _ (w.heap.size+1) 41 #[.int .i64 0,.slice none 0 0] (0,0) _ rfl (setRow_heap _ _ _ _ _ _ HP4.out) Tryz.underlying41 rfl j1) rfl ?_;exact ⟨rfl,(setRow_other _ _ _ _ (by omega)).trans HM4.out,js HG4.out (by omega) _⟩
theorem qvj (b:List UInt8) (most body room:Int) (ba:Option Addr) (bc:Nat) (g:Nat) (cs:Array Value) (w:World) (hb:qg w ba b bc) (hl:b.length≤1000000) (hm:MVr w g cs) (z:Int) (h17:cs[17]? = some (.int .i64 z)) (hz:0≤z∧z≤1000000000) (hy:0≤body∧body≤1000000000) (hn:NoU8 cs) (q:Nat) (hq:minI (minI room (body+1-z)) b.length=(q:Int)) (hql:q≤b.length) (hq0:0<q) (hbs:body<z+(q:Int)) :
  Calls Tryz.prog 62 #[.pointer (some ⟨g,0,none⟩),.slice ba b.length bc,.agg #[.int .i64 most,.int .i64 body,.int .i64 room]] w fun e w'=>e = .returned (.tuple #[.agg #[.int .i64 0,.slice none 0 0],.int .i64 0,.int .i64 9])∧w.grownBy w' (some g):=by
 obtain ⟨W1,hW1⟩ : ∃ W1,W1=(w.alloc (.cells #[.int .i64 most,.int .i64 body,.int .i64 room] 69)).alloc (.cells #[.int .i64 0,.slice none 0 0] 41):=⟨_,rfl⟩;have HB1:=Box.mk (show Below w.heap.size w W1 by rw [hW1]; exact qk (qd _ _) _);have HL1:=Box.mk (show LVr W1 w.heap.size most body room by rw [hW1]; exact LVr.keep (heap_alloc_new w (.cells #[.int .i64 most,.int .i64 body,.int .i64 room] 69)) (qd _ _));have HO:=Box.mk (show PVr W1 (w.heap.size+1) #[.int .i64 0,.slice none 0 0] by
  have h:=heap_alloc_new (w.alloc (.cells #[.int .i64 most,.int .i64 body,.int .i64 room] 69)) (.cells #[.int .i64 0,.slice none 0 0] 41);rw [World.size_alloc] at h;rw [hW1]; exact h)
 have HW1:=Box.mk hW1;have HM1:=Box.mk (hm.keep HB1.out);have hlt:=hm.lt;have hlw:w.heap.size+1<W1.heap.size:=(Array.getElem?_eq_some_iff.1 HO.out).1;clear hW1 hm;have hm17:W1.cell? ⟨g,17,none⟩=some (.int .i64 z):=by rw [HM1.out.cell]; exact h17
 have H17:=Box.mk h17;have HN:=Box.mk hn;have HBB:=Box.mk (hb.keep HB1.out);have hcap:b.length≤bc:=kb hb;have HTL:=Box.mk (show (b.take q).length=q by rw [List.length_take]; omega);have HCALL:=Box.mk (qd4 g cs most body room z W1 HM1.out h17 hy hz);obtain ⟨rk,hrk⟩ : ∃ rk:Int,rk=minI room (body+1-z):=⟨_,rfl⟩;rw [← hrk] at HCALL hq;have hmn:∀ (ts:Array TypeId) (t:TypeId) (W:World),(Builtin.min_ ts t #[.int .i64 rk,.int .i64 b.length]).run Tryz.prog W = .ok (.int .i64 (q:Int)) W:=fun ts t W=>by
  rw [run_min_int2];have h:=hq;unfold minI at h;congr 2;rw [← h]
  split <;> split <;> omega
 have hl1:W1.cell? ⟨w.heap.size,1,none⟩=some (.int .i64 body):=by rw [cell_of_row _ _ _ _ _ _ HL1.out]; rfl
 clear hb h17 hn hq hrk;go_enter Tryz.func62,Tryz.ntmps62
 go_upto_region 1 with fail
 rw [← HW1.out];clear HW1;go_wp2_with (refine wpList_load_row rfl 69 _ rfl w.heap.size rfl 69 #[.int .i64 most,.int .i64 body,.int .i64 room] (0,0) _ HL1.out Tryz.underlying69 rfl qoj ?_)
 refine HCALL.out.mono ?_;rintro e w2 ⟨rfl,hv⟩;have HDR:∀ n,Below W1.heap.size W1 (w2.drewN n):=fun n=>qe hv (below_drewN (Below.refl _ _) n);have HM2:=Box.mk (fun n=>HM1.out.keep (HDR n));have HP2:=Box.mk (fun n=>HO.out.keep (HDR n));have HBB2:=Box.mk (fun n=>HBB.out.keep (HDR n));have HG2:=Box.mk (fun n=>qs (qe HB1.out (HDR n)) (some g));have hc17:w2.cell? ⟨g,17,none⟩=some (.int .i64 z):=by rw [(HM1.out.keep hv).cell]; exact H17.out
 have hlw2:∀ n,w.heap.size+1<(w2.drewN n).heap.size:=fun n=>Nat.lt_of_lt_of_le hlw (HDR n).size;have hlb:w2.cell? ⟨w.heap.size,1,none⟩=some (.int .i64 body):=by rw [cell_of_row _ _ _ _ _ _ (HL1.out.keep hv)]; rfl
 have HLW:=Box.mk hlw2;have hsl:∀ W,(Instr.sliceAt 23 (.slice ba b.length bc) none (some (.int .i64 (q:Int))) none).run Tryz.prog W = .ok (.slice ba q bc) W:=fun W=>qg1 W ba b.length bc q hql hcap;clear hv HM1 HO HBB HB1 HL1 hm17 hlw hl1 HCALL HDR hlw2;have eq0:((q:Int) != 0)=true:=by rw [bne_iff_ne]; omega
 have hgt:z+(q:Int) > body:=by omega
 obtain ⟨hz0,hz1⟩:=hz;clear hbs;go_wp2_with fail;go_quiet (fail)
 go_wp2_with (refine wpList_store_row rfl 41 _ _ rfl (w.heap.size+1) #[.int .i64 0,.slice none 0 0] rfl rfl 41 _ (HP2.out _) j1 rfl (qap ..) ?_)
 (try simp only [Exit.inBlock,Exit.then])
 refine bodyPost_ret (ji rfl _ _ (w.heap.size+1) 41 #[.int .i64 0,.slice none 0 0] (0,0) _ rfl (setRow_heap _ _ _ _ _ _ (HP2.out _)) Tryz.underlying41 rfl j1) rfl ?_;exact ⟨rfl,js (HG2.out _) (by omega) _⟩
theorem qub (b:List UInt8) (most body room:Int) (ba:Option Addr) (bc:Nat) (g:Nat) (cs:Array Value) (w:World) (hb:qg w ba b bc) (hl:b.length≤1000000) (hm:MVr w g cs) (z:Int) (h17:cs[17]? = some (.int .i64 z)) (hz:0≤z∧z≤1000000000) (hy:0≤body∧body≤1000000000) (hn:NoU8 cs) (q:Nat) (hq:minI (minI room (body+1-z)) b.length=(q:Int)) (hql:q≤b.length) (hq0:0<q) (hbs:¬ body<z+(q:Int)) :
  Calls Tryz.prog 62 #[.pointer (some ⟨g,0,none⟩),.slice ba b.length bc,.agg #[.int .i64 most,.int .i64 body,.int .i64 room]] w fun e w'=>∃ pa pc,e = .returned (.tuple #[.agg #[.int .i64 2,.slice pa q pc],.int .i64 q,.int .i64 0])∧qg w' pa (b.take q) pc∧MVr w' g (cs.setIfInBounds 17 (.int .i64 (z+(q:Int))))∧w.grownBy w' (some g):=by
 obtain ⟨W1,hW1⟩ : ∃ W1,W1=(w.alloc (.cells #[.int .i64 most,.int .i64 body,.int .i64 room] 69)).alloc (.cells #[.int .i64 0,.slice none 0 0] 41):=⟨_,rfl⟩;have HB1:=Box.mk (show Below w.heap.size w W1 by rw [hW1]; exact qk (qd _ _) _);have HL1:=Box.mk (show LVr W1 w.heap.size most body room by rw [hW1]; exact LVr.keep (heap_alloc_new w (.cells #[.int .i64 most,.int .i64 body,.int .i64 room] 69)) (qd _ _));have HO:=Box.mk (show PVr W1 (w.heap.size+1) #[.int .i64 0,.slice none 0 0] by
  have h:=heap_alloc_new (w.alloc (.cells #[.int .i64 most,.int .i64 body,.int .i64 room] 69)) (.cells #[.int .i64 0,.slice none 0 0] 41);rw [World.size_alloc] at h;rw [hW1]; exact h)
 have HW1:=Box.mk hW1;have HM1:=Box.mk (hm.keep HB1.out);have hlt:=hm.lt;have hlw:w.heap.size+1<W1.heap.size:=(Array.getElem?_eq_some_iff.1 HO.out).1;clear hW1 hm;have hm17:W1.cell? ⟨g,17,none⟩=some (.int .i64 z):=by rw [HM1.out.cell]; exact h17
 have H17:=Box.mk h17;have HN:=Box.mk hn;have HBB:=Box.mk (hb.keep HB1.out);have hcap:b.length≤bc:=kb hb;have HTL:=Box.mk (show (b.take q).length=q by rw [List.length_take]; omega);have HCALL:=Box.mk (qd4 g cs most body room z W1 HM1.out h17 hy hz);obtain ⟨rk,hrk⟩ : ∃ rk:Int,rk=minI room (body+1-z):=⟨_,rfl⟩;rw [← hrk] at HCALL hq;have hmn:∀ (ts:Array TypeId) (t:TypeId) (W:World),(Builtin.min_ ts t #[.int .i64 rk,.int .i64 b.length]).run Tryz.prog W = .ok (.int .i64 (q:Int)) W:=fun ts t W=>by
  rw [run_min_int2];have h:=hq;unfold minI at h;congr 2;rw [← h]
  split <;> split <;> omega
 have hl1:W1.cell? ⟨w.heap.size,1,none⟩=some (.int .i64 body):=by rw [cell_of_row _ _ _ _ _ _ HL1.out]; rfl
 clear hb h17 hn hq hrk;go_enter Tryz.func62,Tryz.ntmps62
 go_upto_region 1 with fail
 rw [← HW1.out];clear HW1;go_wp2_with (refine wpList_load_row rfl 69 _ rfl w.heap.size rfl 69 #[.int .i64 most,.int .i64 body,.int .i64 room] (0,0) _ HL1.out Tryz.underlying69 rfl qoj ?_)
 refine HCALL.out.mono ?_;rintro e w2 ⟨rfl,hv⟩;have HDR:∀ n,Below W1.heap.size W1 (w2.drewN n):=fun n=>qe hv (below_drewN (Below.refl _ _) n);have HM2:=Box.mk (fun n=>HM1.out.keep (HDR n));have HP2:=Box.mk (fun n=>HO.out.keep (HDR n));have HBB2:=Box.mk (fun n=>HBB.out.keep (HDR n));have HG2:=Box.mk (fun n=>qs (qe HB1.out (HDR n)) (some g));have hc17:w2.cell? ⟨g,17,none⟩=some (.int .i64 z):=by rw [(HM1.out.keep hv).cell]; exact H17.out
 have hlw2:∀ n,w.heap.size+1<(w2.drewN n).heap.size:=fun n=>Nat.lt_of_lt_of_le hlw (HDR n).size;have hlb:w2.cell? ⟨w.heap.size,1,none⟩=some (.int .i64 body):=by rw [cell_of_row _ _ _ _ _ _ (HL1.out.keep hv)]; rfl
 have HLW:=Box.mk hlw2;have hsl:∀ W,(Instr.sliceAt 23 (.slice ba b.length bc) none (some (.int .i64 (q:Int))) none).run Tryz.prog W = .ok (.slice ba q bc) W:=fun W=>qg1 W ba b.length bc q hql hcap;clear hv HM1 HO HBB HB1 HL1 hm17 hlw hl1 HCALL HDR hlw2;have eq0:((q:Int) != 0)=true:=by rw [bne_iff_ne]; omega
 have hgt:¬ z+(q:Int) > body:=by omega
 obtain ⟨hz0,hz1⟩:=hz;clear hbs;go_wp2_with fail;go_quiet (fail)
 go_wp2_with fail;refine (qmc g cs z (b.take q) ba q bc _ HTL.out (HM2.out _) H17.out ⟨hz0,hz1⟩ HN.out (ki (HBB2.out _) q) (by omega) hq0).mono ?_;rintro e w4 ⟨pa,pc,rfl,hd4,hm4,hg4⟩;have HM4:=Box.mk hm4;have HD4:=Box.mk hd4;have HP4:=Box.mk (show PVr w4 (w.heap.size+1) #[.int .i64 0,.slice none 0 0] from (hg4.block _ (HLW.out _) (fun e=>by injection e with e; omega)).trans (HP2.out _));have HG4:=Box.mk (qh (HG2.out _) hg4);clear hm4 hg4 HM2 HP2 HG2 HBB2 hd4;go_wp2_with (refine wpList_store_row rfl 41 _ _ rfl (w.heap.size+1) #[.int .i64 2,.slice pa q pc] rfl rfl 41 _ HP4.out j1 rfl (qap ..) ?_)
 (try simp only [Exit.inBlock,Exit.then])
 refine bodyPost_ret (ji rfl _ _ (w.heap.size+1) 41 #[.int .i64 2,.slice pa q pc] (0,0) _ rfl (setRow_heap _ _ _ _ _ _ HP4.out) Tryz.underlying41 rfl j1) rfl ?_;exact ⟨pa,pc,rfl,HD4.out.same fun x e hl=>setRow_other _ _ _ _ (qx HP4.out (qw rfl) HD4.out x e hl),(setRow_other _ _ _ _ (by omega)).trans HM4.out,js HG4.out (by omega) _⟩
theorem jd6 (P:Nat→Prop) (s:RS) (b:List UInt8) (most body room:Int) (ba:Option Addr) (bc:Nat) (fa ga la:Option Addr) (fc gc lc:Nat) (g:Nat) (w:World) (hb:qg w ba b bc) (hl:b.length≤1000000) (hm:MVr w g (rowR s fa fc ga gc la lc)) (hr:RMem P w s fa ga la lc) (hlf:∀ y,la=some y→s.ck.line≠[]→P y.block) (hPg:∀ k,P k→k≠g) (hP:∀ k,w.heap.size≤k→P k) (hs:OkN body s) (hp:s.ph=1) (hb0:0≤body∧body≤1000000000) (hr0:0≤room∧room≤1000000000) (hk:s.fk=1∨s.fk=2) :
  Calls Tryz.prog 60 #[.pointer (some ⟨g,0,none⟩),.slice ba b.length bc,.agg #[.int .i64 most,.int .i64 body,.int .i64 room]] w (RetM P w g (qdp s b body room)):=by
 unfold qdp;rw [if_pos hk];by_cases h0:s.fk=1∨s.left=0
 · rw [if_pos h0]
   have hz:s.left=0:=by
    rcases h0 with h | h
    · exact hs.n1 hp h
    · exact h
   refine (jcx b most body room ba bc g _ w hm s.ph s.left rfl rfl hz).mono ?_;rintro e w' ⟨he,h1,hg⟩;have h2:=hr.grown hg hPg hm (qw rfl);exact .inl ⟨rfl,fa,fc,ga,gc,la,lc,none,0,he,h1,⟨h2.f1,h2.f2,h2.ln,h2.n1,h2.n2⟩,hlf,.inl ⟨rfl,rfl,rfl⟩,hg⟩
 · rw [if_neg h0]
   have hk2:s.fk=2:=by omega
   have hleft:=hs.ok.left hk2;have hsz:=hs.ok.size;have hm1:=qbt s.left room;have hm2:=qbt (minI s.left room) b.length;obtain ⟨q,hqq⟩ : ∃ q:Nat,minI (minI s.left room) b.length=(q:Int):=Int.eq_ofNat_of_zero_le (by omega);rw [hqq,Int.toNat_natCast];by_cases hq:q=0
   · rw [if_pos (by omega)]
     refine (jep b most body room ba bc g _ w hb hl hm s.left s.size rfl rfl hsz (qw rfl) (show 17<22 by decide) (by omega) q hqq (by omega) (by omega) hq).mono ?_;rintro e w' ⟨he,h1,hg⟩;rw [show s.left-(q:Int)=s.left by omega] at h1;exact .inl ⟨rfl,fa,fc,ga,gc,la,lc,none,0,he,h1,hr.grown hg hPg hm (qw rfl),hlf,.inl ⟨rfl,rfl,rfl⟩,hg⟩
   · rw [if_neg (by omega)]
     refine (jan b most body room ba bc g _ w hb hl hm s.left s.size rfl rfl hsz (qw rfl) (show 17<22 by decide) (by omega) q hqq (by omega) (by omega) (by omega)).mono ?_;rintro e w' ⟨pa,pc,he,hd,h1,hg⟩;have h2:=hr.grown hg hPg hm (qw rfl);have hlt:(b.take q).length=q:=by rw [List.length_take]; omega
     exact .inl ⟨rfl,fa,fc,ga,gc,la,lc,pa,pc,by dsimp only; rw [hlt]; exact he,h1,⟨h2.f1,h2.f2,h2.ln,h2.n1,h2.n2⟩,hlf,hd,hg⟩
theorem qyi (P:Nat→Prop) (s:RS) (b:List UInt8) (most body room:Int) (ba:Option Addr) (bc:Nat) (fa ga la:Option Addr) (fc gc lc:Nat) (g:Nat) (w:World) (hb:qg w ba b bc) (hl:b.length≤1000000) (hm:MVr w g (rowR s fa fc ga gc la lc)) (hr:RMem P w s fa ga la lc) (hlf:∀ y,la=some y→s.ck.line≠[]→P y.block) (hPg:∀ k,P k→k≠g) (hP:∀ k,w.heap.size≤k→P k) (hs:OkN body s) (hp:s.ph=1) (hb0:0≤body∧body≤1000000000) (hr0:0≤room∧room≤1000000000) (hk:s.fk=4) :
  Calls Tryz.prog 62 #[.pointer (some ⟨g,0,none⟩),.slice ba b.length bc,.agg #[.int .i64 most,.int .i64 body,.int .i64 room]] w (RetM P w g (qdp s b body room)):=by
 unfold qdp;rw [if_neg (by omega),if_neg (by omega)];have hsz:=hs.ok.size;have hsb:=hs.sz hp;have hm1:=qbt room b.length;have hm2:=qbt (minI room b.length) (body+1-s.size);have hm3:=qbt room (body+1-s.size);have hm4:=qbt (minI room (body+1-s.size)) b.length;obtain ⟨q,hqq⟩ : ∃ q:Nat,minI (minI room b.length) (body+1-s.size)=(q:Int):=Int.eq_ofNat_of_zero_le (by omega);have hq2:minI (minI room (body+1-s.size)) b.length=(q:Int):=by omega
 rw [hqq,Int.toNat_natCast];by_cases hq:q=0
 · rw [if_pos (by omega)]
   refine (jb5 b most body room ba bc g _ w hb hl hm s.size rfl hsz hb0 (qw rfl) q hq2 (by omega) hq).mono ?_;rintro e w' ⟨he,h1,hg⟩;exact .inl ⟨rfl,fa,fc,ga,gc,la,lc,none,0,he,h1,hr.grown hg hPg hm (qw rfl),hlf,.inl ⟨rfl,rfl,rfl⟩,hg⟩
 · rw [if_neg (by omega)]
   by_cases hbs:body<s.size+(q:Int)
   · rw [if_pos hbs]
     refine (qvj b most body room ba bc g _ w hb hl hm s.size rfl hsz hb0 (qw rfl) q hq2 (by omega) (by omega) hbs).mono ?_;rintro e w' ⟨he,hg⟩;exact qcc rfl (by decide) he hg
   · rw [if_neg hbs]
     refine (qub b most body room ba bc g _ w hb hl hm s.size rfl hsz hb0 (qw rfl) q hq2 (by omega) (by omega) hbs).mono ?_;rintro e w' ⟨pa,pc,he,hd,h1,hg⟩;have h2:=hr.grown hg hPg hm (qw rfl);have hlt:(b.take q).length=q:=by rw [List.length_take]; omega
     exact .inl ⟨rfl,fa,fc,ga,gc,la,lc,pa,pc,by dsimp only; rw [hlt]; exact he,h1,⟨h2.f1,h2.f2,h2.ln,h2.n1,h2.n2⟩,hlf,hd,hg⟩
theorem qyz (P:Nat→Prop) (s:RS) (b:List UInt8) (most body room:Int) (ba:Option Addr) (bc:Nat) (fa ga la:Option Addr) (fc gc lc:Nat) (g:Nat) (w:World) (hb:qg w ba b bc) (hl:b.length≤1000000) (hm:MVr w g (rowR s fa fc ga gc la lc)) (hr:RMem P w s fa ga la lc) (hlf:∀ y,la=some y→s.ck.line≠[]→P y.block) (hPg:∀ k,P k→k≠g) (hP:∀ k,w.heap.size≤k→P k) (hs:OkN body s) (hp:s.ph=1) (hb0:0≤body∧body≤1000000000) (hr0:0≤room∧room≤1000000000) (hk:s.fk=3) :
  Calls Tryz.prog 61 #[.pointer (some ⟨g,0,none⟩),.slice ba b.length bc,.agg #[.int .i64 most,.int .i64 body,.int .i64 room]] w (RetM P w g (qdp s b body room)):=by
 unfold qdp;rw [if_neg (by omega),if_pos hk];have hsz:=hs.ok.size;have hfl:=(qn2 (minI room (body+1-s.size)) s.ck b).1;have hF:jp (minI room (body+1-s.size)) s.ck [] 0 b=((jp (minI room (body+1-s.size)) s.ck [] 0 b).1,(jp (minI room (body+1-s.size)) s.ck [] 0 b).2.1,(jp (minI room (body+1-s.size)) s.ck [] 0 b).2.2.1,(jp (minI room (body+1-s.size)) s.ck [] 0 b).2.2.2):=rfl;generalize (jp (minI room (body+1-s.size)) s.ck [] 0 b).1=er at *;generalize (jp (minI room (body+1-s.size)) s.ck [] 0 b).2.1=c at *;generalize (jp (minI room (body+1-s.size)) s.ck [] 0 b).2.2.1=out at *;generalize (jp (minI room (body+1-s.size)) s.ck [] 0 b).2.2.2=n at *;have hol:out.length≤1000000:=Nat.le_trans hfl hl;by_cases h0:er=0
 · rw [if_neg (fun h=>h h0)]
   by_cases hbs:body<s.size+((List.length out:Nat):Int)
   · rw [if_pos hbs]
     refine (qwb s b most body room ba bc fa ga la fc gc lc g w hb hl hm hr.ln hs.ok.ck hsz hb0 hr0 er c out n hF hol h0 hbs).mono ?_;rintro e w' ⟨he,hg⟩;exact qcc rfl (by decide) he hg
   · rw [if_neg hbs]
     by_cases ho:0<out.length
     · rw [if_pos ho]
       refine (qvb s b most body room ba bc fa ga la fc gc lc g w hb hl hm hr.ln hs.ok.ck hsz hb0 hr0 er c out n hF hol h0 hbs ho).mono ?_;rintro e w' ⟨a,cc,oa,oc,he,h1,h3,h4,h5,hg⟩;have h2:=hr.grown hg hPg hm (qw rfl);exact .inl ⟨rfl,fa,fc,ga,gc,a,cc,oa,oc,he,h1,⟨h2.f1,h2.f2,h3,h2.n1,h2.n2⟩,(fun y e hx=>hP _ (h5 y e hx)),h4,hg⟩
     · rw [if_neg ho]
       have hz:s.size+((List.length out:Nat):Int)=s.size:=by omega
       by_cases hp4:c.ph=4
       · rw [if_pos hp4]
         refine (qy2 s b most body room ba bc fa ga la fc gc lc g w hb hl hm hr.ln hs.ok.ck hsz hb0 hr0 er c out n hF hol h0 hbs ho hp4).mono ?_;rintro e w' ⟨a,cc,he,h1,h3,h5,hg⟩;rw [hz] at h1;have h2:=hr.grown hg hPg hm (qw rfl);exact .inl ⟨rfl,fa,fc,ga,gc,a,cc,none,0,he,h1,⟨h2.f1,h2.f2,h3,h2.n1,h2.n2⟩,(fun y e hx=>hP _ (h5 y e hx)),.inl ⟨rfl,rfl,rfl⟩,hg⟩
       · rw [if_neg hp4]
         refine (jc5 s b most body room ba bc fa ga la fc gc lc g w hb hl hm hr.ln hs.ok.ck hsz hb0 hr0 er c out n hF hol h0 hbs ho hp4).mono ?_;rintro e w' ⟨a,cc,he,h1,h3,h5,hg⟩;rw [hz] at h1;have h2:=hr.grown hg hPg hm (qw rfl);exact .inl ⟨rfl,fa,fc,ga,gc,a,cc,none,0,he,h1,⟨h2.f1,h2.f2,h3,h2.n1,h2.n2⟩,(fun y e hx=>hP _ (h5 y e hx)),.inl ⟨rfl,rfl,rfl⟩,hg⟩
 · rw [if_pos h0]
   refine (qzm s b most body room ba bc fa ga la fc gc lc g w hb hl hm hr.ln hs.ok.ck hsz hb0 hr0 er c out n hF hol h0).mono ?_;rintro e w' ⟨he,hg⟩;exact qcc rfl h0 he hg
theorem ja4 (P:Nat→Prop) (s:RS) (b:List UInt8) (most body room:Int) (ba:Option Addr) (bc:Nat) (fa ga la:Option Addr) (fc gc lc:Nat) (g:Nat) (w:World) (hm:MVr w g (rowR s fa fc ga gc la lc)) (hr:RMem P w s fa ga la lc) (hlf:∀ y,la=some y→s.ck.line≠[]→P y.block) :
  Calls Tryz.prog 41 #[.pointer (some ⟨g,0,none⟩),.slice ba b.length bc,.agg #[.int .i64 most,.int .i64 body,.int .i64 room]] w (RetM P w g ⟨0,s,0,[],0⟩) :=
 (qru g ba b.length bc most body room w).mono fun e w' ⟨he,hb⟩=>.inl ⟨rfl,fa,fc,ga,gc,la,lc,none,0,he,hm.keep hb,hr.keep hb,hlf,.inl ⟨rfl,rfl,rfl⟩,qs hb _⟩
theorem jap (P:Nat→Prop) (s:RS) (b:List UInt8) (most body room:Int) (ba:Option Addr) (bc:Nat) (fa ga la:Option Addr) (fc gc lc:Nat) (g:Nat) (mm:Int) (w:World) (hb:qg w ba b bc) (hl:b.length≤1000000) (hm:MVr w g (rowR s fa fc ga gc la lc)) (hr:RMem P w s fa ga la lc) (hlf:∀ y,la=some y→s.ck.line≠[]→P y.block) (hok:HdOk w mm) (hP:∀ k,w.heap.size≤k→P k) (hPg:∀ k,P k→k≠g) (hs:OkN body s) (hb0:0≤body∧body≤1000000000) (r0:Int) (hr0:0≤r0∧r0≤1000000000) (hrm:(if room≤0 then 0 else room)=r0) :
  ∃ f, Calls Tryz.prog 23 #[.pointer (some ⟨g, 0, none⟩)] w (fun e w' => e = .returned (.func (.func f) #[] #[]) ∧ w = w') ∧ (Tryz.prog.funcs[f]?).map (fun fn => fn.name != "runtime.NumGoroutine" && fn.body.isSome) = some true ∧
   ∀ W,Below w.heap.size w W→Calls Tryz.prog f #[.pointer (some ⟨g,0,none⟩),.slice ba b.length bc,.agg #[.int .i64 most,.int .i64 body,.int .i64 r0]] W (RetM P W g (qbg s b most body room)):=by
 have hPW:∀ W,Below w.heap.size w W → ∀ k,W.heap.size≤k→P k:=fun W hW k hk=>hP k (Nat.le_trans hW.size hk);have hnx:qbg s b most body room=if s.ph=0 then qav s b most body else if s.ph=1 then qdp s b body r0 else ⟨0,s,0,[],0⟩:=by
  unfold qbg; rw [hrm]
 rcases hs.ph with hp | hp | hp
 · refine ⟨_,qyq g _ w hm (by rw [← hp]; rfl),by kernel_rfl,fun W hW=>?_⟩
   rw [hnx,if_pos hp];exact jcc P s b most body r0 ba bc fa ga la fc gc lc g mm W (hb.keep hW) hl (hm.keep hW) (hr.keep hW) hlf (hok.keep hW) (hPW W hW) hPg hs
 · have hph:((rowR s fa fc ga gc la lc):Array Value)[2]? = some (.int .i64 1):=by rw [← hp]; rfl
   rw [hnx,if_neg (by omega),if_pos hp];by_cases h3:s.fk=3
   · refine ⟨_,qjd g _ s.fk _ w hm hph rfl (hs.k1 hp) (by rw [if_pos h3]),by kernel_rfl,fun W hW=>?_⟩
     exact qyz P s b most body r0 ba bc fa ga la fc gc lc g W (hb.keep hW) hl (hm.keep hW) (hr.keep hW) hlf hPg (hPW W hW) hs hp hb0 hr0 h3
   · by_cases h4:s.fk=4
     · refine ⟨_,qjd g _ s.fk _ w hm hph rfl (hs.k1 hp) (by rw [if_neg h3,if_pos h4]),by kernel_rfl,fun W hW=>?_⟩
       exact qyi P s b most body r0 ba bc fa ga la fc gc lc g W (hb.keep hW) hl (hm.keep hW) (hr.keep hW) hlf hPg (hPW W hW) hs hp hb0 hr0 h4
     · refine ⟨_,qjd g _ s.fk _ w hm hph rfl (hs.k1 hp) (by rw [if_neg h3,if_neg h4]),by kernel_rfl,fun W hW=>?_⟩
       exact jd6 P s b most body r0 ba bc fa ga la fc gc lc g W (hb.keep hW) hl (hm.keep hW) (hr.keep hW) hlf hPg (hPW W hW) hs hp hb0 hr0 (by have:=hs.k1 hp; omega)
 · refine ⟨_,qzw g _ w hm (by rw [← hp]; rfl),by kernel_rfl,fun W hW=>?_⟩
   rw [hnx,if_neg (by omega),if_neg (by omega)];exact ja4 P s b most body r0 ba bc fa ga la fc gc lc g W (hm.keep hW) (hr.keep hW) hlf
end Go.Proofs.YtflhjpokjdjbpaaGreatDoor

/- The project's reader: copyOf. The project's reader: Next. Finish, the first readers. The reference's reader: more, walked once. The reference's reader: first and more, whatever the state. The reference's reader: Next. -/
import Derived.Test.YtflhjpokjdjbpaaGreatDoorPq13
set_option linter.unusedVariables false
set_option linter.unusedSimpArgs false
set_option maxRecDepth 100000
set_option maxHeartbeats 8000000
namespace Go.Proofs.YtflhjpokjdjbpaaGreatDoor
open Go.RowKit
set_option linter.unusedVariables false
theorem qob (w:World):Calls Tryz.prog 38 #[.slice none 0 0] w fun e w'=>e = .returned (.slice none 0 0)∧w=w':=by
 have hnil:∀ W,(binOp .eql 23 (.slice none 0 0) (.slice none 0 0)).run Tryz.prog W = .ok (.bool true) W:=fun W=>run_eql_slice_nil W _ _ none 0 0 Tryz.underlying23;go_enter Tryz.func38,Tryz.ntmps38
 go_wp2_with fail;go_ret;exact ⟨rfl,rfl⟩
theorem qyt (B:Nat→Prop) (s:RS) (fa ga la:Option Addr) (fc gc lc:Nat) (w:World) (hm:RMem B w s fa ga la lc) (hs:OkR s) :
  Calls Tryz.prog 22 #[.agg (rowR s fa fc ga gc la lc)] w fun e w'=>∃ f1 d1 f3 d3 f5 d5,e = .returned (.agg (rowR s f1 d1 f3 d3 f5 d5))∧RMem (fun k=>w.heap.size≤k) w' s f1 f3 f5 d5∧(∀ y,f5=some y→w.heap.size≤y.block)∧Below w.heap.size w w':=by
 obtain ⟨cs,hcs⟩ : ∃ cs:Array Value,cs=(rowR s fa fc ga gc la lc):=⟨_,rfl⟩;have HCS:=Box.mk hcs;have hcs1:cs.all (·.oneCell')=true:=by rw [hcs]; exact qbl ..
 rw [← hcs];clear hcs;obtain ⟨W0,hW0⟩ : ∃ W0,W0=(w.alloc (.cells cs 37)).alloc (.cells zR 37):=⟨_,rfl⟩;have HB0:=Box.mk (show Below w.heap.size w W0 by rw [hW0]; exact qk (qd _ _) _);have HV0:=Box.mk (show RVr W0 w.heap.size cs by rw [hW0]; exact RVr.keep (heap_alloc_new w (.cells cs 37)) (qd _ _));have HR0:=Box.mk (show RVr W0 (w.heap.size+1) zR by
  have h:=heap_alloc_new (w.alloc (.cells cs 37)) (.cells zR 37);rw [World.size_alloc] at h;rw [hW0]; exact h)
 have HW0:=Box.mk hW0;have HM:=Box.mk hm;have hx64:=hs.xs.2;have hy64:=hs.ys.2;have hlw:w.heap.size+1<W0.heap.size:=HR0.out.lt;have hln:s.ck.line.length≤129:=hs.ck.len;clear hW0 hm hs;go_enter Tryz.func22,Tryz.ntmps22
 go_upto_region 1 with fail
 rw [← HW0.out];clear HW0;have hv1:W0.cell? ⟨w.heap.size,6,none⟩=some (.slice fa (List.length s.xs) fc):=by rw [RVr.cell HV0.out,HCS.out]; rfl
 go_wp2_with fail;refine (qog s.xs fa fc W0 (HM.out.f1.keep HB0.out) (by omega)).mono ?_;rintro e w1c ⟨f1,d1,rfl,hf1,hn1,hb1⟩;have hv1b:w1c.cell? ⟨w.heap.size,6,none⟩=some (.slice fa (List.length s.xs) fc):=by rw [RVr.cell (HV0.out.keep hb1),HCS.out]; rfl
 have hz1b:w1c.frozen? ⟨w.heap.size,6,none⟩=false:=frozen_of_row w1c _ 6 _ _ (HV0.out.keep hb1);clear hv1;go_upto_region 2 with (refine qv rfl _ _ _ rfl rfl rfl (by kernel_rfl) hv1b hz1b ?_)
 obtain ⟨c1,hc1⟩ : ∃ y0:Array Value,y0=(rowR s f1 d1 ga gc la lc):=⟨_,rfl⟩;have Hc1:=Box.mk hc1;clear hc1;obtain ⟨W1,hW1⟩ : ∃ W1,W1=w1c.setCell ⟨w.heap.size,6,none⟩ (.slice f1 (List.length s.xs) d1):=⟨_,rfl⟩;have HV1:=Box.mk (show RVr W1 w.heap.size c1 by rw [hW1]; have h:=RVr.put (i:=6) (v:=.slice f1 (List.length s.xs) d1) (HV0.out.keep hb1); rw [show cs.setIfInBounds 6 (.slice f1 (List.length s.xs) d1)=c1 by rw [HCS.out,Hc1.out]; rfl] at h; exact h);have hoth1:∀ k,k≠w.heap.size→W1.heap[k]? = w1c.heap[k]?:=fun k hk=>by rw [hW1]; exact heap_setCell_other _ _ _ _ (by show k≠w.heap.size; exact hk)
 have HR1:=Box.mk (show RVr W1 (w.heap.size+1) zR from (hoth1 _ (by omega)).trans (HR0.out.keep hb1));have HB1:=Box.mk (show Below w.heap.size w W1 by rw [hW1]; exact (qe HB0.out hb1).setCell (p:=⟨w.heap.size,6,none⟩) (Nat.le_refl _) _);have hlw1:w.heap.size+1<W1.heap.size:=HR1.out.lt;have HF1_1:=Box.mk (show qm W1 f1 s.xs ∧ ∀ y,f1=some y→w.heap.size+1<y.block from ⟨hf1.same fun y e=>hoth1 _ (by have:=hn1 y e; omega),fun y e=>by have:=hn1 y e; omega⟩);rw [← hW1];clear hW1 hv1b hz1b hoth1 HV0 HR0 HB0 hb1 hf1 hn1;have hv2:W1.cell? ⟨w.heap.size,8,none⟩=some (.slice none 0 0):=by rw [RVr.cell HV1.out,Hc1.out]; rfl
 go_wp2_with fail;refine (qob W1).mono ?_;rintro e w2c ⟨rfl,hww2⟩;have hb2:Below W1.heap.size W1 w2c:=by rw [← hww2]; exact Below.refl _ _
 clear hww2;have hv2b:w2c.cell? ⟨w.heap.size,8,none⟩=some (.slice none 0 0):=by rw [RVr.cell (HV1.out.keep hb2),Hc1.out]; rfl
 have hz2b:w2c.frozen? ⟨w.heap.size,8,none⟩=false:=frozen_of_row w2c _ 8 _ _ (HV1.out.keep hb2);clear hv2;go_upto_region 3 with (refine qv rfl _ _ _ rfl rfl rfl (by kernel_rfl) hv2b hz2b ?_)
 obtain ⟨c2,hc2⟩ : ∃ y0:Array Value,y0=(rowR s f1 d1 ga gc la lc):=⟨_,rfl⟩;have Hc2:=Box.mk hc2;clear hc2;obtain ⟨W2,hW2⟩ : ∃ W2,W2=w2c.setCell ⟨w.heap.size,8,none⟩ (.slice none 0 0):=⟨_,rfl⟩;have HV2:=Box.mk (show RVr W2 w.heap.size c2 by rw [hW2]; have h:=RVr.put (i:=8) (v:=.slice none 0 0) (HV1.out.keep hb2); rw [show c1.setIfInBounds 8 (.slice none 0 0)=c2 by rw [Hc1.out,Hc2.out]; rfl] at h; exact h);have hoth2:∀ k,k≠w.heap.size→W2.heap[k]? = w2c.heap[k]?:=fun k hk=>by rw [hW2]; exact heap_setCell_other _ _ _ _ (by show k≠w.heap.size; exact hk)
 have HR2:=Box.mk (show RVr W2 (w.heap.size+1) zR from (hoth2 _ (by omega)).trans (HR1.out.keep hb2));have HB2:=Box.mk (show Below w.heap.size w W2 by rw [hW2]; exact (qe HB1.out hb2).setCell (p:=⟨w.heap.size,8,none⟩) (Nat.le_refl _) _);have hlw2:w.heap.size+1<W2.heap.size:=HR2.out.lt;have HF1_2:=Box.mk (show qm W2 f1 s.xs ∧ ∀ y,f1=some y→w.heap.size+1<y.block from ⟨(HF1_1.out.1.keep hb2).same fun y e=>hoth2 _ (by have:=HF1_1.out.2 y e; omega),HF1_1.out.2⟩);rw [← hW2];clear hW2 hv2b hz2b hoth2 HV1 HR1 HB1 hb2 HF1_1 Hc1;have hv3:W2.cell? ⟨w.heap.size,12,none⟩=some (.slice ga (List.length s.ys) gc):=by rw [RVr.cell HV2.out,Hc2.out]; rfl
 go_wp2_with fail;refine (qog s.ys ga gc W2 (HM.out.f2.keep HB2.out) (by omega)).mono ?_;rintro e w3c ⟨f3,d3,rfl,hf3,hn3,hb3⟩;have hv3b:w3c.cell? ⟨w.heap.size,12,none⟩=some (.slice ga (List.length s.ys) gc):=by rw [RVr.cell (HV2.out.keep hb3),Hc2.out]; rfl
 have hz3b:w3c.frozen? ⟨w.heap.size,12,none⟩=false:=frozen_of_row w3c _ 12 _ _ (HV2.out.keep hb3);clear hv3;go_upto_region 4 with (refine qv rfl _ _ _ rfl rfl rfl (by kernel_rfl) hv3b hz3b ?_)
 obtain ⟨c3,hc3⟩ : ∃ y0:Array Value,y0=(rowR s f1 d1 f3 d3 la lc):=⟨_,rfl⟩;have Hc3:=Box.mk hc3;clear hc3;obtain ⟨W3,hW3⟩ : ∃ W3,W3=w3c.setCell ⟨w.heap.size,12,none⟩ (.slice f3 (List.length s.ys) d3):=⟨_,rfl⟩;have HV3:=Box.mk (show RVr W3 w.heap.size c3 by rw [hW3]; have h:=RVr.put (i:=12) (v:=.slice f3 (List.length s.ys) d3) (HV2.out.keep hb3); rw [show c2.setIfInBounds 12 (.slice f3 (List.length s.ys) d3)=c3 by rw [Hc2.out,Hc3.out]; rfl] at h; exact h);have hoth3:∀ k,k≠w.heap.size→W3.heap[k]? = w3c.heap[k]?:=fun k hk=>by rw [hW3]; exact heap_setCell_other _ _ _ _ (by show k≠w.heap.size; exact hk)
 have HR3:=Box.mk (show RVr W3 (w.heap.size+1) zR from (hoth3 _ (by omega)).trans (HR2.out.keep hb3));have HB3:=Box.mk (show Below w.heap.size w W3 by rw [hW3]; exact (qe HB2.out hb3).setCell (p:=⟨w.heap.size,12,none⟩) (Nat.le_refl _) _);have hlw3:w.heap.size+1<W3.heap.size:=HR3.out.lt;have HF1_3:=Box.mk (show qm W3 f1 s.xs ∧ ∀ y,f1=some y→w.heap.size+1<y.block from ⟨(HF1_2.out.1.keep hb3).same fun y e=>hoth3 _ (by have:=HF1_2.out.2 y e; omega),HF1_2.out.2⟩);have HF3_3:=Box.mk (show qm W3 f3 s.ys ∧ ∀ y,f3=some y→w.heap.size+1<y.block from ⟨hf3.same fun y e=>hoth3 _ (by have:=hn3 y e; omega),fun y e=>by have:=hn3 y e; omega⟩);rw [← hW3];clear hW3 hv3b hz3b hoth3 HV2 HR2 HB2 hb3 hf3 hn3 HF1_2 Hc2;have hv4:W3.cell? ⟨w.heap.size,13,none⟩=some (.slice none 0 0):=by rw [RVr.cell HV3.out,Hc3.out]; rfl
 go_wp2_with fail;refine (qob W3).mono ?_;rintro e w4c ⟨rfl,hww4⟩;have hb4:Below W3.heap.size W3 w4c:=by rw [← hww4]; exact Below.refl _ _
 clear hww4;have hv4b:w4c.cell? ⟨w.heap.size,13,none⟩=some (.slice none 0 0):=by rw [RVr.cell (HV3.out.keep hb4),Hc3.out]; rfl
 have hz4b:w4c.frozen? ⟨w.heap.size,13,none⟩=false:=frozen_of_row w4c _ 13 _ _ (HV3.out.keep hb4);clear hv4;go_upto_region 5 with (refine qv rfl _ _ _ rfl rfl rfl (by kernel_rfl) hv4b hz4b ?_)
 obtain ⟨c4,hc4⟩ : ∃ y0:Array Value,y0=(rowR s f1 d1 f3 d3 la lc):=⟨_,rfl⟩;have Hc4:=Box.mk hc4;clear hc4;obtain ⟨W4,hW4⟩ : ∃ W4,W4=w4c.setCell ⟨w.heap.size,13,none⟩ (.slice none 0 0):=⟨_,rfl⟩;have HV4:=Box.mk (show RVr W4 w.heap.size c4 by rw [hW4]; have h:=RVr.put (i:=13) (v:=.slice none 0 0) (HV3.out.keep hb4); rw [show c3.setIfInBounds 13 (.slice none 0 0)=c4 by rw [Hc3.out,Hc4.out]; rfl] at h; exact h);have hoth4:∀ k,k≠w.heap.size→W4.heap[k]? = w4c.heap[k]?:=fun k hk=>by rw [hW4]; exact heap_setCell_other _ _ _ _ (by show k≠w.heap.size; exact hk)
 have HR4:=Box.mk (show RVr W4 (w.heap.size+1) zR from (hoth4 _ (by omega)).trans (HR3.out.keep hb4));have HB4:=Box.mk (show Below w.heap.size w W4 by rw [hW4]; exact (qe HB3.out hb4).setCell (p:=⟨w.heap.size,13,none⟩) (Nat.le_refl _) _);have hlw4:w.heap.size+1<W4.heap.size:=HR4.out.lt;have HF1_4:=Box.mk (show qm W4 f1 s.xs ∧ ∀ y,f1=some y→w.heap.size+1<y.block from ⟨(HF1_3.out.1.keep hb4).same fun y e=>hoth4 _ (by have:=HF1_3.out.2 y e; omega),HF1_3.out.2⟩);have HF3_4:=Box.mk (show qm W4 f3 s.ys ∧ ∀ y,f3=some y→w.heap.size+1<y.block from ⟨(HF3_3.out.1.keep hb4).same fun y e=>hoth4 _ (by have:=HF3_3.out.2 y e; omega),HF3_3.out.2⟩);rw [← hW4];clear hW4 hv4b hz4b hoth4 HV3 HR3 HB3 hb4 HF1_3 HF3_3 Hc3;have hv5:W4.cell? ⟨w.heap.size,21,none⟩=some (.slice la (List.length s.ck.line) lc):=by rw [RVr.cell HV4.out,Hc4.out]; rfl
 go_wp2_with fail;refine (qze s.ck.line la lc W4 (HM.out.ln.keep HB4.out) (by omega)).mono ?_;rintro e w5c ⟨f5,d5,rfl,hf5,hn5,hb5⟩;have HNL:=Box.mk (show ∀ y,f5=some y→w.heap.size≤y.block from fun y e=>by have:=hn5 y e; omega);clear hn5;have hv5b:w5c.cell? ⟨w.heap.size,21,none⟩=some (.slice la (List.length s.ck.line) lc):=by rw [RVr.cell (HV4.out.keep hb5),Hc4.out]; rfl
 have hz5b:w5c.frozen? ⟨w.heap.size,21,none⟩=false:=frozen_of_row w5c _ 21 _ _ (HV4.out.keep hb5);clear hv5;go_upto_region 6 with (refine qv rfl _ _ _ rfl rfl rfl (by kernel_rfl) hv5b hz5b ?_)
 obtain ⟨c5,hc5⟩ : ∃ y0:Array Value,y0=(rowR s f1 d1 f3 d3 f5 d5):=⟨_,rfl⟩;have Hc5:=Box.mk hc5;clear hc5;obtain ⟨W5,hW5⟩ : ∃ W5,W5=w5c.setCell ⟨w.heap.size,21,none⟩ (.slice f5 (List.length s.ck.line) d5):=⟨_,rfl⟩;have HV5:=Box.mk (show RVr W5 w.heap.size c5 by rw [hW5]; have h:=RVr.put (i:=21) (v:=.slice f5 (List.length s.ck.line) d5) (HV4.out.keep hb5); rw [show c4.setIfInBounds 21 (.slice f5 (List.length s.ck.line) d5)=c5 by rw [Hc4.out,Hc5.out]; rfl] at h; exact h);have hoth5:∀ k,k≠w.heap.size→W5.heap[k]? = w5c.heap[k]?:=fun k hk=>by rw [hW5]; exact heap_setCell_other _ _ _ _ (by show k≠w.heap.size; exact hk)
 have HR5:=Box.mk (show RVr W5 (w.heap.size+1) zR from (hoth5 _ (by omega)).trans (HR4.out.keep hb5));have HB5:=Box.mk (show Below w.heap.size w W5 by rw [hW5]; exact (qe HB4.out hb5).setCell (p:=⟨w.heap.size,21,none⟩) (Nat.le_refl _) _);have hlw5:w.heap.size+1<W5.heap.size:=HR5.out.lt;have HF1_5:=Box.mk (show qm W5 f1 s.xs ∧ ∀ y,f1=some y→w.heap.size+1<y.block from ⟨(HF1_4.out.1.keep hb5).same fun y e=>hoth5 _ (by have:=HF1_4.out.2 y e; omega),HF1_4.out.2⟩);have HF3_5:=Box.mk (show qm W5 f3 s.ys ∧ ∀ y,f3=some y→w.heap.size+1<y.block from ⟨(HF3_4.out.1.keep hb5).same fun y e=>hoth5 _ (by have:=HF3_4.out.2 y e; omega),HF3_4.out.2⟩);have HF5_5:=Box.mk (show qg W5 f5 s.ck.line d5 from hf5.same fun y e hl=>hoth5 _ (qx (HV4.out.keep hb5) (by rw [Hc4.out]; exact qw rfl) hf5 y e hl));rw [← hW5];clear hW5 hv5b hz5b hoth5 HV4 HR4 HB4 hb5 hf5 HF1_4 HF3_4 Hc4;have hcs22:c5.size=22:=by rw [Hc5.out]; rfl
 have hc51:c5.all (·.oneCell')=true:=by rw [Hc5.out]; exact qbl ..
 have HSZ:=Box.mk (show (Tryz.prog.info? 37).map (·.size)=some c5.size by rw [hcs22]; exact jw);go_wp2_with (first | refine wpList_load_row rfl 37 _ rfl w.heap.size rfl 37 c5 (0,0) _ HV5.out Tryz.underlying37 rfl HSZ.out ?_ | refine wpList_store_row rfl 37 _ _ rfl (w.heap.size+1) c5 rfl rfl 37 _ HR5.out HSZ.out (by rw [hcs22]; rfl) hc51 ?_)
 (try simp only [Exit.inBlock,Exit.then])
 refine bodyPost_ret (qg2 rfl _ _ (w.heap.size+1) 37 c5 (0,0) _ rfl (setRow_heap _ _ _ _ _ _ HR5.out) Tryz.underlying37 rfl HSZ.out) rfl ?_;have hsame:∀ k,k≠w.heap.size+1→(W5.setRow (w.heap.size+1) c5).heap[k]? = W5.heap[k]?:=fun k hk=>setRow_other _ _ _ _ hk;exact ⟨f1,d1,f3,d3,f5,d5,by rw [Hc5.out],⟨HF1_5.out.1.same fun y e=>hsame _ (by have:=HF1_5.out.2 y e; omega),HF3_5.out.1.same fun y e=>hsame _ (by have:=HF3_5.out.2 y e; omega),HF5_5.out.same fun y e hl=>hsame _ (qx HR5.out (qw rfl) HF5_5.out y e hl),fun y e _=>by have:=HF1_5.out.2 y e; omega,fun y e _=>by have:=HF3_5.out.2 y e; omega⟩,HNL.out,below_setRow HB5.out (by omega) _⟩
def jg6 (B:Nat→Prop) (w:World) (x:NX) (e:Ending) (w':World):Prop :=
 ∃ fa fc ga gc la lc pa pc,e = .returned (.tuple #[.agg (rowR x.r fa fc ga gc la lc),.agg #[.int .i64 x.kind,.slice pa (List.length x.data) pc],.int .i64 x.n,.int .i64 x.er])∧RMem B w' x.r fa ga la lc∧(∀ y,la=some y→x.r.ck.line≠[]→w.heap.size≤y.block)∧qg w' pa x.data pc∧Below w.heap.size w w'
section
variable {ops:Array Oper} {rest:List Oper} {o:Oper} {act:Act} {Q:Exit→Act→World→Prop}
theorem qsl {P:Program} {w:World} (hgd:o.guard=none) {y:Operand} {f:FuncId} {args:List Operand} {ts:Array TypeId} (ho:o.op = .call { callee:=.value y,args:=args.toArray,argTypes:=ts }) (hy:act.eval y = .func (.func f) #[] #[])
  (hf : (P.funcs[f]?).map (fun fn => fn.name != "runtime.NumGoroutine" && fn.body.isSome) = some true) {R : Ending → World → Prop} (h : Calls P f (args.map act.eval).toArray w R) (hK : ∀ e w', R e w' → ∃ v, e = .returned v ∧ wpList P ops Q rest (act.put o.dst v) w') : wpList P ops Q (o :: rest) act w :=
 wpList_plain hgd fun K2 hK2=>qqf ho hy hf h fun e w' hr=>by
  obtain ⟨v,he,hk⟩:=hK e w' hr;exact ⟨v,he,hK2 _ _ hk⟩
end
theorem qyg (w:World) (g:Nat) (cs:Array Value) (h:MVr w g cs) (hs:cs.size=22):(Instr.loadAt 61 (.pointer (some ⟨g,0,none⟩))).run Tryz.prog w = .ok (.agg cs) w:=by
 unfold MVr at h;simp [Instr.loadAt,Instr.sureAddr,run_loadVar_row w g _ 61 _ _ _ h Tryz.underlying61 rfl (by rw [hs]; exact jdx)]
theorem qpd (w:World) (g:Nat) (cs:Array Value) (h:PVr w g cs) (hs:cs.size=2):(Instr.loadAt 41 (.pointer (some ⟨g,0,none⟩))).run Tryz.prog w = .ok (.agg cs) w:=by
 unfold PVr at h;simp [Instr.loadAt,Instr.sureAddr,run_loadVar_row w g _ 41 _ _ _ h Tryz.underlying41 rfl (by rw [hs]; exact j1)]
structure NxJ (w:World) (g gp lim:Nat) (x:NX) (f4 g4 l4:Option Addr) (e4:Nat) (pa:Option Addr) (pc:Nat) (cr pr r2 r3:Array Value) (W:World):Prop where
 m:MVr W g cr
 p:PVr W gp pr
 r2:RVr W (w.heap.size+1) r2
 r3:PVr W (w.heap.size+2) r3
 bl:Below w.heap.size w W
 rm:RMem (fun k=>lim≤k∧k≠g) W x.r f4 g4 l4 e4
 dt:qg W pa x.data pc
theorem NxJ.keep {w:World} {g gp lim:Nat} {x:NX} {f4 g4 l4:Option Addr} {e4:Nat} {pa:Option Addr} {pc:Nat} {cr pr r2 r3:Array Value} {W W':World} (h:NxJ w g gp lim x f4 g4 l4 e4 pa pc cr pr r2 r3 W) (hb:Below W.heap.size W W'):NxJ w g gp lim x f4 g4 l4 e4 pa pc cr pr r2 r3 W':=⟨h.m.keep hb,h.p.keep hb,h.r2.keep hb,h.r3.keep hb,qe h.bl hb,h.rm.keep hb,h.dt.keep hb⟩
theorem qx9 {W:World} {lim g q:Nat} {s:RS} {f4 g4 l4:Option Addr} {e4:Nat} {cs ds:Array Value} {T:TypeId} {fz:Nat × Nat} (h:RMem (fun k=>lim≤k∧k≠g) W s f4 g4 l4 e4) (hq:q<lim) (hr:W.heap[q]? = some (.cells cs T fz)) (hn:NoU8 cs):RMem (fun k=>lim≤k∧k≠g) (W.setRow q ds) s f4 g4 l4 e4 :=
 ⟨qda h.f1 fun y e hx=>setRow_other _ _ _ _ (by have:=(h.n1 y e hx).1; omega),qda h.f2 fun y e hx=>setRow_other _ _ _ _ (by have:=(h.n2 y e hx).1; omega),jc hr hn h.ln,h.n1,h.n2⟩
theorem qsg {s:RS} {b:List UInt8} {most body room:Int} (h:¬ (qbg s b most body room).er=0):∃ er,qbg s b most body room=errX er∧¬ er=0:=by
 have hf:∀ (x:RS) (f:Int × Int × Int) (n:Nat),¬ (finX x f n body).er=0 → ∃ er,finX x f n body=errX er∧¬ er=0:=fun x f n h=>by
  unfold finX at h ⊢
  split at h
  · rename_i h1; rw [if_pos h1]; exact ⟨_,rfl,h⟩
  · rename_i h1; rw [if_neg h1]
    split at h
    · rename_i h2; rw [if_pos h2]; exact ⟨_,rfl,h⟩
    · exact absurd rfl h
 unfold qbg at h ⊢
 split at h
 · rename_i hp
   rw [if_pos hp];unfold qav at h ⊢
   split at h
   · exact absurd rfl h
   · rename_i h1
     rw [if_neg h1]
     split at h
     · rename_i h2; rw [if_pos h2]; exact ⟨_,rfl,h⟩
     · rename_i h2
       rw [if_neg h2];unfold qbo at h ⊢
       split at h
       · rename_i h3
         rw [if_pos h3]
         split at h
         · rename_i h4; rw [if_pos h4]; exact ⟨_,rfl,h⟩
         · rename_i h4
           rw [if_neg h4]
           split at h
           · rename_i h5; rw [if_pos h5]; exact ⟨_,rfl,h⟩
           · rename_i h5
             rw [if_neg h5]
             split at h
             · exact absurd rfl h
             · rename_i h6; rw [if_neg h6]; exact hf _ _ _ h
       · rename_i h3
         rw [if_neg h3]
         split at h
         · rename_i h4; rw [if_pos h4]; exact ⟨_,rfl,h⟩
         · rename_i h4; rw [if_neg h4]; exact hf _ _ _ h
 · rename_i hp
   rw [if_neg hp]
   split at h
   · rename_i hp1
     rw [if_pos hp1];generalize (if room≤0 then (0:Int) else room)=r0 at *;unfold qdp at h ⊢
     split at h
     · exfalso
       split at h
       · exact h rfl
       · split at h <;> exact h rfl
     · rename_i h1
       rw [if_neg h1]
       split at h
       · rename_i h2
         rw [if_pos h2]
         split at h
         · rename_i h3; rw [if_pos h3]; exact ⟨_,rfl,h⟩
         · rename_i h3
           rw [if_neg h3]
           split at h
           · rename_i h4; rw [if_pos h4]; exact ⟨_,rfl,h⟩
           · exfalso
             split at h
             · exact h rfl
             · split at h <;> exact h rfl
       · rename_i h2
         rw [if_neg h2]
         split at h
         · exact absurd rfl h
         · rename_i h3
           rw [if_neg h3]
           split at h
           · rename_i h4; rw [if_pos h4]; exact ⟨_,rfl,h⟩
           · exact absurd rfl h
   · exact absurd rfl h
theorem qhz (B:Nat→Prop) (s:RS) (b:List UInt8) (most body room:Int) (ba:Option Addr) (bc:Nat) (fa ga la:Option Addr) (fc gc lc:Nat) (w:World) (mm:Int) (hb:qg w ba b bc) (hl:b.length≤1000000) (hm:RMem B w s fa ga la lc) (hok:HdOk w mm) (hs:OkN body s) (hb0:0≤body∧body≤1000000000) (hr0:-1000000000≤room∧room≤1000000000) (hB:∀ g,w.heap.size≤g→B g) :
  Calls Tryz.prog 8 #[.agg (rowR s fa fc ga gc la lc),.slice ba b.length bc,.int .i64 most,.int .i64 body,.int .i64 room] w (jg6 B w (qbg s b most body room)):=by
 obtain ⟨cs,hcs⟩ : ∃ cs:Array Value,cs=(rowR s fa fc ga gc la lc):=⟨_,rfl⟩;have HCS:=Box.mk hcs;have hcs22:cs.size=22:=by rw [hcs]; rfl
 have HSZ:=Box.mk (show (Tryz.prog.info? 37).map (·.size)=some cs.size by rw [hcs22]; exact jw);have hcs1:cs.all (·.oneCell')=true:=by rw [hcs]; exact qbl ..
 rw [← hcs];clear hcs;obtain ⟨W3,hW3⟩ : ∃ W3,W3=((w.alloc (.cells cs 37)).alloc (.cells zR 37)).alloc (.cells #[.int .i64 0,.slice none 0 0] 41):=⟨_,rfl⟩;have hb1:=qd w (.cells cs 37);have hb2:=qk hb1 (.cells zR 37);have hb3:=qe hb2 (qd _ (.cells #[.int .i64 0,.slice none 0 0] 41));have HBW:=Box.mk (show Below w.heap.size w W3 by rw [hW3]; exact hb3);have HV1:=Box.mk (show RVr W3 w.heap.size cs by rw [hW3]; exact RVr.keep (RVr.keep (heap_alloc_new w (.cells cs 37)) (qd _ _)) (qd _ _));have HV2:=Box.mk (show RVr W3 (w.heap.size+1) zR by
  have h:=heap_alloc_new (w.alloc (.cells cs 37)) (.cells zR 37);rw [World.size_alloc] at h;rw [hW3]; exact RVr.keep h (qd _ _))
 have HV3:=Box.mk (show PVr W3 (w.heap.size+2) #[.int .i64 0,.slice none 0 0] by
  have h:=heap_alloc_new ((w.alloc (.cells cs 37)).alloc (.cells zR 37)) (.cells #[.int .i64 0,.slice none 0 0] 41);rw [World.size_alloc,World.size_alloc] at h;rw [hW3]; exact h)
 have HW3:=Box.mk hW3;have HM:=Box.mk hm;have HRC:=Box.mk (qyt B s fa ga la fc gc lc W3 (hm.keep HBW.out) hs.ok);rw [← HCS.out] at HRC;have HBB:=Box.mk (hb.keep HBW.out);have hl3:w.heap.size+2<W3.heap.size:=(Array.getElem?_eq_some_iff.1 HV3.out).1;clear hb hm hb1 hb2 hb3 hW3;have HOK:=Box.mk (hok.keep HBW.out);have HS:=Box.mk hs;have Hb0:=Box.mk hb0;obtain ⟨r0,hrm⟩ : ∃ r0:Int,(if room≤0 then 0 else room)=r0:=⟨_,rfl⟩;have hr2:0≤r0∧r0≤1000000000:=by rw [← hrm]; split <;> omega
 have HRM:=Box.mk hrm;have HLM:=Box.mk (fun W=>qtr most body room W hb0);rw [hrm] at HLM;clear hs hb0 hrm hok;obtain ⟨x,hx⟩ : ∃ x,qbg s b most body room=x:=⟨_,rfl⟩;have HX:=Box.mk hx;have HERR:=Box.mk (show ¬ x.er=0 → ∃ er,x=errX er∧¬ er=0 by rw [← hx]; exact qsg);rw [hx];clear hx;go_enter Tryz.func8,Tryz.ntmps8
 go_upto_region 1 with fail
 rw [← HW3.out];clear HW3;go_wp2_with (refine wpList_load_row rfl 37 _ rfl w.heap.size rfl 37 cs (0,0) _ HV1.out Tryz.underlying37 rfl HSZ.out ?_)
 refine HRC.out.mono ?_;rintro e w4 ⟨f1,d1,f3,d3,f5,d5,he,hm4,hlf4,hb4⟩;obtain ⟨cp,hcp⟩ : ∃ cp:Array Value,cp=(rowR s f1 d1 f3 d3 f5 d5):=⟨_,rfl⟩;rw [← hcp] at he;subst he;have HCP:=Box.mk hcp;have hcp22:cp.size=22:=by rw [hcp]; rfl
 have hcp1:cp.all (·.oneCell')=true:=by rw [hcp]; exact qbl ..
 have HSM:=Box.mk (show (Tryz.prog.info? 61).map (·.size)=some cp.size by rw [hcp22]; exact jdx);have HNM:=Box.mk (show MVr (w4.alloc (.cells zR 61)) w4.heap.size zR from heap_alloc_new w4 (.cells zR 61));have hw4:=hb4.size;have HM4:=Box.mk hm4;have HB4:=Box.mk hb4;clear hcp hm4 hb4 HRC HSZ hcs22 hcs1 HCS HV1 HM;go_upto_region 2 with (refine wpList_store_row rfl 61 _ _ rfl w4.heap.size cp rfl rfl 61 _ HNM.out HSM.out (by rw [hcp22]; rfl) hcp1 ?_)
 obtain ⟨W5,hW5⟩ : ∃ W5,W5=(w4.alloc (.cells zR 61)).setRow w4.heap.size cp:=⟨_,rfl⟩;have HM5:=Box.mk (show MVr W5 w4.heap.size (rowR s f1 d1 f3 d3 f5 d5) by rw [hW5,← HCP.out]; exact setRow_heap _ _ _ _ _ _ HNM.out);have hb45:Below w4.heap.size w4 W5:=by rw [hW5]; exact below_setRow (qd _ _) (Nat.le_refl _) _
 have hb35:=qe HB4.out hb45;have HR5:=Box.mk (show RMem (fun k=>W3.heap.size≤k∧k≠w4.heap.size) W5 s f1 f3 f5 d5 from ⟨HM4.out.f1.keep hb45,HM4.out.f2.keep hb45,HM4.out.ln.keep hb45,fun y e hx=>⟨HM4.out.n1 y e hx,by have:=HM4.out.f1.old e hx; omega⟩,fun y e hx=>⟨HM4.out.n2 y e hx,by have:=HM4.out.f2.old e hx; omega⟩⟩);have HLF5:=Box.mk (show ∀ y,f5=some y→s.ck.line≠[]→W3.heap.size≤y.block∧y.block≠w4.heap.size from fun y e hx=>⟨hlf4 y e,by have:=HM4.out.ln.old e hx; omega⟩);have HBB5:=Box.mk (HBB.out.keep hb35);have HOK5:=Box.mk (HOK.out.keep hb35);have HV25:=Box.mk (HV2.out.keep hb35);have HV35:=Box.mk (HV3.out.keep hb35);have HBW5:=Box.mk (qe HBW.out hb35);have hw5:w4.heap.size<W5.heap.size:=HM5.out.lt;rw [← hW5];clear hW5 hb45 hb35 HM4 HB4 HNM HSM hcp1 hcp22 HCP HBB HOK HV2 HV3 HBW hlf4;obtain ⟨f,hst,hfb,hcall⟩:=jap (fun k=>W3.heap.size≤k∧k≠w4.heap.size) s b most body room ba bc f1 f3 f5 d1 d3 d5 w4.heap.size mm W5 HBB5.out hl HM5.out HR5.out HLF5.out HOK5.out (fun k hk=>⟨by omega,by omega⟩) (fun k hk=>hk.2) HS.out Hb0.out r0 hr2 HRM.out;rw [HX.out] at hcall;have HST:=Box.mk hst;have HFB:=Box.mk hfb;have HCL:=Box.mk hcall;clear hst hfb hcall;go_wp2_with fail;refine HST.out.mono ?_;rintro e w6 ⟨rfl,rfl⟩;clear HST HRM HS Hb0 HX HOK5 HBB5 HM5 HR5;go_wp2_with fail;refine (HLM.out W5).mono ?_;rintro e w7 ⟨rfl,hb7⟩;have HCL7:=Box.mk (HCL.out w7 hb7);have HV27:=Box.mk (HV25.out.keep hb7);have HV37:=Box.mk (HV35.out.keep hb7);have HBW7:=Box.mk (qe HBW5.out hb7);have hw7:=hb7.size;clear HCL hb7 HLM HV25 HV35 HBW5;rename_i KK hKK;refine hKK _ _ ?_;clear hKK;refine qsl rfl rfl rfl HFB.out HCL7.out ?_;intro e w8 hret;rcases hret with ⟨h0,f4,c4,g4,d4,l4,e4,pa,pc,he,hm8,hr8,hl8,hd8,hg8⟩ | ⟨h0,k8,n8,he,hg8⟩
 · obtain ⟨pr,hpr⟩ : ∃ pr:Array Value,pr=#[.int .i64 x.kind,.slice pa (List.length x.data) pc]:=⟨_,rfl⟩
   rw [← hpr] at he;refine ⟨_,he,?_⟩;have HPR:=Box.mk hpr;have hpr2:pr.size=2:=by rw [hpr]; rfl
   have hpr1:pr.all (·.oneCell')=true:=by rw [hpr]; exact qap ..
   have HSP:=Box.mk (show (Tryz.prog.info? 41).map (·.size)=some pr.size by rw [hpr2]; exact j1);obtain ⟨cr,hcr⟩ : ∃ cr:Array Value,cr=(rowR x.r f4 c4 g4 d4 l4 e4):=⟨_,rfl⟩;have HCR:=Box.mk hcr;have hcr22:cr.size=22:=by rw [hcr]; rfl
   have hcr1:cr.all (·.oneCell')=true:=by rw [hcr]; exact qbl ..
   rw [← hcr] at hm8;have HNP:=Box.mk (show PVr (w8.alloc (.cells #[.int .i64 0,.slice none 0 0] 41)) w8.heap.size #[.int .i64 0,.slice none 0 0] from heap_alloc_new w8 (.cells #[.int .i64 0,.slice none 0 0] 41));have hsz8:=hg8.size;have HM8:=Box.mk hm8;have HR8:=Box.mk hr8;have HLF8:=Box.mk (show ∀ y,l4=some y→x.r.ck.line≠[]→w.heap.size≤y.block from fun y e hx=>by have:=(hl8 y e hx).1; omega);clear hl8;have HD8:=Box.mk hd8;have HV28:=Box.mk (show RVr w8 (w.heap.size+1) zR from (hg8.block _ HV27.out.lt (fun e=>by injection e with e; omega)).trans HV27.out);have HV38:=Box.mk (show PVr w8 (w.heap.size+2) #[.int .i64 0,.slice none 0 0] from (hg8.block _ (Array.getElem?_eq_some_iff.1 HV37.out).1 (fun e=>by injection e with e; omega)).trans HV37.out);have HBW8:=Box.mk (HBW7.out.grown hg8 HBW7.out.size (fun q e=>by injection e with e; omega));have H0:=Box.mk h0;clear hpr hcr hm8 hr8 hd8 hg8 he h0 HV27 HV37 HBW7 HCL7 HFB;go_upto_region 4 with (refine wpList_store_row rfl 41 _ _ rfl w8.heap.size pr rfl rfl 41 _ HNP.out HSP.out (by rw [hpr2]; rfl) hpr1 ?_)
   obtain ⟨W9,hW9⟩ : ∃ W9,W9=(w8.alloc (.cells #[.int .i64 0,.slice none 0 0] 41)).setRow w8.heap.size pr:=⟨_,rfl⟩;have HP9:=Box.mk (show PVr W9 w8.heap.size pr by rw [hW9]; exact setRow_heap _ _ _ _ _ _ HNP.out);have hb89:Below w8.heap.size w8 W9:=by rw [hW9]; exact below_setRow (qd _ _) (Nat.le_refl _) _
   have HJ9:=Box.mk (show NxJ w w4.heap.size w8.heap.size W3.heap.size x f4 g4 l4 e4 pa pc cr pr zR #[.int .i64 0,.slice none 0 0] W9 from ⟨HM8.out.keep hb89,HP9.out,HV28.out.keep hb89,HV38.out.keep hb89,qe HBW8.out hb89,HR8.out.keep hb89,HD8.out.keep hb89⟩);rw [← hW9];clear hW9 hb89 HP9 HM8 HR8 HD8 HV28 HV38 HBW8 HNP;go_wp2_with fail;rename_i KK hKK;refine qz [3,4] (fun p=>match p with | 0=>[0,1,2] | 1=>[1,2] | _=>[2,5,6])
    (fun p=>match p with | 0=>[.val (.agg cr),.val (.agg pr),.val (.int .i64 x.n),.any,.nope,.nope,.nope] | 1=>[.any,.val (.agg pr),.val (.int .i64 x.n),.any,.any,.nope,.nope] | _=>[.any,.any,.val (.int .i64 x.n),.any,.any,.val (.int .i64 x.n),.val (.int .i64 0)])
    (fun p=>match p with | 0=>NxJ w w4.heap.size w8.heap.size W3.heap.size x f4 g4 l4 e4 pa pc cr pr zR #[.int .i64 0,.slice none 0 0] | 1=>NxJ w w4.heap.size w8.heap.size W3.heap.size x f4 g4 l4 e4 pa pc cr pr cr #[.int .i64 0,.slice none 0 0] | _=>NxJ w w4.heap.size w8.heap.size W3.heap.size x f4 g4 l4 e4 pa pc cr pr cr pr)
    (by kernel_rfl) (by kernel_rfl) (by kernel_rfl) (by kernel_rfl) (by kernel_rfl) (by kernel_rfl) ?_ HJ9.out ?_ ?_ ?_
   · intro p wa wb h hb
     match p,h with
     | 0,h=>exact NxJ.keep h hb
     | 1,h=>exact NxJ.keep h hb
     | (_+2),h=>exact NxJ.keep h hb
   · intro p hp
     match p,hp with
     | 0,_ =>
      refine ⟨?_,?_,?_,trivial⟩ <;> intro a1 wx hv hf hd
      · exact ⟨qb rfl,kw rfl (by rw [show a1.eval (.tmp 14) = .pointer (some ⟨w4.heap.size,0,none⟩) from hf.base 14 rfl]; exact qyg _ _ _ hv.m hcr22) rfl⟩
      · exact ⟨qb rfl,kw rfl (by rw [show a1.eval (.tmp 16) = .pointer (some ⟨w8.heap.size,0,none⟩) from hf.base 16 rfl]; exact qpd _ _ _ hv.p hpr2) rfl⟩
      · exact ⟨qb rfl,qi rfl (hf.base 17 rfl)⟩
     | 1,_ =>
      refine ⟨?_,?_,trivial⟩ <;> intro a1 wx hv hf hd
      · exact ⟨qb rfl,kw rfl (by rw [show a1.eval (.tmp 16) = .pointer (some ⟨w8.heap.size,0,none⟩) from hf.base 16 rfl]; exact qpd _ _ _ hv.p hpr2) rfl⟩
      · exact ⟨qb rfl,qi rfl (hf.base 17 rfl)⟩
     | 2,_ =>
      refine ⟨?_,?_,?_,trivial⟩ <;> intro a1 wx hv hf hd
      · exact ⟨qb rfl,qi rfl (hf.base 17 rfl)⟩
      · exact ⟨qb rfl,qr rfl (hd 2 rfl)⟩
      · exact ⟨qb rfl,qr rfl rfl⟩
   · intro p hp
     match p,hp with
     | 0,_ =>
      intro a2 wx hv hf hd;refine ⟨qb rfl,wp_store_row 37 _ _ rfl (w.heap.size+1) cr (hf.base 10 rfl) (hd 0 rfl) 37 _ hv.r2 (by rw [hcr22]; exact jw) (by rw [hcr22]; rfl) hcr1 ?_⟩;exact ⟨undef,rfl,⟨(setRow_other _ _ _ _ (by omega)).trans hv.m,(setRow_other _ _ _ _ (by omega)).trans hv.p,setRow_heap _ _ _ _ _ _ hv.r2,(setRow_other _ _ _ _ (by omega)).trans hv.r3,below_setRow hv.bl (by omega) _,qx9 hv.rm (by omega) hv.r2 (qw rfl),jc hv.r2 (qw rfl) hv.dt⟩,trivial,⟨.inr fun _ _ _=>trivial,.inr fun _ _ h=>h,.inr fun _ _ h=>h,.inl rfl,.inr fun _ _ h=>h.elim,.inr fun _ _ h=>h.elim,.inr fun _ _ h=>h.elim,trivial⟩⟩
     | 1,_ =>
      intro a2 wx hv hf hd;have e11:a2.eval (.tmp 11) = .pointer (some ⟨w.heap.size+2,0,none⟩):=hf.base 11 rfl;refine ⟨qb rfl,wp_store_row 41 _ _ rfl (w.heap.size+2) pr e11 (hd 1 rfl) 41 _ hv.r3 HSP.out (by rw [hpr2]; rfl) hpr1 ?_⟩;exact ⟨undef,rfl,⟨(setRow_other _ _ _ _ (by omega)).trans hv.m,(setRow_other _ _ _ _ (by omega)).trans hv.p,(setRow_other _ _ _ _ (by omega)).trans hv.r2,setRow_heap _ _ _ _ _ _ hv.r3,below_setRow hv.bl (by omega) _,qx9 hv.rm (by omega) hv.r3 (qw rfl),jc hv.r3 (qw rfl) hv.dt⟩,trivial,⟨.inr fun _ _ _=>trivial,.inr fun _ _ _=>trivial,.inr fun _ _ h=>h,.inr fun _ _ _=>trivial,.inl rfl,.inr fun _ _ h=>h.elim,.inr fun _ _ h=>h.elim,trivial⟩⟩
   · intro a2 w10 hv hf hh
     have e12:a2.eval (.tmp 12) = .int .i64 x.n:=hh 5 (by decide);have e13:a2.eval (.tmp 13) = .int .i64 0:=hh 6 (by decide);clear hh;rw [jl hf];clear hf;simp only [kg,e12,e13];generalize a2.eval (.tmp 38)=u38;generalize a2.eval (.tmp 39)=u39;generalize a2.eval (.tmp 40)=u40;clear e12 e13 a2;simp only [Act.put,List.setIfInBounds_toArray,List.set_cons_succ,List.set_cons_zero];refine hKK _ _ ?_;clear hKK;go_wp2_with fail
     (try simp only [Exit.inBlock,Exit.then])
     refine bodyPost_ret (jv rfl _ _ (w.heap.size+1) (w.heap.size+2) 37 41 cr pr (0,0) (0,0) _ _ rfl rfl hv.r2 hv.r3 Tryz.underlying37 rfl (by rw [hcr22]; exact jw) Tryz.underlying41 rfl HSP.out) rfl ?_;exact ⟨f4,c4,g4,d4,l4,e4,pa,pc,by rw [HCR.out,HPR.out,H0.out]; rfl,⟨hv.rm.f1,hv.rm.f2,hv.rm.ln,fun y e hx=>hB _ (by have:=(hv.rm.n1 y e hx).1; omega),fun y e hx=>hB _ (by have:=(hv.rm.n2 y e hx).1; omega)⟩,HLF8.out,hv.dt,hv.bl⟩
 · obtain ⟨er,rfl,hne⟩:=HERR.out h0
   have he:e = .returned (.tuple #[.agg #[.int .i64 k8,.slice none 0 0],.int .i64 n8,.int .i64 er]):=he;refine ⟨_,he,?_⟩;have e0:(er != 0)=true:=by rw [bne_iff_ne]; exact hne
   have HNP:=Box.mk (show PVr (w8.alloc (.cells #[.int .i64 0,.slice none 0 0] 41)) w8.heap.size #[.int .i64 0,.slice none 0 0] from heap_alloc_new w8 (.cells #[.int .i64 0,.slice none 0 0] 41));have hsz8:=hg8.size;have HV28:=Box.mk (show RVr w8 (w.heap.size+1) zR from (hg8.block _ HV27.out.lt (fun e=>by injection e with e; omega)).trans HV27.out);have HV38:=Box.mk (show PVr w8 (w.heap.size+2) #[.int .i64 0,.slice none 0 0] from (hg8.block _ (Array.getElem?_eq_some_iff.1 HV37.out).1 (fun e=>by injection e with e; omega)).trans HV37.out);have HBW8:=Box.mk (HBW7.out.grown hg8 HBW7.out.size (fun q e=>by injection e with e; omega));clear hg8 he h0 HV27 HV37 HBW7 HCL7 HFB HERR hne;go_upto_region 4 with (refine wpList_store_row rfl 41 _ _ rfl w8.heap.size #[.int .i64 k8,.slice none 0 0] rfl rfl 41 _ HNP.out j1 rfl (qap ..) ?_)
   obtain ⟨W9,hW9⟩ : ∃ W9,W9=(w8.alloc (.cells #[.int .i64 0,.slice none 0 0] 41)).setRow w8.heap.size #[.int .i64 k8,.slice none 0 0]:=⟨_,rfl⟩;have hb89:Below w8.heap.size w8 W9:=by rw [hW9]; exact below_setRow (qd _ _) (Nat.le_refl _) _
   have HV29:=Box.mk (HV28.out.keep hb89);have HV39:=Box.mk (HV38.out.keep hb89);have HBW9:=Box.mk (qe HBW8.out hb89);rw [← hW9];clear hW9 hb89 HV28 HV38 HBW8 HNP;have HPN:=Box.mk (show PVr (W9.setRow (w.heap.size+1) zR) (w.heap.size+2) #[.int .i64 0,.slice none 0 0] from (setRow_other _ _ _ _ (by omega)).trans HV39.out);go_wp2_with (first | (refine wpList_store_row rfl 37 _ _ rfl (w.heap.size+1) zR rfl rfl 37 _ HV29.out jw rfl (qbl ..) ?_) | (refine wpList_store_row rfl 41 _ _ rfl (w.heap.size+2) #[.int .i64 0,.slice none 0 0] rfl rfl 41 _ HPN.out j1 rfl (qap ..) ?_))
   (try simp only [Exit.inBlock,Exit.then])
   refine bodyPost_ret (jv rfl _ _ (w.heap.size+1) (w.heap.size+2) 37 41 zR #[.int .i64 0,.slice none 0 0] (0,0) (0,0) _ _ rfl rfl ((setRow_other _ _ _ _ (by omega)).trans (setRow_heap _ _ _ _ _ _ HV29.out)) (setRow_heap _ _ _ _ _ _ HPN.out) Tryz.underlying37 rfl jw Tryz.underlying41 rfl j1) rfl ?_;have HBF:=below_setRow (g:=w.heap.size+2) (below_setRow (g:=w.heap.size+1) HBW9.out (by omega) zR) (by omega) #[.int .i64 0,.slice none 0 0];exact ⟨none,0,none,0,none,0,none,0,rfl,⟨qm.nil _ _,qm.nil _ _,.inl ⟨rfl,rfl,rfl⟩,(fun y hy=>by cases hy),(fun y hy=>by cases hy)⟩,(fun y hy=>by cases hy),.inl ⟨rfl,rfl,rfl⟩,HBF⟩
theorem qs7 (B:Nat→Prop) (s:RS) (b:List UInt8) (most body room:Int) (ba:Option Addr) (bc:Nat) (fa ga la:Option Addr) (fc gc lc:Nat) (w:World) (mm:Int) (hb:qg w ba b bc) (hl:b.length≤1000000) (hm:RMem B w s fa ga la lc) (hok:HdOk w mm) (hs:OkN body s) (hb0:0≤body∧body≤1000000000) (hr0:-1000000000≤room∧room≤1000000000) (hB:∀ g,w.heap.size≤g→B g) :
  Calls Tryz.prog 8 #[.agg (rowR s fa fc ga gc la lc),.slice ba b.length bc,.int .i64 most,.int .i64 body,.int .i64 room] w (RetX B w (qbg s b most body room)) :=
 (qhz B s b most body room ba bc fa ga la fc gc lc w mm hb hl hm hok hs hb0 hr0 hB).mono fun e w' ⟨f4,c4,g4,d4,l4,e4,pa,pc,he,h1,_,h3,h4⟩=>⟨f4,c4,g4,d4,l4,e4,pa,pc,he,h1,h3,h4⟩
end Go.Proofs.YtflhjpokjdjbpaaGreatDoor
namespace Go.Proofs.YtflhjpokjdjbpaaGreatDoor
open Go.RowKit
set_option linter.unusedVariables false
theorem qng (s:RS) (fa ga la:Option Addr) (fc gc lc:Nat) (w:World) :
  Calls Tryz.prog 11 #[.agg (rowR s fa fc ga gc la lc)] w fun e w'=>e = .returned (.bool (qjm s))∧Below w.heap.size w w':=by
 obtain ⟨cs,hcs⟩ : ∃ cs:Array Value,cs=(rowR s fa fc ga gc la lc):=⟨_,rfl⟩;have HCS:=Box.mk hcs;rw [← hcs];clear hcs;obtain ⟨W1,hW1⟩ : ∃ W1,W1=w.alloc (.cells cs 37):=⟨_,rfl⟩;have HB1:=Box.mk (show Below w.heap.size w W1 by rw [hW1]; exact qd _ _);have HO:=Box.mk (show RVr W1 w.heap.size cs by rw [hW1]; exact heap_alloc_new _ _);have HW1:=Box.mk hW1;clear hW1;have hc2:W1.cell? ⟨w.heap.size,2,none⟩=some (.int .i64 s.ph):=by rw [RVr.cell HO.out,HCS.out]; rfl
 have hc14:W1.cell? ⟨w.heap.size,14,none⟩=some (.int .i64 s.fk):=by rw [RVr.cell HO.out,HCS.out]; rfl
 clear HO HCS;unfold qjm;generalize s.ph=ph at *;generalize s.fk=fk at *;by_cases h2:ph=2
 · rw [decide_eq_true h2,Bool.true_or]
   have e2:(ph == 2)=true:=by rw [h2]; rfl
   clear h2;go_enter Tryz.func11,Tryz.ntmps11
   go_upto_region 1 with fail
   rw [← HW1.out];clear HW1;go_wp2_with fail;go_ret;exact ⟨rfl,HB1.out⟩
 · rw [decide_eq_false h2,Bool.false_or]
   have e2:(ph == 2)=false:=by rw [beq_eq_false_iff_ne]; exact h2
   by_cases h1:ph=1
   · rw [decide_eq_true h1,Bool.true_and]
     have e1:(ph == 1)=true:=by rw [h1]; rfl
     by_cases h4:fk=4
     · rw [decide_eq_true h4]
       have e4:(fk == 4)=true:=by rw [h4]; rfl
       clear h2 h1 h4;go_enter Tryz.func11,Tryz.ntmps11
       go_upto_region 1 with fail
       rw [← HW1.out];clear HW1;go_wp2_with fail;go_ret;exact ⟨rfl,HB1.out⟩
     · rw [decide_eq_false h4]
       have e4:(fk == 4)=false:=by rw [beq_eq_false_iff_ne]; exact h4
       clear h2 h1 h4;go_enter Tryz.func11,Tryz.ntmps11
       go_upto_region 1 with fail
       rw [← HW1.out];clear HW1;go_wp2_with fail;go_ret;exact ⟨rfl,HB1.out⟩
   · rw [decide_eq_false h1,Bool.false_and]
     have e1:(ph == 1)=false:=by rw [beq_eq_false_iff_ne]; exact h1
     clear h2 h1;go_enter Tryz.func11,Tryz.ntmps11
     go_upto_region 1 with fail
     rw [← HW1.out];clear HW1;go_wp2_with fail;go_ret;exact ⟨rfl,HB1.out⟩
theorem qr3 (s:RS) (fa ga la:Option Addr) (fc gc lc:Nat) (w:World) :
  Calls Tryz.prog 12 #[.agg (rowR s fa fc ga gc la lc)] w fun e w'=>e = .returned (.bool (qjm s))∧Below w.heap.size w w':=by
 obtain ⟨cs,hcs⟩ : ∃ cs:Array Value,cs=(rowR s fa fc ga gc la lc):=⟨_,rfl⟩;have HCS:=Box.mk hcs;rw [← hcs];clear hcs;obtain ⟨W1,hW1⟩ : ∃ W1,W1=w.alloc (.cells cs 37):=⟨_,rfl⟩;have HB1:=Box.mk (show Below w.heap.size w W1 by rw [hW1]; exact qd _ _);have HO:=Box.mk (show RVr W1 w.heap.size cs by rw [hW1]; exact heap_alloc_new _ _);have HW1:=Box.mk hW1;clear hW1;have hc2:W1.cell? ⟨w.heap.size,2,none⟩=some (.int .i64 s.ph):=by rw [RVr.cell HO.out,HCS.out]; rfl
 have hc14:W1.cell? ⟨w.heap.size,14,none⟩=some (.int .i64 s.fk):=by rw [RVr.cell HO.out,HCS.out]; rfl
 clear HO HCS;unfold qjm;generalize s.ph=ph at *;generalize s.fk=fk at *;by_cases h2:ph=2
 · rw [decide_eq_true h2,Bool.true_or]
   have e2:(ph == 2)=true:=by rw [h2]; rfl
   clear h2;go_enter Tryz.func12,Tryz.ntmps12
   go_upto_region 1 with fail
   rw [← HW1.out];clear HW1;go_wp2_with fail;go_ret;exact ⟨rfl,HB1.out⟩
 · rw [decide_eq_false h2,Bool.false_or]
   have e2:(ph == 2)=false:=by rw [beq_eq_false_iff_ne]; exact h2
   by_cases h1:ph=1
   · rw [decide_eq_true h1,Bool.true_and]
     have e1:(ph == 1)=true:=by rw [h1]; rfl
     by_cases h4:fk=4
     · rw [decide_eq_true h4]
       have e4:(fk == 4)=true:=by rw [h4]; rfl
       clear h2 h1 h4;go_enter Tryz.func12,Tryz.ntmps12
       go_upto_region 1 with fail
       rw [← HW1.out];clear HW1;go_wp2_with fail;go_ret;exact ⟨rfl,HB1.out⟩
     · rw [decide_eq_false h4]
       have e4:(fk == 4)=false:=by rw [beq_eq_false_iff_ne]; exact h4
       clear h2 h1 h4;go_enter Tryz.func12,Tryz.ntmps12
       go_upto_region 1 with fail
       rw [← HW1.out];clear HW1;go_wp2_with fail;go_ret;exact ⟨rfl,HB1.out⟩
   · rw [decide_eq_false h1,Bool.false_and]
     have e1:(ph == 1)=false:=by rw [beq_eq_false_iff_ne]; exact h1
     clear h2 h1;go_enter Tryz.func12,Tryz.ntmps12
     go_upto_region 1 with fail
     rw [← HW1.out];clear HW1;go_wp2_with fail;go_ret;exact ⟨rfl,HB1.out⟩
theorem qgx (w:World):Calls Tryz.prog 19 #[] w fun e w'=>e = .returned (.agg zR)∧Below w.heap.size w w':=by
 obtain ⟨W1,hW1⟩ : ∃ W1,W1=w.alloc (.cells zR 37):=⟨_,rfl⟩;have HB1:=Box.mk (show Below w.heap.size w W1 by rw [hW1]; exact qd _ _);have HO:=Box.mk (show RVr W1 w.heap.size zR by rw [hW1]; exact heap_alloc_new _ _);have HW1:=Box.mk hW1;clear hW1;go_enter Tryz.func19,Tryz.ntmps19
 go_upto_region 1 with fail
 rw [← HW1.out];clear HW1;go_wp2_with (refine wpList_store_row rfl 37 _ _ rfl w.heap.size zR rfl rfl 37 _ HO.out jw rfl (qbl ..) ?_)
 (try simp only [Exit.inBlock,Exit.then])
 refine bodyPost_ret (qg2 rfl _ _ w.heap.size 37 zR (0,0) _ rfl (setRow_heap _ _ _ _ _ _ HO.out) Tryz.underlying37 rfl jw) rfl ?_;exact ⟨rfl,below_setRow HB1.out (Nat.le_refl _) _⟩
theorem qst (p:ByteArray) (w:World):Calls Tryz.prog 20 #[.string p] w fun e w'=>e = .returned (.agg #[.bool true,.string p,.int .i64 0,.string ⟨#[]⟩,.string ⟨#[]⟩,.int .i64 0,.slice none 0 0,.bool false,.slice none 0 0,.int .i64 0,.string ⟨#[]⟩,.int .i64 0,.slice none 0 0,.slice none 0 0,.int .i64 0,.int .i64 0,.int .i64 0,.int .i64 0,.int .i64 0,.int .i64 0,.int .i64 0,.slice none 0 0])∧Below w.heap.size w w':=by
 have hbd:∀ W,(Instr.build 37 #[(0,.bool true),(1,.string p)]).run Tryz.prog W = .ok (.agg #[.bool true,.string p,.int .i64 0,.string ⟨#[]⟩,.string ⟨#[]⟩,.int .i64 0,.slice none 0 0,.bool false,.slice none 0 0,.int .i64 0,.string ⟨#[]⟩,.int .i64 0,.slice none 0 0,.slice none 0 0,.int .i64 0,.int .i64 0,.int .i64 0,.int .i64 0,.int .i64 0,.int .i64 0,.int .i64 0,.slice none 0 0]) W:=fun W=>run_build (P:=Tryz.prog) W 37 #[(0,.bool true),(1,.string p)] #[.bool true,.string p,.int .i64 0,.string ⟨#[]⟩,.string ⟨#[]⟩,.int .i64 0,.slice none 0 0,.bool false,.slice none 0 0,.int .i64 0,.string ⟨#[]⟩,.int .i64 0,.slice none 0 0,.slice none 0 0,.int .i64 0,.int .i64 0,.int .i64 0,.int .i64 0,.int .i64 0,.int .i64 0,.int .i64 0,.slice none 0 0] (by kernel_rfl);obtain ⟨W1,hW1⟩ : ∃ W1,W1=w.alloc (.cells zR 37):=⟨_,rfl⟩;have HB1:=Box.mk (show Below w.heap.size w W1 by rw [hW1]; exact qd _ _);have HO:=Box.mk (show RVr W1 w.heap.size zR by rw [hW1]; exact heap_alloc_new _ _);have HW1:=Box.mk hW1;clear hW1;go_enter Tryz.func20,Tryz.ntmps20
 go_upto_region 1 with fail
 rw [← HW1.out];clear HW1;go_wp2_with (refine wpList_store_row rfl 37 _ _ rfl w.heap.size #[.bool true,.string p,.int .i64 0,.string ⟨#[]⟩,.string ⟨#[]⟩,.int .i64 0,.slice none 0 0,.bool false,.slice none 0 0,.int .i64 0,.string ⟨#[]⟩,.int .i64 0,.slice none 0 0,.slice none 0 0,.int .i64 0,.int .i64 0,.int .i64 0,.int .i64 0,.int .i64 0,.int .i64 0,.int .i64 0,.slice none 0 0] rfl rfl 37 _ HO.out jw rfl (qbl ..) ?_)
 (try simp only [Exit.inBlock,Exit.then])
 refine bodyPost_ret (qg2 rfl _ _ w.heap.size 37 #[.bool true,.string p,.int .i64 0,.string ⟨#[]⟩,.string ⟨#[]⟩,.int .i64 0,.slice none 0 0,.bool false,.slice none 0 0,.int .i64 0,.string ⟨#[]⟩,.int .i64 0,.slice none 0 0,.slice none 0 0,.int .i64 0,.int .i64 0,.int .i64 0,.int .i64 0,.int .i64 0,.int .i64 0,.int .i64 0,.slice none 0 0] (0,0) _ rfl (setRow_heap _ _ _ _ _ _ HO.out) Tryz.underlying37 rfl jw) rfl ?_;exact ⟨rfl,below_setRow HB1.out (Nat.le_refl _) _⟩
theorem qmw (p:ByteArray) (w:World):Calls Tryz.prog 21 #[.string p] w fun e w'=>e = .returned (.agg #[.bool true,.string p,.int .i64 0,.string ⟨#[]⟩,.string ⟨#[]⟩,.int .i64 0,.slice none 0 0,.bool false,.slice none 0 0,.int .i64 0,.string ⟨#[]⟩,.int .i64 0,.slice none 0 0,.slice none 0 0,.int .i64 0,.int .i64 0,.int .i64 0,.int .i64 0,.int .i64 0,.int .i64 0,.int .i64 0,.slice none 0 0])∧Below w.heap.size w w':=by
 have hbd:∀ W,(Instr.build 37 #[(0,.bool true),(1,.string p)]).run Tryz.prog W = .ok (.agg #[.bool true,.string p,.int .i64 0,.string ⟨#[]⟩,.string ⟨#[]⟩,.int .i64 0,.slice none 0 0,.bool false,.slice none 0 0,.int .i64 0,.string ⟨#[]⟩,.int .i64 0,.slice none 0 0,.slice none 0 0,.int .i64 0,.int .i64 0,.int .i64 0,.int .i64 0,.int .i64 0,.int .i64 0,.int .i64 0,.slice none 0 0]) W:=fun W=>run_build (P:=Tryz.prog) W 37 #[(0,.bool true),(1,.string p)] #[.bool true,.string p,.int .i64 0,.string ⟨#[]⟩,.string ⟨#[]⟩,.int .i64 0,.slice none 0 0,.bool false,.slice none 0 0,.int .i64 0,.string ⟨#[]⟩,.int .i64 0,.slice none 0 0,.slice none 0 0,.int .i64 0,.int .i64 0,.int .i64 0,.int .i64 0,.int .i64 0,.int .i64 0,.int .i64 0,.slice none 0 0] (by kernel_rfl);obtain ⟨W1,hW1⟩ : ∃ W1,W1=w.alloc (.cells zR 37):=⟨_,rfl⟩;have HB1:=Box.mk (show Below w.heap.size w W1 by rw [hW1]; exact qd _ _);have HO:=Box.mk (show RVr W1 w.heap.size zR by rw [hW1]; exact heap_alloc_new _ _);have HW1:=Box.mk hW1;clear hW1;go_enter Tryz.func21,Tryz.ntmps21
 go_upto_region 1 with fail
 rw [← HW1.out];clear HW1;go_wp2_with (refine wpList_store_row rfl 37 _ _ rfl w.heap.size #[.bool true,.string p,.int .i64 0,.string ⟨#[]⟩,.string ⟨#[]⟩,.int .i64 0,.slice none 0 0,.bool false,.slice none 0 0,.int .i64 0,.string ⟨#[]⟩,.int .i64 0,.slice none 0 0,.slice none 0 0,.int .i64 0,.int .i64 0,.int .i64 0,.int .i64 0,.int .i64 0,.int .i64 0,.int .i64 0,.slice none 0 0] rfl rfl 37 _ HO.out jw rfl (qbl ..) ?_)
 (try simp only [Exit.inBlock,Exit.then])
 refine bodyPost_ret (qg2 rfl _ _ w.heap.size 37 #[.bool true,.string p,.int .i64 0,.string ⟨#[]⟩,.string ⟨#[]⟩,.int .i64 0,.slice none 0 0,.bool false,.slice none 0 0,.int .i64 0,.string ⟨#[]⟩,.int .i64 0,.slice none 0 0,.slice none 0 0,.int .i64 0,.int .i64 0,.int .i64 0,.int .i64 0,.int .i64 0,.int .i64 0,.int .i64 0,.slice none 0 0] (0,0) _ rfl (setRow_heap _ _ _ _ _ _ HO.out) Tryz.underlying37 rfl jw) rfl ?_;exact ⟨rfl,below_setRow HB1.out (Nat.le_refl _) _⟩
section
variable {Q:Exit→Act→World→Prop} {a:Act} {w:World} {o:Oper} {s:Spec}
theorem qey {y:Operand} (ho:o.op = .build 41 #[(0,.const (.int .i64 2)),(1,y)]) {ad:Option Addr} {n c:Nat} (hy:a.eval y = .slice ad n c) (hs:s.p (.agg #[.int .i64 2,.slice ad n c]) w) :
  o.wp Tryz.prog a w (fun a' w'=>∃ v,a'=a.put o.dst v∧Below w.heap.size w w'∧s.p v w') Q:=by
 refine j0 (v:=.agg #[.int .i64 2,.slice ad n c]) ?_ (Below.refl _ _) hs;have hb:=run_build (P:=Tryz.prog) w 41 #[(0,.int .i64 2),(1,.slice ad n c)] #[.int .i64 2,.slice ad n c] (by kernel_rfl);unfold execOp;simp only [ho,List.map_toArray,List.map_cons,List.map_nil,hy];rw [Sem.run_bind];exact congrArg (fun r=>Result.andThen r fun u w'=>Sem.run Tryz.prog (pure (Next.value u)) w') hb
end
structure RetJ (w:World) (ct r2 r3:Array Value) (W:World):Prop where
 r1:RVr W w.heap.size ct
 r2:RVr W (w.heap.size+1) r2
 r3:PVr W (w.heap.size+2) r3
 bl:Below w.heap.size w W
theorem RetJ.keep {w:World} {ct r2 r3:Array Value} {W W':World} (h:RetJ w ct r2 r3 W) (hb:Below W.heap.size W W'):RetJ w ct r2 r3 W':=⟨h.r1.keep hb,h.r2.keep hb,h.r3.keep hb,qe h.bl hb⟩
theorem qvl {fn:Func} {q1 q2 p1 p2:Tmp} (h:fn.results=#[.cell p1 37,.cell p2 41,.tmp q1,.tmp q2]) {a:Act} {W:World} {g:Nat} {ct cp o2 o3:Array Value} {R:Ending→World→Prop} (hd:a.defers=[]) (hp1:a.tmps.getD p1 undef = .pointer (some ⟨g+1,0,none⟩)) (hp2:a.tmps.getD p2 undef = .pointer (some ⟨g+2,0,none⟩))
  (h2:RVr W (g+1) o2) (h3:PVr W (g+2) o3) (hs:ct.size=22) (hs2:cp.size=2) (hR:R (.returned (.tuple #[.agg ct,.agg cp,a.tmps.getD q1 undef,a.tmps.getD q2 undef])) ((W.setRow (g+1) ct).setRow (g+2) cp)):bodyPost Tryz.prog fn R .ret a ((W.setRow (g+1) ct).setRow (g+2) cp) :=
 bodyPost_ret (jv h _ _ (g+1) (g+2) 37 41 ct cp (0,0) (0,0) _ _ hp1 hp2 ((setRow_other _ _ _ _ (by omega)).trans (setRow_heap _ _ _ _ _ _ h2)) (setRow_heap _ _ _ _ _ _ ((setRow_other _ _ _ _ (by omega)).trans h3)) Tryz.underlying37 rfl (by rw [hs]; exact jw) Tryz.underlying41 rfl (by rw [hs2]; exact j1)) hd hR
theorem RetX.err {B:Nat→Prop} {w W:World} {X:NX} {e:Int} (hx:X=errX e) (hb:Below w.heap.size w W):RetX B w X (.returned (.tuple #[.agg zR,.agg #[.int .i64 0,.slice none 0 0],.int .i64 0,.int .i64 e])) W:=by
 subst hx;exact ⟨none,0,none,0,none,0,none,0,rfl,⟨qm.nil _ _,qm.nil _ _,.inl ⟨rfl,rfl,rfl⟩,(fun y hy=>by cases hy),(fun y hy=>by cases hy)⟩,.inl ⟨rfl,rfl,rfl⟩,hb⟩
set_option linter.unusedVariables false
section
variable (B:Nat→Prop) (s:RS) (b:List UInt8) (body room:Int) (ba:Option Addr) (bc:Nat) (fa ga la:Option Addr) (fc gc lc:Nat) (w:World)
theorem qvg (hb:qg w ba b bc) (hl:b.length≤1000000) (hm:RMem B w s fa ga la lc) (hs:OkR s) (hb0:0≤body∧body≤1000000000) (hr0:0≤room∧room≤1000000000) :
  Calls Tryz.prog 26 #[.agg (rowR s fa fc ga gc la lc),.slice ba b.length bc,.int .i64 body,.int .i64 room] w (RetX B w (qdp s b body room)):=by
 obtain ⟨X,hX⟩ : ∃ X,X=qdp s b body room:=⟨_,rfl⟩;rw [← hX];obtain ⟨cs,hcs⟩ : ∃ cs:Array Value,cs=(rowR s fa fc ga gc la lc):=⟨_,rfl⟩;have HCS:=Box.mk hcs;have HC22:=Box.mk (show cs.size=22 by rw [hcs]; rfl);have HSZ:=Box.mk (show (Tryz.prog.info? 37).map (·.size)=some cs.size by rw [HC22.out]; exact jw);have HC1:=Box.mk (show cs.all (·.oneCell')=true by rw [hcs]; exact qbl ..);rw [← hcs];clear hcs;obtain ⟨W3,hW3⟩ : ∃ W3,W3=((w.alloc (.cells cs 37)).alloc (.cells zR 37)).alloc (.cells #[.int .i64 0,.slice none 0 0] 41):=⟨_,rfl⟩;have hb1:=qd w (.cells cs 37);have hb2:=qk hb1 (.cells zR 37);have hb3:=qe hb2 (qd _ (.cells #[.int .i64 0,.slice none 0 0] 41));have HBW:=Box.mk (show Below w.heap.size w W3 by rw [hW3]; exact hb3);have HV1:=Box.mk (show RVr W3 w.heap.size cs by rw [hW3]; exact RVr.keep (RVr.keep (heap_alloc_new w (.cells cs 37)) (qd _ _)) (qd _ _));have HV2:=Box.mk (show RVr W3 (w.heap.size+1) zR by
  have h:=heap_alloc_new (w.alloc (.cells cs 37)) (.cells zR 37);rw [World.size_alloc] at h;rw [hW3]; exact RVr.keep h (qd _ _))
 have HV3:=Box.mk (show PVr W3 (w.heap.size+2) #[.int .i64 0,.slice none 0 0] by
  have h:=heap_alloc_new ((w.alloc (.cells cs 37)).alloc (.cells zR 37)) (.cells #[.int .i64 0,.slice none 0 0] 41);rw [World.size_alloc,World.size_alloc] at h;rw [hW3]; exact h)
 have HW3:=Box.mk hW3;have HM:=Box.mk hm;have HBY:=Box.mk hb;have HBB:=Box.mk (hb.keep HBW.out);have hl3:w.heap.size+2<W3.heap.size:=(Array.getElem?_eq_some_iff.1 HV3.out).1;have HOK:=Box.mk hs;clear hb hm hb1 hb2 hb3 hW3 hs;obtain ⟨hs1,hs2⟩:=HOK.out.size;have hc14:W3.cell? ⟨w.heap.size,14,none⟩=some (.int .i64 s.fk):=by rw [RVr.cell HV1.out,HCS.out]; rfl
 have hc16:W3.cell? ⟨w.heap.size,16,none⟩=some (.int .i64 s.left):=by rw [RVr.cell HV1.out,HCS.out]; rfl
 have hc17:W3.cell? ⟨w.heap.size,17,none⟩=some (.int .i64 s.size):=by rw [RVr.cell HV1.out,HCS.out]; rfl
 -- the state after cells of the reader's variable were stored
 have HPUT:=Box.mk (show ∀ (W:World) (d:Array Value) (i:Nat) (v:Value),RVr W w.heap.size d→RVr W (w.heap.size+1) zR→PVr W (w.heap.size+2) #[.int .i64 0,.slice none 0 0]→Below w.heap.size w W →
   RVr (W.setCell ⟨w.heap.size,i,none⟩ v) w.heap.size (d.setIfInBounds i v)∧RVr (W.setCell ⟨w.heap.size,i,none⟩ v) (w.heap.size+1) zR∧PVr (W.setCell ⟨w.heap.size,i,none⟩ v) (w.heap.size+2) #[.int .i64 0,.slice none 0 0]∧Below w.heap.size w (W.setCell ⟨w.heap.size,i,none⟩ v) from fun W d i v h1 h2 h3 h4 =>
   ⟨RVr.put h1,(heap_setCell_other _ _ _ _ (by show w.heap.size+1≠w.heap.size; omega)).trans h2,(heap_setCell_other _ _ _ _ (by show w.heap.size+2≠w.heap.size; omega)).trans h3,h4.setCell (p:=⟨w.heap.size,i,none⟩) (Nat.le_refl _) _⟩)
 go_enter Tryz.func26,Tryz.ntmps26
 go_upto_region 1 with fail
 rw [← HW3.out];clear HW3;by_cases h12:s.fk=1∨s.fk=2∧s.left=0
 · have HX:=Box.mk (show X=⟨0,{ s with ph:=2 },3,[],0⟩ by
    rw [hX]; unfold qdp;rcases h12 with h | ⟨h,h2⟩
    · rw [if_pos (.inl h),if_pos (.inl h)]
    · rw [if_pos (.inr h),if_pos (.inr h2)])
   have hc2:W3.cell? ⟨w.heap.size,2,none⟩=some (.int .i64 s.ph):=by rw [RVr.cell HV1.out,HCS.out]; rfl
   have hz2:W3.frozen? ⟨w.heap.size,2,none⟩=false:=frozen_of_row W3 _ 2 _ _ HV1.out;have he:(s.fk == 1)=true∨(s.fk == 1)=false∧(s.fk == 2)=true∧(s.left == 0)=true:=by
    rcases h12 with h | ⟨h,h2⟩
    · exact .inl (by rw [h]; rfl)
    · exact .inr ⟨by rw [h]; rfl,by rw [h]; rfl,by rw [h2]; rfl⟩
   clear h12 hX HSZ HC22 HC1;rcases he with e1 | ⟨e1,e2,e3⟩
   all_goals
    go_upto_region 6 with fail
    obtain ⟨W5,hW5⟩ : ∃ W5,W5=W3.setCell ⟨w.heap.size,2,none⟩ (.int .i64 2):=⟨_,rfl⟩;obtain ⟨ct,hct⟩ : ∃ c:Array Value,c=rowR { s with ph:=2 } fa fc ga gc la lc:=⟨_,rfl⟩;have HR:=Box.mk (show RVr W5 w.heap.size ct∧RVr W5 (w.heap.size+1) zR∧PVr W5 (w.heap.size+2) #[.int .i64 0,.slice none 0 0]∧Below w.heap.size w W5 by
     have h:=HPUT.out W3 cs 2 (.int .i64 2) HV1.out HV2.out HV3.out HBW.out;rw [show cs.setIfInBounds 2 (.int .i64 2)=ct by rw [HCS.out,hct]; rfl] at h;rw [hW5]; exact h)
    have HCT:=Box.mk hct;have HC22:=Box.mk (show ct.size=22 by rw [hct]; rfl);have HC1:=Box.mk (show ct.all (·.oneCell')=true by rw [hct]; exact qbl ..);have HSZ:=Box.mk (show (Tryz.prog.info? 37).map (·.size)=some ct.size by rw [HC22.out]; exact jw);rw [← hW5];clear hW5 hct hc2 hz2;have HPN:=Box.mk (show PVr (W5.setRow (w.heap.size+1) ct) (w.heap.size+2) #[.int .i64 0,.slice none 0 0] from (setRow_other _ _ _ _ (by omega)).trans HR.out.2.2.1);go_wp2_with (first | (refine wpList_load_row rfl 37 _ rfl w.heap.size rfl 37 ct (0,0) _ HR.out.1 Tryz.underlying37 rfl HSZ.out ?_) | (refine wpList_store_row rfl 37 _ _ rfl (w.heap.size+1) ct rfl rfl 37 _ HR.out.2.1 HSZ.out (by rw [HC22.out]; rfl) HC1.out ?_) | (refine wpList_store_row rfl 41 _ _ rfl (w.heap.size+2) #[.int .i64 3,.slice none 0 0] rfl rfl 41 _ HPN.out j1 rfl (qap ..) ?_))
    (try simp only [Exit.inBlock,Exit.then])
    refine qvl rfl rfl rfl rfl HR.out.2.1 HR.out.2.2.1 HC22.out (by rfl) ?_;have HBF:=below_setRow (g:=w.heap.size+2) (below_setRow (g:=w.heap.size+1) HR.out.2.2.2 (by omega) ct) (by omega) #[.int .i64 3,.slice none 0 0];rw [HX.out];exact ⟨fa,fc,ga,gc,la,lc,none,0,by rw [HCT.out]; rfl,⟨HM.out.f1.keep HBF,HM.out.f2.keep HBF,HM.out.ln.keep HBF,HM.out.n1,HM.out.n2⟩,.inl ⟨rfl,rfl,rfl⟩,HBF⟩
 · by_cases hk2:s.fk=2
   · have hl0:¬ s.left=0:=fun h=>h12 (.inr ⟨hk2,h⟩)
     obtain ⟨hl1,hl2⟩:=HOK.out.left hk2;obtain ⟨q,hq,hq1,hq2,hq3⟩ : ∃ q:Nat,minI (minI s.left room) b.length=(q:Int)∧q≤b.length∧(q:Int)≤s.left∧(q:Int)≤1000000000:=by
      refine ⟨(minI (minI s.left room) b.length).toNat,?_,?_,?_,?_⟩ <;> (unfold minI; split <;> split <;> omega)
     have HX0:=Box.mk (show X=(if (q:Int)=0 then ⟨0,s,0,[],0⟩ else ⟨0,{ s with left:=s.left-(q:Int),size:=s.size+(q:Int) },2,b.take q,q⟩) by
      rw [hX]; unfold qdp;rw [if_pos (.inr hk2),if_neg (fun h=>h.elim (by omega) hl0),hq,Int.toNat_natCast])
     have hmn:∀ (ts:Array TypeId) (t:TypeId) (W:World),(Builtin.min_ ts t #[.int .i64 s.left,.int .i64 room,.int .i64 b.length]).run Tryz.prog W = .ok (.int .i64 (q:Int)) W:=fun ts t W=>by
      rw [run_min_int3];unfold minI at hq;congr 2;rw [← hq]
      split <;> split <;> (try split) <;> omega
     have e1:(s.fk == 1)=false:=by rw [hk2]; rfl
     have e2:(s.fk == 2)=true:=by rw [hk2]; rfl
     have el:(s.left == 0)=false:=by rw [beq_eq_false_iff_ne]; exact hl0
     clear h12 hX hk2 hl0 hq;by_cases hq0:(q:Int)=0
     · have HX:=Box.mk (show X=⟨0,s,0,[],0⟩ by rw [HX0.out,if_pos hq0])
       have eq0:((q:Int) == 0)=true:=by rw [hq0]; rfl
       clear hq0 HX0;have HPN:=Box.mk (show PVr (W3.setRow (w.heap.size+1) cs) (w.heap.size+2) #[.int .i64 0,.slice none 0 0] from (setRow_other _ _ _ _ (by omega)).trans HV3.out);go_wp2_with (first | (refine wpList_load_row rfl 37 _ rfl w.heap.size rfl 37 cs (0,0) _ HV1.out Tryz.underlying37 rfl HSZ.out ?_) | (refine wpList_store_row rfl 37 _ _ rfl (w.heap.size+1) cs rfl rfl 37 _ HV2.out HSZ.out (by rw [HC22.out]; rfl) HC1.out ?_) | (refine wpList_store_row rfl 41 _ _ rfl (w.heap.size+2) #[.int .i64 0,.slice none 0 0] rfl rfl 41 _ HPN.out j1 rfl (qap ..) ?_))
       (try simp only [Exit.inBlock,Exit.then])
       refine qvl rfl rfl rfl rfl HV2.out HV3.out HC22.out (by rfl) ?_;have HBF:=below_setRow (g:=w.heap.size+2) (below_setRow (g:=w.heap.size+1) HBW.out (by omega) cs) (by omega) #[.int .i64 0,.slice none 0 0];rw [HX.out];exact ⟨fa,fc,ga,gc,la,lc,none,0,by rw [HCS.out]; rfl,HM.out.keep HBF,.inl ⟨rfl,rfl,rfl⟩,HBF⟩
     · have HX:=Box.mk (show X=⟨0,{ s with left:=s.left-(q:Int),size:=s.size+(q:Int) },2,b.take q,q⟩ by rw [HX0.out,if_neg hq0])
       have eq0:((q:Int) == 0)=false:=by rw [beq_eq_false_iff_ne]; exact hq0
       clear HX0;obtain ⟨ad,rfl⟩ : ∃ ad,ba=some ad:=qe6 HBB.out (by omega);have hz16:W3.frozen? ⟨w.heap.size,16,none⟩=false:=frozen_of_row W3 _ 16 _ _ HV1.out;obtain ⟨W4,hW4⟩ : ∃ W4,W4=W3.setCell ⟨w.heap.size,16,none⟩ (.int .i64 (s.left-(q:Int))):=⟨_,rfl⟩;have H4:=Box.mk (show RVr W4 w.heap.size (cs.setIfInBounds 16 (.int .i64 (s.left-(q:Int))))∧RVr W4 (w.heap.size+1) zR∧PVr W4 (w.heap.size+2) #[.int .i64 0,.slice none 0 0]∧Below w.heap.size w W4 by rw [hW4]; exact HPUT.out W3 cs 16 _ HV1.out HV2.out HV3.out HBW.out);have hc17b:W4.cell? ⟨w.heap.size,17,none⟩=some (.int .i64 s.size):=by rw [RVr.cell H4.out.1,HCS.out]; rfl
       have hz17b:W4.frozen? ⟨w.heap.size,17,none⟩=false:=frozen_of_row _ _ 17 _ _ H4.out.1;rw [hW4] at hc17b hz17b;clear HSZ HC22 HC1;go_upto_region 11 with fail
       obtain ⟨W5,hW5⟩ : ∃ W5,W5=W4.setCell ⟨w.heap.size,17,none⟩ (.int .i64 (s.size+(q:Int))):=⟨_,rfl⟩;obtain ⟨ct,hct⟩ : ∃ c:Array Value,c=rowR { s with left:=s.left-(q:Int),size:=s.size+(q:Int) } fa fc ga gc la lc:=⟨_,rfl⟩;have HR:=Box.mk (show RetJ w ct zR #[.int .i64 0,.slice none 0 0] W5 by
        have h:=HPUT.out W4 _ 17 (.int .i64 (s.size+(q:Int))) H4.out.1 H4.out.2.1 H4.out.2.2.1 H4.out.2.2.2;rw [show (cs.setIfInBounds 16 (.int .i64 (s.left-(q:Int)))).setIfInBounds 17 (.int .i64 (s.size+(q:Int)))=ct by rw [HCS.out,hct]; rfl,← hW5] at h;exact ⟨h.1,h.2.1,h.2.2.1,h.2.2.2⟩)
       rw [hW4] at hW5;have HCT:=Box.mk hct;have HC22:=Box.mk (show ct.size=22 by rw [hct]; rfl);have HC1:=Box.mk (show ct.all (·.oneCell')=true by rw [hct]; exact qbl ..);have HSZ:=Box.mk (show (Tryz.prog.info? 37).map (·.size)=some ct.size by rw [HC22.out]; exact jw);rw [← hW5];clear hW5 hct hW4 hc14 hc16 hc17 hz16 hc17b hz17b hmn H4;go_wp2_with fail;rename_i KK hKK;refine qz [6,7] (fun p=>match p with | 0=>[0,1,2,3,4,5] | 1=>[1,2,3,4,5] | _=>[5,8,9])
        (fun p=>match p with | 0=>[.val (.agg ct),.val (.slice (some ad) b.length bc),.val (.int .i64 (q:Int)),.val (.slice (some ad) q bc),.val (.agg #[.int .i64 2,.slice (some ad) q bc]),.val (.int .i64 (q:Int)),.any,.any,.nope,.nope] | 1=>[.any,.val (.slice (some ad) b.length bc),.val (.int .i64 (q:Int)),.val (.slice (some ad) q bc),.val (.agg #[.int .i64 2,.slice (some ad) q bc]),.val (.int .i64 (q:Int)),.any,.any,.nope,.nope] | _=>[.any,.any,.any,.any,.any,.val (.int .i64 (q:Int)),.any,.any,.val (.int .i64 (q:Int)),.val (.int .i64 0)])
        (fun p=>RetJ w ct (match p with | 0=>zR | _=>ct) (match p with | 0=>#[.int .i64 0,.slice none 0 0] | 1=>#[.int .i64 0,.slice none 0 0] | _=>#[.int .i64 2,.slice (some ad) q bc]))
        (by kernel_rfl) (by kernel_rfl) (by kernel_rfl) (by kernel_rfl) (by kernel_rfl) (by kernel_rfl) (fun _ _ _ h hb=>RetJ.keep h hb) HR.out ?_ ?_ ?_
       · intro p hp
         match p,hp with
         | 0,_ =>
          refine ⟨?_,?_,?_,?_,?_,?_,trivial⟩ <;> intro a1 w1 hv hf hd
          · exact ⟨qb rfl,kw rfl (by rw [show a1.eval (.tmp 4) = .pointer (some ⟨w.heap.size,0,none⟩) from hf.base 4 rfl]; exact qja _ _ _ hv.r1 HC22.out) rfl⟩
          · exact ⟨qb rfl,qi rfl (hf.base 1 rfl)⟩
          · exact ⟨qb rfl,qi rfl (hf.base 12 rfl)⟩
          · exact ⟨qb rfl,qen rfl (hd 1 rfl) (hd 2 rfl) hq1 (kb HBB.out) rfl⟩
          · exact ⟨qb rfl,qey rfl (hd 3 rfl) rfl⟩
          · exact ⟨qb rfl,qi rfl (hf.base 12 rfl)⟩
         | 1,_ =>
          refine ⟨?_,?_,?_,?_,?_,trivial⟩ <;> intro a1 w1 hv hf hd
          · exact ⟨qb rfl,qi rfl (hf.base 1 rfl)⟩
          · exact ⟨qb rfl,qi rfl (hf.base 12 rfl)⟩
          · exact ⟨qb rfl,qen rfl (hd 1 rfl) (hd 2 rfl) hq1 (kb HBB.out) rfl⟩
          · exact ⟨qb rfl,qey rfl (hd 3 rfl) rfl⟩
          · exact ⟨qb rfl,qi rfl (hf.base 12 rfl)⟩
         | 2,_ =>
          refine ⟨?_,?_,?_,trivial⟩ <;> intro a1 w1 hv hf hd
          · exact ⟨qb rfl,qi rfl (hf.base 12 rfl)⟩
          · exact ⟨qb rfl,qr rfl (hd 5 rfl)⟩
          · exact ⟨qb rfl,qr rfl rfl⟩
       · intro p hp
         match p,hp with
         | 0,_ =>
          intro a2 w2 hv hf hd;refine ⟨qb rfl,wp_store_row 37 _ _ rfl (w.heap.size+1) ct (hf.base 8 rfl) (hd 0 rfl) 37 _ hv.r2 HSZ.out (by rw [HC22.out]; rfl) HC1.out ?_⟩;exact ⟨undef,rfl,⟨(setRow_other _ _ _ _ (by omega)).trans hv.r1,setRow_heap _ _ _ _ _ _ hv.r2,(setRow_other _ _ _ _ (by omega)).trans hv.r3,below_setRow hv.bl (by omega) _⟩,trivial,⟨.inr fun _ _ _=>trivial,.inr fun _ _ h=>h,.inr fun _ _ h=>h,.inr fun _ _ h=>h,.inr fun _ _ h=>h,.inr fun _ _ h=>h,.inl rfl,.inr fun _ _ _=>trivial,.inr fun _ _ h=>h,.inr fun _ _ h=>h,trivial⟩⟩
         | 1,_ =>
          intro a2 w2 hv hf hd;refine ⟨qb rfl,wp_store_row 41 _ _ rfl (w.heap.size+2) #[.int .i64 2,.slice (some ad) q bc] (hf.base 9 rfl) (hd 4 rfl) 41 _ hv.r3 j1 rfl (qap ..) ?_⟩;exact ⟨undef,rfl,⟨(setRow_other _ _ _ _ (by omega)).trans hv.r1,(setRow_other _ _ _ _ (by omega)).trans hv.r2,setRow_heap _ _ _ _ _ _ hv.r3,below_setRow hv.bl (by omega) _⟩,trivial,⟨.inr fun _ _ _=>trivial,.inr fun _ _ _=>trivial,.inr fun _ _ _=>trivial,.inr fun _ _ _=>trivial,.inr fun _ _ _=>trivial,.inr fun _ _ h=>h,.inr fun _ _ _=>trivial,.inl rfl,.inr fun _ _ h=>h.elim,.inr fun _ _ h=>h.elim,trivial⟩⟩
       · intro a2 w2 hv hf hh
         have e10:a2.eval (.tmp 10) = .int .i64 (q:Int):=hh 8 (by decide);have e11:a2.eval (.tmp 11) = .int .i64 0:=hh 9 (by decide);clear hh;rw [jl hf];clear hf;simp only [kg,e10,e11];generalize a2.eval (.tmp 56)=u56;generalize a2.eval (.tmp 57)=u57;generalize a2.eval (.tmp 58)=u58;generalize a2.eval (.tmp 59)=u59;generalize a2.eval (.tmp 60)=u60;generalize a2.eval (.tmp 61)=u61;clear e10 e11 a2;simp only [Act.put,List.setIfInBounds_toArray,List.set_cons_succ,List.set_cons_zero];refine hKK _ _ ?_;clear hKK;go_wp2_with fail
         (try simp only [Exit.inBlock,Exit.then])
         refine bodyPost_ret (jv rfl _ _ (w.heap.size+1) (w.heap.size+2) 37 41 ct #[.int .i64 2,.slice (some ad) q bc] (0,0) (0,0) _ _ rfl rfl hv.r2 hv.r3 Tryz.underlying37 rfl HSZ.out Tryz.underlying41 rfl j1) rfl ?_;have HBF:=hv.bl;have HTL:=Box.mk (show (b.take q).length=q by rw [List.length_take]; omega);rw [HX.out];exact ⟨fa,fc,ga,gc,la,lc,some ad,bc,by rw [HCT.out]; show _=Ending.returned (.tuple #[_,.agg #[_,.slice _ (b.take q).length _],_,_]); rw [HTL.out]; rfl,⟨HM.out.f1.keep HBF,HM.out.f2.keep HBF,HM.out.ln.keep HBF,HM.out.n1,HM.out.n2⟩,ki (HBY.out.keep HBF) q,HBF⟩
   · have h12':¬ (s.fk=1∨s.fk=2):=fun h=>h.elim (fun h=>h12 (.inl h)) hk2
     have e1:(s.fk == 1)=false:=by rw [beq_eq_false_iff_ne]; exact fun h=>h12 (.inl h)
     have e2:(s.fk == 2)=false:=by rw [beq_eq_false_iff_ne]; exact hk2
     clear h12 hk2;by_cases hk3:s.fk=3
     · obtain ⟨rk,hrk⟩ : ∃ rk,minI room (body+1-s.size)=rk:=⟨_,rfl⟩
       obtain ⟨er,c,out,n,hF⟩ : ∃ er c out n,jp rk s.ck [] 0 b=(er,c,out,n):=⟨_,_,_,_,rfl⟩;have hol:out.length≤1000000:=by have h:=(qn2 rk s.ck b).1; rw [hF] at h; exact Nat.le_trans h hl
       have HX0:=Box.mk (show X=(if er≠0 then errX er else if body<s.size+(out.length:Int) then errX 9 else if 0<out.length then ⟨0,{ s with ck:=c,size:=s.size+(out.length:Int) },2,out,n⟩ else if c.ph=4 then ⟨0,{ s with ck:=c,ph:=2 },3,[],n⟩ else ⟨0,{ s with ck:=c },0,[],n⟩) by
        rw [hX]; unfold qdp;rw [if_neg h12',if_pos hk3,hrk,hF])
       have hmn:∀ (ts:Array TypeId) (t:TypeId) (W:World),(Builtin.min_ ts t #[.int .i64 room,.int .i64 (body+1-s.size)]).run Tryz.prog W = .ok (.int .i64 rk) W:=fun ts t W=>by
        rw [run_min_int2];unfold minI at hrk;congr 2;rw [← hrk]
        split <;> split <;> omega
       have HRA:=Box.mk (show W3.rangeAt w.heap.size 18 [.int .i64 s.ck.ph,.int .i64 s.ck.left,.int .i64 s.ck.tr,.slice la (List.length s.ck.line) lc] from fun j v hj=>by
        rw [RVr.cell HV1.out,HCS.out]
        match j,hj with
        | 0,hj=>exact hj
        | 1,hj=>exact hj
        | 2,hj=>exact hj
        | 3,hj=>exact hj
        | (j+4),hj=>simp at hj)
       have HC:=Box.mk (qw5 s.ck b rk la ba lc bc W3 (HM.out.ln.keep HBW.out) HBB.out HOK.out.ck (by omega));rw [hF] at HC;have e3:(s.fk == 3)=true:=by rw [hk3]; rfl
       clear hX h12' hk3 hrk hF;go_wp2_with (refine Go.wpList_load_mid rfl 35 _ rfl w.heap.size 18 rfl _ _ HRA.out Tryz.underlying35 rfl j8 ?_)
       refine HC.out.mono ?_;rintro e w4 ⟨a,cc,oa,oc,he,hln,hout,hb4⟩;dsimp only at he hln hout;subst he;clear hmn hc17 hc14 hc16;go_upto_region 14 with fail
       obtain ⟨W5,hW5⟩ : ∃ W5,W5=w4.alloc (.cells #[.int .i64 c.ph,.int .i64 c.left,.int .i64 c.tr,.slice a (List.length c.line) cc] 35):=⟨_,rfl⟩;have hb5:=qe hb4 (qd w4 (.cells #[.int .i64 c.ph,.int .i64 c.left,.int .i64 c.tr,.slice a (List.length c.line) cc] 35));rw [← hW5] at hb5;have hb45:Below w4.heap.size w4 W5:=by rw [hW5]; exact qd w4 _
       have H5:=Box.mk (show RVr W5 w.heap.size cs∧RVr W5 (w.heap.size+1) zR∧PVr W5 (w.heap.size+2) #[.int .i64 0,.slice none 0 0]∧Below w.heap.size w W5 from ⟨HV1.out.keep hb5,HV2.out.keep hb5,HV3.out.keep hb5,qe HBW.out hb5⟩);have HLO:=Box.mk (And.intro (hln.keep hb45) (hout.keep hb45));have HCV:=Box.mk (show CVar W5 w4.heap.size c.ph c.left c.tr (.slice a (List.length c.line) cc) by rw [hW5]; exact heap_alloc_new _ _);have hg4:w.heap.size+2<w4.heap.size:=Nat.lt_of_lt_of_le hl3 hb4.size;have hc17:W5.cell? ⟨w.heap.size,17,none⟩=some (.int .i64 s.size):=by rw [RVr.cell H5.out.1,HCS.out]; rfl
       have N1:=qw (cs:=cs) (by rw [HCS.out]; rfl);have HAW:=Box.mk (show ∀ (a:Option Addr) (l:List UInt8) (c:Nat),qg W5 a l c → ∀ x,a=some x→l≠[]→x.block≠w.heap.size∧x.block≠w.heap.size+1∧x.block≠w.heap.size+2 from fun a l c h x hx hne=>⟨qx H5.out.1 N1 h x hx hne,qx H5.out.2.1 (qw rfl) h x hx hne,qx H5.out.2.2.1 (qw rfl) h x hx hne⟩);rw [← hW5];clear hW5 hb5 hb4 hln hout hb45 HC HRA N1 HV1 HV2 HV3 HBW;by_cases hbad:¬ er=0∨er=0∧body<s.size+(out.length:Int)
       · obtain ⟨e9,HX,hx⟩ : ∃ e9:Int,Box (X=errX e9)∧((er == 0)=false∧(er != 0)=true∧e9=er∨er=0∧s.size+(out.length:Int) > body∧e9=9):=by
          rcases hbad with h | ⟨h,h2⟩
          · exact ⟨er,⟨by rw [HX0.out,if_pos h]⟩,.inl ⟨by rw [beq_eq_false_iff_ne]; exact h,by rw [bne_iff_ne]; exact h,rfl⟩⟩
          · exact ⟨9,⟨by rw [HX0.out,if_neg (fun h3=>h3 h),if_pos h2]⟩,.inr ⟨h,h2,rfl⟩⟩
         clear hbad HX0;rcases hx with ⟨e4,e5,rfl⟩ | ⟨rfl,hbs,rfl⟩
         all_goals
          have HPN:=Box.mk (show PVr (W5.setRow (w.heap.size+1) zR) (w.heap.size+2) #[.int .i64 0,.slice none 0 0] from (setRow_other _ _ _ _ (by omega)).trans H5.out.2.2.1);go_wp2_with (first | (refine wpList_store_row rfl 37 _ _ rfl (w.heap.size+1) zR rfl rfl 37 _ H5.out.2.1 jw rfl (qbl ..) ?_) | (refine wpList_store_row rfl 41 _ _ rfl (w.heap.size+2) #[.int .i64 0,.slice none 0 0] rfl rfl 41 _ HPN.out j1 rfl (qap ..) ?_))
          (try simp only [Exit.inBlock,Exit.then])
          refine qvl rfl rfl rfl rfl H5.out.2.1 H5.out.2.2.1 rfl (by rfl) ?_;have HBF:=below_setRow (g:=w.heap.size+2) (below_setRow (g:=w.heap.size+1) H5.out.2.2.2 (by omega) zR) (by omega) #[.int .i64 0,.slice none 0 0];exact RetX.err HX.out HBF
       · have h0:er=0:=by omega
         subst h0;have hbs:¬ s.size+(out.length:Int) > body:=fun h=>hbad (.inr ⟨rfl,by omega⟩);have HX1:=Box.mk (show X=(if 0<out.length then ⟨0,{ s with ck:=c,size:=s.size+(out.length:Int) },2,out,n⟩ else if c.ph=4 then ⟨0,{ s with ck:=c,ph:=2 },3,[],n⟩ else ⟨0,{ s with ck:=c },0,[],n⟩) by rw [HX0.out,if_neg (fun h=>h rfl),if_neg (by omega)]);clear hbad HX0;obtain ⟨ct1,hct1⟩ : ∃ y0:Array Value,y0=rowR { s with ck:=c } fa fc ga gc a cc:=⟨_,rfl⟩;have HT1:=Box.mk hct1;have HQ1:=Box.mk (show RVr (W5.setRow w.heap.size ct1) w.heap.size ct1 from setRow_heap _ _ _ _ _ _ H5.out.1);have hc17b:(W5.setRow w.heap.size ct1).cell? ⟨w.heap.size,17,none⟩=some (.int .i64 s.size):=by rw [RVr.cell HQ1.out,HT1.out]; rfl
         have hz17b:(W5.setRow w.heap.size ct1).frozen? ⟨w.heap.size,17,none⟩=false:=frozen_of_row _ _ 17 _ _ HQ1.out;clear hct1;go_upto_region 19 with (first | refine wpList_load_row rfl 35 _ rfl w4.heap.size rfl 35 #[.int .i64 c.ph,.int .i64 c.left,.int .i64 c.tr,.slice a (List.length c.line) cc] (0,0) _ HCV.out Tryz.underlying35 rfl j8 ?_ | refine jk rfl 35 _ _ rfl w.heap.size 18 #[.int .i64 c.ph,.int .i64 c.left,.int .i64 c.tr,.slice a (List.length c.line) cc] rfl rfl 37 _ ct1 H5.out.1 j8 (by rw [HC22.out]; show 18+4≤22; decide) (oneC ..) (by rw [HCS.out,HT1.out]; rfl) ?_)
         clear HC22 HC1 HSZ;obtain ⟨W6,hW6⟩ : ∃ W6,W6=(W5.setRow w.heap.size ct1).setCell ⟨w.heap.size,17,none⟩ (.int .i64 (s.size+(out.length:Int))):=⟨_,rfl⟩;obtain ⟨ct,hct⟩ : ∃ y0:Array Value,y0=rowR { s with ck:=c,size:=s.size+(out.length:Int) } fa fc ga gc a cc:=⟨_,rfl⟩;have HR:=Box.mk (show RVr W6 w.heap.size ct∧RVr W6 (w.heap.size+1) zR∧PVr W6 (w.heap.size+2) #[.int .i64 0,.slice none 0 0]∧Below w.heap.size w W6 by
          have h:=HPUT.out (W5.setRow w.heap.size ct1) ct1 17 (.int .i64 (s.size+(out.length:Int))) HQ1.out ((setRow_other _ _ _ _ (by omega)).trans H5.out.2.1) ((setRow_other _ _ _ _ (by omega)).trans H5.out.2.2.1) (below_setRow H5.out.2.2.2 (Nat.le_refl _) _);rw [show ct1.setIfInBounds 17 (.int .i64 (s.size+(out.length:Int)))=ct by rw [HT1.out,hct]; rfl] at h;rw [hW6]; exact h)
         have hoth:∀ g,g≠w.heap.size→W6.heap[g]? = W5.heap[g]?:=fun g hg=>by rw [hW6,heap_setCell_other _ _ _ _ (by show g≠w.heap.size; omega)]; exact setRow_other _ _ _ _ hg
         have HOTH:=Box.mk hoth;have hgc0:W6.cell? ⟨w4.heap.size,0,none⟩=some (.int .i64 c.ph):=by rw [(show CVar W6 w4.heap.size c.ph c.left c.tr (.slice a (List.length c.line) cc) from (hoth _ (by omega)).trans HCV.out).cells.1]
         have HCT:=Box.mk hct;rw [← hW6];clear hW6 hct hoth hc17b hz17b hc17 HT1 HQ1;by_cases hend:¬ 0<out.length∧c.ph=4
         · obtain ⟨ho,hp⟩:=hend
           have ho0:out.length=0:=by omega
           have HX:=Box.mk (show X=⟨0,{ s with ck:=c,ph:=2 },3,[],n⟩ by rw [HX1.out,if_neg ho,if_pos hp]);have ep:(c.ph == 4)=true:=by rw [hp]; rfl
           have hc2:W6.cell? ⟨w.heap.size,2,none⟩=some (.int .i64 s.ph):=by rw [RVr.cell HR.out.1,HCT.out]; rfl
           have hz2:W6.frozen? ⟨w.heap.size,2,none⟩=false:=frozen_of_row W6 _ 2 _ _ HR.out.1;have HO0:=Box.mk ho0;clear hp ho0 HX1;go_upto_region 23 with fail
           obtain ⟨W7,hW7⟩ : ∃ W7,W7=W6.setCell ⟨w.heap.size,2,none⟩ (.int .i64 2):=⟨_,rfl⟩;obtain ⟨cu,hcu⟩ : ∃ y0:Array Value,y0=rowR { s with ck:=c,size:=s.size+(out.length:Int),ph:=2 } fa fc ga gc a cc:=⟨_,rfl⟩;have HS:=Box.mk (show RVr W7 w.heap.size cu∧RVr W7 (w.heap.size+1) zR∧PVr W7 (w.heap.size+2) #[.int .i64 0,.slice none 0 0]∧Below w.heap.size w W7 by
            have h:=HPUT.out W6 ct 2 (.int .i64 2) HR.out.1 HR.out.2.1 HR.out.2.2.1 HR.out.2.2.2;rw [show ct.setIfInBounds 2 (.int .i64 2)=cu by rw [HCT.out,hcu]; rfl] at h;rw [hW7]; exact h)
           have HOT7:=Box.mk (show ∀ g,g≠w.heap.size→W7.heap[g]? = W5.heap[g]? from fun g hg=>by rw [hW7,heap_setCell_other _ _ _ _ (by show g≠w.heap.size; omega)]; exact HOTH.out g hg);have HCU:=Box.mk hcu;have HC22:=Box.mk (show cu.size=22 by rw [hcu]; rfl);have HC1:=Box.mk (show cu.all (·.oneCell')=true by rw [hcu]; exact qbl ..);have HSZ:=Box.mk (show (Tryz.prog.info? 37).map (·.size)=some cu.size by rw [HC22.out]; exact jw);rw [← hW7];clear hW7 hcu hc2 hz2 hgc0;have HPN:=Box.mk (show PVr (W7.setRow (w.heap.size+1) cu) (w.heap.size+2) #[.int .i64 0,.slice none 0 0] from (setRow_other _ _ _ _ (by omega)).trans HS.out.2.2.1);go_wp2_with (first | (refine wpList_load_row rfl 37 _ rfl w.heap.size rfl 37 cu (0,0) _ HS.out.1 Tryz.underlying37 rfl HSZ.out ?_) | (refine wpList_store_row rfl 37 _ _ rfl (w.heap.size+1) cu rfl rfl 37 _ HS.out.2.1 HSZ.out (by rw [HC22.out]; rfl) HC1.out ?_) | (refine wpList_store_row rfl 41 _ _ rfl (w.heap.size+2) #[.int .i64 3,.slice none 0 0] rfl rfl 41 _ HPN.out j1 rfl (qap ..) ?_))
           (try simp only [Exit.inBlock,Exit.then])
           refine qvl rfl rfl rfl rfl HS.out.2.1 HS.out.2.2.1 HC22.out (by rfl) ?_;have HBF:=below_setRow (g:=w.heap.size+2) (below_setRow (g:=w.heap.size+1) HS.out.2.2.2 (by omega) cu) (by omega) #[.int .i64 3,.slice none 0 0];rw [HX.out];exact ⟨fa,fc,ga,gc,a,cc,none,0,by rw [HCU.out,HO0.out]; show _=Ending.returned (.tuple #[.agg (rowR { s with ck:=c,ph:=2 } fa fc ga gc a cc),_,_,_]); rw [show ((0:Nat):Int)=0 from rfl,Int.add_zero]; rfl,⟨HM.out.f1.keep HBF,HM.out.f2.keep HBF,(HLO.out.1.same (fun x e hl=>((setRow_other _ _ _ _ (HAW.out _ _ _ HLO.out.1 x e hl).2.2).trans (setRow_other _ _ _ _ (HAW.out _ _ _ HLO.out.1 x e hl).2.1)).trans (HOT7.out _ (HAW.out _ _ _ HLO.out.1 x e hl).1))),HM.out.n1,HM.out.n2⟩,.inl ⟨rfl,rfl,rfl⟩,HBF⟩
         · have HC22:=Box.mk (show ct.size=22 by rw [HCT.out]; rfl)
           have HC1:=Box.mk (show ct.all (·.oneCell')=true by rw [HCT.out]; exact qbl ..);have HSZ:=Box.mk (show (Tryz.prog.info? 37).map (·.size)=some ct.size by rw [HC22.out]; exact jw);obtain ⟨pa,pl,pc,pk,HX,HPB,hx⟩ : ∃ (pa:Option Addr) (pl:List UInt8) (pc:Nat) (pk:Int),Box (X=⟨0,{ s with ck:=c,size:=s.size+(out.length:Int) },pk,pl,n⟩)∧Box (qg W5 pa pl pc)∧(0<out.length∧oa=pa∧out=pl∧oc=pc∧2=pk∨¬ 0<out.length∧(c.ph == 4)=false∧none=pa∧[]=pl∧0=pc∧0=pk):=by
            by_cases ho:0<out.length
            · exact ⟨oa,out,oc,2,⟨by rw [HX1.out,if_pos ho]⟩,⟨HLO.out.2⟩,.inl ⟨ho,rfl,rfl,rfl,rfl⟩⟩
            · have hp:¬ c.ph=4:=fun h=>hend ⟨ho,h⟩
              have h0:(out.length:Int)=0:=by omega
              exact ⟨none,[],0,0,⟨by rw [HX1.out,if_neg ho,if_neg hp,h0,Int.add_zero]⟩,⟨.inl ⟨rfl,rfl,rfl⟩⟩,.inr ⟨ho,by rw [beq_eq_false_iff_ne]; exact hp,rfl,rfl,rfl,rfl⟩⟩
           clear hend HX1;rcases hx with ⟨ho,rfl,rfl,rfl,rfl⟩ | ⟨ho,ep,rfl,rfl,rfl,rfl⟩
           all_goals
            have HPN:=Box.mk (show PVr (W6.setRow (w.heap.size+1) ct) (w.heap.size+2) #[.int .i64 0,.slice none 0 0] from (setRow_other _ _ _ _ (by omega)).trans HR.out.2.2.1);go_wp2_with (first | (refine wpList_load_row rfl 37 _ rfl w.heap.size rfl 37 ct (0,0) _ HR.out.1 Tryz.underlying37 rfl HSZ.out ?_) | (refine wpList_store_row rfl 37 _ _ rfl (w.heap.size+1) ct rfl rfl 37 _ HR.out.2.1 HSZ.out (by rw [HC22.out]; rfl) HC1.out ?_) | (refine wpList_store_row rfl 41 _ _ rfl (w.heap.size+2) #[.int .i64 2,.slice oa (List.length out) oc] rfl rfl 41 _ HPN.out j1 rfl (qap ..) ?_) | (refine wpList_store_row rfl 41 _ _ rfl (w.heap.size+2) #[.int .i64 0,.slice none 0 0] rfl rfl 41 _ HPN.out j1 rfl (qap ..) ?_))
            (try simp only [Exit.inBlock,Exit.then])
            refine qvl rfl rfl rfl rfl HR.out.2.1 HR.out.2.2.1 HC22.out (by rfl) ?_;have HBF:∀ cp,Below w.heap.size w ((W6.setRow (w.heap.size+1) ct).setRow (w.heap.size+2) cp):=fun cp=>below_setRow (g:=w.heap.size+2) (below_setRow (g:=w.heap.size+1) HR.out.2.2.2 (by omega) ct) (by omega) cp;rw [HX.out];exact ⟨fa,fc,ga,gc,a,cc,_,_,by rw [HCT.out]; rfl,⟨HM.out.f1.keep (HBF _),HM.out.f2.keep (HBF _),(HLO.out.1.same (fun x e hl=>((setRow_other _ _ _ _ (HAW.out _ _ _ HLO.out.1 x e hl).2.2).trans (setRow_other _ _ _ _ (HAW.out _ _ _ HLO.out.1 x e hl).2.1)).trans (HOTH.out _ (HAW.out _ _ _ HLO.out.1 x e hl).1))),HM.out.n1,HM.out.n2⟩,HPB.out.same (fun x e hl=>((setRow_other _ _ _ _ (HAW.out _ _ _ HPB.out x e hl).2.2).trans (setRow_other _ _ _ _ (HAW.out _ _ _ HPB.out x e hl).2.1)).trans (HOTH.out _ (HAW.out _ _ _ HPB.out x e hl).1)),HBF _⟩
     · obtain ⟨k,hk⟩ : ∃ k,minI (minI room b.length) (body+1-s.size)=k:=⟨_,rfl⟩
       have HX0:=Box.mk (show X=(if k≤0 then ⟨0,s,0,[],0⟩ else if body<s.size+k then errX 9 else ⟨0,{ s with size:=s.size+k },2,b.take k.toNat,k.toNat⟩) by
        rw [hX]; unfold qdp;rw [if_neg h12',if_neg hk3,hk])
       have hkb:k≤b.length:=by rw [← hk]; unfold minI; split <;> split <;> omega
       have hmn:∀ (ts:Array TypeId) (t:TypeId) (W:World),(Builtin.min_ ts t #[.int .i64 room,.int .i64 b.length,.int .i64 (body+1-s.size)]).run Tryz.prog W = .ok (.int .i64 k) W:=fun ts t W=>by
        rw [run_min_int3];unfold minI at hk;congr 2;rw [← hk]
        split <;> split <;> (try split) <;> omega
       have e3:(s.fk == 3)=false:=by rw [beq_eq_false_iff_ne]; exact hk3
       clear hX h12' hk3 hk;by_cases hk0:k≤0
       · have HX:=Box.mk (show X=⟨0,s,0,[],0⟩ by rw [HX0.out,if_pos hk0])
         clear HX0;have HPN:=Box.mk (show PVr (W3.setRow (w.heap.size+1) cs) (w.heap.size+2) #[.int .i64 0,.slice none 0 0] from (setRow_other _ _ _ _ (by omega)).trans HV3.out);go_wp2_with (first | (refine wpList_load_row rfl 37 _ rfl w.heap.size rfl 37 cs (0,0) _ HV1.out Tryz.underlying37 rfl HSZ.out ?_) | (refine wpList_store_row rfl 37 _ _ rfl (w.heap.size+1) cs rfl rfl 37 _ HV2.out HSZ.out (by rw [HC22.out]; rfl) HC1.out ?_) | (refine wpList_store_row rfl 41 _ _ rfl (w.heap.size+2) #[.int .i64 0,.slice none 0 0] rfl rfl 41 _ HPN.out j1 rfl (qap ..) ?_))
         (try simp only [Exit.inBlock,Exit.then])
         refine qvl rfl rfl rfl rfl HV2.out HV3.out HC22.out (by rfl) ?_;have HBF:=below_setRow (g:=w.heap.size+2) (below_setRow (g:=w.heap.size+1) HBW.out (by omega) cs) (by omega) #[.int .i64 0,.slice none 0 0];rw [HX.out];exact ⟨fa,fc,ga,gc,la,lc,none,0,by rw [HCS.out]; rfl,HM.out.keep HBF,.inl ⟨rfl,rfl,rfl⟩,HBF⟩
       · obtain ⟨q,rfl⟩ : ∃ q:Nat,k=(q:Int):=⟨k.toNat,by omega⟩
         rw [if_neg hk0,Int.toNat_natCast] at HX0;by_cases hbs:s.size+(q:Int) > body
         · have HX:=Box.mk (show X=errX 9 by rw [HX0.out,if_pos (by omega)])
           clear HX0;have HPN:=Box.mk (show PVr (W3.setRow (w.heap.size+1) zR) (w.heap.size+2) #[.int .i64 0,.slice none 0 0] from (setRow_other _ _ _ _ (by omega)).trans HV3.out);go_wp2_with (first | (refine wpList_store_row rfl 37 _ _ rfl (w.heap.size+1) zR rfl rfl 37 _ HV2.out jw rfl (qbl ..) ?_) | (refine wpList_store_row rfl 41 _ _ rfl (w.heap.size+2) #[.int .i64 0,.slice none 0 0] rfl rfl 41 _ HPN.out j1 rfl (qap ..) ?_))
           (try simp only [Exit.inBlock,Exit.then])
           refine qvl rfl rfl rfl rfl HV2.out HV3.out rfl (by rfl) ?_;have HBF:=below_setRow (g:=w.heap.size+2) (below_setRow (g:=w.heap.size+1) HBW.out (by omega) zR) (by omega) #[.int .i64 0,.slice none 0 0];exact RetX.err HX.out HBF
         · have HX:=Box.mk (show X=⟨0,{ s with size:=s.size+(q:Int) },2,b.take q,q⟩ by rw [HX0.out,if_neg (by omega)])
           clear HX0;obtain ⟨ad,rfl⟩ : ∃ ad,ba=some ad:=qe6 HBB.out (by omega);have hz17:W3.frozen? ⟨w.heap.size,17,none⟩=false:=frozen_of_row W3 _ 17 _ _ HV1.out;have hq1:q≤b.length:=by omega
           clear HSZ HC22 HC1;go_upto_region 31 with fail
           obtain ⟨W5,hW5⟩ : ∃ W5,W5=W3.setCell ⟨w.heap.size,17,none⟩ (.int .i64 (s.size+(q:Int))):=⟨_,rfl⟩;obtain ⟨ct,hct⟩ : ∃ c:Array Value,c=rowR { s with size:=s.size+(q:Int) } fa fc ga gc la lc:=⟨_,rfl⟩;have HR:=Box.mk (show RetJ w ct zR #[.int .i64 0,.slice none 0 0] W5 by
            have h:=HPUT.out W3 cs 17 (.int .i64 (s.size+(q:Int))) HV1.out HV2.out HV3.out HBW.out;rw [show cs.setIfInBounds 17 (.int .i64 (s.size+(q:Int)))=ct by rw [HCS.out,hct]; rfl,← hW5] at h;exact ⟨h.1,h.2.1,h.2.2.1,h.2.2.2⟩)
           have HCT:=Box.mk hct;have HC22:=Box.mk (show ct.size=22 by rw [hct]; rfl);have HC1:=Box.mk (show ct.all (·.oneCell')=true by rw [hct]; exact qbl ..);have HSZ:=Box.mk (show (Tryz.prog.info? 37).map (·.size)=some ct.size by rw [HC22.out]; exact jw);rw [← hW5];clear hW5 hct hc14 hc16 hc17 hz17 hmn;go_wp2_with fail;rename_i KK hKK;refine qz [6,7] (fun p=>match p with | 0=>[0,1,2,3,4,5] | 1=>[1,2,3,4,5] | _=>[5,8,9])
            (fun p=>match p with | 0=>[.val (.agg ct),.val (.slice (some ad) b.length bc),.val (.int .i64 (q:Int)),.val (.slice (some ad) q bc),.val (.agg #[.int .i64 2,.slice (some ad) q bc]),.val (.int .i64 (q:Int)),.any,.any,.nope,.nope] | 1=>[.any,.val (.slice (some ad) b.length bc),.val (.int .i64 (q:Int)),.val (.slice (some ad) q bc),.val (.agg #[.int .i64 2,.slice (some ad) q bc]),.val (.int .i64 (q:Int)),.any,.any,.nope,.nope] | _=>[.any,.any,.any,.any,.any,.val (.int .i64 (q:Int)),.any,.any,.val (.int .i64 (q:Int)),.val (.int .i64 0)])
            (fun p=>RetJ w ct (match p with | 0=>zR | _=>ct) (match p with | 0=>#[.int .i64 0,.slice none 0 0] | 1=>#[.int .i64 0,.slice none 0 0] | _=>#[.int .i64 2,.slice (some ad) q bc]))
            (by kernel_rfl) (by kernel_rfl) (by kernel_rfl) (by kernel_rfl) (by kernel_rfl) (by kernel_rfl) (fun _ _ _ h hb=>RetJ.keep h hb) HR.out ?_ ?_ ?_
           · intro p hp
             match p,hp with
             | 0,_ =>
              refine ⟨?_,?_,?_,?_,?_,?_,trivial⟩ <;> intro a1 w1 hv hf hd
              · exact ⟨qb rfl,kw rfl (by rw [show a1.eval (.tmp 4) = .pointer (some ⟨w.heap.size,0,none⟩) from hf.base 4 rfl]; exact qja _ _ _ hv.r1 HC22.out) rfl⟩
              · exact ⟨qb rfl,qi rfl (hf.base 1 rfl)⟩
              · exact ⟨qb rfl,qi rfl (hf.base 17 rfl)⟩
              · exact ⟨qb rfl,qen rfl (hd 1 rfl) (hd 2 rfl) hq1 (kb HBB.out) rfl⟩
              · exact ⟨qb rfl,qey rfl (hd 3 rfl) rfl⟩
              · exact ⟨qb rfl,qi rfl (hf.base 17 rfl)⟩
             | 1,_ =>
              refine ⟨?_,?_,?_,?_,?_,trivial⟩ <;> intro a1 w1 hv hf hd
              · exact ⟨qb rfl,qi rfl (hf.base 1 rfl)⟩
              · exact ⟨qb rfl,qi rfl (hf.base 17 rfl)⟩
              · exact ⟨qb rfl,qen rfl (hd 1 rfl) (hd 2 rfl) hq1 (kb HBB.out) rfl⟩
              · exact ⟨qb rfl,qey rfl (hd 3 rfl) rfl⟩
              · exact ⟨qb rfl,qi rfl (hf.base 17 rfl)⟩
             | 2,_ =>
              refine ⟨?_,?_,?_,trivial⟩ <;> intro a1 w1 hv hf hd
              · exact ⟨qb rfl,qi rfl (hf.base 17 rfl)⟩
              · exact ⟨qb rfl,qr rfl (hd 5 rfl)⟩
              · exact ⟨qb rfl,qr rfl rfl⟩
           · intro p hp
             match p,hp with
             | 0,_ =>
              intro a2 w2 hv hf hd;refine ⟨qb rfl,wp_store_row 37 _ _ rfl (w.heap.size+1) ct (hf.base 8 rfl) (hd 0 rfl) 37 _ hv.r2 HSZ.out (by rw [HC22.out]; rfl) HC1.out ?_⟩;exact ⟨undef,rfl,⟨(setRow_other _ _ _ _ (by omega)).trans hv.r1,setRow_heap _ _ _ _ _ _ hv.r2,(setRow_other _ _ _ _ (by omega)).trans hv.r3,below_setRow hv.bl (by omega) _⟩,trivial,⟨.inr fun _ _ _=>trivial,.inr fun _ _ h=>h,.inr fun _ _ h=>h,.inr fun _ _ h=>h,.inr fun _ _ h=>h,.inr fun _ _ h=>h,.inl rfl,.inr fun _ _ _=>trivial,.inr fun _ _ h=>h,.inr fun _ _ h=>h,trivial⟩⟩
             | 1,_ =>
              intro a2 w2 hv hf hd;refine ⟨qb rfl,wp_store_row 41 _ _ rfl (w.heap.size+2) #[.int .i64 2,.slice (some ad) q bc] (hf.base 9 rfl) (hd 4 rfl) 41 _ hv.r3 j1 rfl (qap ..) ?_⟩;exact ⟨undef,rfl,⟨(setRow_other _ _ _ _ (by omega)).trans hv.r1,(setRow_other _ _ _ _ (by omega)).trans hv.r2,setRow_heap _ _ _ _ _ _ hv.r3,below_setRow hv.bl (by omega) _⟩,trivial,⟨.inr fun _ _ _=>trivial,.inr fun _ _ _=>trivial,.inr fun _ _ _=>trivial,.inr fun _ _ _=>trivial,.inr fun _ _ _=>trivial,.inr fun _ _ h=>h,.inr fun _ _ _=>trivial,.inl rfl,.inr fun _ _ h=>h.elim,.inr fun _ _ h=>h.elim,trivial⟩⟩
           · intro a2 w2 hv hf hh
             have e10:a2.eval (.tmp 10) = .int .i64 (q:Int):=hh 8 (by decide);have e11:a2.eval (.tmp 11) = .int .i64 0:=hh 9 (by decide);clear hh;rw [jl hf];clear hf;simp only [kg,e10,e11];generalize a2.eval (.tmp 147)=u147;generalize a2.eval (.tmp 148)=u148;generalize a2.eval (.tmp 149)=u149;generalize a2.eval (.tmp 150)=u150;generalize a2.eval (.tmp 151)=u151;generalize a2.eval (.tmp 152)=u152;clear e10 e11 a2;simp only [Act.put,List.setIfInBounds_toArray,List.set_cons_succ,List.set_cons_zero];refine hKK _ _ ?_;clear hKK;go_wp2_with fail
             (try simp only [Exit.inBlock,Exit.then])
             refine bodyPost_ret (jv rfl _ _ (w.heap.size+1) (w.heap.size+2) 37 41 ct #[.int .i64 2,.slice (some ad) q bc] (0,0) (0,0) _ _ rfl rfl hv.r2 hv.r3 Tryz.underlying37 rfl HSZ.out Tryz.underlying41 rfl j1) rfl ?_;have HBF:=hv.bl;have HTL:=Box.mk (show (b.take q).length=q by rw [List.length_take]; omega);rw [HX.out];exact ⟨fa,fc,ga,gc,la,lc,some ad,bc,by rw [HCT.out]; show _=Ending.returned (.tuple #[_,.agg #[_,.slice _ (b.take q).length _],_,_]); rw [HTL.out]; rfl,⟨HM.out.f1.keep HBF,HM.out.f2.keep HBF,HM.out.ln.keep HBF,HM.out.n1,HM.out.n2⟩,ki (HBY.out.keep HBF) q,HBF⟩
end
end Go.Proofs.YtflhjpokjdjbpaaGreatDoor
namespace Go.Proofs.YtflhjpokjdjbpaaGreatDoor
open Go.RowKit
set_option linter.unusedVariables false
theorem qtw (B:Nat→Prop) (s:RS) (b:List UInt8) (most body:Int) (ba:Option Addr) (bc:Nat) (fa ga la:Option Addr) (fc gc lc:Nat) (w:World) (hb:qg w ba b bc) (hl:b.length≤1000000) (hm:RMem B w s fa ga la lc) (hB:∀ g,w.heap.size≤g→B g) :
  Calls Tryz.prog 25 #[.agg (rowR s fa fc ga gc la lc),.slice ba b.length bc,.int .i64 most,.int .i64 body] w (RetX B w (qav s b most body)):=by
 rcases qk1 b most with h | h | ⟨n,hE,h4,hn⟩
 · have e:qav s b most body=⟨0,s,0,[],0⟩:=by unfold qav; rw [if_pos (by rw [h])]
   rw [e];exact qqb B s b most body ba bc fa ga la fc gc lc w hb hl hm h
 · have e:qav s b most body=errX 3:=by
    unfold qav;rw [if_neg (by rw [h]; show ¬ (3:Int)=4; decide),if_pos (by rw [h]; show (3:Int)≠0; decide),h]
   rw [e];exact qs1 B s b most body ba bc fa ga la fc gc lc w hb hl hm h
 · have e:qav s b most body=qbo s (b.take n) body:=by
    unfold qav;rw [if_neg (by rw [hE]; show ¬ (0:Int)=4; decide),if_neg (by rw [hE]; exact fun h=>h rfl),hE];show qbo s (b.take (Int.toNat (n:Int))) body=_
    rw [Int.toNat_natCast]
   rw [e];exact qq3 B s b most body ba bc fa ga la fc gc lc w n hb hl hm hE h4 hn hB
theorem qwr {cs:Array Value} (h:cs.toList.all (fun v=>match v with | .int .u8 _=>false | _=>true)=true):∀ (i:Nat) (z:Int),cs[i]? ≠ some (.int .u8 z):=qw h
set_option linter.unusedVariables false
theorem qul (B:Nat→Prop) (s:RS) (b:List UInt8) (most body room:Int) (ba:Option Addr) (bc:Nat) (fa ga la:Option Addr) (fc gc lc:Nat) (w:World) (hb:qg w ba b bc) (hl:b.length≤1000000) (hm:RMem B w s fa ga la lc) (hs:OkR s) (hb0:0≤body∧body≤1000000000) (hr0:-1000000000≤room∧room≤1000000000) (hB:∀ g,w.heap.size≤g→B g) :
  Calls Tryz.prog 9 #[.agg (rowR s fa fc ga gc la lc),.slice ba b.length bc,.int .i64 most,.int .i64 body,.int .i64 room] w (RetX B w (qbg s b most body room)):=by
 obtain ⟨cs,hcs⟩ : ∃ cs:Array Value,cs=(rowR s fa fc ga gc la lc):=⟨_,rfl⟩;have HCS:=Box.mk hcs;have hcs22:cs.size=22:=by rw [hcs]; rfl
 have HSZ:=Box.mk (show (Tryz.prog.info? 37).map (·.size)=some cs.size by rw [hcs22]; exact jw);have hcs1:cs.all (·.oneCell')=true:=by rw [hcs]; exact qbl ..
 rw [← hcs];clear hcs;obtain ⟨W3,hW3⟩ : ∃ W3,W3=((w.alloc (.cells cs 37)).alloc (.cells zR 37)).alloc (.cells #[.int .i64 0,.slice none 0 0] 41):=⟨_,rfl⟩;have hb1:=qd w (.cells cs 37);have hb2:=qk hb1 (.cells zR 37);have hb3:=qe hb2 (qd _ (.cells #[.int .i64 0,.slice none 0 0] 41));have HBW:=Box.mk (show Below w.heap.size w W3 by rw [hW3]; exact hb3);have HV1:=Box.mk (show RVr W3 w.heap.size cs by rw [hW3]; exact RVr.keep (RVr.keep (heap_alloc_new w (.cells cs 37)) (qd _ _)) (qd _ _));have HV2:=Box.mk (show RVr W3 (w.heap.size+1) zR by
  have h:=heap_alloc_new (w.alloc (.cells cs 37)) (.cells zR 37);rw [World.size_alloc] at h;rw [hW3]; exact RVr.keep h (qd _ _))
 have HV3:=Box.mk (show PVr W3 (w.heap.size+2) #[.int .i64 0,.slice none 0 0] by
  have h:=heap_alloc_new ((w.alloc (.cells cs 37)).alloc (.cells zR 37)) (.cells #[.int .i64 0,.slice none 0 0] 41);rw [World.size_alloc,World.size_alloc] at h;rw [hW3]; exact h)
 have HW3:=Box.mk hW3;have HM:=Box.mk hm;have HBB:=Box.mk (hb.keep HBW.out);have hl3:w.heap.size+2<W3.heap.size:=(Array.getElem?_eq_some_iff.1 HV3.out).1;have HAW:=Box.mk (And.intro (show ∀ y,fa=some y→s.xs≠[]→y.block<w.heap.size from fun y e h=>by
  obtain ⟨x,hx,hc,_⟩:=hm.f1 0 (List.length_pos_iff.2 h);rw [e] at hx;obtain rfl:=Option.some.inj hx;exact qqy hc) (show ∀ y,ga=some y→s.ys≠[]→y.block<w.heap.size from fun y e h=>by
  obtain ⟨x,hx,hc,_⟩:=hm.f2 0 (List.length_pos_iff.2 h);rw [e] at hx;obtain rfl:=Option.some.inj hx;exact qqy hc))
 clear hb hm hb1 hb2 hb3 hW3;have hmx:∀ (ts:Array TypeId) (t:TypeId) (W:World),(Builtin.max_ ts t #[.int .i64 room,.int .i64 0]).run Tryz.prog W = .ok (.int .i64 (if room≤0 then 0 else room)) W:=fun ts t W=>by
  rw [run_max_int2];congr 2
  split <;> split <;> omega
 obtain ⟨r0,hr⟩ : ∃ r0:Int,r0=if room≤0 then 0 else room:=⟨_,rfl⟩
 rw [← hr] at hmx;have hr2:0≤r0∧r0≤1000000000:=by rw [hr]; split <;> omega
 have HR0:=Box.mk hr;clear hr;obtain ⟨B3,hB3⟩ : ∃ B3:Nat→Prop,B3=fun g=>B g∧¬ g=w.heap.size+1∧¬ g=w.heap.size+2:=⟨_,rfl⟩;have HM3:=Box.mk (show RMem B3 W3 s fa ga la lc by
  rw [hB3];have h:=HM.out.keep HBW.out;exact ⟨h.f1,h.f2,h.ln,fun y e h2=>⟨h.n1 y e h2,by have:=HAW.out.1 y e h2; omega,by have:=HAW.out.1 y e h2; omega⟩,fun y e h2=>⟨h.n2 y e h2,by have:=HAW.out.2 y e h2; omega,by have:=HAW.out.2 y e h2; omega⟩⟩)
 have HB3:=Box.mk (show ∀ g,W3.heap.size≤g→B3 g by
  rw [hB3];exact fun g hg=>⟨hB g (by omega),by omega,by omega⟩)
 have HS:=Box.mk hs;have Hb0:=Box.mk hb0;clear hs hb0 hB;by_cases hp0:s.ph=0
 · have HXX:=Box.mk (show qav s b most body=qbg s b most body room by unfold qbg; rw [if_pos hp0])
   have HA:=Box.mk (qtw B3 s b most body ba bc fa ga la fc gc lc W3 HBB.out hl HM3.out HB3.out);rw [HXX.out,← HCS.out,hB3] at HA;have hc2:W3.cell? ⟨w.heap.size,2,none⟩=some (.int .i64 0):=by rw [RVr.cell HV1.out,HCS.out]; show some (.int .i64 s.ph:Value)=_; rw [hp0]
   clear hp0 hB3 HM3 HB3 HXX HAW HR0 HS Hb0;obtain ⟨x,hx⟩ : ∃ x,x=qbg s b most body room:=⟨_,rfl⟩;go_enter Tryz.func9,Tryz.ntmps9
   go_upto_region 1 with fail
   rw [← HW3.out];clear HW3;go_wp2_with (refine wpList_load_row rfl 37 _ rfl w.heap.size rfl 37 cs (0,0) _ HV1.out Tryz.underlying37 rfl HSZ.out ?_)
   refine HA.out.mono ?_;rintro e w4 ⟨f4,c4,g4,d4,l4,e4,pa,pc,he,hm4,hdat,hb4⟩;rw [← hx] at he hm4 hdat;obtain ⟨cr,hcr⟩ : ∃ cr:Array Value,cr=(rowR x.r f4 c4 g4 d4 l4 e4):=⟨_,rfl⟩;rw [← hcr] at he;subst he;have HCR:=Box.mk hcr;have hcr22:cr.size=22:=by rw [hcr]; rfl
   have HSR:=Box.mk (show (Tryz.prog.info? 37).map (·.size)=some cr.size by rw [hcr22]; exact jw);have hcr1:cr.all (·.oneCell')=true:=by rw [hcr]; exact qbl ..
   have HM4:=Box.mk hm4;have HD4:=Box.mk hdat;have HX:=Box.mk hx;have HV24:=Box.mk (HV2.out.keep hb4);have HV34:=Box.mk (HV3.out.keep hb4);have HBW4:=Box.mk (qe HBW.out hb4);have HAL:=Box.mk (And.intro (qx HV24.out (qw rfl) HM4.out.ln) (qx HV34.out (qwr rfl) HM4.out.ln));have HAO:=Box.mk (And.intro (qx HV24.out (qw rfl) HD4.out) (qx HV34.out (qwr rfl) HD4.out));clear hcr hm4 hdat hx HV2 HV3 HBW HA;have HPN:=Box.mk (show PVr (w4.setRow (w.heap.size+1) cr) (w.heap.size+2) #[.int .i64 0,.slice none 0 0] from (setRow_other _ _ _ _ (by omega)).trans HV34.out);go_wp2_with (first | (refine wpList_store_row rfl 37 _ _ rfl (w.heap.size+1) cr rfl rfl 37 _ HV24.out HSR.out (by rw [hcr22]; rfl) hcr1 ?_) | (refine wpList_store_row rfl 41 _ _ rfl (w.heap.size+2) #[.int .i64 x.kind,.slice pa (List.length x.data) pc] rfl rfl 41 _ HPN.out j1 rfl (qap ..) ?_))
   (try simp only [Exit.inBlock,Exit.then])
   refine bodyPost_ret (jv rfl _ _ (w.heap.size+1) (w.heap.size+2) 37 41 cr #[.int .i64 x.kind,.slice pa (List.length x.data) pc] (0,0) (0,0) _ _ rfl rfl ((setRow_other _ _ _ _ (by omega)).trans (setRow_heap _ _ _ _ _ _ HV24.out)) (setRow_heap _ _ _ _ _ _ HPN.out) Tryz.underlying37 rfl HSR.out Tryz.underlying41 rfl j1) rfl ?_;have HBF:=below_setRow (g:=w.heap.size+2) (below_setRow (g:=w.heap.size+1) HBW4.out (by omega) cr) (by omega) #[.int .i64 x.kind,.slice pa (List.length x.data) pc];exact ⟨f4,c4,g4,d4,l4,e4,pa,pc,by rw [← HX.out,HCR.out]; rfl,by rw [← HX.out]; exact ⟨qda HM4.out.f1 fun y e h=>((setRow_other _ _ _ _ (by have:=(HM4.out.n1 y e h).2; omega)).trans (setRow_other _ _ _ _ (by have:=(HM4.out.n1 y e h).2; omega))),qda HM4.out.f2 fun y e h=>((setRow_other _ _ _ _ (by have:=(HM4.out.n2 y e h).2; omega)).trans (setRow_other _ _ _ _ (by have:=(HM4.out.n2 y e h).2; omega))),HM4.out.ln.same (fun x e hl=>((setRow_other _ _ _ _ (HAL.out.2 x e hl)).trans (setRow_other _ _ _ _ (HAL.out.1 x e hl)))),fun y e h=>(HM4.out.n1 y e h).1,fun y e h=>(HM4.out.n2 y e h).1⟩,by rw [← HX.out]; exact HD4.out.same (fun x e hl=>((setRow_other _ _ _ _ (HAO.out.2 x e hl)).trans (setRow_other _ _ _ _ (HAO.out.1 x e hl)))),HBF⟩
 by_cases hp1:s.ph=1
 · have HXX:=Box.mk (show qdp s b body r0=qbg s b most body room by unfold qbg; rw [if_neg hp0,if_pos hp1,HR0.out])
   have HA:=Box.mk (qvg B3 s b body r0 ba bc fa ga la fc gc lc W3 HBB.out hl HM3.out HS.out Hb0.out hr2);rw [HXX.out,← HCS.out,hB3] at HA;have hc2:W3.cell? ⟨w.heap.size,2,none⟩=some (.int .i64 1):=by rw [RVr.cell HV1.out,HCS.out]; show some (.int .i64 s.ph:Value)=_; rw [hp1]
   clear hp0 hp1 hB3 HM3 HB3 HXX HAW HR0 HS Hb0;obtain ⟨x,hx⟩ : ∃ x,x=qbg s b most body room:=⟨_,rfl⟩;go_enter Tryz.func9,Tryz.ntmps9
   go_upto_region 1 with fail
   rw [← HW3.out];clear HW3;go_wp2_with (refine wpList_load_row rfl 37 _ rfl w.heap.size rfl 37 cs (0,0) _ HV1.out Tryz.underlying37 rfl HSZ.out ?_)
   refine HA.out.mono ?_;rintro e w4 ⟨f4,c4,g4,d4,l4,e4,pa,pc,he,hm4,hdat,hb4⟩;rw [← hx] at he hm4 hdat;obtain ⟨cr,hcr⟩ : ∃ cr:Array Value,cr=(rowR x.r f4 c4 g4 d4 l4 e4):=⟨_,rfl⟩;rw [← hcr] at he;subst he;have HCR:=Box.mk hcr;have hcr22:cr.size=22:=by rw [hcr]; rfl
   have HSR:=Box.mk (show (Tryz.prog.info? 37).map (·.size)=some cr.size by rw [hcr22]; exact jw);have hcr1:cr.all (·.oneCell')=true:=by rw [hcr]; exact qbl ..
   have HM4:=Box.mk hm4;have HD4:=Box.mk hdat;have HX:=Box.mk hx;have HV24:=Box.mk (HV2.out.keep hb4);have HV34:=Box.mk (HV3.out.keep hb4);have HBW4:=Box.mk (qe HBW.out hb4);have HAL:=Box.mk (And.intro (qx HV24.out (qw rfl) HM4.out.ln) (qx HV34.out (qwr rfl) HM4.out.ln));have HAO:=Box.mk (And.intro (qx HV24.out (qw rfl) HD4.out) (qx HV34.out (qwr rfl) HD4.out));clear hcr hm4 hdat hx HV2 HV3 HBW HA;have HPN:=Box.mk (show PVr (w4.setRow (w.heap.size+1) cr) (w.heap.size+2) #[.int .i64 0,.slice none 0 0] from (setRow_other _ _ _ _ (by omega)).trans HV34.out);go_wp2_with (first | (refine wpList_store_row rfl 37 _ _ rfl (w.heap.size+1) cr rfl rfl 37 _ HV24.out HSR.out (by rw [hcr22]; rfl) hcr1 ?_) | (refine wpList_store_row rfl 41 _ _ rfl (w.heap.size+2) #[.int .i64 x.kind,.slice pa (List.length x.data) pc] rfl rfl 41 _ HPN.out j1 rfl (qap ..) ?_))
   (try simp only [Exit.inBlock,Exit.then])
   refine bodyPost_ret (jv rfl _ _ (w.heap.size+1) (w.heap.size+2) 37 41 cr #[.int .i64 x.kind,.slice pa (List.length x.data) pc] (0,0) (0,0) _ _ rfl rfl ((setRow_other _ _ _ _ (by omega)).trans (setRow_heap _ _ _ _ _ _ HV24.out)) (setRow_heap _ _ _ _ _ _ HPN.out) Tryz.underlying37 rfl HSR.out Tryz.underlying41 rfl j1) rfl ?_;have HBF:=below_setRow (g:=w.heap.size+2) (below_setRow (g:=w.heap.size+1) HBW4.out (by omega) cr) (by omega) #[.int .i64 x.kind,.slice pa (List.length x.data) pc];exact ⟨f4,c4,g4,d4,l4,e4,pa,pc,by rw [← HX.out,HCR.out]; rfl,by rw [← HX.out]; exact ⟨qda HM4.out.f1 fun y e h=>((setRow_other _ _ _ _ (by have:=(HM4.out.n1 y e h).2; omega)).trans (setRow_other _ _ _ _ (by have:=(HM4.out.n1 y e h).2; omega))),qda HM4.out.f2 fun y e h=>((setRow_other _ _ _ _ (by have:=(HM4.out.n2 y e h).2; omega)).trans (setRow_other _ _ _ _ (by have:=(HM4.out.n2 y e h).2; omega))),HM4.out.ln.same (fun x e hl=>((setRow_other _ _ _ _ (HAL.out.2 x e hl)).trans (setRow_other _ _ _ _ (HAL.out.1 x e hl)))),fun y e h=>(HM4.out.n1 y e h).1,fun y e h=>(HM4.out.n2 y e h).1⟩,by rw [← HX.out]; exact HD4.out.same (fun x e hl=>((setRow_other _ _ _ _ (HAO.out.2 x e hl)).trans (setRow_other _ _ _ _ (HAO.out.1 x e hl)))),HBF⟩
 have HXX:=Box.mk (show qbg s b most body room=⟨0,s,0,[],0⟩ by unfold qbg; rw [if_neg hp0,if_neg hp1]);rw [HXX.out];have hc2:W3.cell? ⟨w.heap.size,2,none⟩=some (.int .i64 s.ph):=by rw [RVr.cell HV1.out,HCS.out]; rfl
 have e0:(s.ph == 0)=false:=by rw [beq_eq_false_iff_ne]; exact hp0
 have e1:(s.ph == 1)=false:=by rw [beq_eq_false_iff_ne]; exact hp1
 clear hp0 hp1 hB3 HM3 HB3 HXX HAW HR0 HS Hb0;go_enter Tryz.func9,Tryz.ntmps9
 go_upto_region 1 with fail
 rw [← HW3.out];clear HW3;have HPN:=Box.mk (show PVr (W3.setRow (w.heap.size+1) cs) (w.heap.size+2) #[.int .i64 0,.slice none 0 0] from (setRow_other _ _ _ _ (by omega)).trans HV3.out);go_wp2_with (first | (refine wpList_load_row rfl 37 _ rfl w.heap.size rfl 37 cs (0,0) _ HV1.out Tryz.underlying37 rfl HSZ.out ?_) | (refine wpList_store_row rfl 37 _ _ rfl (w.heap.size+1) cs rfl rfl 37 _ HV2.out HSZ.out (by rw [hcs22]; rfl) hcs1 ?_) | (refine wpList_store_row rfl 41 _ _ rfl (w.heap.size+2) #[.int .i64 0,.slice none 0 0] rfl rfl 41 _ HPN.out j1 rfl (qap ..) ?_))
 (try simp only [Exit.inBlock,Exit.then])
 refine bodyPost_ret (jv rfl _ _ (w.heap.size+1) (w.heap.size+2) 37 41 cs #[.int .i64 0,.slice none 0 0] (0,0) (0,0) _ _ rfl rfl ((setRow_other _ _ _ _ (by omega)).trans (setRow_heap _ _ _ _ _ _ HV2.out)) (setRow_heap _ _ _ _ _ _ HPN.out) Tryz.underlying37 rfl HSZ.out Tryz.underlying41 rfl j1) rfl ?_;have HBF:=below_setRow (g:=w.heap.size+2) (below_setRow (g:=w.heap.size+1) HBW.out (by omega) cs) (by omega) #[.int .i64 0,.slice none 0 0];exact ⟨fa,fc,ga,gc,la,lc,none,0,by rw [HCS.out]; rfl,HM.out.keep HBF,.inl ⟨rfl,rfl,rfl⟩,HBF⟩
end Go.Proofs.YtflhjpokjdjbpaaGreatDoor

/- The request that the source makes. The law LineRequest. A line that was formatted is parsed to the same fields; the law LineTwice. The law LineFormat. The reference's reader: a reply whose head is in order. Bytes do not lie in the readers' variables. A region that draws its order, whose last operation waits for all others and may write a slot that they read (s = s + f(..)); the rest goes on from there. Slices of slices of bytes: read, built in a region, opened among the arguments. The reference's Encode. Plain mathematics of the decoder: pieces and room, the beginning of a body, a line. The reader: what its states keep. Copies of slices of bytes. Plain mathematics of the decoder: lines, chunks, whole bodies. Package chunked: the mathematics of its line and its blocks of data; what a call may touch. -/
import Derived.Test.YtflhjpokjdjbpaaGreatDoorPq7
import Derived.Deep.Matrix
import Derived.Lib.LazyBuf
set_option linter.unusedVariables false
set_option linter.unusedSimpArgs false
set_option maxRecDepth 100000
set_option maxHeartbeats 4000000
namespace Go.Proofs.YtflhjpokjdjbpaaGreatDoor
open Go.RowKit
def Spec.nope:Spec:=⟨fun _ _=>False,fun _ _ _ h _=>h⟩
def Spec.ids (f:ByteArray→Value):Spec:=⟨fun v _=>∃ s,IdOk s∧v=f s,fun _ _ _ h _=>h⟩
def jg2 (w:World) (v:Value):Prop:=∃ s b c,IdOk s∧v = .slice (some ⟨b,0,none⟩) 1 c∧w.cell? ⟨b,0,none⟩=some (.string (qik s).1)∧w.cell? ⟨b,1,none⟩=some (.string (qik s).2)
def Spec.cooks:Spec:=⟨fun v w=>jg2 w v,fun _ _ _ h hb=>by
 obtain ⟨s,b,c,h1,h2,h3,h4⟩:=h;exact ⟨s,b,c,h1,h2,qp hb h3,qp hb h4⟩⟩
def jg4 (B:Nat) (x:List Fld) (w:World) (v:Value):Prop:=∃ s,IdOk s∧OwnF B w v (x++[qik s])
def Spec.capp (B:Nat) (x:List Fld):Spec:=⟨fun v w=>jg4 B x w v,fun _ _ _ h hb=>by
 obtain ⟨s,h1,h2⟩:=h;exact ⟨s,h1,h2.keep hb⟩⟩
section
variable {Q:Exit→Act→World→Prop} {act:Act} {w:World} {o:Oper} {s:Spec} {K:Act→World→Prop}
theorem qv8 {x:Operand} (ho:o.op = .buildSlice 27 1 #[(0,x)]) {f:Fld} (hx:act.eval x = .agg #[.string f.1,.string f.2]) (hs:∀ w',w'.cell? ⟨w.heap.size,0,none⟩=some (.string f.1)→w'.cell? ⟨w.heap.size,1,none⟩=some (.string f.2)→s.p (.slice (some ⟨w.heap.size,0,none⟩) 1 1) w') :
  o.wp Tryz.prog act w (fun a' w'=>∃ v,a'=act.put o.dst v∧Below w.heap.size w w'∧s.p v w') Q:=by
 obtain ⟨i0,hi,hz0,hz1,hz2⟩:=info_parts Tryz.info78;have hrun:=run_buildSlice (P:=Tryz.prog) w 27 78 1 #[(0,.agg #[.string f.1,.string f.2])] #[.string f.1,.string f.2] i0 _ Tryz.underlying27 hi hz0 (by rw [hz1]; decide) (by rw [hz1]; decide) (by rw [hz1]; simp [Instr.fill,Value.cells,Array.range_succ,show Array.range 0=#[] from rfl]);refine j0 (v:=.slice (some ⟨w.heap.size,0,none⟩) 1 1) (w':=w.alloc (.cells #[.string f.1,.string f.2] 78)) ?_ (qd _ _) (hs _ (by rw [jm]; rfl) (by rw [jm]; rfl));unfold execOp;simp only [ho,List.map_toArray,List.map_cons,List.map_nil,hx];rw [Sem.run_bind,hrun]; rfl
theorem qnu {x y:Operand} (ho:o.op = .call { callee:=.builtin .append,args:=#[x,y],argTypes:=#[27,27] }) {B:Nat} {l:List Fld} (hx:OwnF B w (act.eval x) l) {b c:Nat} {f:Fld} (hy:act.eval y = .slice (some ⟨b,0,none⟩) 1 c)
  (h0:w.cell? ⟨b,0,none⟩=some (.string f.1)) (h1:w.cell? ⟨b,1,none⟩=some (.string f.2)) (hn:l.length+1≤4398046511104) (hB:B≤w.heap.size)
  (h:∀ v' w',OwnF B w' v' (l++[f])→w.grownBy w' (act.eval x).ownBlock→K (act.put o.dst v') w'):o.wp Tryz.prog act w K Q:=by
 obtain ⟨i0,hi,hz0,hz1,hz2⟩:=info_parts Tryz.info78;refine wp_append_lies w x y 27 ho B 78 i0 _ 2 32 Tryz.underlying27 hi hz0 hz1 hz2 rfl (by decide) (act.eval x) l.length (qaj l) rfl hx ⟨b,0,none⟩ 1 c [.string f.1,.string f.2] hy rfl ?_ ?_ (by decide) (by unfold maxLen; omega) (by omega) hB w.heap.size rfl ?_
 · intro j u hj
   match j,hj with
   | 0,hj=>simp at hj; subst hj; rw [Addr.add_lit]; exact h0
   | 1,hj=>simp at hj; subst hj; rw [Addr.add_lit]; exact h1
   | j+2,hj=>simp at hj
 · intro u hu; simp at hu; rcases hu with rfl | rfl <;> rfl
 · intro g cap w' hown hgrow hg hlt
   refine h _ w' ?_ hgrow;unfold OwnF;rw [List.length_append,qdj]; exact hown
theorem qh4 {P:Program} {ty:TypeId} {x y:Operand} (ho:o.op = .store ty x y) {p:Addr} {sa:Option Addr} {sn sc:Nat} {u:Value} (hx:act.eval x = .pointer (some p)) (hy:act.eval y = .slice sa sn sc) (hi:(P.info? ty).map (·.size)=some 1)
  (hc:w.cell? p=some u) (hf:w.frozen? p=false) (h:K (act.put o.dst undef) (w.setCell p (.slice sa sn sc))):o.wp P act w K Q:=by
 have hz:(sizeOf ty).run P w = .ok 1 w:=by
  cases hq:P.info? ty with
  | none=>rw [hq] at hi; cases hi
  | some i=>rw [hq] at hi; simp at hi; simp [sizeOf,typeInfo,hq,hi]
 unfold Oper.wp execOp;simp_all [Instr.storeAt,Instr.sureAddr,storeVar,storeCells,Value.cells,go_sem]
theorem qgl {f:FuncId} {args:List Operand} {ts:Array TypeId} {P:Program} (ho:o.op = .call { callee:=.value (.func f),args:=args.toArray,argTypes:=ts })
  (hf : (P.funcs[f]?).map (fun fn => fn.name != "runtime.NumGoroutine" && fn.body.isSome) = some true) (h : Calls P f (args.map act.eval).toArray w fun e w' => ∃ v, e = .returned v ∧ K (act.put o.dst v) w') : o.wp P act w K Q := by
 have hrun:(execOp act.eval o).run P w = .ok (.enter f (args.map act.eval).toArray) w:=by
  unfold execOp; rw [ho];cases hfn:P.funcs[f]? with
  | none=>rw [hfn] at hf; cases hf
  | some fn =>
   rw [hfn] at hf;simp only [Option.map_some,Option.some.injEq,Bool.and_eq_true,bne_iff_ne,ne_eq] at hf;have hb:fn.body≠none:=fun e=>by rw [e] at hf; exact absurd hf.2 (by simp)
   simp [resolve,Deferred.ofValue,invoke,callFunc,show act.eval (.func f) = .func (.func f) #[] #[] from rfl,hfn,hf.1,hb]
 unfold Oper.wp;rw [hrun,Oper.upon_enter];refine h.mono ?_;rintro e w' ⟨v,rfl,hk⟩;exact hk
end
theorem qj7 (w:World):(isAgg 27).run Tryz.prog w = .ok false w:=by
 unfold isAgg; rw [Sem.run_bind,run_underlying Tryz.underlying27 w]; rfl
theorem RqSt.src {R:List Fld→Prop} {B g:Nat} {a:Option Addr} {n c:Nat} {w0:World} {gr q:Nat} {m t:ByteArray} {w:World} (h:RqSt R B g a n c w0 gr q m t w):Src w g a n c:=by
 obtain ⟨_,_,_,_,_,_,_,h,_,_⟩:=h;exact h
theorem RqSt.weaken {R R':List Fld→Prop} {B g:Nat} {a:Option Addr} {n c:Nat} {w0:World} {gr q:Nat} {m t:ByteArray} {w:World} (h:RqSt R B g a n c w0 gr q m t w) (hr:∀ x,R x→R' x):RqSt R' B g a n c w0 gr q m t w:=by
 obtain ⟨z,vF,x,h1,h2,h3,h5,h⟩:=h;exact ⟨z,vF,x,h1,h2,h3,hr x h5,h⟩
structure RqJ (g:Nat) (a:Option Addr) (n c:Nat) (w0:World) (gr q:Nat) (m t:ByteArray) (z:Int) (vF:Value) (w:World):Prop where
 row:w.heap[gr]? = some (.cells #[.string m,.string t,.int .i64 z,vF,.bool false,.slice none 0 0] 29 (0,0))
 src:Src w g a n c
 grown:w0.grownBy w (some g)
 res:RVar w q ⟨#[]⟩ ⟨#[]⟩ 0
theorem RqJ.keep {g:Nat} {a:Option Addr} {n c:Nat} {w0:World} {gr q:Nat} {m t:ByteArray} {z:Int} {vF:Value} {w w':World} (h:RqJ g a n c w0 gr q m t z vF w) (hb:Below w.heap.size w w'):RqJ g a n c w0 gr q m t z vF w' :=
 ⟨by rw [hb.block gr (Array.getElem?_eq_some_iff.1 h.row).1]; exact h.row,h.src.keep hb,qh h.grown (j5 hb),h.res.keep hb⟩
theorem RqJ.next {B g:Nat} {a:Option Addr} {n c:Nat} {w0:World} {gr q:Nat} {m t:ByteArray} {z:Int} {vF:Value} {w w':World} (h:RqJ g a n c w0 gr q m t z vF w) (N:RqN B g a n w0 gr q) (hg:w.grownBy w' (some g)) (hs:Src w' g a n c):RqJ g a n c w0 gr q m t z vF w':=by
 have n1:=N.lo;have n2:=N.hq;have n3:=N.hgr;exact ⟨(hg.block gr (Array.getElem?_eq_some_iff.1 h.row).1 (fun e=>by have:=Option.some.inj e; omega)).trans h.row,hs,qh h.grown hg,(hg.block q (Array.getElem?_eq_some_iff.1 h.res).1 (fun e=>by have:=Option.some.inj e; omega)).trans h.res⟩
theorem RqJ.app {B g:Nat} {a:Option Addr} {n c:Nat} {w0:World} {gr q:Nat} {m t:ByteArray} {z:Int} {vF:Value} {row:Option Nat} {w w':World} (h:RqJ g a n c w0 gr q m t z vF w) (N:RqN B g a n w0 gr q) (hg:w.grownBy w' row) (hr:∀ k,row=some k→B≤k):RqJ g a n c w0 gr q m t z vF w':=by
 have n1:=N.lo;have n2:=N.hq;have n3:=N.hgr;have n4:=N.top;exact ⟨(hg.block gr (Array.getElem?_eq_some_iff.1 h.row).1 (fun e=>by have:=hr _ e.symm; omega)).trans h.row,h.src.grown hg (fun e=>by have:=hr g e.symm; omega) (fun y e h0 e2=>by have:=hr _ e2.symm; have:=N.src y e h0; omega),ku h.grown hg (fun j e=>by have:=hr j e; omega),(hg.block q (Array.getElem?_eq_some_iff.1 h.res).1 (fun e=>by have:=hr q e.symm; omega)).trans h.res⟩
structure RqK (B g:Nat) (a:Option Addr) (n c:Nat) (w0:World) (gr q:Nat) (vF:Value) (x:List Fld) (cs:Array Value) (w:World):Prop where
 row:w.heap[gr]? = some (.cells cs 29 (0,0))
 own:OwnF B w vF x
 src:Src w g a n c
 grown:w0.grownBy w (some g)
 res:RVar w q ⟨#[]⟩ ⟨#[]⟩ 0
theorem RqK.set {B g:Nat} {a:Option Addr} {n c:Nat} {w0:World} {gr q:Nat} {vF:Value} {x:List Fld} {cs:Array Value} {w:World} (h:RqK B g a n c w0 gr q vF x cs w) (N:RqN B g a n w0 gr q) (i:Nat) (v:Value) :
  RqK B g a n c w0 gr q vF x (cs.setIfInBounds i v) (w.setCell ⟨gr,i,none⟩ v):=by
 have n1:=N.lo;have n2:=N.hq;have n3:=N.hgr;have n4:=N.top;have hg:w.grownBy (w.setCell ⟨gr,i,none⟩ v) (some gr):=qa9;exact ⟨heap_setCell_same w gr i cs 29 v h.row,h.own.grown hg (fun k hk e=>by have:=(h.own.lt hk).1; have:=Option.some.inj e; omega),h.src.other hg (by omega) (fun y e h0=>by have:=N.src y e h0; omega),ku h.grown hg (fun j e=>by have:=Option.some.inj e; omega),(heap_setCell_other w ⟨gr,i,none⟩ q _ (by show q≠gr; omega)).trans h.res⟩
theorem RqK.next {B g:Nat} {a:Option Addr} {n c:Nat} {w0:World} {gr q:Nat} {vF:Value} {x:List Fld} {cs:Array Value} {w w':World} (h:RqK B g a n c w0 gr q vF x cs w) (N:RqN B g a n w0 gr q) (hg:w.grownBy w' (some g)) (hs:Src w' g a n c):RqK B g a n c w0 gr q vF x cs w':=by
 have n1:=N.lo;have n2:=N.hq;have n3:=N.hgr;have n4:=N.top;exact ⟨(hg.block gr (Array.getElem?_eq_some_iff.1 h.row).1 (fun e=>by have:=Option.some.inj e; omega)).trans h.row,h.own.grown hg (fun k hk e=>by have:=(h.own.lt hk).1; have:=Option.some.inj e; omega),hs,qh h.grown hg,(hg.block q (Array.getElem?_eq_some_iff.1 h.res).1 (fun e=>by have:=Option.some.inj e; omega)).trans h.res⟩
theorem Own.set {B g i:Nat} {w:World} {v u:Value} {l:List UInt8} (h:Own B w v l) (hg:g<B):Own B (w.setCell ⟨g,i,none⟩ u) v l :=
 h.grown qa9 (fun k hk e=>by have:=(h.lt hk).1; have:=Option.some.inj e; omega)
def jg1 (B g:Nat) (a:Option Addr) (n c:Nat) (w0:World) (gr q:Nat) (m t:ByteArray) (w:World):Prop :=
 ∃ z vF x fr vB l,(z=0∨z=1)∧RqK B g a n c w0 gr q vF x #[.string m,.string t,.int .i64 z,vF,.bool fr,vB] w∧Own B w vB l∧RF3 x∧l.length≤30∧(fr=false→l=[])
theorem qzt (g:Nat) (a:Option Addr) (n c:Nat) (w:World) (h:Src w g a n c) :
  Calls Tryz.prog 16 #[.pointer (some ⟨g,0,none⟩)] w (jf5 w g a n c):=by
 have H0:=Box.mk h;have HLOW:=Box.mk h.low;have hlt:=h.lt;clear h;go_enter Tryz.func16,Tryz.ntmps16
 go_wp2_with fail;obtain ⟨W,hW⟩ : ∃ W,W=(w.alloc (.cells #[.string ⟨#[]⟩,.string ⟨#[]⟩,.int .i64 0,.slice none 0 0,.bool false,.slice none 0 0] 29)).alloc (.cells (qih.map Value.string).toArray 9):=⟨_,rfl⟩;have HBW:=Box.mk (show Below w.heap.size w W by rw [hW]; exact qk (qd w _) _);have HQ:=Box.mk (show RVar W w.heap.size ⟨#[]⟩ ⟨#[]⟩ 0 by rw [hW]; exact (show RVar (w.alloc _) _ _ _ _ from heap_alloc_new _ _).keep (qd _ _));have HL:=Box.mk (show qbn W (some ⟨w.heap.size+1,0,none⟩) qih by
  have h1:=qch (w.alloc (.cells #[.string ⟨#[]⟩,.string ⟨#[]⟩,.int .i64 0,.slice none 0 0,.bool false,.slice none 0 0] 29)) qih 9;rw [World.size_alloc] at h1;rw [hW]; exact h1)
 have HS:=Box.mk (H0.out.keep HBW.out);change Calls _ _ _ ((w.alloc (.cells #[.string ⟨#[]⟩,.string ⟨#[]⟩,.int .i64 0,.slice none 0 0,.bool false,.slice none 0 0] 29)).alloc (.cells (qih.map Value.string).toArray 9)) _;rw [← hW];clear hW;refine (of_n g (w.heap.size+1) 5 qih 5 a n c W HS.out HL.out (by omega) rfl (by decide) (by decide)).mono ?_;rintro e w1 ⟨m,hm,rfl,hsrc,hg1⟩;have HNM:=Box.mk hm;have HS1:=Box.mk hsrc;have HG1:=Box.mk (show w.grownBy w1 (some g) from qh (j5 HBW.out) hg1);have HQ1:=Box.mk (show RVar w1 w.heap.size ⟨#[]⟩ ⟨#[]⟩ 0 from (hg1.block _ (Array.getElem?_eq_some_iff.1 HQ.out).1 (fun e=>by have:=Option.some.inj e; omega)).trans HQ.out);clear hm hsrc hg1 HS HL HQ HBW H0;go_wp2_with fail;obtain ⟨W,hW⟩ : ∃ W,W=w1.alloc (.cells (qib.map Value.string).toArray 9):=⟨_,rfl⟩;have HBW:=Box.mk (show Below w1.heap.size w1 W by rw [hW]; exact qd w1 _);have HL:=Box.mk (show qbn W (some ⟨w1.heap.size,0,none⟩) qib by rw [hW]; exact qch w1 qib 9);have HS2:=Box.mk (HS1.out.keep HBW.out);have hlt1:=HS1.out.lt;change Calls _ _ _ (w1.alloc (.cells (qib.map Value.string).toArray 9)) _;rw [← hW];clear hW;refine (of_n g w1.heap.size 4 qib 4 a n c W HS2.out HL.out (by omega) rfl (by decide) (by decide)).mono ?_;rintro e w2 ⟨t,ht,rfl,hsrc,hg2⟩;have HTM:=Box.mk ht;have HS3:=Box.mk hsrc;have HG3:=Box.mk (show w.grownBy w2 (some g) from qh HG1.out (qh (j5 HBW.out) hg2));have HQ3:=Box.mk (show RVar w2 w.heap.size ⟨#[]⟩ ⟨#[]⟩ 0 from (hg2.block _ (Array.getElem?_eq_some_iff.1 (HQ1.out.keep HBW.out)).1 (fun e=>by have:=Option.some.inj e; omega)).trans (HQ1.out.keep HBW.out));clear ht hsrc hg2 HS2 HL HQ1 HBW HS1 HG1;have hgr:=HG3.out.size;have hq2:w.heap.size<w2.heap.size:=(Array.getElem?_eq_some_iff.1 HQ3.out).1;go_wp2_with fail;have HN:=Box.mk (show RqN (w2.heap.size+1) g a n w w2.heap.size w.heap.size from ⟨hlt,HLOW.out,rfl,hq2,Nat.lt_succ_self _⟩);have HST:=Box.mk (show RqSt (fun x=>x=[]) (w2.heap.size+1) g a n c w w2.heap.size w.heap.size m t (w2.alloc (.cells #[.string m,.string t,.int .i64 1,.slice none 0 0,.bool false,.slice none 0 0] 29)) from
  ⟨1,_,[],.inr rfl,heap_alloc_new _ _,OwnF.start _ _,rfl,HS3.out.keep (qd _ _),qh HG3.out (j5 (qd _ _)),HQ3.out.keep (qd _ _)⟩)
 obtain ⟨W,hW⟩ : ∃ W,W=w2.alloc (.cells #[.string m,.string t,.int .i64 1,.slice none 0 0,.bool false,.slice none 0 0] 29):=⟨_,rfl⟩;have hgs:w2.heap.size<W.heap.size:=by rw [hW,World.size_alloc]; omega
 have hsW:=Box.mk (show Src W g a n c by rw [hW]; exact HS3.out.keep (qd _ _));change Calls _ _ _ (w2.alloc (.cells #[.string m,.string t,.int .i64 1,.slice none 0 0,.bool false,.slice none 0 0] 29)) _;rw [← hW] at HST ⊢;clear hW HS3 HG3 HQ3;generalize hgr0:w2.heap.size=gr at *;clear hgr0 hgr;generalize hq0:w.heap.size=q at *;have HQ0:=Box.mk hq0;clear hq0;refine (qbi g 6 a n c W hsW.out (by decide) (by decide)).mono ?_;rintro e w3 ⟨k,hk,rfl,hsrc,hg3⟩;have HST3:=Box.mk (HST.out.next HN.out hg3 hsrc);clear hsrc hg3 hsW HST;go_upto_if 13 with fail
 go_cut [] (fun wx=>Box (RqSt (fun x=>x=[]) (gr+1) g a n c w gr q m t wx))
 case first =>
  obtain ⟨z,vF,x,h1,h2,h3,h5,h8,h9,h10⟩:=HST3.out;have H2:=Box.mk h2;have HA:=Box.mk (And.intro h3 (And.intro h8 (And.intro h9 h10)));have hf:=frozen_of_row w3 gr 2 _ _ h2;have hc2:w3.cell? ⟨gr,2,none⟩=some (.int .i64 z):=by rw [cell_of_row _ _ _ _ _ _ h2]; rfl
  subst h5;clear h1 h2 h3 h8 h9 h10;by_cases hk0:k=0
  · have e0:(((k:Nat):Int) == 0)=true:=by rw [hk0]; rfl
    clear hk0;go_wp2_with fail;go_meet
    exact ⟨RqSt.put HN.out (.inl rfl) H2.out rfl HA.out.1 rfl HA.out.2.1 HA.out.2.2.1 HA.out.2.2.2⟩
  · have e0:(((k:Nat):Int) == 0)=false:=by rw [beq_eq_false_iff_ne]; omega
    clear hk0;go_wp2_with fail;go_meet
    exact HST3
 case rest =>
  obtain ⟨z,vF,x,h1,h2,h3,h5,h8,h9,h10⟩:=hcut.out;have hgc:gr<wc.heap.size:=(Array.getElem?_eq_some_iff.1 h2).1;have HA:=Box.mk (And.intro h1 (And.intro h2 (And.intro h8 (And.intro h9 h10))));clear h1 h2 h3 h5 h8 h9 h10 HST3 hcut;go_wp2_with fail;refine (qh3 g 3 a n c wc HA.out.2.2.1 (by decide)).mono ?_;rintro e w4 ⟨v4,y,rfl,hy,hyl,hyf,hsrc,hg4⟩;have HY:=Box.mk (hy.mono (show gr+1≤wc.heap.size from hgc));have HRF:=Box.mk (show RF1 (y++[hostF]) from ⟨y,hyf,hyl,rfl⟩);have HROW:=Box.mk ((hg4.block gr hgc (fun e=>by have:=Option.some.inj e; omega)).trans HA.out.2.1);have HQ4:=Box.mk (show RVar w4 q ⟨#[]⟩ ⟨#[]⟩ 0 from (hg4.block q (by omega) (fun e=>by have:=Option.some.inj e; omega)).trans HA.out.2.2.2.2);have HS4:=Box.mk hsrc;have HG4:=Box.mk (qh HA.out.2.2.2.1 hg4);have hsz4:=hg4.size;have HZ:=Box.mk HA.out.1;clear hy hyf hsrc hg4 HA;go_wp2_with (at_builtin; refine qc1 _ rfl _ _ rfl rfl (HY.out.keep (qd w4 (.cells #[.string hostF.1,.string hostF.2] 78))) rfl (y:=hostF) ?c1 ?c2 (by omega) (by simp; omega) ?c3)
  case c1=>simp [hostF]
  case c2=>simp [hostF]
  case c3 =>
   intro v5 w5 hown hgrow;obtain ⟨X,hX⟩ : ∃ X,y++[hostF]=X:=⟨_,rfl⟩;rw [hX] at hown HRF;clear hX;have hb4:=qd w4 (.cells #[.string hostF.1,.string hostF.2] 78);have HST6:=Box.mk (RqSt.app (R':=RF1) HN.out HZ.out ((hb4.block gr (Nat.lt_of_lt_of_le hgc hsz4)).trans HROW.out) rfl (fun k hk=>(HY.out.lt hk).1) hgrow hown HRF.out (HS4.out.keep hb4) (qh HG4.out (j5 hb4)) (HQ4.out.keep hb4));have hrow:=(hgrow.block gr (by rw [World.size_alloc]; omega) (fun e=>by have:=(HY.out.lt e.symm).1; omega)).trans ((hb4.block gr (Nat.lt_of_lt_of_le hgc hsz4)).trans HROW.out);have hf:=frozen_of_row w5 gr 3 _ _ hrow;have hc3:w5.cell? ⟨gr,3,none⟩=some vF:=by rw [cell_of_row _ _ _ _ _ _ hrow]; rfl
   obtain ⟨sa,sc,hv5,_,_⟩:=hown.shape;subst hv5;clear hown hgrow hrow hb4 HY HRF HROW HQ4 HS4 HG4 HZ;go_wp2_with fail;have hgc6:gr<(w5.setCell ⟨gr,3,none⟩ (.slice sa X.length sc)).heap.size:=by
    obtain ⟨_,_,_,_,h2,_⟩:=HST6.out;exact (Array.getElem?_eq_some_iff.1 h2).1
   clear hf hc3;generalize w5.setCell ⟨gr,3,none⟩ (.slice sa X.length sc)=W6 at *;refine (qbi g 2 a n c W6 HST6.out.src (by decide) (by decide)).mono ?_;rintro e w7 ⟨k2,hk2,rfl,hsrc,hg7⟩;have HST7:=Box.mk (HST6.out.next HN.out hg7 hsrc);clear hsrc hg7 HST6 hgc6;go_upto_if 23 with fail
   go_cut [] (fun wx=>Box (RqSt RF2 (gr+1) g a n c w gr q m t wx))
   case first =>
    by_cases hk0:k2=0
    · have e0:(((k2:Nat):Int) == 0)=true:=by rw [hk0]; rfl
      clear hk0;obtain ⟨z,vF,x,h1,h2,h3,h5,h8,h9,h10⟩:=HST7.out;have HZ:=Box.mk h1;have HJ:=Box.mk (show RqJ g a n c w gr q m t z vF w7 from ⟨h2,h8,h9,h10⟩);have HF:=Box.mk h3;have HR:=Box.mk h5;have hx4:=h5.made.2;clear h1 h2 h3 h5 h8 h9 h10 HST7;go_wp2_with fail;rename_i J hJ _;have hgw:gr<w7.heap.size:=(Array.getElem?_eq_some_iff.1 HJ.out.row).1;refine qz [3,7,9] (fun p=>match p with | 0=>[0,1,2] | 1=>[0,1,4,5,6] | 2=>[8] | _=>[])
       (fun p=>match p with
        | 0=>[.val (.pointer (some ⟨gr,3,none⟩)),.val vF,.val (.pointer (some ⟨g,0,none⟩)),.nope,.nope,.nope,.nope,.nope,.nope,.any]
        | 1=>[.val (.pointer (some ⟨gr,3,none⟩)),.val vF,.any,.ids (fun s=>.string s),.ids (fun s=>.string (qcx++s)),.ids (fun s=>.agg #[.string (qik s).1,.string (qik s).2]),.cooks,.nope,.nope,.any]
        | 2=>[.any,.any,.any,.any,.any,.any,.any,.capp (gr+1) x,.val (.pointer (some ⟨gr,3,none⟩)),.any]
        | _=>[.any,.any,.any,.any,.any,.any,.any,.any,.any,.any])
       (fun p=>match p with
        | 0=>fun wx=>RqJ g a n c w gr q m t z vF wx∧OwnF (gr+1) wx vF x∧gr<wx.heap.size
        | 1=>fun wx=>RqJ g a n c w gr q m t z vF wx∧OwnF (gr+1) wx vF x∧gr<wx.heap.size
        | 2=>fun wx=>RqJ g a n c w gr q m t z vF wx
        | _=>fun wx=>RqSt RF2 (gr+1) g a n c w gr q m t wx)
       (by kernel_rfl) (by kernel_rfl) (by kernel_rfl) (by kernel_rfl) (by kernel_rfl) (by kernel_rfl) ?_ ⟨HJ.out,HF.out,hgw⟩ ?_ ?_ ?_
      · intro p w1 w2 h hb
        match p,h with
        | 0,h=>exact ⟨h.1.keep hb,h.2.1.keep hb,Nat.lt_of_lt_of_le h.2.2 hb.size⟩
        | 1,h=>exact ⟨h.1.keep hb,h.2.1.keep hb,Nat.lt_of_lt_of_le h.2.2 hb.size⟩
        | 2,h=>exact RqJ.keep h hb
        | (_+3),h=>exact RqSt.keep h hb
      · intro p hp
        match p,hp with
        | 0,_ =>
         refine ⟨?_,?_,?_,trivial⟩ <;> intro a1 w1 hv hf hd
         · exact ⟨qb rfl,qdf rfl (hf.base 3 rfl) (by decide) rfl⟩
         · exact ⟨qb rfl,jg rfl (hd 0 rfl) (by rw [cell_of_row _ _ _ _ _ _ hv.1.row]; rfl) (qj7 _) rfl⟩
         · exact ⟨qb rfl,qi rfl (hf.base 0 rfl)⟩
        | 1,_ =>
         refine ⟨?_,?_,?_,?_,?_,trivial⟩ <;> intro a1 w1 hv hf hd
         · exact ⟨qb rfl,qdf rfl (hf.base 3 rfl) (by decide) rfl⟩
         · exact ⟨qb rfl,jg rfl (hd 0 rfl) (by rw [cell_of_row _ _ _ _ _ _ hv.1.row]; rfl) (qj7 _) rfl⟩
         · obtain ⟨s,hs,e⟩:=hd 3 rfl
           exact ⟨qb rfl,qb8 (b:=qcx) rfl rfl e (by rw [hs.1]; decide) ⟨s,hs,rfl⟩⟩
         · obtain ⟨s,hs,e⟩:=hd 4 rfl
           exact ⟨qb rfl,qjw (b:=(qik s).1) (c:=(qik s).2) rfl rfl e ⟨s,hs,rfl⟩⟩
         · obtain ⟨s,hs,e⟩:=hd 5 rfl
           exact ⟨qb rfl,qv8 (f:=qik s) rfl e fun w' h0 h1=>⟨s,_,_,hs,rfl,h0,h1⟩⟩
        | 2,_ =>
         refine ⟨?_,trivial⟩;intro a1 w1 hv hf hd;exact ⟨qb rfl,qdf rfl (hf.base 3 rfl) (by decide) rfl⟩
        | 3,_=>exact trivial
      · intro p hp
        match p,hp with
        | 0,_ =>
         intro a2 w2 hv hf hd;refine ⟨qb rfl,qgl rfl (by kernel_rfl) ?_⟩;show Calls _ _ #[a2.eval (.tmp 26)] w2 _
         rw [show a2.eval (.tmp 26) = .pointer (some ⟨g,0,none⟩) from hd 2 rfl];refine (jae g a n c w2 hv.1.src).mono ?_;rintro e w' ⟨s,rfl,h16,hhex,hsrc,hg⟩;exact ⟨_,rfl,_,rfl,⟨hv.1.next HN.out hg hsrc,hv.2.1.grown hg (fun k hk e=>by have:=(hv.2.1.lt hk).1; have:=Option.some.inj e; omega),Nat.lt_of_lt_of_le hv.2.2 hg.size⟩,⟨s,⟨h16,hhex⟩,rfl⟩,
          ⟨.inr fun _ _ h=>h,.inr fun _ _ h=>h,.inr fun _ _ _=>trivial,.inl rfl,.inr fun _ _ h=>h.elim,.inr fun _ _ h=>h.elim,.inr fun _ _ h=>h.elim,.inr fun _ _ h=>h.elim,.inr fun _ _ h=>h.elim,.inr fun _ _ _=>trivial,trivial⟩⟩
        | 1,_ =>
         intro a2 w2 hv hf hd;have e25:a2.eval (.tmp 25)=vF:=hd 1 rfl;obtain ⟨s,b,cb,hs,e30,h0,h1⟩:=hd 6 rfl;refine ⟨qb rfl,qnu rfl (by show OwnF (gr+1) w2 (a2.eval (.tmp 25)) x; rw [e25]; exact hv.2.1) e30 h0 h1 (by omega) hv.2.2 fun v' w3 hown hgrow=>?_⟩;rw [show a2.eval (.tmp 25)=vF from e25] at hgrow;exact ⟨v',rfl,hv.1.app HN.out hgrow (fun k hk=>(hv.2.1.lt hk).1),⟨s,hs,hown⟩,
          ⟨.inr fun _ _ _=>trivial,.inr fun _ _ _=>trivial,.inr fun _ _ _=>trivial,.inr fun _ _ _=>trivial,.inr fun _ _ _=>trivial,.inr fun _ _ _=>trivial,.inr fun _ _ _=>trivial,.inl rfl,.inr fun _ _ h=>h.elim,.inr fun _ _ _=>trivial,trivial⟩⟩
        | 2,_ =>
         intro a2 w2 hv hf hd;obtain ⟨s,hs,hown⟩:=hd 7 rfl;obtain ⟨sa,sc,e31,_,_⟩:=hown.shape;have e32:a2.eval (.tmp 32) = .pointer (some ⟨gr,3,none⟩):=hd 8 rfl;refine ⟨qb rfl,qh4 (u:=vF) rfl e32 e31 (by kernel_rfl) (by rw [cell_of_row _ _ _ _ _ _ hv.row]; rfl) (frozen_of_row w2 gr 3 _ _ hv.row) ?_⟩;rw [e31] at hown;exact ⟨undef,rfl,RqSt.put HN.out HZ.out hv.row rfl hown (.inr ⟨x,s,HR.out,hs,rfl⟩) hv.src hv.grown hv.res,trivial,
          ⟨.inr fun _ _ _=>trivial,.inr fun _ _ _=>trivial,.inr fun _ _ _=>trivial,.inr fun _ _ _=>trivial,.inr fun _ _ _=>trivial,.inr fun _ _ _=>trivial,.inr fun _ _ _=>trivial,.inr fun _ _ _=>trivial,.inr fun _ _ _=>trivial,.inl rfl,trivial⟩⟩
      · intro a2 w2 hv hf hh
        clear hh;rw [jl hf];clear hf;simp only [kg];generalize a2.eval (.tmp 24)=u24;generalize a2.eval (.tmp 25)=u25;generalize a2.eval (.tmp 26)=u26;generalize a2.eval (.tmp 27)=u27;generalize a2.eval (.tmp 28)=u28;generalize a2.eval (.tmp 29)=u29;generalize a2.eval (.tmp 30)=u30;generalize a2.eval (.tmp 31)=u31;generalize a2.eval (.tmp 32)=u32;clear a2;simp only [Act.put,List.setIfInBounds_toArray,List.set_cons_succ,List.set_cons_zero];refine hJ _ _ ?_;go_meet
        exact ⟨hv⟩
    · have e0:(((k2:Nat):Int) == 0)=false:=by rw [beq_eq_false_iff_ne]; omega
      clear hk0;go_wp2_with fail;go_meet
      exact ⟨HST7.out.weaken fun _ h=>.inl h⟩
   case rest =>
    have HSTC:=Box.mk hcut.out;clear hcut HST7;go_wp2_with fail;refine (qbi g 5 a n c wc HSTC.out.src (by decide) (by decide)).mono ?_;rintro e w8 ⟨k3,hk3,rfl,hsrc,hg8⟩;have HST8:=Box.mk (HSTC.out.next HN.out hg8 hsrc);clear hsrc hg8 HSTC;go_upto_if 35 with fail
    go_cut [] (fun wx=>Box (RqSt RF3 (gr+1) g a n c w gr q m t wx))
    case first =>
     by_cases hk0:k3=0
     · have e0:(((k3:Nat):Int) == 0)=true:=by rw [hk0]; rfl
       clear hk0;obtain ⟨z,vF,x,h1,h2,h3,h5,h8,h9,h10⟩:=HST8.out;have hgw:gr<w8.heap.size:=(Array.getElem?_eq_some_iff.1 h2).1;have hb8:=qd w8 (.cells #[.string expF.1,.string expF.2] 78);have hc3:w8.cell? ⟨gr,3,none⟩=some vF:=by rw [cell_of_row _ _ _ _ _ _ h2]; rfl
       have HA:=Box.mk (And.intro h1 (And.intro h2 (And.intro h3 (And.intro h5 (And.intro h8 (And.intro h9 h10))))));have HB8:=Box.mk hb8;have hx5:=h5.made.2;clear h1 h2 h3 h5 h8 h9 h10 hb8 HST8;go_wp2_with (at_builtin; refine qc1 _ rfl _ _ rfl rfl (HA.out.2.2.1.keep HB8.out) rfl (y:=expF) ?d1 ?d2 (by omega) (by simp; omega) ?d3)
       case d1=>simp [expF]
       case d2=>simp [expF]
       case d3 =>
        intro v9 w9 hown hgrow;obtain ⟨X9,hX⟩ : ∃ X9,x++[expF]=X9:=⟨_,rfl⟩;have HRF9:=Box.mk (show RF3 X9 by rw [← hX]; exact .inr ⟨x,HA.out.2.2.2.1,rfl⟩);rw [hX] at hown;clear hX;have HST9:=Box.mk (RqSt.app (R':=RF3) HN.out HA.out.1 ((HB8.out.block gr hgw).trans HA.out.2.1) rfl (fun k hk=>(HA.out.2.2.1.lt hk).1) hgrow hown HRF9.out (HA.out.2.2.2.2.1.keep HB8.out) (qh HA.out.2.2.2.2.2.1 (j5 HB8.out)) (HA.out.2.2.2.2.2.2.keep HB8.out));have hrow:=(hgrow.block gr (by rw [World.size_alloc]; omega) (fun e=>by have:=(HA.out.2.2.1.lt e.symm).1; omega)).trans ((HB8.out.block gr hgw).trans HA.out.2.1);have hf:=frozen_of_row w9 gr 3 _ _ hrow;have hc3:w9.cell? ⟨gr,3,none⟩=some vF:=by rw [cell_of_row _ _ _ _ _ _ hrow]; rfl
        obtain ⟨sa9,sc9,hv9,_,_⟩:=hown.shape;subst hv9;clear hown hgrow hrow HA HRF9;go_wp2_with fail;go_meet
        exact HST9
     · have e0:(((k3:Nat):Int) == 0)=false:=by rw [beq_eq_false_iff_ne]; omega
       clear hk0;go_wp2_with fail;go_meet
       exact ⟨HST8.out.weaken fun _ h=>.inl h⟩
    case rest =>
     have HSTC:=Box.mk hcut.out;clear hcut HST8;go_wp2_with fail;refine (qbi g 4 a n c wc HSTC.out.src (by decide) (by decide)).mono ?_;rintro e wa ⟨k4,hk4,rfl,hsrc,hga⟩;obtain ⟨z,vF,x,h1,h2,h3,h5,h8,h9,h10⟩:=HSTC.out.next HN.out hga hsrc;have HK:=Box.mk (show RqK (gr+1) g a n c w gr q vF x #[.string m,.string t,.int .i64 z,vF,.bool false,.slice none 0 0] wa from ⟨h2,h3,h8,h9,h10⟩);have HZ:=Box.mk h1;have HR:=Box.mk h5;have hf4:=frozen_of_row wa gr 4 _ _ h2;have hf5:=frozen_of_row wa gr 5 _ _ h2;clear h1 h2 h3 h5 h8 h9 h10 hsrc hga HSTC;go_upto_block 0 with fail
     go_cut [] (fun wx=>Box (jg1 (gr+1) g a n c w gr q m t wx))
     case first =>
      have hc4:wa.cell? ⟨gr,4,none⟩=some (.bool false):=by rw [cell_of_row _ _ _ _ _ _ HK.out.row]; rfl
      have hc5:wa.cell? ⟨gr,5,none⟩=some (.slice none 0 0):=by rw [cell_of_row _ _ _ _ _ _ HK.out.row]; rfl
      have hc2:wa.cell? ⟨gr,2,none⟩=some (.int .i64 z):=by rw [cell_of_row _ _ _ _ _ _ HK.out.row]; rfl
      by_cases hk0:k4=0
      · have e0:(((k4:Nat):Int) == 0)=true:=by rw [hk0]; rfl
        clear hk0 hf4 hf5 hc4 hc5 hc2;go_wp2_with fail;refine (qg0 g 30 a n c wa HK.out.src (by decide)).mono ?_;rintro e wb ⟨vB,l,rfl,hB,hl,hsrc,hgb⟩;have HKB:=Box.mk (HK.out.next HN.out hgb hsrc);have HBB:=Box.mk (hB.mono (show gr+1≤wa.heap.size from (Array.getElem?_eq_some_iff.1 HK.out.row).1));clear hB hsrc hgb HK;obtain ⟨sB,cB,hvB,_⟩:=HBB.out.val;subst hvB;have hf4:=frozen_of_row wb gr 4 _ _ HKB.out.row;have hf5:=frozen_of_row wb gr 5 _ _ HKB.out.row;have hc4:wb.cell? ⟨gr,4,none⟩=some (.bool false):=by rw [cell_of_row _ _ _ _ _ _ HKB.out.row]; rfl
        have hc5:wb.cell? ⟨gr,5,none⟩=some (.slice none 0 0):=by rw [cell_of_row _ _ _ _ _ _ HKB.out.row]; rfl
        go_wp2_with fail;go_meet
        exact ⟨⟨z,vF,x,true,_,l,HZ.out,(HKB.out.set HN.out 4 _).set HN.out 5 _,(HBB.out.set (Nat.lt_succ_self _)).set (Nat.lt_succ_self _),HR.out,hl,fun h=>by cases h⟩⟩
      · have e0:(((k4:Nat):Int) == 0)=false:=by rw [beq_eq_false_iff_ne]; omega
        by_cases hk1:k4=1
        · have e1:(((k4:Nat):Int) == 1)=true:=by rw [hk1]; rfl
          clear hk0 hk1;rcases HZ.out with rfl | rfl
          · go_wp2_with fail
            go_meet
            exact ⟨⟨0,vF,x,false,_,[],.inl rfl,(HK.out.set HN.out 4 _).set HN.out 5 _,Own.start _ _,HR.out,by decide,fun _=>rfl⟩⟩
          · have HK5:=Box.mk ((HK.out.set HN.out 4 (.bool true)).set HN.out 5 (.slice none 0 0))
            go_wp2_with fail;generalize (wa.setCell ⟨gr,4,none⟩ (.bool true)).setCell ⟨gr,5,none⟩ (.slice none 0 0)=wq at *;refine (qg0 g 30 a n c wq HK5.out.src (by decide)).mono ?_;rintro e wb ⟨vB,l,rfl,hB,hl,hsrc,hgb⟩;have HKB:=Box.mk (HK5.out.next HN.out hgb hsrc);have HBB:=Box.mk (hB.mono (show gr+1≤wq.heap.size from (Array.getElem?_eq_some_iff.1 HK5.out.row).1));clear hB hsrc hgb HK HK5 hf4 hf5 hc4 hc5 hc2;obtain ⟨sB,cB,hvB,_⟩:=HBB.out.val;subst hvB;have hf5:=frozen_of_row wb gr 5 _ _ HKB.out.row;have hc5:wb.cell? ⟨gr,5,none⟩=some (.slice none 0 0):=by rw [cell_of_row _ _ _ _ _ _ HKB.out.row]; rfl
            go_wp2_with fail;go_meet
            exact ⟨⟨1,vF,x,true,_,l,.inr rfl,HKB.out.set HN.out 5 _,HBB.out.set (Nat.lt_succ_self _),HR.out,hl,fun h=>by cases h⟩⟩
        · have e1:(((k4:Nat):Int) == 1)=false:=by rw [beq_eq_false_iff_ne]; omega
          clear hk0 hk1;go_wp2_with fail;go_meet
          exact ⟨⟨z,vF,x,false,_,[],HZ.out,HK.out,Own.start _ _,HR.out,by decide,fun _=>rfl⟩⟩
     case rest =>
      obtain ⟨z,vF,x,fr,vB,l,h1,hk,hB,hR,hl,hfr⟩:=hcut.out;obtain ⟨sF,cF,hvF,_,_⟩:=hk.own.shape;obtain ⟨sB,cB,hvB,_⟩:=hB.val;subst hvF hvB;have hrow:=hk.row;have hres:=hk.res;have HK2:=Box.mk hk;have HB2:=Box.mk (And.intro hB (And.intro hR (And.intro hl hfr)));have HZ2:=Box.mk h1;clear hk hB hR hl hfr h1 hcut HK HZ HR;go_wp2_with (first | (refine wpList_load_row rfl 29 _ rfl gr rfl 29 _ (0,0) _ hrow Tryz.underlying29 rfl jo ?_) | (refine wpList_store_row rfl 29 _ _ rfl q #[.string m,.string t,.int .i64 z,.slice sF x.length cF,.bool fr,.slice sB l.length cB] rfl rfl 29 _ hres jo rfl (by simp [Value.oneCell']) ?_))
      (try simp only [Exit.inBlock,Exit.then])
      refine bodyPost_ret (results_cell_row rfl _ _ q _ _ _ _ rfl (setRow_heap _ _ _ _ _ _ hres) Tryz.underlying29 rfl jo) rfl ?_;have hnew:=qgb wc q #[.string m,.string t,.int .i64 z,.slice sF x.length cF,.bool fr,.slice sB l.length cB];have hq9:=HQ0.out;have n3:=HN.out.hgr;exact ⟨m,t,z,_,x,fr,_,l,rfl,HNM.out,HTM.out,HZ2.out,(HK2.out.own.grown hnew (fun k hk e=>by have:=(HK2.out.own.lt hk).1; have:=Option.some.inj e; omega)).mono (by omega),(HB2.out.1.grown hnew (fun k hk e=>by have:=(HB2.out.1.lt hk).1; have:=Option.some.inj e; omega)).mono (by omega),
       HB2.out.2.1,HB2.out.2.2.1,HB2.out.2.2.2,HK2.out.src.other hnew (by omega) (fun y e h0=>by have:=HLOW.out y e h0; omega),ku HK2.out.grown hnew (fun i e=>by have:=Option.some.inj e; omega)⟩
end Go.Proofs.YtflhjpokjdjbpaaGreatDoor
namespace Go.Proofs.YtflhjpokjdjbpaaGreatDoor
open Go.RowKit
theorem Own.bytesL {B:Nat} {w:World} {v:Value} {l:List UInt8} (h:Own B w v l):∃ a c,v = .slice a l.length c∧qg w a l c:=h.val
section
variable (line:ByteArray) (b:Option Addr) (n cb:Nat) (at_:Int) (c:UInt8) (wild:Int) (mm:Int) (w:World)
end
end Go.Proofs.YtflhjpokjdjbpaaGreatDoor
namespace Go.Proofs.YtflhjpokjdjbpaaGreatDoor
open Go.RowKit
theorem qgr (c:UInt8):∀ l:List UInt8,¬ c ∈ l→ju c l=[l]
 | [],_=>rfl
 | b :: t,h=>by
  have hb:¬ b=c:=fun e=>h (by rw [e]; exact List.mem_cons_self);have ih:=qgr c t (fun e=>h (List.mem_cons_of_mem _ e));rw [ju,if_neg hb,ih]; rfl
theorem qzy {m:ByteArray} (h:tokS m=true):¬ (32:UInt8) ∈ m.data.toList:=fun e=>by
 unfold tokS at h;rw [Bool.and_eq_true] at h;have:=List.all_eq_true.1 h.1 32 e;revert this; decide +kernel
theorem qxz {t:ByteArray} (h:jx t=true):¬ (32:UInt8) ∈ t.data.toList:=fun e=>by
 unfold jx at h;rw [Bool.and_eq_true] at h;have:=List.all_eq_true.1 h.1 32 e;revert this; decide +kernel
theorem qvd (m t v:ByteArray) (hm:¬ (32:UInt8) ∈ m.data.toList) (ht:¬ (32:UInt8) ∈ t.data.toList) (hv:¬ (32:UInt8) ∈ v.data.toList):jj 32 (m++⟨#[32]⟩++t++⟨#[32]⟩++v)=[m,t,v]:=by
 unfold jj;have e:(m++⟨#[32]⟩++t++⟨#[32]⟩++v).data.toList=m.data.toList++32 :: (t.data.toList++32 :: v.data.toList):=by
  rw [jt,jt,jt,jt];show m.data.toList++[32]++t.data.toList++[32]++v.data.toList=_
  simp
 rw [e,qc6,qc6,qgr 32 _ hm,qgr 32 _ ht,qgr 32 _ hv];simp only [List.map_append,List.map_cons,List.map_nil,jed];rfl
theorem qvt {z:Int} (hz:z=0∨z=1):verZ (qi8 z)=(z,0)∧¬ (32:UInt8) ∈ (qi8 z).data.toList:=by
 rcases hz with rfl | rfl
 · decide +kernel
 · decide +kernel
theorem jca {m t:ByteArray} {z:Int} (hm:tokS m=true) (ht:jx t=true) (hz:z=0∨z=1):qbb (jj 32 (jd m t z))=(some (m,t,z),0):=by
 have h01:0≤z∧z≤1:=by omega
 have e:jd m t z=m++⟨#[32]⟩++t++⟨#[32]⟩++qi8 z:=by
  unfold jd; rw [if_pos ⟨hm,ht,h01⟩];have h:=(qsk h01.1 h01.2).1;rw [ByteArray.append_assoc,← h,← ByteArray.append_assoc]
 obtain ⟨h1,h2⟩:=qvt hz;rw [e,qvd m t _ (qzy hm) (qxz ht) h2,qpn hm ht (by rw [h1]),h1]
theorem and1 (n:Int):∃ z:Int,bits BinOp.and IntKind.i64 n 1=z∧(z=0∨z=1):=by
 have h2:(BitVec.ofInt 64 (1:Int)).toNat=1:=by decide
 have h3:(BitVec.ofInt 64 n).toNat &&& 1≤1:=Nat.and_le_right;have e:bits BinOp.and IntKind.i64 n 1=(((BitVec.ofInt 64 n).toNat &&& 1:Nat):Int):=by
  show IntKind.i64.wrap ((BitVec.ofInt 64 n &&& BitVec.ofInt 64 1).toNat:Int)=_
  rw [BitVec.toNat_and,h2,IntWalk.i64_in _ (by omega)]
 exact ⟨_,e,by omega⟩
theorem qok {w:World} {g:Nat} {o:Obj} (h:w.heap[g]? = some o):g<w.heap.size:=(Array.getElem?_eq_some_iff.1 h).1
section
variable {act:Act} {w:World} {o:Oper} {K:Act→World→Prop} {Q:Exit→Act→World→Prop}
theorem qgg {P:Program} {ty:TypeId} {x y:Operand} (ho:o.op = .store ty x y) {p:Addr} {z:Int} {u:Value} (hx:act.eval x = .pointer (some p)) (hy:act.eval y = .int .i64 z) (hi:(P.info? ty).map (·.size)=some 1)
  (hc:w.cell? p=some u) (hf:w.frozen? p=false) (h:K (act.put o.dst undef) (w.setCell p (.int .i64 z))):o.wp P act w K Q:=by
 have hz:(sizeOf ty).run P w = .ok 1 w:=by
  cases hq:P.info? ty with
  | none=>rw [hq] at hi; cases hi
  | some i=>rw [hq] at hi; simp at hi; simp [sizeOf,typeInfo,hq,hi]
 unfold Oper.wp execOp;simp_all [Instr.storeAt,Instr.sureAddr,storeVar,storeCells,Value.cells,go_sem]
end
section
variable (m t:ByteArray) (z:Int) (fa ba:Option Addr) (fn fc bn bc:Nat) (fr:Bool) (st:Int) (r:ByteArray) (z2:Int) (ga ha:Option Addr) (gn gc hn hc:Nat) (b:Option Addr) (n cb:Nat) (raw:Bool) (mm:Int) (w:World)
end
end Go.Proofs.YtflhjpokjdjbpaaGreatDoor
namespace Go.Proofs.YtflhjpokjdjbpaaGreatDoor
open Go.RowKit
theorem FinJ.cell {w:World} {B:Nat→Prop} {gx gk:Nat} {cs:Array Value} {k l:Int} {f2:Option Addr} {xs:List Fld} {W:World} (h:FinJ w B gx gk cs k l f2 xs W) (i:Nat) (v:Value):FinJ w B gx gk cs k l f2 xs (W.setCell ⟨gx,i,none⟩ v):=by
 obtain ⟨n1,n2,n3⟩:=h.n;exact ⟨(heap_setCell_other W ⟨gx,i,none⟩ _ _ (by show _≠gx; omega)).trans h.r1,(heap_setCell_other W ⟨gx,i,none⟩ _ _ (by show _≠gx; omega)).trans h.r2,(heap_setCell_other W ⟨gx,i,none⟩ _ _ (by show _≠gx; omega)).trans h.r3,(heap_setCell_other W ⟨gx,i,none⟩ _ _ (by show _≠gx; omega)).trans h.fr,
  h.fl.same fun y e=>heap_setCell_other W ⟨gx,i,none⟩ _ _ (by have:=n3 y e; show _≠gx; omega),h.bl.setCell (p:=⟨gx,i,none⟩) (by show _≤gx; omega) _,h.n⟩
theorem RVr.put {w:World} {g i:Nat} {cs:Array Value} {v:Value} (h:RVr w g cs):RVr (w.setCell ⟨g,i,none⟩ v) g (cs.setIfInBounds i v):=heap_setCell_same w g i _ _ _ h
theorem qx {w:World} {g:Nat} {cs:Array Value} {T:TypeId} {fz:Nat × Nat} (h:w.heap[g]? = some (.cells cs T fz)) (hn:∀ (i:Nat) (z:Int),cs[i]? ≠ some (.int .u8 z)) {a:Option Addr} {l:List UInt8} {c:Nat} (hb:qg w a l c):∀ x,a=some x→l≠[]→x.block≠g:=by
 intro x hx hl hg;rcases hb with ⟨h1,_⟩ | ⟨y,h1,_,_,h4⟩
 · rw [h1] at hx; cases hx
 · rw [h1] at hx
   obtain rfl:=Option.some.inj hx;have h5:=h4 0 (List.length_pos_iff.2 hl);have h6:w.heap[(y.add 0).block]? = some (.cells cs T fz):=by rw [qgm,hg]; exact h
   unfold World.cell? at h5;rw [h6] at h5;simp only at h5
   split at h5
   · cases h5
   · exact hn _ _ h5
theorem qw {cs:Array Value} (h:cs.toList.all (fun v=>match v with | .int .u8 _=>false | _=>true)=true):∀ (i:Nat) (z:Int),cs[i]? ≠ some (.int .u8 z):=fun i z e=>by
 have h1:=List.all_eq_true.1 h (.int .u8 z) (by
  have:cs.toList[i]? = some (.int .u8 z):=by rw [Array.getElem?_toList]; exact e
  exact List.mem_of_getElem? this)
 cases h1
def qlz (ops:Array Oper) (st k:Nat):Bool:=(List.range ops.size).any fun i=>!decide (i=st) && ((ops[i]?).bind (·.dst) == some k)
structure FrX (ops:Array Oper) (st:Nat) (a0 a:Act):Prop where
 defers:a.defers=a0.defers
 size:a.tmps.size=a0.tmps.size
 base:∀ k,qlz ops st k=false→a.eval (.tmp k)=a0.eval (.tmp k)
def jfi (P:Program) (Q:Exit→Act→World→Prop) (ops:Array Oper) (S:List Spec) (st:Nat) (a0:Act) (w0:World) (o:Oper) (s:Spec):Prop :=
 ∀ a w,Below w0.heap.size w0 w→FrX ops st a0 a→(∀ j,jh o j=true→qb5 ops S a w j) →
  Region.wanted o (yielded ops a.tmps)=true∧o.wp P a w (fun a' w'=>∃ v,a'=a.put o.dst v∧Below w.heap.size w w'∧s.p v w') Q
def jax (P:Program) (Q:Exit→Act→World→Prop) (ops:Array Oper) (S:List Spec) (st:Nat) (a0:Act) (w0:World):List Nat→Prop
 | i :: r=>(match ops[i]?,S[i]? with | some o,some s=>jfi P Q ops S st a0 w0 o s | _,_=>False)∧jax P Q ops S st a0 w0 r
 | []=>True
def jfc (P:Program) (Q:Exit→Act→World→Prop) (ops:Array Oper) (S:List Spec) (st:Nat) (a0:Act) (w0:World):Prop :=
 match ops[st]? with
 | some o=>∀ a w,Below w0.heap.size w0 w→FrX ops st a0 a→(∀ j,j<ops.size→j≠st→qb5 ops S a w j)→Region.wanted o (yielded ops a.tmps)=true∧o.wp P a w (fun a' w'=>Q .normal a' w') Q
 | none=>False
section
variable {P:Program} {Q:Exit→Act→World→Prop} {ops:Array Oper} {S:List Spec} {a0:Act} {w0:World} {st:Nat}
theorem qra:∀ {l:List Nat},jax P Q ops S st a0 w0 l → ∀ i,i ∈ l → ∀ o,ops[i]? = some o → ∃ s,S[i]? = some s∧jfi P Q ops S st a0 w0 o s
 | i :: r,h,j,hj,o,ho=>by
  rcases List.mem_cons.1 hj with rfl | hj
  · have h1:=h.1
    rw [ho] at h1;cases hs:S[j]? with
    | none=>rw [hs] at h1; exact h1.elim
    | some s=>rw [hs] at h1; exact ⟨s,rfl,h1⟩
  · exact qra h.2 j hj o ho
theorem jf9 {a:Act} {o:Oper} {i:Nat} (ho:ops[i]? = some o) (hi:i≠st) (hf:FrX ops st a0 a) (v:Value):FrX ops st a0 (a.put o.dst v):=by
 refine ⟨?_,?_,fun k hk=>?_⟩
 · have:=hf.defers
   cases o.dst <;> simpa [Act.put] using this
 · have:=hf.size
   cases o.dst <;> simpa [Act.put] using this
 · rw [kh,hf.base k hk]
   intro hk2;have:qlz ops st k=true:=by
    unfold qlz;exact List.any_eq_true.2 ⟨i,List.mem_range.2 (Array.getElem?_eq_some_iff.1 ho).1,by rw [ho]; simp [hi,hk2]⟩
   rw [hk] at this; cases this
theorem qgy {id:Nat} (S:List Spec) (st:Nat) (others:List Nat) (hm:P.follows .mixedOrders=true)
  (hB:(List.range ops.size).all (fun i=>match ops[i]? with | some x=>x.after.all (fun e=>!Region.binds .any e || decide (e.on<i)) | none=>true)=true)
  (hd:qj3 ops a0.tmps.size=true) (hl:jf0 ops st []=true) (hstlt:decide (st<ops.size)=true) (hoth:(List.range ops.size).all (fun i=>decide (i=st) || others.contains i)=true)
  (h:jax P Q ops S st a0 w0 others) (hS:jfc P Q ops S st a0 w0):(Code.region id ops true).wp P Q a0 w0:=by
 have hstlt:=of_decide_eq_true hstlt;have hosto:ops[st]? = some ops[st]:=Array.getElem?_eq_getElem hstlt;unfold jfc at hS;rw [hosto] at hS;simp only at hS;have hwait:∀ i,i<ops.size→i≠st→jh ops[st] i=true:=fun i hi hne=>by
  have:=List.all_eq_true.1 hl i (List.mem_range.2 hi);rw [hosto] at this;simp only [Bool.or_eq_true,decide_eq_true_eq,List.contains_nil,Bool.false_eq_true,or_false] at this;rcases this with h3 | h3
  · exact absurd h3 hne
  · exact h3
 refine qbj hm (fun m a w=>(m.getD st false=false∧FrX ops st a0 a∧Below w0.heap.size w0 w ∧ ∀ j,m.getD j false=true→qb5 ops S a w j) ∨
  (m.getD st false=true∧Q .normal a w ∧ ∀ j,jh ops[st] j=true→m.getD j false=true)) ?_ ?_ ?_
 · rintro m a w hs hh i hi
   obtain ⟨h1,o,ho,hall⟩:=mem_ready.1 hi;have hil:i<ops.size:=(Array.getElem?_eq_some_iff.1 ho).1;have hmi:m.getD i false=false:=by
    have hs':i<m.size:=by rw [hs]; exact hil
    simp [hs'] at h1 ⊢; exact h1
   have hdeps:∀ j,jh o j=true→m.getD j false=true:=fun j hj=>by
    obtain ⟨e,he,h2⟩:=List.any_eq_true.1 hj;simp only [Bool.and_eq_true,beq_iff_eq] at h2;obtain ⟨h3,rfl⟩:=h2;exact hall e (Array.mem_toList_iff.1 he) h3
   unfold wpOp;simp only [ho];by_cases hist:i=st
   · subst hist
     have hoe:o=ops[i]:=Option.some.inj (ho.symm.trans hosto);subst hoe;rcases hh with ⟨_,hf,hb,hh⟩ | ⟨h2,_⟩
     · obtain ⟨hw,hwp⟩:=hS a w hb hf fun j hj hne=>hh j (hdeps j (hwait j hj hne))
       rw [if_pos hw];refine .inl (Oper.wp_mono ?_ hwp);intro a' w' hq;have hsz:i<m.size:=by rw [hs]; exact hil
       exact .inr ⟨by simp [hsz],hq,fun j hj=>getD_set_true (hdeps j hj)⟩
     · rw [hmi] at h2; cases h2
   · have hmem:i ∈ others:=by
      have:=List.all_eq_true.1 hoth i (List.mem_range.2 hil);simp only [Bool.or_eq_true,decide_eq_true_eq,List.contains_iff_mem] at this;rcases this with h | h
      · exact absurd h hist
      · exact h
     rcases hh with ⟨h2,hf,hb,hh⟩ | ⟨h2,hp,hall2⟩
     · obtain ⟨s,hsi,hstep⟩:=qra h i hmem o ho
       obtain ⟨hw,hwp⟩:=hstep a w hb hf fun j hj=>hh j (hdeps j hj);rw [if_pos hw];refine .inl (Oper.wp_mono ?_ hwp);rintro a' w' ⟨v,rfl,hb',hsp⟩;refine .inl ⟨by rw [getD_set_ne false hist]; exact h2,jf9 ho hist hf v,hb.trans (hb'.mono hb.size),fun j hj=>?_⟩;by_cases hji:j=i
       · subst hji
         unfold qb5;simp only [ho,hsi];cases hdo:o.dst with
         | none=>trivial
         | some d =>
          show s.p ((a.put (some d) v).eval (.tmp d)) w'
          rw [kv]
          · exact hsp
          · rw [hf.size]; exact (qc4 hd ho hdo).1
       · have hj':m.getD j false=true:=by rw [getD_set_ne false (fun e=>hji e.symm)] at hj; exact hj
         exact qdu hd ho hji (qdi (hh j hj') hb')
     · have:=hall2 i (hwait i hil hist)
       rw [hmi] at this; cases this
 · rintro m a w hs hh hr
   have hmarked:∀ j,j<ops.size→m.getD j false=true:=fun j=>by
    induction j using Nat.strongRecOn with
    | _ j ih =>
     intro hj;cases hmj:m.getD j false with
     | true=>rfl
     | false =>
      exfalso
      have hoj:ops[j]? = some ops[j]:=Array.getElem?_eq_getElem hj;have hbk:=List.all_eq_true.1 hB j (List.mem_range.2 hj);rw [hoj] at hbk;simp only [Array.all_eq_true_iff_forall_mem,Bool.or_eq_true,Bool.not_eq_true',decide_eq_true_eq] at hbk;have hlt:∀ e ∈ ops[j].after,Region.binds .any e=true→e.on<j:=fun e he hbd=>by
       rcases hbk e he with h | h
       · rw [hbd] at h; cases h
       · exact h
      have:j ∈ Region.ready .any ops m:=mem_ready.2 ⟨by
       have hs':j<m.size:=by rw [hs]; exact hj
       simp [hs'] at hmj ⊢; exact hmj,ops[j],hoj,fun e he hbd=>ih _ (hlt e he hbd) (by have:=hlt e he hbd; omega)⟩
      rw [hr] at this; cases this
   rcases hh with ⟨h2,_⟩ | ⟨_,hp,_⟩
   · rw [hmarked st hstlt] at h2; cases h2
   · exact hp
 · refine .inl ⟨?_,⟨rfl,rfl,fun _ _=>rfl⟩,(Below.refl _ _).drew,fun j hj=>?_⟩
   · simp only [Array.getD_eq_getD_getElem?,Array.getElem?_replicate]; split <;> rfl
   · exfalso
     simp only [Array.getD_eq_getD_getElem?,Array.getElem?_replicate] at hj
     split at hj <;> simp at hj
theorem qp8 {a:Act} (l:List Oper) (hl:∀ k,qlz ops st k=true→(l.any fun o=>o.dst == some k)=true) (h:FrX ops st a0 a):a=kg a l a0:=by
 have h1:=qhp a l a0;have h2:=qex a l a0;have h3:∀ k,(kg a l a0).eval (.tmp k)=a.eval (.tmp k):=fun k=>qha a k _ _ h.size.symm (by
  cases hk:qlz ops st k with
  | true=>exact .inr (hl k hk)
  | false=>exact .inl (h.base k hk).symm)
 generalize kg a l a0=p at *;rw [qx3 (a:=a) (a0:=a0) h.size h.defers,qx3 (a:=p) (a0:=a0) h1 h2];congr 2;exact List.map_congr_left fun k _=>(h3 k).symm
theorem qlx {n:Nat} (hst:st=n) (hsz:ops.size=n+1):∀ k,qlz ops st k=true→((ops.toList.take n).any fun o=>o.dst == some k)=true:=fun k hk=>by
 unfold qlz at hk;obtain ⟨i,hi,h⟩:=List.any_eq_true.1 hk;simp only [Bool.and_eq_true,Bool.not_eq_true',decide_eq_false_iff_not,beq_iff_eq] at h;have hil:=List.mem_range.1 hi;have hin:i<n:=by omega
 have ho:ops[i]? = some ops[i]:=Array.getElem?_eq_getElem hil;rw [ho] at h;refine List.any_eq_true.2 ⟨ops[i],?_,by simpa using h.2⟩;have:(ops.toList.take n)[i]? = some ops[i]:=by rw [List.getElem?_take_of_lt hin]; simp
 exact List.mem_of_getElem? this
theorem qlf {a:Act} {w:World} {o:Oper} {x:Operand} (hg:o.guard=none) (ho:o.op = .assign x) (h:Q .normal (a.put o.dst (a.eval x)) w) :
  Region.wanted o (yielded ops a.tmps)=true∧o.wp P a w (fun a' w'=>Q .normal a' w') Q:=by
 refine ⟨qb hg,?_⟩;unfold Oper.wp;rw [show (execOp a.eval o).run P w = .ok (.value (a.eval x)) w by unfold execOp; rw [ho]; rfl];exact h
end
end Go.Proofs.YtflhjpokjdjbpaaGreatDoor
namespace Go.Proofs.YtflhjpokjdjbpaaGreatDoor
open Go.ChangeShapes Go.WideShapes Go.ChangeAt Go.RowKit
def quu (w:World) (a:Option Addr) (ls:List (List UInt8)):Prop :=
 ∀ j (hj:j<ls.length),∃ x ba bc,a=some x∧w.cell? (x.add j)=some (.slice ba ls[j].length bc)∧qg w ba ls[j] bc
theorem quu.keep {w w':World} {a:Option Addr} {ls:List (List UInt8)} (h:quu w a ls) (hb:Below w.heap.size w w'):quu w' a ls:=fun j hj=>by
 obtain ⟨x,ba,bc,h1,h2,h3⟩:=h j hj;exact ⟨x,ba,bc,h1,qp hb h2,h3.keep hb⟩
theorem qeg (w:World) (cs:Array Value) (t:TypeId) (fr:Nat × Nat) (j:Nat):(w.alloc (.cells cs t fr)).cell? ⟨w.heap.size,j,none⟩=cs[j]? :=
 cell_of_row _ _ _ _ _ _ (heap_alloc_new w (.cells cs t fr))
theorem qi5 (w:World) (o:Obj):Below w.heap.size w (w.alloc o):=(Below.refl _ _).alloc (Nat.le_refl _) _
theorem qry {w:World} {a:Option Addr} {l:List UInt8} {c:Nat} (h:qg w a l c) (t:TypeId) (fr:Nat × Nat) :
  quu (w.alloc (.cells #[.slice a l.length c] t fr)) (some ⟨w.heap.size,0,none⟩) [l]:=fun j hj=>by
 obtain rfl:j=0:=by simpa using hj
 refine ⟨_,a,c,rfl,?_,h.keep (qi5 _ _)⟩;rw [Addr.add_lit,Nat.zero_add,qeg]; rfl
theorem qt2 {w:World} {a b:Option Addr} {l k:List UInt8} {c d:Nat} (h:qg w a l c) (h2:qg w b k d) (t:TypeId) (fr:Nat × Nat) :
  quu (w.alloc (.cells #[.slice a l.length c,.slice b k.length d] t fr)) (some ⟨w.heap.size,0,none⟩) [l,k]:=fun j hj=>by
 have hj':j<2:=by simpa using hj
 match j,hj' with
 | 0,_ =>
  refine ⟨_,a,c,rfl,?_,h.keep (qi5 _ _)⟩;rw [Addr.add_lit,Nat.zero_add,qeg]; rfl
 | 1,_ =>
  refine ⟨_,b,d,rfl,?_,h2.keep (qi5 _ _)⟩;rw [Addr.add_lit,Nat.zero_add,qeg]; rfl
def SlcV (w:World) (v:Value) (ls:List (List UInt8)):Prop:=∃ a c,v = .slice a ls.length c∧quu w a ls
theorem SlcV.keep {w w':World} {v:Value} {ls:List (List UInt8)} (h:SlcV w v ls) (hb:Below w.heap.size w w'):SlcV w' v ls:=by
 obtain ⟨a,c,h1,h2⟩:=h;exact ⟨a,c,h1,h2.keep hb⟩
def Spec.slc (ls:List (List UInt8)):Spec:=⟨fun v w=>SlcV w v ls,fun _ _ _ h hb=>h.keep hb⟩
section
variable {Q:Exit→Act→World→Prop} {a:Act} {w:World} {o:Oper} {s:Spec}
theorem Tryz.info23:(Tryz.prog.info? 23).map (fun i=>(i.zero,i.size,i.bytes))=some (some (.slice none 0 0),1,24):=by kernel_rfl
theorem qky (W:World) (a b:Option Addr) (n m c d:Nat) :
  (Instr.buildSlice 80 2 #[(0,.slice a n c),(1,.slice b m d)]).run Tryz.prog W = .ok (.slice (some ⟨W.heap.size,0,none⟩) 2 2) (W.alloc (.cells #[.slice a n c,.slice b m d] 23)):=by
 obtain ⟨i0,hi,hz0,hz1,hz2⟩:=info_parts Tryz.info23;exact run_buildSlice W 80 23 2 _ _ i0 _ Tryz.underlying80 hi hz0 (by rw [hz1]; decide) (by rw [hz1]; decide) (by rw [hz1]; simp [Instr.fill,Value.cells,Array.range_succ,show Array.range 0=#[] from rfl])
theorem qvi {x y:Operand} (ho:o.op = .buildSlice 80 2 #[(0,x),(1,y)]) {l k:List UInt8} (hx:qcf w (a.eval x) l) (hy:qcf w (a.eval y) k) (hs:∀ v w',SlcV w' v [l,k]→s.p v w') :
  o.wp Tryz.prog a w (fun a' w'=>∃ v,a'=a.put o.dst v∧Below w.heap.size w w'∧s.p v w') Q:=by
 obtain ⟨xa,xc,hx1,hx2⟩:=hx;obtain ⟨ya,yc,hy1,hy2⟩:=hy;have hrun:=qky w xa ya l.length k.length xc yc;refine j0 (v:=.slice (some ⟨w.heap.size,0,none⟩) 2 2) (w':=w.alloc (.cells #[.slice xa l.length xc,.slice ya k.length yc] 23)) ?_ (qi5 _ _) (hs _ _ ⟨_,2,rfl,qt2 hx2 hy2 _ _⟩);unfold execOp;simp only [ho,List.map_toArray,List.map_cons,List.map_nil,hx1,hy1];rw [Sem.run_bind,hrun]; rfl
end
end Go.Proofs.YtflhjpokjdjbpaaGreatDoor
namespace Go.Proofs.YtflhjpokjdjbpaaGreatDoor
open Go.RowKit
def qfp:ByteArray:=⟨#[13,10]⟩
def endB:ByteArray:=⟨#[48,13,10,13,10]⟩
def qe0 (s:ByteArray) (l:List UInt8):ByteArray:=if l.length=0 then s else s++fmtS 16 l.length++qfp++⟨l.toArray⟩++qfp
def qkr (s:ByteArray) (ls:List (List UInt8)):ByteArray:=ls.foldl qe0 s
def qcq (ls:List (List UInt8)):List UInt8:=(qkr ⟨#[]⟩ ls++endB).data.toList
theorem qy0 {ls:List (List UInt8)} {k:Nat} (hk:k<ls.length):qkr ⟨#[]⟩ (ls.take (k+1))=qe0 (qkr ⟨#[]⟩ (ls.take k)) ls[k]:=by
 unfold qkr;rw [List.take_succ_eq_append_getElem hk,List.foldl_append]; rfl
theorem que (s:ByteArray) {l:List UInt8} (hl:l.length≤1000000):(qe0 s l).size≤s.size+1000068:=by
 unfold qe0
 split
 · omega
 · have h1:=qiy (b:=16) (by decide) (l.length:Int) (by omega)
   simp only [ByteArray.size_append];have h2:(⟨l.toArray⟩ : ByteArray).size=l.length:=by show l.toArray.size=_; simp
   have h3:qfp.size=2:=rfl;omega
theorem qy4 (ls:List (List UInt8)) (hl:∀ l ∈ ls,l.length≤1000000):∀ s:ByteArray,(qkr s ls).size≤s.size+ls.length*1000068:=by
 induction ls with
 | nil=>intro s; show s.size≤_; simp
 | cons l r ih =>
  intro s;have h1:=ih (fun x hx=>hl x (List.mem_cons_of_mem _ hx)) (qe0 s l);have h2:=que s (hl l (by simp));show (qkr (qe0 s l) r).size≤_
  rw [List.length_cons,Nat.add_mul];omega
theorem qkz (w:World) (e:TypeId) (s:ByteArray):Below w.heap.size w (Lib.bytesWorld w e s) :=
 ⟨rfl,rfl,rfl,by rw [Lib.bytesWorld_size]; omega,fun k hk=>Lib.bytesWorld_at_old w e s k hk⟩
theorem qio (w:World) (s:ByteArray) (hs:s.size≤4000000000):qg (Lib.bytesWorld w 5 s) (some ⟨w.heap.size,0,none⟩) s.data.toList (grownCap w s.size 0 5):=by
 refine .inr ⟨_,rfl,?_,?_,fun j hj=>?_⟩
 · have:=grownCap_ge w s.size 0 5
   simpa using this
 · exact grownCap_le_maxLen w s.size 0 5 (by unfold maxLen; omega)
 · have hj':j<s.size:=by simpa using hj
   rw [Addr.add_lit,Nat.zero_add,Lib.bytesWorld_cell w 5 s j hj'];simp [List.getD_eq_getElem?_getD,List.getElem?_eq_getElem hj]
theorem ql2 (w:World):(isAgg 23).run Tryz.prog w = .ok false w:=by
 unfold isAgg; rw [Sem.run_bind,run_underlying Tryz.underlying23 w]; rfl
section
variable {Q:Exit→Act→World→Prop} {act:Act} {w:World} {o:Oper} {s:Spec}
theorem qi6 {x y:Operand} (ho:o.op = .indexAddr 80 x y) {ad:Addr} {n c k:Nat} (hx:act.eval x = .slice (some ad) n c) (hy:act.eval y = .int .i64 k) (hk:k<n) (hs:s.p (.pointer (some (ad.add k))) w) :
  o.wp Tryz.prog act w (fun a' w'=>∃ v,a'=act.put o.dst v∧Below w.heap.size w w'∧s.p v w') Q :=
 j0 (v:=.pointer (some (ad.add k))) (by
  have es:(sizeOf (Tryz.prog.elem 80)).run Tryz.prog w = .ok 1 w:=by
   rw [show Tryz.prog.elem 80=23 by kernel_rfl];have h:(Tryz.prog.info? 23).map (·.size)=some 1:=by kernel_rfl
   cases hq:Tryz.prog.info? 23 with
   | none=>rw [hq] at h; cases h
   | some i=>rw [hq] at h; simp at h; simp [sizeOf,typeInfo,hq,h]
  have h:=run_indexAt_slice (P:=Tryz.prog) (w:=w) 80 ad n c .i64 (k:Int) (by kernel_rfl);rw [if_pos ⟨by omega,by omega⟩,es] at h;simp only [Result.andThen,Int.toNat_natCast,Nat.mul_one] at h;unfold execOp;simp only [ho,hx,hy,Sem.run_bind,h,Result.andThen_ok,Sem.run_pure]) (Below.refl _ _) hs
end
theorem qi7 (ls:List (List UInt8)) (a:Option Addr) (c:Nat) (w:World) (h:quu w a ls) (hn:ls.length≤1000) (hl:∀ l ∈ ls,l.length≤1000000) :
  Calls Tryz.prog 32 #[.slice a ls.length c] w fun e w'=>∃ ra rl rc,rl=qcq ls∧e = .returned (.slice ra (List.length rl) rc)∧qg w' ra rl rc∧Below w.heap.size w w':=by
 have H0:=Box.mk h;have HL:=Box.mk hl;have HSZ:=Box.mk (fun k=>qy4 (ls.take k) (fun l hl2=>hl l (List.mem_of_mem_take hl2)) ⟨#[]⟩);clear h hl;go_enter Tryz.func32,Tryz.ntmps32
 go_wp2_with fail;go_loopw [3,4] (fun v iv wr=>∃ k:Nat,k≤ls.length∧iv = .int .i64 k ∧ ∃ s:ByteArray,v = .string s∧Box (s=qkr ⟨#[]⟩ (ls.take k)∧Below w.heap.size w wr)) (fun _ iv _=>ls.length-(intOf iv).toNat)
 case atStart=>exact ⟨0,Nat.zero_le _,rfl,⟨#[]⟩,rfl,⟨rfl,Below.refl _ _⟩⟩
 case round =>
  obtain ⟨k,hk,rfl,s0,rfl,HM⟩:=hrel;have hsz:s0.size≤1000068000:=by
   have h1:=HSZ.out k;rw [← HM.out.1] at h1;have h2:(ls.take k).length≤1000:=by rw [List.length_take]; omega
   have h3:(⟨#[]⟩ : ByteArray).size=0:=rfl;omega
  by_cases hlt:k<ls.length
  · obtain ⟨ad,ba,bc,rfl,hc1,hby⟩:=(H0.out.keep HM.out.2) k hlt
    have HTK:=Box.mk (show qkr ⟨#[]⟩ (ls.take (k+1))=qe0 s0 ls[k] by rw [qy0 hlt,← HM.out.1]);have hll:=HL.out _ (List.getElem_mem hlt);generalize ls[k]=y at *;have HBY:=Box.mk hby;clear hby;by_cases hy:y.length=0
    · have HS1:=Box.mk (show qkr ⟨#[]⟩ (ls.take (k+1))=s0 by rw [HTK.out]; unfold qe0; rw [if_pos hy])
      have hy0:¬ 0<y.length:=by omega
      clear hy HTK;go_wp2_with fail;go_roundw
      case rel=>exact ⟨k+1,by omega,by go_num,s0,rfl,⟨HS1.out.symm,HM.out.2⟩⟩
      case measure=>simp [intOf]; omega
    · have HS1:=Box.mk (show qkr ⟨#[]⟩ (ls.take (k+1))=s0++fmtS 16 y.length++qfp++⟨y.toArray⟩++qfp by rw [HTK.out]; unfold qe0; rw [if_neg hy])
      have hy0:0<y.length:=by omega
      have hfs:=qiy (b:=16) (by decide) (y.length:Int) (by omega);clear hy HTK;go_wp2_with fail;rename_i K hK;have HB:=Box.mk HM.out.2;clear HM;generalize hfx:fmtS 16 (y.length:Int)=fx at *;have HFX:=Box.mk hfx;clear hfx;have hz1:(s0++fx).size≤1000069000:=by rw [ByteArray.size_append]; omega
      have hz2:(s0++fx++qfp).size≤1000069002:=by rw [ByteArray.size_append]; show _+2≤_; omega
      have hz3:(⟨y.toArray⟩ : ByteArray).size≤1000000:=by show y.toArray.size≤_; simp; omega
      have hz4:(s0++fx++qfp++⟨y.toArray⟩).size≤1001069002:=by rw [ByteArray.size_append]; omega
      refine qgy [.val (.string s0),.val (.slice (some ad) ls.length c),.val (.int .i64 k),.val (.pointer (some (ad.add k))),.val (.slice ba y.length bc),.val (.int .i64 y.length),.val (.string fx),.val (.string (s0++fx)),.val (.string (s0++fx++qfp)),.val (.slice (some ad) ls.length c),.val (.int .i64 k),.val (.pointer (some (ad.add k))),.val (.slice ba y.length bc),.val (.string ⟨y.toArray⟩),.val (.string (s0++fx++qfp++⟨y.toArray⟩)),.val (.string (s0++fx++qfp++⟨y.toArray⟩++qfp)),.any]
       16 [0,1,2,3,4,5,6,7,8,9,10,11,12,13,14,15] (by kernel_rfl) (by kernel_rfl) (by kernel_rfl) (by kernel_rfl) (by kernel_rfl) (by kernel_rfl) ?_ ?_
      · refine ⟨?_,?_,?_,?_,?_,?_,?_,?_,?_,?_,?_,?_,?_,?_,?_,?_,trivial⟩ <;> intro a1 w1 hv hf hd
        · exact ⟨qb rfl,qi rfl (hf.base 3 rfl)⟩
        · exact ⟨qb rfl,qi rfl (hf.base 0 rfl)⟩
        · exact ⟨qb rfl,qi rfl (hf.base 4 rfl)⟩
        · exact ⟨qb rfl,qi6 rfl (hd 1 rfl) (hd 2 rfl) hlt rfl⟩
        · exact ⟨qb rfl,qmt rfl (hd 3 rfl) (qp hv hc1) (ql2 _) rfl⟩
        · exact ⟨qb rfl,qqr rfl (hd 4 rfl) rfl⟩
        · refine ⟨qb rfl,jz rfl (by kernel_rfl) ?_⟩
          show Calls _ _ #[a1.eval (.tmp 22)] w1 _
          rw [show a1.eval (.tmp 22)=_ from hd 5 rfl];refine (qor y.length w1 (by omega) (by omega)).mono ?_;rintro e w' ⟨rfl,hb'⟩;exact ⟨_,rfl,hb',by rw [HFX.out]; rfl⟩
        · exact ⟨qb rfl,qb8 rfl (hd 0 rfl) (hd 6 rfl) (by omega) rfl⟩
        · exact ⟨qb rfl,qb8 rfl (hd 7 rfl) (c:=qfp) rfl (by show _+2≤_; omega) rfl⟩
        · exact ⟨qb rfl,qi rfl (hf.base 0 rfl)⟩
        · exact ⟨qb rfl,qi rfl (hf.base 4 rfl)⟩
        · exact ⟨qb rfl,qi6 rfl (hd 9 rfl) (hd 10 rfl) hlt rfl⟩
        · exact ⟨qb rfl,qmt rfl (hd 11 rfl) (qp hv hc1) (ql2 _) rfl⟩
        · exact ⟨qb rfl,qj6 rfl (by rw [show a1.eval (.tmp 29)=_ from hd 12 rfl]; exact ⟨ba,bc,rfl,HBY.out.keep hv⟩) rfl⟩
        · exact ⟨qb rfl,qb8 rfl (hd 8 rfl) (hd 13 rfl) (by omega) rfl⟩
        · exact ⟨qb rfl,qb8 rfl (hd 14 rfl) (c:=qfp) rfl (by show _+2≤_; omega) rfl⟩
      · intro a1 w1 hv hf hh
        have e32:a1.eval (.tmp 32) = .string (s0++fx++qfp++⟨y.toArray⟩++qfp):=hh 15 (by decide) (by decide);refine qlf rfl rfl ?_;rw [show a1.eval (.tmp 32)=_ from e32];refine hK _ w1 ?_;rw [qp8 _ (qlx (n:=16) rfl rfl) hf];clear hf hh e32;simp only [List.take_succ_cons,List.take_zero,kg];generalize a1.eval (.tmp 17)=t17;generalize a1.eval (.tmp 18)=t18;generalize a1.eval (.tmp 19)=t19;generalize a1.eval (.tmp 20)=t20;generalize a1.eval (.tmp 21)=t21;generalize a1.eval (.tmp 22)=t22;generalize a1.eval (.tmp 23)=t23;generalize a1.eval (.tmp 24)=t24;generalize a1.eval (.tmp 25)=t25;generalize a1.eval (.tmp 26)=t26;generalize a1.eval (.tmp 27)=t27;generalize a1.eval (.tmp 28)=t28;generalize a1.eval (.tmp 29)=t29;generalize a1.eval (.tmp 30)=t30;generalize a1.eval (.tmp 31)=t31;generalize a1.eval (.tmp 32)=t32;clear a1;simp only [Act.put,List.setIfInBounds_toArray,List.set_cons_succ,List.set_cons_zero];have HB1:=Box.mk (qe HB.out hv);clear hv;generalize hw0:s0++fx++qfp++⟨y.toArray⟩++qfp=s1;rw [hw0] at HS1;have HW0:=Box.mk hw0;clear hw0;go_wp2_with fail;go_roundw
        case rel=>exact ⟨k+1,by omega,by go_num,s1,rfl,⟨HS1.out.symm,HB1.out⟩⟩
        case measure=>simp [intOf]; omega
  · have HP:=Box.mk (show (s0++endB).data.toList=qcq ls by unfold qcq; rw [HM.out.1,List.take_of_length_le (by omega)])
    have HB:=Box.mk HM.out.2;clear HM;have hse:(s0++endB).size≤1000068005:=by rw [ByteArray.size_append]; show _+5≤_; omega
    have hcv:=Lib.run_convert_string_bytes (P:=Tryz.prog) wr 9 23 5 (s0++endB) Tryz.underlying9 Tryz.underlying23 Tryz.underlying5;have HBY:=Box.mk (qio wr (s0++endB) (by omega));have HB2:=Box.mk (qe HB.out (qkz wr 5 (s0++endB)));have HLN:=Box.mk (show s0.size+5=(qcq ls).length by
     have h1:(s0++endB).size=s0.size+5:=by rw [ByteArray.size_append]; rfl
     rw [← h1,← HP.out]; simp)
    rw [HP.out] at HBY;unfold endB at hcv HBY HB2;generalize Lib.bytesWorld wr 5 (s0++⟨#[48,13,10,13,10]⟩)=W9 at *;generalize grownCap wr (s0++⟨#[48,13,10,13,10]⟩ : ByteArray).size 0 5=cp at *;go_wp2_with fail;go_ret;exact ⟨_,qcq ls,cp,rfl,by rw [← HLN.out]; rfl,HBY.out,HB2.out⟩
end Go.Proofs.YtflhjpokjdjbpaaGreatDoor
namespace Go.Proofs.YtflhjpokjdjbpaaGreatDoor
open Go.RowKit
def ja5 (s:Chk):Chk:=⟨if s.left-1=0 then 2 else 1,s.left-1,s.tr,s.line⟩
def qc0:Chk→List UInt8→Nat→List UInt8→Int × Chk × List UInt8 × Nat
 | s,out,i,[]=>(0,s,out,i)
 | s,out,i,x :: r =>
  if s.ph=4 then (0,s,out,i)
  else if s.ph=1 then qc0 (ja5 s) (out++[x]) (i+1) r
  else if (qat s x).1=0 then qc0 (qat s x).2 out (i+1) r
  else ((qat s x).1,zeroC,[],0)
theorem qy3 {s:Chk} (h:s.ph=4) (out:List UInt8) (i:Nat) (l:List UInt8):qc0 s out i l=(0,s,out,i):=by
 cases l with
 | nil=>rfl
 | cons x r=>rw [qc0,if_pos h]
theorem qjs {s:Chk} (h:s.ph=1) (out:List UInt8) (i:Nat) (x:UInt8) (r:List UInt8):qc0 s out i (x :: r)=qc0 (ja5 s) (out++[x]) (i+1) r:=by
 rw [qc0,if_neg (by omega),if_pos h]
theorem ql1 {s:Chk} {x:UInt8} (h4:¬ s.ph=4) (h1:¬ s.ph=1) (h0:(qat s x).1=0) (out:List UInt8) (i:Nat) (r:List UInt8):qc0 s out i (x :: r)=qc0 (qat s x).2 out (i+1) r:=by
 rw [qc0,if_neg h4,if_neg h1,if_pos h0]
theorem qhd (q:List UInt8) (room:Int):∀ (p:List UInt8) (s:Chk) (o:List UInt8) (k:Nat) (out:List UInt8) (i:Nat),(jp room s o k p).1=0 →
  ∃ d m,(jp room s o k p).2.2.1=o++d∧(jp room s o k p).2.2.2=k+m∧m≤p.length∧d.length≤m∧qc0 s out i (p++q)=qc0 (jp room s o k p).2.1 (out++d) (i+m) ((p++q).drop m)
 | [],s,o,k,out,i,_=>⟨[],0,by rw [qmd]; simp,by rw [qmd]; simp,Nat.le_refl _,Nat.le_refl _,by rw [qmd]; simp⟩
 | x :: p,s,o,k,out,i,h=>by
  by_cases hs:s.ph=4∨s.ph=1∧room≤o.length
  · rw [qcj hs] at h ⊢
    exact ⟨[],0,by simp,by simp,Nat.zero_le _,Nat.le_refl _,by simp⟩
  · have h4:¬ s.ph=4:=fun e=>hs (.inl e)
    by_cases h1:s.ph=1
    · have hr:¬ room≤o.length:=fun e=>hs (.inr ⟨h1,e⟩)
      rw [qdl h1 hr] at h ⊢;obtain ⟨d,m,e1,e2,e3,e4,e5⟩:=qhd q room p _ _ _ (out++[x]) (i+1) h;refine ⟨x :: d,m+1,by rw [e1]; simp,by rw [e2]; omega,by simp; omega,by simp; omega,?_⟩;rw [List.cons_append,qjs h1];unfold ja5;rw [e5,List.drop_succ_cons,List.append_assoc,List.singleton_append,show i+1+m=i+(m+1) by omega]
    · by_cases h0:(qat s x).1=0
      · rw [qi9 h4 h1 h0] at h ⊢
        obtain ⟨d,m,e1,e2,e3,e4,e5⟩:=qhd q room p _ _ _ out (i+1) h;refine ⟨d,m+1,e1,by rw [e2]; omega,by simp; omega,by omega,?_⟩;rw [List.cons_append,ql1 h4 h1 h0,e5,List.drop_succ_cons,show i+1+m=i+(m+1) by omega]
      · rw [qge h4 h1 h0] at h
        exact absurd h h0
theorem qmy (room:Int):∀ (p:List UInt8) (s:Chk) (o:List UInt8) (k:Nat),OkC s→(jp room s o k p).1=0→OkC (jp room s o k p).2.1
 | [],s,o,k,hs,_=>hs
 | x :: p,s,o,k,hs,h=>by
  by_cases hst:s.ph=4∨s.ph=1∧room≤o.length
  · rw [qcj hst]; exact hs
  · have h4:¬ s.ph=4:=fun e=>hst (.inl e)
    by_cases h1:s.ph=1
    · have hr:¬ room≤o.length:=fun e=>hst (.inr ⟨h1,e⟩)
      rw [qdl h1 hr] at h ⊢;exact qmy room p _ _ _ (qwv hs h1) h
    · by_cases h0:(qat s x).1=0
      · rw [qi9 h4 h1 h0] at h ⊢
        exact qmy room p _ _ _ (qqa hs h1 h4 h0) h
      · rw [qge h4 h1 h0] at h
        exact absurd h h0
theorem qpp (s:ByteArray):0≤(qo 10 1000000000 s).1∧(qo 10 1000000000 s).1≤1000000000∧((qo 10 1000000000 s).2=0∨(qo 10 1000000000 s).2=2∨(qo 10 1000000000 s).2=3):=by
 unfold qo
 split
 · rename_i h
   have hne:s.data.toList≠[]:=by
    intro e;unfold numS at h;rw [e] at h; simp at h
   have h1:=qwn 10 (by decide) s.data.toList 0 (by decide);rw [qsv 10 1000000000 (by decide) _ 0 (by decide) (.inr hne)]
   split
   · exact ⟨h1,by assumption,.inl rfl⟩
   · exact ⟨by decide,by decide,.inr (.inr rfl)⟩
 · exact ⟨by decide,by decide,.inr (.inl rfl)⟩
theorem qgh (v:Int) (l:List Fld) (k0:Int):((j3 v l k0).2.2=0∧((j3 v l k0).1=k0∧(j3 v l k0).2.1=0∨(j3 v l k0).1=3∧(j3 v l k0).2.1=0∨(j3 v l k0).1=2∧0≤(j3 v l k0).2.1∧(j3 v l k0).2.1≤1000000000))∨(¬ (j3 v l k0).2.2=0∧(j3 v l k0).1=0∧(j3 v l k0).2.1=0):=by
 unfold j3
 split
 · split
   · exact .inr ⟨by decide,rfl,rfl⟩
   · exact .inl ⟨rfl,.inr (.inl ⟨rfl,rfl⟩)⟩
 · split
   · exact .inl ⟨rfl,.inl ⟨rfl,rfl⟩⟩
   · rename_i y r _
     split
     · exact .inr ⟨by decide,rfl,rfl⟩
     · split
       · have h:=qpp y
         exact .inl ⟨rfl,.inr (.inr ⟨rfl,h.1,h.2.1⟩)⟩
       · rename_i h0
         exact .inr ⟨h0,rfl,rfl⟩
theorem qka (m:ByteArray) (st v:Int) (l:List Fld):((kq m st v l).2.2=0∧((kq m st v l).1=1∧(kq m st v l).2.1=0∨(kq m st v l).1=4∧(kq m st v l).2.1=0∨(kq m st v l).1=3∧(kq m st v l).2.1=0∨(kq m st v l).1=2∧0≤(kq m st v l).2.1∧(kq m st v l).2.1≤1000000000))∨(¬ (kq m st v l).2.2=0∧(kq m st v l).1=0∧(kq m st v l).2.1=0):=by
 unfold kq
 split
 · exact .inl ⟨rfl,.inl ⟨rfl,rfl⟩⟩
 · rcases qgh v l 4 with ⟨h1,h2⟩ | h
   · exact .inl ⟨h1,.inr h2⟩
   · exact .inr h
structure OkN (body:Int) (s:RS):Prop where
 ok:OkR s
 ph:s.ph=0∨s.ph=1∨s.ph=2
 k1:s.ph=1→s.fk=1∨s.fk=2∨s.fk=3∨s.fk=4
 n1:s.ph=1→s.fk=1→s.left=0
 sz:s.ph=1→s.size≤body
 lf:s.ph=1→s.fk=2→s.left+s.size≤body
theorem qk1 (b:List UInt8) (most:Int):endS b most=(0,4)∨endS b most=(0,3) ∨ ∃ n:Nat,endS b most=((n:Int),0)∧4≤n∧n≤b.length:=by
 by_cases h:(endS b most).2=0
 · obtain ⟨n,h1,h2⟩:=qzz h
   exact .inr (.inr ⟨n,h1,h2⟩)
 · unfold endS at h ⊢
   split at h
   · exact absurd rfl h
   · rename_i hc
     rw [if_neg hc] at *
     split
     · exact .inr (.inl rfl)
     · exact .inl rfl
theorem jaw:OkR zeroR:=⟨qq0,fun h=>absurd h (by decide),by decide,⟨fun f hf=>absurd hf (by simp [zeroR]),by decide⟩,⟨fun f hf=>absurd hf (by simp [zeroR]),by decide⟩⟩
theorem qbt (a b:Int):minI a b≤a∧minI a b≤b∧(minI a b=a∨minI a b=b):=by
 unfold minI; split <;> refine ⟨by omega,by omega,?_⟩ <;> simp
theorem qe7 {l:List Fld} (h:qbe l):qa6 l:=fun f hf=>⟨Nat.le_trans (h f hf).1 (by decide),Nat.le_trans (h f hf).2 (by decide)⟩
theorem jac {x:RS} {f:Int × Int × Int} {n:Nat} {body:Int} (hb0:0≤body∧body≤1000000000) (hxs:qa6 x.xs∧x.xs.length≤64) (hys:qa6 x.ys∧x.ys.length≤64)
  (hf:(f.2.2=0∧(f.1=1∧f.2.1=0∨f.1=4∧f.2.1=0∨f.1=3∧f.2.1=0∨f.1=2∧0≤f.2.1∧f.2.1≤1000000000))∨(¬ f.2.2=0∧f.1=0∧f.2.1=0)) (h0:(finX x f n body).er=0) :
  OkN body (finX x f n body).r∧(finX x f n body).n=n∧(finX x f n body).data=[]∧(finX x f n body).kind=1∧(finX x f n body).r.ph=1:=by
 unfold finX at h0 ⊢;by_cases h1:f.2.2≠0
 · rw [if_pos h1] at h0
   refine absurd h0 ?_;show ¬ (if f.2.2=3 then (9:Int) else f.2.2)=0
   split
   · decide
   · exact h1
 · rw [if_neg h1] at h0 ⊢
   have h1':f.2.2=0:=Decidable.not_not.1 h1;by_cases h2:f.1=2∧body<f.2.1
   · rw [if_pos h2] at h0
     exact absurd h0 (by decide)
   · rw [if_neg h2]
     rcases hf with ⟨_,hf⟩ | ⟨hf,_⟩
     · refine ⟨⟨⟨qq0,fun h=>?_,⟨by show (0:Int)≤0; omega,by show (0:Int)≤_; omega⟩,hxs,hys⟩,.inr (.inl rfl),fun _=>?_,fun _ h=>?_,fun _=>hb0.1,fun _ h=>?_⟩,rfl,rfl,rfl,rfl⟩
       · dsimp only at h ⊢; omega
       · dsimp only; omega
       · dsimp only at h ⊢; omega
       · dsimp only at h ⊢; omega
     · exact absurd h1' hf
theorem jcn {s:RS} {h:List UInt8} {body:Int} (hb0:0≤body∧body≤1000000000) (hl:h.length≤1000000) (hs:OkN body s) (hp:s.ph=0) (h0:(qbo s h body).er=0) :
  OkN body (qbo s h body).r∧(qbo s h body).n=h.length∧(qbo s h body).data=[]∧((qbo s h body).kind=1∧(qbo s h body).r.ph=1∨(qbo s h body).kind=4∧(qbo s h body).r=s):=by
 unfold qbo at h0 ⊢
 split at h0
 · rename_i hrep
   rw [if_pos hrep]
   split at h0
   · rename_i h1; exact absurd h0 h1
   · rename_i h1
     rw [if_neg h1]
     split at h0
     · exact absurd h0 (by decide)
     · rename_i h2
       rw [if_neg h2]
       split at h0
       · rename_i h3
         rw [if_pos h3];exact ⟨hs,rfl,rfl,.inr ⟨rfl,rfl⟩⟩
       · rename_i h3
         rw [if_neg h3];have hA:=qqt hl;have:=jac (x:={ s with st:=(qaa h).2.1,rs:=(qaa h).2.2.1,z2:=(qaa h).2.2.2.1,ys:=(qaa h).2.2.2.2 }) hb0 hs.ok.xs ⟨qe7 hA.1,hA.2⟩ (qka _ _ _ _) h0;exact ⟨this.1,this.2.1,this.2.2.1,.inl ⟨this.2.2.2.1,this.2.2.2.2⟩⟩
 · rename_i hrep
   rw [if_neg hrep]
   split at h0
   · rename_i h1; exact absurd h0 h1
   · rename_i h1
     rw [if_neg h1];have hA:=qq9 hl;have:=jac (x:={ s with m:=(qa0 h).2.1,t:=(qa0 h).2.2.1,z:=(qa0 h).2.2.2.1,xs:=(qa0 h).2.2.2.2,fr:=!decide ((j3 (qa0 h).2.2.2.1 (qa0 h).2.2.2.2 1).1=1) }) hb0 ⟨qe7 hA.1,hA.2⟩ hs.ok.ys (by
      rcases qgh (qa0 h).2.2.2.1 (qa0 h).2.2.2.2 1 with ⟨h1,h2⟩ | h2
      · exact .inl ⟨h1,by omega⟩
      · exact .inr h2) h0
     exact ⟨this.1,this.2.1,this.2.2.1,.inl ⟨this.2.2.2.1,this.2.2.2.2⟩⟩
theorem jci {s:RS} {b:List UInt8} {most body:Int} (hb0:0≤body∧body≤1000000000) (hl:b.length≤1000000) (hs:OkN body s) (hp:s.ph=0) (h0:(qav s b most body).er=0) :
  OkN body (qav s b most body).r∧(qav s b most body).n≤b.length∧(qav s b most body).data=[]:=by
 rcases qk1 b most with h | h | ⟨n,hE,h4,hn⟩
 · unfold qav at h0 ⊢
   rw [if_pos (by rw [h])];exact ⟨hs,Nat.zero_le _,rfl⟩
 · unfold qav at h0
   rw [if_neg (by rw [h]; show ¬ (3:Int)=4; decide),if_pos (by rw [h]; show (3:Int)≠0; decide),h] at h0;exact absurd h0 (by decide)
 · unfold qav at h0 ⊢
   rw [if_neg (by rw [hE]; show ¬ (0:Int)=4; decide),if_neg (by rw [hE]; exact fun h=>h rfl),hE] at h0 ⊢;have e:(b.take ((n:Int),(0:Int)).1.toNat).length=n:=by rw [List.length_take]; show min (Int.toNat (n:Int)) _=n; rw [Int.toNat_natCast]; omega
   have:=jcn hb0 (by rw [e]; omega) hs hp h0;exact ⟨this.1,by rw [this.2.1,e]; exact hn,this.2.2.1⟩
theorem qn2 (room:Int) (s:Chk) (p:List UInt8):(jp room s [] 0 p).2.2.1.length≤p.length∧(jp room s [] 0 p).2.2.2≤p.length:=by
 by_cases h:(jp room s [] 0 p).1=0
 · obtain ⟨d,m,e1,e2,e3,e4,_⟩:=qhd [] room p s [] 0 [] 0 h
   rw [e1,e2];simp only [List.nil_append];omega
 · have:∀ (l:List UInt8) (s:Chk) (o:List UInt8) (k:Nat),¬ (jp room s o k l).1=0→(jp room s o k l).2.2.1=[]∧(jp room s o k l).2.2.2=0:=by
    intro l;induction l with
    | nil=>intro s o k h; exact absurd rfl h
    | cons x l ih =>
     intro s o k h;by_cases hs:s.ph=4∨s.ph=1∧room≤o.length
     · rw [qcj hs] at h; exact absurd rfl h
     · have h4:¬ s.ph=4:=fun e=>hs (.inl e)
       by_cases h1:s.ph=1
       · have hr:¬ room≤o.length:=fun e=>hs (.inr ⟨h1,e⟩)
         rw [qdl h1 hr] at h ⊢;exact ih _ _ _ h
       · by_cases h0:(qat s x).1=0
         · rw [qi9 h4 h1 h0] at h ⊢
           exact ih _ _ _ h
         · rw [qge h4 h1 h0]
           exact ⟨rfl,rfl⟩
   have h2:=this p s [] 0 h;rw [h2.1,h2.2];exact ⟨Nat.zero_le _,Nat.zero_le _⟩
theorem qts {b:List UInt8} {k:Int} (h0:0≤k) (hk:k≤b.length):(b.take k.toNat).length=k.toNat∧((k.toNat:Nat):Int)=k:=by
 rw [List.length_take];omega
theorem jd3 {s:RS} {b:List UInt8} {body room:Int} (hb0:0≤body∧body≤1000000000) (hl:b.length≤1000000) (hr0:0≤room) (hs:OkN body s) (hp:s.ph=1) (h0:(qdp s b body room).er=0) :
  OkN body (qdp s b body room).r∧(qdp s b body room).n≤b.length∧(qdp s b body room).data.length≤b.length:=by
 unfold qdp at h0 ⊢;have hsz:=hs.sz hp;have hs0:=hs.ok.size
 split at h0
 · rename_i hk
   rw [if_pos hk]
   split at h0
   · rename_i h1
     rw [if_pos h1];exact ⟨⟨⟨hs.ok.ck,hs.ok.left,hs.ok.size,hs.ok.xs,hs.ok.ys⟩,.inr (.inr rfl),fun h=>absurd h (by show ¬ (2:Int)=1; decide),fun h=>absurd h (by show ¬ (2:Int)=1; decide),fun h=>absurd h (by show ¬ (2:Int)=1; decide),fun h=>absurd h (by show ¬ (2:Int)=1; decide)⟩,Nat.zero_le _,Nat.zero_le _⟩
   · rename_i h1
     rw [if_neg h1]
     split at h0
     · rename_i h2
       rw [if_pos h2];exact ⟨hs,Nat.zero_le _,Nat.zero_le _⟩
     · rename_i h2
       rw [if_neg h2];have hk2:s.fk=2:=by omega
       have hlf:=hs.ok.left hk2;have hm1:=qbt s.left room;have hm2:=qbt (minI s.left room) b.length;generalize minI (minI s.left room) b.length=k at *;have hkk:0≤k∧k≤s.left∧k≤b.length:=by omega
       have ht:=qts hkk.1 hkk.2.2;refine ⟨⟨⟨hs.ok.ck,fun _=>?_,?_,hs.ok.xs,hs.ok.ys⟩,hs.ph,hs.k1,fun _ h=>?_,fun _=>?_,fun _ h=>?_⟩,by dsimp only; omega,by dsimp only; omega⟩
       · dsimp only; omega
       · dsimp only; omega
       · dsimp only at h; omega
       · have:=hs.lf hp hk2; dsimp only; omega
       · have:=hs.lf hp hk2; dsimp only; omega
 · rename_i hk
   rw [if_neg hk]
   split at h0
   · rename_i hk3
     rw [if_pos hk3];have hfl:=qn2 (minI room (body+1-s.size)) s.ck b;have hok:=qmy (minI room (body+1-s.size)) b s.ck [] 0 hs.ok.ck;generalize jp (minI room (body+1-s.size)) s.ck [] 0 b=f at *
     split at h0
     · rename_i h1; exact absurd h0 h1
     · rename_i h1
       rw [if_neg h1];have h1':f.1=0:=Decidable.not_not.1 h1
       split at h0
       · exact absurd h0 (by decide)
       · rename_i h2
         rw [if_neg h2];have hnew:∀ (p:Int),p=1∨p=2→OkN body { s with ck:=f.2.1,size:=s.size+f.2.2.1.length,ph:=p }:=fun p hp2=>by
          refine ⟨⟨hok h1',fun h=>absurd h (by dsimp only; omega),by dsimp only; omega,hs.ok.xs,hs.ok.ys⟩,.inr hp2,fun _=>hs.k1 hp,fun _ h=>absurd h (by dsimp only; omega),fun _=>by dsimp only; omega,fun _ h=>absurd h (by dsimp only; omega)⟩
         split at h0
         · rename_i h3
           rw [if_pos h3];have:=hnew 1 (.inl rfl);rw [← hp] at this;exact ⟨this,hfl.2,hfl.1⟩
         · rename_i h3
           rw [if_neg h3];have hz:((f.2.2.1.length:Nat):Int)=0:=by omega
           rw [hz] at hnew;simp only [Int.add_zero] at hnew
           split at h0
           · rename_i h4
             rw [if_pos h4];exact ⟨hnew 2 (.inr rfl),hfl.2,Nat.zero_le _⟩
           · rename_i h4
             rw [if_neg h4];have:=hnew 1 (.inl rfl);rw [← hp] at this;exact ⟨this,hfl.2,Nat.zero_le _⟩
   · rename_i hk3
     rw [if_neg hk3];have hm1:=qbt room b.length;have hm2:=qbt (minI room b.length) (body+1-s.size);generalize minI (minI room b.length) (body+1-s.size)=k at *
     split at h0
     · rename_i h1
       rw [if_pos h1];exact ⟨hs,Nat.zero_le _,Nat.zero_le _⟩
     · rename_i h1
       rw [if_neg h1]
       split at h0
       · exact absurd h0 (by decide)
       · rename_i h2
         rw [if_neg h2];have hkk:0≤k∧k≤b.length:=by omega
         have ht:=qts hkk.1 hkk.2;refine ⟨⟨⟨hs.ok.ck,fun h=>absurd h (by dsimp only; omega),by dsimp only; omega,hs.ok.xs,hs.ok.ys⟩,hs.ph,hs.k1,fun _ h=>absurd h (by dsimp only; omega),fun _=>by dsimp only; omega,fun _ h=>absurd h (by dsimp only; omega)⟩,by dsimp only; omega,by dsimp only; omega⟩
theorem ql6 {s:RS} {b:List UInt8} {most body room:Int} (hb0:0≤body∧body≤1000000000) (hl:b.length≤1000000) (hs:OkN body s) (h0:(qbg s b most body room).er=0) :
  OkN body (qbg s b most body room).r∧(qbg s b most body room).n≤b.length∧(qbg s b most body room).data.length≤b.length:=by
 unfold qbg at h0 ⊢
 split at h0
 · rename_i hp
   rw [if_pos hp];have:=jci hb0 hl hs hp h0;exact ⟨this.1,this.2.1,by rw [this.2.2]; exact Nat.zero_le _⟩
 · rename_i hp
   rw [if_neg hp]
   split at h0
   · rename_i hp1
     rw [if_pos hp1];exact jd3 hb0 hl (by split <;> omega) hs hp1 h0
   · rename_i hp1
     rw [if_neg hp1];exact ⟨hs,Nat.zero_le _,Nat.zero_le _⟩
theorem AccB.freshB {w0 w:World} {v:Value} {l:List UInt8} (h:AccB w0 w v l):∃ a cap,v = .slice a l.length cap∧qg w a l cap ∧ ∀ y,a=some y→w0.heap.size≤y.block:=by
 obtain ⟨a,cap,e,hs⟩:=h.shape;refine ⟨a,cap,e,hs,fun y ha=>?_⟩;subst ha;obtain ⟨⟨h1,h2⟩,_⟩:=h;rcases h2 with ⟨rfl,h2⟩ | ⟨g,cap',cur,rfl,hg,_⟩
 · cases e
 · injection e with e1
   obtain rfl:=Option.some.inj e1;exact hg
theorem qy6 (l:List UInt8) (a:Option Addr) (c:Nat) (w:World) (h:qg w a l c) (hl:l.length≤4000000000) :
  Calls Tryz.prog 113 #[.slice a l.length c] w fun e w'=>∃ a' c',e = .returned (.slice a' l.length c')∧qg w' a' l c'∧(∀ y,a'=some y→w.heap.size≤y.block)∧Below w.heap.size w w':=by
 rcases h with ⟨rfl,rfl,rfl⟩ | ⟨ad,rfl,hr1,hr2,hr3⟩
 · have hnil:∀ W,(binOp .eql 23 (.slice none 0 0) (.slice none 0 0)).run Tryz.prog W = .ok (.bool true) W:=fun W=>run_eql_slice_nil W _ _ none 0 0 Tryz.underlying23
   simp only [List.length_nil];go_enter Tryz.func113,Tryz.ntmps113
   go_wp2_with fail;go_ret;exact ⟨none,0,rfl,.inl ⟨rfl,rfl,rfl⟩,(fun y e=>by cases e),Below.refl _ _⟩
 · have H0:=Box.mk (show qg w (some ad) l c from .inr ⟨ad,rfl,hr1,hr2,hr3⟩)
   clear hr1 hr2 hr3;have HE:=Box.mk (AccB.empty w);have hnil:∀ W,(binOp .eql 23 (.slice (some ad) l.length c) (.slice none 0 0)).run Tryz.prog W = .ok (.bool false) W:=fun W=>run_eql_slice_nil W _ _ (some ad) l.length c Tryz.underlying23;go_enter Tryz.func113,Tryz.ntmps113
   go_wp2_with (at_builtin; refine kn _ rfl _ _ rfl rfl HE.out rfl (H0.out.keep (qd _ _)) (by simp; omega) ?c1)
   case c1 =>
    intro v1 w1 hacc;have H1:=Box.mk hacc;clear hacc;go_wp2_with fail;go_ret;obtain ⟨a2,c2,e2,h2,h3⟩:=H1.out.freshB;exact ⟨a2,c2,by rw [e2]; rfl,h2,h3,H1.out.2⟩
theorem qz8 (l:List UInt8) (a:Option Addr) (c:Nat) (w:World) (h:qg w a l c) (hl:l.length≤4000000000) :
  Calls Tryz.prog 113 #[.slice a l.length c] w fun e w'=>∃ a' c',e = .returned (.slice a' l.length c')∧qg w' a' l c'∧Below w.heap.size w w' :=
 (qy6 l a c w h hl).mono fun _ _ ⟨a',c',h1,h2,_,h3⟩=>⟨a',c',h1,h2,h3⟩
def trS (p t:Int) (n:Nat):Int:=if p=3 then t+n else t
def qks (w:List UInt8):Prop:=∀ x ∈ w,¬ x=13∧¬ x=10
theorem qre {w:List UInt8} (h:qks w):crB w=false:=by
 rcases qem w with rfl | ⟨m,z,rfl⟩
 · rfl
 · rw [qdt]
   have:=(h z (by simp)).1;simpa using this
theorem qjf {p l t:Int} {w:List UInt8} {x:UInt8} (h3:p=3→t+1≤1024):qat ⟨p,l,t,w⟩ x=qba ⟨p,l,t,w⟩ (trS p t 1) x:=by
 unfold qat trS;by_cases h:p=3
 · have:=h3 h
   simp only [if_pos h];rw [if_neg (by omega)]; rfl
 · simp only [if_neg h]
theorem qw9 (p t:Int) (n m:Nat):trS p (trS p t n) m=trS p t (n+m):=by
 unfold trS; split
 · push_cast; omega
 · rfl
theorem qoy {p l:Int} (h1:¬ p=1) (h4:¬ p=4) (out r:List UInt8):∀ (w pre:List UInt8) (t:Int) (i:Nat),qks (pre++w)→(pre++w).length≤128→(p=3→t+w.length≤1024) →
  qc0 ⟨p,l,t,pre⟩ out i (w++r)=qc0 ⟨p,l,trS p t w.length,pre++w⟩ out (i+w.length) r
 | [],pre,t,i,_,_,_=>by
  have:trS p t 0=t:=by unfold trS; split <;> simp
  simp [this]
 | x :: w,pre,t,i,hp,hl,h3=>by
  have hx:=hp x (by simp);have hpre:qks pre:=fun y hy=>hp y (by simp [hy]);have hst:qat ⟨p,l,t,pre⟩ x=(0,⟨p,l,trS p t 1,pre++[x]⟩):=by
   rw [qjf (fun e=>by have:=h3 e; simp at this; omega)];exact qb3 (qre hpre) hx.2 (fun hb=>by have:=hb.1; simp at this hl; omega)
  rw [List.cons_append,ql1 h4 h1 (by rw [hst]),hst];have ih:=qoy (l:=l) h1 h4 out r w (pre++[x]) (trS p t 1) (i+1) (by simpa using hp) (by simpa using hl) (fun e=>by have:=h3 e; unfold trS; rw [if_pos e]; simp at this ⊢; omega);rw [ih,qw9];simp only [List.append_assoc,List.singleton_append,List.length_cons];rw [show 1+w.length=w.length+1 by omega,show i+1+w.length=i+(w.length+1) by omega]
theorem qie {p l t:Int} (h1:¬ p=1) (h4:¬ p=4) (out r w:List UInt8) (i:Nat) (hp:qks w) (hl:w.length≤128) (h3:p=3→t+w.length+2≤1024) (h0:(kp ⟨p,l,trS p t (w.length+2),[]⟩ ⟨w.toArray⟩).1=0) :
  qc0 ⟨p,l,t,[]⟩ out i (w++13 :: 10 :: r)=qc0 (kp ⟨p,l,trS p t (w.length+2),[]⟩ ⟨w.toArray⟩).2 out (i+(w.length+2)) r:=by
 rw [qoy h1 h4 out _ w [] t i (by simpa using hp) (by simpa using hl) (fun e=>by have:=h3 e; omega)];rw [List.nil_append];have ht3:p=3→trS p t w.length=t+w.length:=fun e=>by unfold trS; rw [if_pos e]
 have hs1:qat ⟨p,l,trS p t w.length,w⟩ 13=(0,⟨p,l,trS p t (w.length+1),w++[13]⟩):=by
  rw [qjf (fun e=>by rw [ht3 e]; have:=h3 e; omega),qw9];exact qb3 (qre hp) (by decide) (fun hb=>hb.2 rfl)
 rw [ql1 h4 h1 (by rw [hs1]),hs1];have hs2:qat ⟨p,l,trS p t (w.length+1),w++[13]⟩ 10=kp ⟨p,l,trS p t (w.length+2),[]⟩ ⟨w.toArray⟩:=by
  rw [qjf (fun e=>by unfold trS; rw [if_pos e]; have:=h3 e; push_cast; omega),qw9,qep]
 rw [ql1 h4 h1 (by rw [hs2]; exact h0),hs2,show i+w.length+1+1=i+(w.length+2) by omega]
theorem qri (t:Int) (r:List UInt8):∀ (d:List UInt8) (out:List UInt8) (i:Nat),d≠[]→qc0 ⟨1,d.length,t,[]⟩ out i (d++r)=qc0 ⟨2,0,t,[]⟩ (out++d) (i+d.length) r
 | [],_,_,h=>absurd rfl h
 | [x],out,i,_=>by
  rw [List.cons_append,qjs rfl];rfl
 | x :: y :: d,out,i,_=>by
  rw [List.cons_append,qjs rfl];have e:ja5 ⟨1,((x :: y :: d).length:Nat),t,[]⟩=⟨1,((y :: d).length:Nat),t,[]⟩:=by
   unfold ja5;simp only [List.length_cons];push_cast
   rw [if_neg (by omega)];congr 1; omega
  rw [e,qri t r (y :: d) (out++[x]) (i+1) (by simp)];simp only [List.append_assoc,List.singleton_append,List.length_cons];rw [show i+1+(d.length+1)=i+(d.length+1+1) by omega]
theorem qjp {l t:Int} {y:ByteArray} {n:Int} (hp:qo 16 1000000000 (szS y)=(n,0)) (hv:visS y=true):kp ⟨0,l,t,[]⟩ y=(0,⟨if n=0 then 3 else 1,n,t,[]⟩):=by
 have h:=qnx (l:=l) (t:=t) (y:=y) (by rw [hp,hv]; simp) (by rw [hp]);rw [h,hp]
theorem qtd {l t:Int}:kp ⟨2,l,t,[]⟩ ⟨([]:List UInt8).toArray⟩=(0,⟨0,l,t,[]⟩):=rfl
theorem qsn {l t:Int}:kp ⟨3,l,t,[]⟩ ⟨([]:List UInt8).toArray⟩=(0,⟨4,l,t,[]⟩):=rfl
theorem qyb (w d r out:List UInt8) (i:Nat) (hw:qks w) (hl:w.length≤128) (hd:d≠[]) (hp:qo 16 1000000000 (szS ⟨w.toArray⟩)=((d.length:Int),0)) (hv:visS ⟨w.toArray⟩=true) :
  qc0 zeroC out i (w++13 :: 10 :: (d++13 :: 10 :: r))=qc0 zeroC (out++d) (i+(w.length+2+d.length+2)) r:=by
 have hd0:¬ (d.length:Int)=0:=by
  have:=List.length_pos_iff.2 hd; omega
 have ht:trS 0 0 (w.length+2)=0:=rfl;have hls:=qjp (l:=0) (t:=0) hp hv;rw [if_neg hd0] at hls;unfold zeroC;rw [qie (p:=0) (by decide) (by decide) out _ w i hw hl (fun e=>absurd e (by decide)) (by rw [ht,hls]),ht,hls];rw [qri 0 _ d out _ hd];have h2:=qie (p:=2) (l:=0) (t:=0) (by decide) (by decide) (out++d) r [] (i+(w.length+2)+d.length) (fun _ h=>by cases h) (by simp) (fun e=>absurd e (by decide)) (by rw [qtd]);rw [List.nil_append] at h2;rw [h2,qtd];show qc0 ⟨0,0,0,[]⟩ _ _ _=_
 rw [show i+(w.length+2)+d.length+([].length+2)=i+(w.length+2+d.length+2) by simp; omega]
theorem jbu (w r out:List UInt8) (i:Nat) (hw:qks w) (hl:w.length≤128) (hp:qo 16 1000000000 (szS ⟨w.toArray⟩)=(0,0)) (hv:visS ⟨w.toArray⟩=true) :
  qc0 zeroC out i (w++13 :: 10 :: r)=qc0 ⟨3,0,0,[]⟩ out (i+(w.length+2)) r:=by
 have ht:trS 0 0 (w.length+2)=0:=rfl;have hls:=qjp (l:=0) (t:=0) hp hv;rw [if_pos rfl] at hls;unfold zeroC;rw [qie (p:=0) (by decide) (by decide) out _ w i hw hl (fun e=>absurd e (by decide)) (by rw [ht,hls]),ht,hls]
theorem jaz (r out:List UInt8) (t:Int) (i:Nat) (ht:t+2≤1024):qc0 ⟨3,0,t,[]⟩ out i (13 :: 10 :: r)=(0,⟨4,0,t+2,[]⟩,out,i+2):=by
 have e:trS 3 t (([]:List UInt8).length+2)=t+2:=by unfold trS; rw [if_pos rfl]; simp
 have h2:=qie (p:=3) (l:=0) (t:=t) (by decide) (by decide) out r [] i (fun _ h=>by cases h) (by simp) (fun _=>by simpa using ht) (by rw [e,qsn]);rw [List.nil_append] at h2;rw [h2,e,qsn,qy3 rfl];rfl
theorem qjk (n:Nat):∀ x ∈ digs 16 n,48≤x.toNat∧x.toNat≤102∧¬ x=59∧valB x=true:=fun x hx=>by
 have h1:=List.all_eq_true.1 (qwo (b:=16) (by decide) (by decide) n) x hx;unfold numB at h1;have h2:=of_decide_eq_true h1;unfold dv at h2;have h3:48≤x.toNat∧x.toNat≤57∨97≤x.toNat∧x.toNat≤102∨65≤x.toNat∧x.toNat≤70:=by
  split at h2
  · omega
  · split at h2
    · omega
    · split at h2
      · omega
      · omega
 refine ⟨by omega,by omega,fun e=>by subst e; simp at h3,?_⟩;unfold valB
 simp
 omega
theorem qzi (n:Nat):qks (digs 16 n):=fun x hx=>by
 have h:=qjk n x hx;refine ⟨fun e=>?_,fun e=>?_⟩ <;> (subst e; simp at h)
theorem qwc (c:UInt8):∀ (a b:List UInt8),¬ c ∈ a→(ju c (a++c :: b))[0]? = some a:=fun a b h=>by
 rw [qc6,qg6 c a h]; rfl
theorem qsu {a:List UInt8} (h:¬ (59:UInt8) ∈ a):szS ⟨a.toArray⟩=⟨a.toArray⟩:=by
 unfold szS jj;show (((ju 59 a).map ofL)[0]?).getD _=_
 rw [qg6 59 a h]; rfl
theorem jez {a b:List UInt8} (h:¬ (59:UInt8) ∈ a):szS ⟨(a++59 :: b).toArray⟩=⟨a.toArray⟩:=by
 unfold szS jj;show (((ju 59 (a++59 :: b)).map ofL)[0]?).getD _=_
 rw [List.getElem?_map,qwc 59 a b h]; rfl
theorem jai (n:Nat):¬ (59:UInt8) ∈ digs 16 n:=fun h=>(qjk n _ h).2.2.1 rfl
theorem qy1 {n:Nat} (h:n≤1000000000):qo 16 1000000000 ⟨(digs 16 n).toArray⟩=((n:Int),0):=by
 have h1:=qpw (b:=16) (by decide) (by decide) n 1000000000;rw [if_pos (by omega)] at h1;exact h1
theorem jdc (n:Nat):visS ⟨(digs 16 n).toArray⟩=true:=by
 unfold visS;exact List.all_eq_true.2 fun x hx=>(qjk n x hx).2.2.2
theorem qjr (n:Nat) (h:n≤9223372036854775807):(digs 16 n).length≤64:=by
 have h1:=qiy (b:=16) (by decide) (n:Int) (by omega);unfold fmtS at h1;rw [if_neg (by omega)] at h1;have e:(qeh 16 (n:Int).toNat).size=(digs 16 n).length:=by
  show (digs 16 (n:Int).toNat).toArray.size=_
  rw [List.size_toArray,Int.toNat_natCast]
 omega
def encL:List (List UInt8)→List UInt8
 | []=>[48,13,10,13,10]
 | d :: r=>if d=[] then encL r else digs 16 d.length++13 :: 10 :: (d++13 :: 10 :: encL r)
theorem qq2 (more:List UInt8):∀ (ls:List (List UInt8)) (out:List UInt8) (i:Nat),(∀ d ∈ ls,d.length≤1000000)→qc0 zeroC out i (encL ls++more)=(0,⟨4,0,2,[]⟩,out++ls.flatten,i+(encL ls).length)
 | [],out,i,_=>by
  have hl:=jbu [48] (13 :: 10 :: more) out i (fun x hx=>by simp at hx; subst hx; decide) (by decide) (by decide +kernel) (by decide +kernel);have e:encL []++more=[48]++13 :: 10 :: (13 :: 10 :: more):=rfl;rw [e,hl,jaz more out 0 _ (by decide)];simp [encL]
 | d :: r,out,i,h=>by
  by_cases hd:d=[]
  · have e:encL (d :: r)=encL r:=by rw [encL,if_pos hd]
    rw [e,qq2 more r out i (fun x hx=>h x (by simp [hx])),hd]
    simp
  · have e:encL (d :: r)=digs 16 d.length++13 :: 10 :: (d++13 :: 10 :: encL r):=by rw [encL,if_neg hd]
    have hdl:=h d (by simp);have e2:encL (d :: r)++more=digs 16 d.length++13 :: 10 :: (d++13 :: 10 :: (encL r++more)):=by rw [e]; simp
    have hlen:=qjr d.length (by omega);rw [e2,qyb (digs 16 d.length) d (encL r++more) out i (qzi _) (by omega) hd (by rw [qsu (jai _)]; exact qy1 (by omega)) (jdc _)];rw [qq2 more r (out++d) _ (fun x hx=>h x (by simp [hx])),e];simp only [List.flatten_cons,List.append_assoc,List.length_append,List.length_cons];rw [show i+((digs 16 d.length).length+2+d.length+2)+(encL r).length=i+((digs 16 d.length).length+(d.length+((encL r).length+1+1)+1+1)) by omega]
theorem qod:∀ (ls:List (List UInt8)) (s:ByteArray),(qkr s ls++endB).data.toList=s.data.toList++encL ls
 | [],s=>by
  show (s++endB).data.toList=_
  rw [encL]; simp [endB]
 | d :: r,s=>by
  have ih:=qod r (qe0 s d);show (qkr (qe0 s d) r++endB).data.toList=_
  rw [ih];by_cases hd:d=[]
  · have e:qe0 s d=s:=by unfold qe0; rw [if_pos (by rw [hd]; rfl)]
    rw [e,encL,if_pos hd]
  · have hn:¬ d.length=0:=fun e=>hd (List.eq_nil_of_length_eq_zero e)
    have e:(qe0 s d).data.toList=s.data.toList++(digs 16 d.length++13 :: 10 :: (d++[13,10])):=by
     unfold qe0;rw [if_neg hn];have e2:(fmtS 16 (d.length:Int)).data.toList=digs 16 d.length:=by
      unfold fmtS; rw [if_neg (by omega)]; rfl
     simp [qfp,e2]
    rw [e,encL,if_neg hd]
    simp
theorem qgo (ls:List (List UInt8)):qcq ls=encL ls:=by
 unfold qcq;rw [qod]; rfl
theorem jba {c:UInt8} (h:blankB c=true):valB c=true:=by
 unfold blankB jbz at h;simp only [List.contains_cons,List.contains_nil,Bool.or_false,Bool.or_eq_true,beq_iff_eq] at h;rcases h with rfl | rfl <;> decide
theorem qii (l:List UInt8):(l.dropWhile blankB).all valB=l.all valB:=by
 induction l with
 | nil=>rfl
 | cons c r ih =>
  rw [List.dropWhile_cons];by_cases h:blankB c=true
  · rw [if_pos h,ih,List.all_cons,jba h,Bool.true_and]
  · rw [if_neg h]
theorem jb2 (l:List UInt8):(qeb l).all valB=l.all valB:=by
 unfold qeb qcz;rw [qii,List.all_reverse,qii,List.all_reverse]
theorem jao (s:ByteArray):valS (jf s)=visS s:=by
 unfold valS;rw [qvw];simp only [beq_self_eq_true,Bool.and_true];unfold visS;rw [qbs,jb2]
theorem jfa {c:UInt8} (h:numB 16 c=true):valB c=true:=by
 unfold numB at h;have h2:=of_decide_eq_true h;unfold dv at h2;have h3:48≤c.toNat∧c.toNat≤57∨97≤c.toNat∧c.toNat≤102∨65≤c.toNat∧c.toNat≤70:=by
  split at h2
  · omega
  · split at h2
    · omega
    · split at h2
      · omega
      · omega
 unfold valB
 simp
 omega
theorem qr9 {s:ByteArray} (h:¬ (qo 16 1000000000 s).2=2):visS s=true:=by
 unfold qo at h
 split at h
 · rename_i hn
   unfold numS at hn;rw [Bool.and_eq_true] at hn;exact List.all_eq_true.2 fun x hx=>jfa (List.all_eq_true.1 hn.1 x hx)
 · simp at h
theorem qs9 (s:ByteArray):(¬ (59:UInt8) ∈ s.data.toList∧cutS 59 s=(s,⟨#[]⟩)) ∨ ∃ a b:List UInt8,¬ (59:UInt8) ∈ a∧s=⟨(a++59 :: b).toArray⟩∧cutS 59 s=(⟨a.toArray⟩,⟨b.toArray⟩):=by
 rcases qdk 59 s with h | ⟨k,h,hk⟩
 · refine .inl ⟨fun hm=>?_,qfs h⟩
   obtain ⟨j,hj⟩:=List.getElem?_of_mem hm;exact Lib.indexByte_none h j hj
 · obtain ⟨h1,h2⟩:=Lib.indexByte_some h
   have hl:k<s.data.toList.length:=by simpa using hk
   refine .inr ⟨s.data.toList.take k,s.data.toList.drop (k+1),fun hm=>?_,?_,?_⟩
   · obtain ⟨j,hj⟩:=List.getElem?_of_mem hm
     rw [List.getElem?_take] at hj
     split at hj
     · rename_i hlt
       exact h2 j hlt hj
     · cases hj
   · refine qd5 ?_
     have e:s.data.toList=s.data.toList.take k++59 :: s.data.toList.drop (k+1):=by
      rw [List.getElem?_eq_getElem hl] at h1;rw [← Option.some.inj h1,← List.drop_eq_getElem_cons hl,List.take_append_drop]
     exact e
   · rw [qfb h]
     refine Prod.ext (qd5 ?_) (qd5 ?_)
     · simp
     · show (s.extract (k+1) s.size).data.toList=s.data.toList.drop (k+1)
       rw [ByteArray.data_extract,Array.toList_extract,List.extract_eq_take_drop];exact List.take_of_length_le (by rw [List.length_drop]; show _-_≤s.data.size-_; rw [Array.length_toList]; exact Nat.le_refl _)
theorem jb7 (y:ByteArray):szS y=(cutS 59 y).1:=by
 rcases qs9 y with ⟨h,e⟩ | ⟨a,b,h,rfl,e⟩
 · rw [e]
   exact qsu (a:=y.data.toList) h
 · rw [e]
   exact jez h
theorem qq7 (y:ByteArray):visS y=(visS (cutS 59 y).1 && visS (cutS 59 y).2):=by
 rcases qs9 y with ⟨h,e⟩ | ⟨a,b,h,rfl,e⟩
 · rw [e]
   show visS y=(visS y && true)
   rw [Bool.and_true]
 · rw [e]
   unfold visS;show (a++59 :: b).all valB=(a.all valB && b.all valB)
   rw [List.all_append,List.all_cons,show valB 59=true by decide,Bool.true_and]
theorem ja9 {l t:Int} {y:ByteArray} (h:visS (cutS 59 y).2=false):kp ⟨0,l,t,[]⟩ y=(2,zeroC) :=
 qna (.inr (by rw [qq7,h,Bool.and_false]))
theorem jbc {l t n e:Int} {y:ByteArray} (h:visS (cutS 59 y).2=true) (hp:qo 16 1000000000 (cutS 59 y).1=(n,e)) (h0:¬ e=0):kp ⟨0,l,t,[]⟩ y=(e,zeroC):=by
 have hp2:qo 16 1000000000 (szS y)=(n,e):=by rw [jb7]; exact hp
 by_cases h2:e=2
 · subst h2
   exact qna (.inl (by rw [hp2]))
 · have hv:visS y=true:=by
    rw [qq7,h,Bool.and_true];exact qr9 (by rw [hp]; exact h2)
   have:=qt5 (l:=l) (t:=t) (y:=y) (by rw [hp2,hv]; simp [h2]) (by rw [hp2]; exact h0);rw [hp2] at this;exact this
theorem jde {l t n:Int} {y:ByteArray} (h:visS (cutS 59 y).2=true) (hp:qo 16 1000000000 (cutS 59 y).1=(n,0)):kp ⟨0,l,t,[]⟩ y=(0,⟨if n=0 then 3 else 1,n,t,[]⟩) :=
 qjp (by rw [jb7]; exact hp) (by
  rw [qq7,h,Bool.and_true];exact qr9 (by rw [hp]; exact (by decide:¬ (0:Int)=2)))
theorem qn3 (room:Int):∀ (n:Nat) (s:Chk) (out:List UInt8) (i:Nat) (l:List UInt8),s.ph=1→n+1≤l.length→((n+1:Nat):Int)≤s.left→(out.length:Int)+(n+1:Nat)≤room →
  jp room s out i l=jp room ⟨if s.left-(n+1:Nat)=0 then 2 else 1,s.left-(n+1:Nat),s.tr,s.line⟩ (out++l.take (n+1)) (i+(n+1)) (l.drop (n+1))
 | n,s,out,i,[],_,h,_,_=>absurd h (by simp)
 | 0,s,out,i,x :: r,h1,_,_,h4=>by
  rw [qdl h1 (by omega)];rfl
 | n+1,s,out,i,x :: r,h1,h2,h3,h4=>by
  rw [qdl h1 (by omega),if_neg (by omega)];have ih:=qn3 room n ⟨1,s.left-1,s.tr,s.line⟩ (out++[x]) (i+1) r rfl (by simp at h2; omega) (by show _≤s.left-1; omega) (by simp; omega);rw [ih];simp only [List.take_succ_cons,List.drop_succ_cons,List.append_assoc,List.singleton_append];rw [show s.left-1-((n+1:Nat):Int)=s.left-((n+1+1:Nat):Int) by omega,show i+1+(n+1)=i+(n+1+1) by omega]
structure qaz (w w':World) (g:Nat) (r:Option Nat):Prop where
 os:w'.os=w.os
 tape:w'.tape=w.tape
 output:w'.output=w.output
 size:w.heap.size≤w'.heap.size
 block:∀ k,k<w.heap.size→k≠g→some k≠r→w'.heap[k]? = w.heap[k]?
theorem qaz.refl (w:World) (g:Nat) (r:Option Nat):qaz w w g r:=⟨rfl,rfl,rfl,Nat.le_refl _,fun _ _ _ _=>rfl⟩
theorem qaz.ofVar {w w':World} {g:Nat} (h:w.grownBy w' (some g)) (r:Option Nat):qaz w w' g r:=⟨h.os,h.tape,h.output,h.size,fun k hk hg _=>h.block k hk (fun e=>hg (Option.some.inj e))⟩
theorem qaz.ofRow {w w':World} {r:Option Nat} (h:w.grownBy w' r) (g:Nat):qaz w w' g r:=⟨h.os,h.tape,h.output,h.size,fun k hk _ hr=>h.block k hk hr⟩
theorem qaz.trans {w w1 w2:World} {g:Nat} {r r':Option Nat} (h:qaz w w1 g r) (k:qaz w1 w2 g r') (hr:r'=r∨r'=none ∨ ∃ q,r'=some q∧w.heap.size≤q):qaz w w2 g r :=
 ⟨k.os.trans h.os,k.tape.trans h.tape,k.output.trans h.output,Nat.le_trans h.size k.size,fun i hi hg hne=>(k.block i (Nat.lt_of_lt_of_le hi h.size) hg (fun e=>by
  rcases hr with rfl | rfl | ⟨q,rfl,hq⟩
  · exact hne e
  · cases e
  · have:=Option.some.inj e; omega)).trans (h.block i hi hg hne)⟩
theorem qu (w:World) (g i:Nat) (u:Value):w.grownBy (w.setCell ⟨g,i,none⟩ u) (some g) :=
 ⟨by unfold World.setCell; split <;> rfl,by unfold World.setCell; split <;> rfl,by unfold World.setCell; split <;> rfl,Nat.le_of_eq (World.size_setCell w _ u).symm,fun k _ hne=>heap_setCell_other _ _ _ _ (fun e=>hne (by rw [e]))⟩
theorem qs {w w':World} (h:Below w.heap.size w w') (r:Option Nat):w.grownBy w' r:=⟨h.os,h.tape,h.output,h.size,fun k hk _=>h.block k hk⟩
theorem Own.touch {B g:Nat} {w w':World} {v:Value} {l:List UInt8} {r:Option Nat} (h:Own B w v l) (t:qaz w w' g r) (hg:g<B) (hne:∀ k,v.ownBlock=some k→some k≠r):Own B w' v l :=
 h.same fun k hk=>t.block k (h.lt hk).2 (by have:=(h.lt hk).1; omega) (hne k hk)
theorem Below.touch {B g:Nat} {w0 w w':World} {r:Option Nat} (h:Below B w0 w) (t:qaz w w' g r) (hB:B≤w.heap.size) (hg:B≤g) (hr:∀ k,r=some k→B≤k):Below B w0 w' :=
 ⟨t.os.trans h.os,t.tape.trans h.tape,t.output.trans h.output,Nat.le_trans h.size t.size,fun i hi=>(t.block i (by omega) (by omega) (fun e=>by have:=hr i e.symm; omega)).trans (h.block i hi)⟩
theorem CVar.touch {w w':World} {g g2:Nat} {p l t:Int} {v:Value} {r:Option Nat} (h:CVar w g2 p l t v) (k:qaz w w' g r) (hg:g2≠g) (hr:some g2≠r):CVar w' g2 p l t v:=by
 unfold CVar at *;rw [k.block g2 (Array.getElem?_eq_some_iff.1 h).1 hg hr]; exact h
end Go.Proofs.YtflhjpokjdjbpaaGreatDoor

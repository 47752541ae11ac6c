/- The project's reader: variables, what a method leaves alone; copies of slices. The project's reader: small methods. The project's reader: room, checks, the start of a body. Package chunked: leave, isExtension, startChunk, finishLine, readLine. Package chunked: readLine. Package chunked: Feed. -/
import Derived.Test.YtflhjpokjdjbpaaGreatDoorPq8
set_option linter.unusedVariables false
set_option linter.unusedSimpArgs false
set_option maxRecDepth 100000
set_option maxHeartbeats 4000000
namespace Go.Proofs.YtflhjpokjdjbpaaGreatDoor
open Go.RowKit
def MVr (w:World) (g:Nat) (cs:Array Value):Prop:=w.heap[g]? = some (.cells cs 61 (0,0))
theorem MVr.keep {w w':World} {g:Nat} {cs:Array Value} (h:MVr w g cs) (hb:Below w.heap.size w w'):MVr w' g cs:=by
 unfold MVr at *;rw [hb.block g (Array.getElem?_eq_some_iff.1 h).1]; exact h
theorem MVr.lt {w:World} {g:Nat} {cs:Array Value} (h:MVr w g cs):g<w.heap.size:=(Array.getElem?_eq_some_iff.1 h).1
theorem MVr.cell {w:World} {g:Nat} {cs:Array Value} (h:MVr w g cs) (i:Nat):w.cell? ⟨g,i,none⟩=cs[i]?:=cell_of_row _ _ _ _ _ _ h
theorem MVr.put {w:World} {g i:Nat} {cs:Array Value} {v:Value} (h:MVr w g cs):MVr (w.setCell ⟨g,i,none⟩ v) g (cs.setIfInBounds i v):=heap_setCell_same w g i _ _ _ h
theorem MVr.frozen {w:World} {g:Nat} {cs:Array Value} (h:MVr w g cs) (i:Nat):w.frozen? ⟨g,i,none⟩=false:=frozen_of_row w g i _ _ h
def LVr (w:World) (g:Nat) (a b c:Int):Prop:=w.heap[g]? = some (.cells #[.int .i64 a,.int .i64 b,.int .i64 c] 69 (0,0))
theorem LVr.keep {w w':World} {g:Nat} {a b c:Int} (h:LVr w g a b c) (hb:Below w.heap.size w w'):LVr w' g a b c:=by
 unfold LVr at *;rw [hb.block g (Array.getElem?_eq_some_iff.1 h).1]; exact h
theorem jdx:(Tryz.prog.info? 61).map (·.size)=some 22:=by kernel_rfl
theorem qoj:(Tryz.prog.info? 69).map (·.size)=some 3:=by kernel_rfl
theorem jg3 (a b c:Int):(#[.int .i64 a,.int .i64 b,.int .i64 c]:Array Value).all (·.oneCell')=true:=by simp [Value.oneCell']
theorem jy (w:World) (g:Nat) (cs:Array Value):w.grownBy (w.setRow g cs) (some g) :=
 ⟨rfl,rfl,rfl,by simp [World.setRow],fun k _ hk=>setRow_other _ _ _ _ (fun e=>hk (by rw [e]))⟩
theorem qr7 (w:World) (r:Option Nat):w.grownBy w r:=⟨rfl,rfl,rfl,Nat.le_refl _,fun _ _ _=>rfl⟩
theorem js {w w':World} {r:Option Nat} {g:Nat} (h:w.grownBy w' r) (hg:w.heap.size≤g) (cs:Array Value):w.grownBy (w'.setRow g cs) r :=
 ku h (jy w' g cs) (fun i e=>by injection e with e; omega)
theorem qqy {w:World} {x:Addr} {j:Nat} {v:Value} (h:w.cell? (x.add j)=some v):x.block<w.heap.size:=by
 unfold World.cell? at h;rw [qgm] at h
 split at h
 · rename_i c t f he
   exact (Array.getElem?_eq_some_iff.1 he).1
 · cases h
theorem qda {w w':World} {a:Option Addr} {l:List Fld} (h:qm w a l) (hb:∀ y,a=some y→l≠[]→w'.heap[y.block]? = w.heap[y.block]?):qm w' a l:=by
 by_cases hl:l=[]
 · subst hl; exact qm.nil _ _
 · exact h.same fun y e=>hb y e hl
theorem qm.old {w:World} {a:Option Addr} {l:List Fld} (h:qm w a l) {y:Addr} (e:a=some y) (hl:l≠[]):y.block<w.heap.size:=by
 obtain ⟨x,hx,hc,_⟩:=h 0 (List.length_pos_iff.2 hl);rw [e] at hx;obtain rfl:=Option.some.inj hx;exact qqy hc
theorem qg.old {w:World} {a:Option Addr} {l:List UInt8} {c:Nat} (h:qg w a l c) {y:Addr} (e:a=some y) (hl:l≠[]):y.block<w.heap.size:=by
 rcases h with ⟨h1,_⟩ | ⟨x,h1,_,_,h4⟩
 · rw [h1] at e; cases e
 · rw [h1] at e
   obtain rfl:=Option.some.inj e;exact qqy (h4 0 (List.length_pos_iff.2 hl))
theorem qm.grownR {w w':World} {g:Nat} {a:Option Addr} {l:List Fld} (h:qm w a l) (hg:w.grownBy w' (some g)) (hne:∀ y,a=some y→l≠[]→y.block≠g):qm w' a l :=
 qda h fun y e hl=>hg.block _ (h.old e hl) (fun e2=>hne y e hl (Option.some.inj e2))
theorem qg.grownR {w w':World} {g:Nat} {a:Option Addr} {l:List UInt8} {c:Nat} (h:qg w a l c) (hg:w.grownBy w' (some g)) (hne:∀ y,a=some y→l≠[]→y.block≠g):qg w' a l c :=
 h.same fun y e hl=>hg.block _ (h.old e hl) (fun e2=>hne y e hl (Option.some.inj e2))
def NoU8 (cs:Array Value):Prop:=∀ (i:Nat) (z:Int),cs[i]? ≠ some (.int .u8 z)
theorem RMem.grown {P:Nat→Prop} {w w':World} {s:RS} {fa ga la:Option Addr} {lc g:Nat} {cs:Array Value} (h:RMem P w s fa ga la lc) (hg:w.grownBy w' (some g)) (hP:∀ k,P k→k≠g) (hm:MVr w g cs) (hn:NoU8 cs):RMem P w' s fa ga la lc :=
 ⟨h.f1.grownR hg fun y e hl=>hP _ (h.n1 y e hl),h.f2.grownR hg fun y e hl=>hP _ (h.n2 y e hl),h.ln.grownR hg (qx hm hn h.ln),h.n1,h.n2⟩
theorem ji {P:Program} {fn:Func} {q1 q2 p1:Tmp} {ty1:TypeId} (h:fn.results=#[.cell p1 ty1,.tmp q1,.tmp q2]) (tmps:Array Value) (w:World) (g1:Nat) (t1:TypeId) (c1:Array Value) (f1:Nat × Nat) (d1:TypeDesc)
  (hp1:tmps.getD p1 undef = .pointer (some ⟨g1,0,none⟩)) (hg1:w.heap[g1]? = some (.cells c1 t1 f1))
  (hu1:P.underlying ty1=some d1) (hd1:(match d1 with | .struct _ | .array _ _=>true | _=>false)=true) (hi1:(P.info? ty1).map (·.size)=some c1.size) :
  (results fn tmps).run P w = .ok (.tuple #[.agg c1,tmps.getD q1 undef,tmps.getD q2 undef]) w:=by
 have hp1':tmps[p1]?.getD undef = .pointer (some ⟨g1,0,none⟩):=by simpa using hp1
 simp [results,h,hp1',asAddr,run_loadVar_row w g1 t1 ty1 c1 f1 d1 hg1 hu1 hd1 hi1]
theorem qg2 {P:Program} {fn:Func} {p1:Tmp} {ty1:TypeId} (h:fn.results=#[.cell p1 ty1]) (tmps:Array Value) (w:World) (g1:Nat) (t1:TypeId) (c1:Array Value) (f1:Nat × Nat) (d1:TypeDesc)
  (hp1:tmps.getD p1 undef = .pointer (some ⟨g1,0,none⟩)) (hg1:w.heap[g1]? = some (.cells c1 t1 f1))
  (hu1:P.underlying ty1=some d1) (hd1:(match d1 with | .struct _ | .array _ _=>true | _=>false)=true) (hi1:(P.info? ty1).map (·.size)=some c1.size) :
  (results fn tmps).run P w = .ok (.agg c1) w:=by
 have hp1':tmps[p1]?.getD undef = .pointer (some ⟨g1,0,none⟩):=by simpa using hp1
 simp [results,h,hp1',asAddr,run_loadVar_row w g1 t1 ty1 c1 f1 d1 hg1 hu1 hd1 hi1]
theorem AccF.freshC {w0 w:World} {v:Value} {l:List Fld} (h:AccF w0 w v l):∃ a cap,v = .slice a l.length cap∧qm w a l∧(∀ y,a=some y→w0.heap.size≤y.block)∧(a=none→cap=0):=by
 obtain ⟨a,cap,e,hs,hn⟩:=h.shapeC;refine ⟨a,cap,e,hs,fun y ha=>?_,fun ha=>(hn ha).2⟩;subst ha;obtain ⟨⟨h1,h2⟩,_⟩:=h;rcases h2 with ⟨rfl,h2⟩ | ⟨g,cap',cur,rfl,hg,_⟩
 · cases e
 · injection e with e1
   obtain rfl:=Option.some.inj e1;exact hg
theorem qog (l:List Fld) (a:Option Addr) (c:Nat) (w:World) (h:qm w a l) (hl:l.length≤1000000) :
  Calls Tryz.prog 37 #[.slice a l.length c] w fun e w'=>∃ a' c',e = .returned (.slice a' l.length c')∧qm w' a' l∧(∀ y,a'=some y→w.heap.size≤y.block)∧Below w.heap.size w w':=by
 cases a with
 | none =>
  have hl0:l=[]:=by
   cases l with
   | nil=>rfl
   | cons x r=>obtain ⟨y,hy,_⟩:=h 0 (by simp); cases hy
  subst hl0;have hnil:∀ W,(binOp .eql 27 (.slice none 0 c) (.slice none 0 0)).run Tryz.prog W = .ok (.bool true) W:=fun W=>run_eql_slice_nil W _ _ none 0 c Tryz.underlying27;go_enter Tryz.func37,Tryz.ntmps37
  go_wp2_with fail;go_ret;exact ⟨none,0,rfl,qm.nil _ _,fun y e=>(by cases e),Below.refl _ _⟩
 | some ad =>
  have H0:=Box.mk h;clear h;have HE:=Box.mk (AccF.empty w);have hnil:∀ W,(binOp .eql 27 (.slice (some ad) l.length c) (.slice none 0 0)).run Tryz.prog W = .ok (.bool false) W:=fun W=>run_eql_slice_nil W _ _ (some ad) l.length c Tryz.underlying27;go_enter Tryz.func37,Tryz.ntmps37
  go_wp2_with (at_builtin; refine kt _ rfl _ _ rfl rfl HE.out rfl ⟨H0.out.keep (qd _ _),fun e=>by cases e⟩ (by simp; omega) ?c1)
  case c1 =>
   intro v1 w1 hacc;have H1:=Box.mk hacc;clear hacc;go_wp2_with fail;go_ret;obtain ⟨a2,c2,e2,h2,h3,_⟩:=H1.out.freshC;exact ⟨a2,c2,by rw [e2]; rfl,h2,h3,H1.out.2⟩
theorem qze (l:List UInt8) (a:Option Addr) (c:Nat) (w:World) (h:qg w a l c) (hl:l.length≤1000000) :
  Calls Tryz.prog 38 #[.slice a l.length c] w fun e w'=>∃ a' c',e = .returned (.slice a' l.length c')∧qg w' a' l c'∧(∀ y,a'=some y→w.heap.size≤y.block)∧Below w.heap.size w w':=by
 rcases h with ⟨rfl,rfl,rfl⟩ | ⟨ad,rfl,hr1,hr2,hr3⟩
 · have hnil:∀ W,(binOp .eql 23 (.slice none 0 0) (.slice none 0 0)).run Tryz.prog W = .ok (.bool true) W:=fun W=>run_eql_slice_nil W _ _ none 0 0 Tryz.underlying23
   simp only [List.length_nil];go_enter Tryz.func38,Tryz.ntmps38
   go_wp2_with fail;go_ret;exact ⟨none,0,rfl,.inl ⟨rfl,rfl,rfl⟩,(fun y e=>by cases e),Below.refl _ _⟩
 · have H0:=Box.mk (show qg w (some ad) l c from .inr ⟨ad,rfl,hr1,hr2,hr3⟩)
   clear hr1 hr2 hr3;have HE:=Box.mk (AccB.empty w);have hnil:∀ W,(binOp .eql 23 (.slice (some ad) l.length c) (.slice none 0 0)).run Tryz.prog W = .ok (.bool false) W:=fun W=>run_eql_slice_nil W _ _ (some ad) l.length c Tryz.underlying23;go_enter Tryz.func38,Tryz.ntmps38
   go_wp2_with (at_builtin; refine kn _ rfl _ _ rfl rfl HE.out rfl (H0.out.keep (qd _ _)) (by simp; omega) ?c1)
   case c1 =>
    intro v1 w1 hacc;have H1:=Box.mk hacc;clear hacc;go_wp2_with fail;go_ret;obtain ⟨a2,c2,e2,h2,h3⟩:=H1.out.freshB;exact ⟨a2,c2,by rw [e2]; rfl,h2,h3,H1.out.2⟩
theorem qxm (g:Nat) (cs:Array Value) (p n:Int) (w:World) (hm:MVr w g cs) (h2:cs[2]? = some (.int .i64 p)) :
  Calls Tryz.prog 84 #[.pointer (some ⟨g,0,none⟩),.int .i64 n] w fun e w'=>e = .returned (.tuple #[.agg #[.int .i64 3,.slice none 0 0],.int .i64 n,.int .i64 0])∧MVr w' g (cs.setIfInBounds 2 (.int .i64 2))∧w.grownBy w' (some g):=by
 obtain ⟨W1,hW1⟩ : ∃ W1,W1=w.alloc (.cells #[.int .i64 0,.slice none 0 0] 41):=⟨_,rfl⟩;have HB1:=Box.mk (show Below w.heap.size w W1 by rw [hW1]; exact qd _ _);have HO:=Box.mk (show PVr W1 w.heap.size #[.int .i64 0,.slice none 0 0] by rw [hW1]; exact heap_alloc_new _ _);have HW1:=Box.mk hW1;clear hW1;have HM1:=Box.mk (hm.keep HB1.out);have hlt:=hm.lt;have hc2:W1.cell? ⟨g,2,none⟩=some (.int .i64 p):=by rw [HM1.out.cell]; exact h2
 have hz2:W1.frozen? ⟨g,2,none⟩=false:=HM1.out.frozen 2;have HPN:=Box.mk (show PVr (W1.setCell ⟨g,2,none⟩ (.int .i64 2)) w.heap.size #[.int .i64 0,.slice none 0 0] from (heap_setCell_other _ _ _ _ (by show w.heap.size≠g; omega)).trans HO.out);clear hm h2;go_enter Tryz.func84,Tryz.ntmps84
 go_upto_region 1 with fail
 rw [← HW1.out];clear HW1;go_wp2_with (refine wpList_store_row rfl 41 _ _ rfl w.heap.size #[.int .i64 3,.slice none 0 0] rfl rfl 41 _ HPN.out j1 rfl (qap ..) ?_)
 (try simp only [Exit.inBlock,Exit.then])
 refine bodyPost_ret (ji rfl _ _ w.heap.size 41 #[.int .i64 3,.slice none 0 0] (0,0) _ rfl (setRow_heap _ _ _ _ _ _ HPN.out) Tryz.underlying41 rfl j1) rfl ?_;exact ⟨rfl,(setRow_other _ _ _ _ (by omega)).trans HM1.out.put,js (qaq HB1.out (qu _ _ _ _)) (Nat.le_refl _) _⟩
theorem jak (g:Nat) (cs:Array Value) (da:Option Addr) (dc:Nat) (w:World) (hm:MVr w g cs) :
  Calls Tryz.prog 85 #[.pointer (some ⟨g,0,none⟩),.slice da 0 dc] w fun e w'=>e = .returned (.tuple #[.agg #[.int .i64 0,.slice none 0 0],.int .i64 0,.int .i64 0])∧MVr w' g cs∧w.grownBy w' (some g):=by
 obtain ⟨W1,hW1⟩ : ∃ W1,W1=w.alloc (.cells #[.int .i64 0,.slice none 0 0] 41):=⟨_,rfl⟩;have HB1:=Box.mk (show Below w.heap.size w W1 by rw [hW1]; exact qd _ _);have HO:=Box.mk (show PVr W1 w.heap.size #[.int .i64 0,.slice none 0 0] by rw [hW1]; exact heap_alloc_new _ _);have HW1:=Box.mk hW1;clear hW1;have HM1:=Box.mk (hm.keep HB1.out);have hlt:=hm.lt;clear hm;go_enter Tryz.func85,Tryz.ntmps85
 go_upto_region 1 with fail
 rw [← HW1.out];clear HW1;go_wp2_with (refine wpList_store_row rfl 41 _ _ rfl w.heap.size #[.int .i64 0,.slice none 0 0] rfl rfl 41 _ HO.out j1 rfl (qap ..) ?_)
 (try simp only [Exit.inBlock,Exit.then])
 refine bodyPost_ret (ji rfl _ _ w.heap.size 41 #[.int .i64 0,.slice none 0 0] (0,0) _ rfl (setRow_heap _ _ _ _ _ _ HO.out) Tryz.underlying41 rfl j1) rfl ?_;exact ⟨rfl,(setRow_other _ _ _ _ (by omega)).trans HM1.out,js (qs HB1.out _) (Nat.le_refl _) _⟩
theorem qyp (g:Nat) (cs:Array Value) (z:Int) (d:List UInt8) (da:Option Addr) (dc:Nat) (w:World) (hm:MVr w g cs) (h17:cs[17]? = some (.int .i64 z)) (hz:0≤z∧z≤1000000000) (hn:NoU8 cs) (hd:qg w da d dc) (hl:d.length≤1000000) (h0:0<d.length) :
  Calls Tryz.prog 85 #[.pointer (some ⟨g,0,none⟩),.slice da d.length dc] w fun e w'=>∃ pa pc,e = .returned (.tuple #[.agg #[.int .i64 2,.slice pa d.length pc],.int .i64 d.length,.int .i64 0])∧qg w' pa d pc∧MVr w' g (cs.setIfInBounds 17 (.int .i64 (z+d.length)))∧w.grownBy w' (some g):=by
 obtain ⟨W1,hW1⟩ : ∃ W1,W1=w.alloc (.cells #[.int .i64 0,.slice none 0 0] 41):=⟨_,rfl⟩;have HB1:=Box.mk (show Below w.heap.size w W1 by rw [hW1]; exact qd _ _);have HO:=Box.mk (show PVr W1 w.heap.size #[.int .i64 0,.slice none 0 0] by rw [hW1]; exact heap_alloc_new _ _);have HW1:=Box.mk hW1;clear hW1;have HM1:=Box.mk (hm.keep HB1.out);have hlt:=hm.lt;have hc17:W1.cell? ⟨g,17,none⟩=some (.int .i64 z):=by rw [HM1.out.cell]; exact h17
 have hz17:W1.frozen? ⟨g,17,none⟩=false:=HM1.out.frozen 17;have HAW:=Box.mk (qx hm hn hd);have HD:=Box.mk hd;have hlt1:w.heap.size<W1.heap.size:=(Array.getElem?_eq_some_iff.1 HO.out).1;have el:((d.length:Int) == 0)=false:=by rw [beq_eq_false_iff_ne]; omega
 obtain ⟨hz0,hz1⟩:=hz;clear hm h17 hn hd;go_enter Tryz.func85,Tryz.ntmps85
 go_upto_region 1 with fail
 rw [← HW1.out];clear HW1;go_upto_region 4 with fail
 obtain ⟨W2,hW2⟩ : ∃ W2,W2=W1.setCell ⟨g,17,none⟩ (.int .i64 (z+d.length)):=⟨_,rfl⟩;have HG2:=Box.mk (show w.grownBy W2 (some g) by rw [hW2]; exact qaq HB1.out (qu _ _ _ _));have HM2:=Box.mk (show MVr W2 g (cs.setIfInBounds 17 (.int .i64 (z+d.length))) by rw [hW2]; exact HM1.out.put);have HP2:=Box.mk (show PVr W2 w.heap.size #[.int .i64 0,.slice none 0 0] by rw [hW2]; exact (heap_setCell_other _ _ _ _ (by show w.heap.size≠g; omega)).trans HO.out);have HD2:=Box.mk (HD.out.grownR HG2.out HAW.out);rw [← hW2];clear hW2 hc17 hz17 HM1 HO HB1 HD HAW;go_wp2_with fail;refine (qz8 d da dc W2 HD2.out (by omega)).mono ?_;rintro e w3 ⟨pa,pc,rfl,hd3,hb3⟩;have HD3:=Box.mk hd3;have HM3:=Box.mk (HM2.out.keep hb3);have HP3:=Box.mk (HP2.out.keep hb3);have HG3:=Box.mk (qh HG2.out (qs hb3 (some g)));clear hd3 hb3 HM2 HP2 HG2 HD2;go_wp2_with (refine wpList_store_row rfl 41 _ _ rfl w.heap.size #[.int .i64 2,.slice pa d.length pc] rfl rfl 41 _ HP3.out j1 rfl (qap ..) ?_)
 (try simp only [Exit.inBlock,Exit.then])
 refine bodyPost_ret (ji rfl _ _ w.heap.size 41 #[.int .i64 2,.slice pa d.length pc] (0,0) _ rfl (setRow_heap _ _ _ _ _ _ HP3.out) Tryz.underlying41 rfl j1) rfl ?_;exact ⟨pa,pc,rfl,HD3.out.same fun x e hl=>setRow_other _ _ _ _ (qx HP3.out (qw rfl) HD3.out x e hl),(setRow_other _ _ _ _ (by omega)).trans HM3.out,js HG3.out (Nat.le_refl _) _⟩
theorem qru (g:Nat) (ba:Option Addr) (bn bc:Nat) (x y z:Int) (w:World) :
  Calls Tryz.prog 41 #[.pointer (some ⟨g,0,none⟩),.slice ba bn bc,.agg #[.int .i64 x,.int .i64 y,.int .i64 z]] w fun e w'=>e = .returned (.tuple #[.agg #[.int .i64 0,.slice none 0 0],.int .i64 0,.int .i64 0])∧Below w.heap.size w w':=by
 obtain ⟨W1,hW1⟩ : ∃ W1,W1=(w.alloc (.cells #[.int .i64 x,.int .i64 y,.int .i64 z] 69)).alloc (.cells #[.int .i64 0,.slice none 0 0] 41):=⟨_,rfl⟩;have HB1:=Box.mk (show Below w.heap.size w W1 by rw [hW1]; exact qk (qd _ _) _);have HO:=Box.mk (show PVr W1 (w.heap.size+1) #[.int .i64 0,.slice none 0 0] by
  have h:=heap_alloc_new (w.alloc (.cells #[.int .i64 x,.int .i64 y,.int .i64 z] 69)) (.cells #[.int .i64 0,.slice none 0 0] 41);rw [World.size_alloc] at h;rw [hW1]; exact h)
 have HW1:=Box.mk hW1;clear hW1;go_enter Tryz.func41,Tryz.ntmps41
 go_upto_region 1 with fail
 rw [← HW1.out];clear HW1;go_wp2_with (refine wpList_store_row rfl 41 _ _ rfl (w.heap.size+1) #[.int .i64 0,.slice none 0 0] rfl rfl 41 _ HO.out j1 rfl (qap ..) ?_)
 (try simp only [Exit.inBlock,Exit.then])
 refine bodyPost_ret (ji rfl _ _ (w.heap.size+1) 41 #[.int .i64 0,.slice none 0 0] (0,0) _ rfl (setRow_heap _ _ _ _ _ _ HO.out) Tryz.underlying41 rfl j1) rfl ?_;exact ⟨rfl,below_setRow HB1.out (by omega) _⟩
theorem qtr (x y z:Int) (w:World) (hy:0≤y∧y≤1000000000) :
  Calls Tryz.prog 24 #[.int .i64 x,.int .i64 y,.int .i64 z] w fun e w'=>e = .returned (.agg #[.int .i64 x,.int .i64 y,.int .i64 (if z≤0 then 0 else z)])∧Below w.heap.size w w':=by
 obtain ⟨W1,hW1⟩ : ∃ W1,W1=w.alloc (.cells #[.int .i64 0,.int .i64 0,.int .i64 0] 69):=⟨_,rfl⟩;have HB1:=Box.mk (show Below w.heap.size w W1 by rw [hW1]; exact qd _ _);have HO:=Box.mk (show LVr W1 w.heap.size 0 0 0 by rw [hW1]; exact heap_alloc_new _ _);have HW1:=Box.mk hW1;clear hW1;have h1:∀ (ts:Array TypeId) (t:TypeId) (W:World),(Builtin.max_ ts t #[.int .i64 y,.int .i64 (-2)]).run Tryz.prog W = .ok (.int .i64 y) W:=fun ts t W=>by
  rw [run_max_int2,if_neg (by omega)]
 have h2:∀ (ts:Array TypeId) (t:TypeId) (W:World),(Builtin.min_ ts t #[.int .i64 y,.int .i64 9223372036854775806]).run Tryz.prog W = .ok (.int .i64 y) W:=fun ts t W=>by
  rw [run_min_int2,if_neg (by omega)]
 have h3:∀ (ts:Array TypeId) (t:TypeId) (W:World),(Builtin.max_ ts t #[.int .i64 z,.int .i64 0]).run Tryz.prog W = .ok (.int .i64 (if z≤0 then 0 else z)) W:=fun ts t W=>by
  rw [run_max_int2];congr 2
  split <;> split <;> omega
 obtain ⟨r,hr⟩ : ∃ r:Int,r=if z≤0 then 0 else z:=⟨_,rfl⟩
 rw [← hr] at h3;rw [← hr];clear hr;go_enter Tryz.func24,Tryz.ntmps24
 go_upto_region 1 with fail
 rw [← HW1.out];clear HW1;go_wp2_with (refine wpList_store_row rfl 69 _ _ rfl w.heap.size #[.int .i64 x,.int .i64 y,.int .i64 r] rfl rfl 69 _ HO.out qoj rfl (jg3 ..) ?_)
 (try simp only [Exit.inBlock,Exit.then])
 refine bodyPost_ret (qg2 rfl _ _ w.heap.size 69 #[.int .i64 x,.int .i64 y,.int .i64 r] (0,0) _ rfl (setRow_heap _ _ _ _ _ _ HO.out) Tryz.underlying69 rfl qoj) rfl ?_;exact ⟨rfl,below_setRow HB1.out (Nat.le_refl _) _⟩
theorem qtn (k:Int) (w:World) (hk:k=1∨k=2∨k=3∨k=4) :
  Calls Tryz.prog 40 #[.int .i64 k] w fun e w'=>e = .returned (if k=3 then .func (.func 61) #[] #[] else if k=4 then .func (.func 62) #[] #[] else .func (.func 60) #[] #[])∧w=w':=by
 rcases hk with rfl | rfl | rfl | rfl <;>
 · go_enter Tryz.func40,Tryz.ntmps40
   go_wp2_with fail;go_ret;exact ⟨rfl,rfl⟩
theorem qyq (g:Nat) (cs:Array Value) (w:World) (hm:MVr w g cs) (h2:cs[2]? = some (.int .i64 0)) :
  Calls Tryz.prog 23 #[.pointer (some ⟨g,0,none⟩)] w fun e w'=>e = .returned (.func (.func 39) #[] #[])∧w=w':=by
 have hc2:w.cell? ⟨g,2,none⟩=some (.int .i64 0):=by rw [hm.cell]; exact h2
 clear hm h2;go_enter Tryz.func23,Tryz.ntmps23
 go_wp2_with fail;go_ret;exact ⟨rfl,rfl⟩
theorem qjd (g:Nat) (cs:Array Value) (k:Int) (v:Value) (w:World) (hm:MVr w g cs) (h2:cs[2]? = some (.int .i64 1)) (h14:cs[14]? = some (.int .i64 k)) (hk:k=1∨k=2∨k=3∨k=4) (hv:(if k=3 then .func (.func 61) #[] #[] else if k=4 then .func (.func 62) #[] #[] else .func (.func 60) #[] #[])=v) :
  Calls Tryz.prog 23 #[.pointer (some ⟨g,0,none⟩)] w fun e w'=>e = .returned v∧w=w':=by
 have hc2:w.cell? ⟨g,2,none⟩=some (.int .i64 1):=by rw [hm.cell]; exact h2
 have hc14:w.cell? ⟨g,14,none⟩=some (.int .i64 k):=by rw [hm.cell]; exact h14
 have HS:=Box.mk (qtn k w hk);rw [hv] at HS;clear hm h2 h14 hk hv;go_enter Tryz.func23,Tryz.ntmps23
 go_wp2_with fail;refine HS.out.mono ?_;rintro e w1 ⟨rfl,rfl⟩;go_wp2_with fail;go_ret;exact ⟨rfl,rfl⟩
theorem qzw (g:Nat) (cs:Array Value) (w:World) (hm:MVr w g cs) (h2:cs[2]? = some (.int .i64 2)) :
  Calls Tryz.prog 23 #[.pointer (some ⟨g,0,none⟩)] w fun e w'=>e = .returned (.func (.func 41) #[] #[])∧w=w':=by
 have hc2:w.cell? ⟨g,2,none⟩=some (.int .i64 2):=by rw [hm.cell]; exact h2
 clear hm h2;go_enter Tryz.func23,Tryz.ntmps23
 go_wp2_with fail;go_ret;exact ⟨rfl,rfl⟩
section
variable {Q:Exit→Act→World→Prop} {a:Act} {w:World} {o:Oper} {s:Spec}
theorem qtz (w:World) (g:Nat):∀ i,i<9→(Instr.fieldAt 61 (.pointer (some ⟨g,0,none⟩)) i).run Tryz.prog w = .ok (.pointer (some ⟨g,[0,1,2,3,9,14,16,17,18].getD i 0,none⟩)) w
 | 0,_=>by simp [Instr.fieldAt,run_underlying Tryz.underlying61,Instr.sureAddr,fieldPlace,Addr.add]
 | 1,_=>by simp [Instr.fieldAt,run_underlying Tryz.underlying61,Instr.sureAddr,fieldPlace,Addr.add]
 | 2,_=>by simp [Instr.fieldAt,run_underlying Tryz.underlying61,Instr.sureAddr,fieldPlace,Addr.add]
 | 3,_=>by simp [Instr.fieldAt,run_underlying Tryz.underlying61,Instr.sureAddr,fieldPlace,Addr.add]
 | 4,_=>by simp [Instr.fieldAt,run_underlying Tryz.underlying61,Instr.sureAddr,fieldPlace,Addr.add]
 | 5,_=>by simp [Instr.fieldAt,run_underlying Tryz.underlying61,Instr.sureAddr,fieldPlace,Addr.add]
 | 6,_=>by simp [Instr.fieldAt,run_underlying Tryz.underlying61,Instr.sureAddr,fieldPlace,Addr.add]
 | 7,_=>by simp [Instr.fieldAt,run_underlying Tryz.underlying61,Instr.sureAddr,fieldPlace,Addr.add]
 | 8,_=>by simp [Instr.fieldAt,run_underlying Tryz.underlying61,Instr.sureAddr,fieldPlace,Addr.add]
theorem qt8 (w:World) (g:Nat):∀ i,i<3→(Instr.fieldAt 69 (.pointer (some ⟨g,0,none⟩)) i).run Tryz.prog w = .ok (.pointer (some ⟨g,i,none⟩)) w
 | 0,_=>by simp [Instr.fieldAt,run_underlying Tryz.underlying69,Instr.sureAddr,fieldPlace,Addr.add]
 | 1,_=>by simp [Instr.fieldAt,run_underlying Tryz.underlying69,Instr.sureAddr,fieldPlace,Addr.add]
 | 2,_=>by simp [Instr.fieldAt,run_underlying Tryz.underlying69,Instr.sureAddr,fieldPlace,Addr.add]
theorem qb0 {x:Operand} {i:Nat} (ho:o.op = .fieldAddr 61 x i) {g j:Nat} (hx:a.eval x = .pointer (some ⟨g,0,none⟩)) (hi:i<9) (hj:[0,1,2,3,9,14,16,17,18].getD i 0=j) (hs:s.p (.pointer (some ⟨g,j,none⟩)) w) :
  o.wp Tryz.prog a w (fun a' w'=>∃ v,a'=a.put o.dst v∧Below w.heap.size w w'∧s.p v w') Q:=by
 subst hj;exact j0 (v:=.pointer (some ⟨g,_,none⟩)) (by unfold execOp; rw [ho]; simp only [hx,Sem.run_bind,qtz _ _ _ hi,Result.andThen_ok,Sem.run_pure]) (Below.refl _ _) hs
theorem qck {x:Operand} {i:Nat} (ho:o.op = .fieldAddr 69 x i) {g:Nat} (hx:a.eval x = .pointer (some ⟨g,0,none⟩)) (hi:i<3) (hs:s.p (.pointer (some ⟨g,i,none⟩)) w) :
  o.wp Tryz.prog a w (fun a' w'=>∃ v,a'=a.put o.dst v∧Below w.heap.size w w'∧s.p v w') Q :=
 j0 (v:=.pointer (some ⟨g,i,none⟩)) (by unfold execOp; rw [ho]; simp only [hx,Sem.run_bind,qt8 _ _ _ hi,Result.andThen_ok,Sem.run_pure]) (Below.refl _ _) hs
theorem qaf {x:Operand} (ho:o.op = .nilCheck x) {p:Addr} (hx:a.eval x = .pointer (some p)) (hs:s.p (.pointer (some p)) w) :
  o.wp Tryz.prog a w (fun a' w'=>∃ v,a'=a.put o.dst v∧Below w.heap.size w w'∧s.p v w') Q :=
 j0 (v:=.pointer (some p)) (by unfold execOp; rw [ho]; simp only [hx]; rfl) (Below.refl _ _) hs
theorem jdf {x y:Operand} {t:TypeId} (ho:o.op = .binOp .add 3 x y t) {m k r:Int} (hx:a.eval x = .int .i64 m) (hy:a.eval y = .int .i64 k) (hr:m+k=r) (hn:-1000000000000≤r∧r≤1000000000000) (hs:s.p (.int .i64 r) w) :
  o.wp Tryz.prog a w (fun a' w'=>∃ v,a'=a.put o.dst v∧Below w.heap.size w w'∧s.p v w') Q :=
 j0 (v:=.int .i64 r) (by
  have e:IntKind.i64.wrap (m+k)=r:=by
   simp only [IntKind.wrap,IntKind.bits,IntKind.signed]; simp; omega
  have h:(Op.intArith .add .i64 m k).run Tryz.prog w = .ok (.int .i64 r) w:=by
   unfold Op.intArith;rw [← e]; rfl
  unfold execOp;simp only [ho,hx,hy];simp [eqGuard,binOp,h,Result.andThen]) (Below.refl _ _) hs
theorem jdl {x y:Operand} {t:TypeId} (ho:o.op = .binOp .sub 3 x y t) {m k r:Int} (hx:a.eval x = .int .i64 m) (hy:a.eval y = .int .i64 k) (hr:m-k=r) (hn:-1000000000000≤r∧r≤1000000000000) (hs:s.p (.int .i64 r) w) :
  o.wp Tryz.prog a w (fun a' w'=>∃ v,a'=a.put o.dst v∧Below w.heap.size w w'∧s.p v w') Q :=
 j0 (v:=.int .i64 r) (by
  have e:IntKind.i64.wrap (m-k)=r:=by
   simp only [IntKind.wrap,IntKind.bits,IntKind.signed]; simp; omega
  have h:(Op.intArith .sub .i64 m k).run Tryz.prog w = .ok (.int .i64 r) w:=by
   unfold Op.intArith;rw [← e]; rfl
  unfold execOp;simp only [ho,hx,hy];simp [eqGuard,binOp,h,Result.andThen]) (Below.refl _ _) hs
theorem ja2 {x y:Operand} {ts:Array TypeId} (ho:o.op = .call { callee:=.builtin .min,args:=#[x,y],argTypes:=ts }) {m k r:Int} (hx:a.eval x = .int .i64 m) (hy:a.eval y = .int .i64 k) (hr:minI m k=r) (hs:s.p (.int .i64 r) w) :
  o.wp Tryz.prog a w (fun a' w'=>∃ v,a'=a.put o.dst v∧Below w.heap.size w w'∧s.p v w') Q :=
 j0 (v:=.int .i64 r) (by
  have e:(if k<m then k else m)=r:=by rw [← hr]; unfold minI; split <;> split <;> omega
  unfold execOp;simp only [ho,hx,hy,resolve,invoke,builtin,List.map_toArray,List.map_cons,List.map_nil,run_min_int2,e,Sem.run_bind,Sem.run_pure,Result.andThen_ok]) (Below.refl _ _) hs
theorem qtu {x y z:Operand} {ts:Array TypeId} (ho:o.op = .call { callee:=.builtin .min,args:=#[x,y,z],argTypes:=ts }) {m k l r:Int} (hx:a.eval x = .int .i64 m) (hy:a.eval y = .int .i64 k) (hz:a.eval z = .int .i64 l) (hr:minI (minI m k) l=r) (hs:s.p (.int .i64 r) w) :
  o.wp Tryz.prog a w (fun a' w'=>∃ v,a'=a.put o.dst v∧Below w.heap.size w w'∧s.p v w') Q :=
 j0 (v:=.int .i64 r) (by
  have e:(if l<(if k<m then k else m) then l else (if k<m then k else m))=r:=by rw [← hr]; unfold minI; split <;> split <;> (try split) <;> (try split) <;> omega
  unfold execOp;simp only [ho,hx,hy,hz,resolve,invoke,builtin,List.map_toArray,List.map_cons,List.map_nil,run_min_int3,e,Sem.run_bind,Sem.run_pure,Result.andThen_ok]) (Below.refl _ _) hs
theorem qqf {P:Program} {K:Act→World→Prop} {y:Operand} {f:FuncId} {args:List Operand} {ts:Array TypeId} (ho:o.op = .call { callee:=.value y,args:=args.toArray,argTypes:=ts }) (hy:a.eval y = .func (.func f) #[] #[])
  (hf : (P.funcs[f]?).map (fun fn => fn.name != "runtime.NumGoroutine" && fn.body.isSome) = some true) {R : Ending → World → Prop} (h : Calls P f (args.map a.eval).toArray w R) (hK : ∀ e w', R e w' → ∃ v, e = .returned v ∧ K (a.put o.dst v) w') : o.wp P a w K Q := by
 have hrun:(execOp a.eval o).run P w = .ok (.enter f (args.map a.eval).toArray) w:=by
  unfold execOp; rw [ho];cases hfn:P.funcs[f]? with
  | none=>rw [hfn] at hf; cases hf
  | some fn =>
   rw [hfn] at hf;simp only [Option.map_some,Option.some.injEq,Bool.and_eq_true,bne_iff_ne,ne_eq] at hf;have hb:fn.body≠none:=fun e=>by rw [e] at hf; exact absurd hf.2 (by simp)
   simp [resolve,Deferred.ofValue,invoke,callFunc,hy,hfn,hf.1,hb]
 unfold Oper.wp;rw [hrun,Oper.upon_enter];refine h.mono ?_;intro e w' hr;obtain ⟨v,rfl,hk⟩:=hK e w' hr;exact hk
end
set_option linter.unusedVariables false
theorem qd4 (g:Nat) (cs:Array Value) (x y r z:Int) (w:World) (hm:MVr w g cs) (h17:cs[17]? = some (.int .i64 z)) (hy:0≤y∧y≤1000000000) (hz:0≤z∧z≤1000000000) :
  Calls Tryz.prog 87 #[.pointer (some ⟨g,0,none⟩),.agg #[.int .i64 x,.int .i64 y,.int .i64 r]] w fun e w'=>e = .returned (.int .i64 (minI r (y+1-z)))∧Below w.heap.size w w':=by
 obtain ⟨W1,hW1⟩ : ∃ W1,W1=w.alloc (.cells #[.int .i64 x,.int .i64 y,.int .i64 r] 69):=⟨_,rfl⟩;have HB1:=Box.mk (show Below w.heap.size w W1 by rw [hW1]; exact qd _ _);have HO:=Box.mk (show LVr W1 w.heap.size x y r by rw [hW1]; exact heap_alloc_new _ _);have HW1:=Box.mk hW1;clear hW1;have HM1:=Box.mk (hm.keep HB1.out);have H17:=Box.mk h17;clear hm h17;go_enter Tryz.func87,Tryz.ntmps87
 go_upto_region 1 with fail
 rw [← HW1.out];clear HW1;go_wp2_with fail;rename_i K hK;refine qas (S:=[.val (.pointer (some ⟨w.heap.size,2,none⟩)),.val (.int .i64 r),.val (.pointer (some ⟨w.heap.size,1,none⟩)),.val (.int .i64 y),.val (.int .i64 (y+1)),.val (.pointer (some ⟨g,0,none⟩)),.val (.pointer (some ⟨g,0,none⟩)),.val (.pointer (some ⟨g,17,none⟩)),.val (.int .i64 z),.val (.int .i64 (y+1-z)),.val (.int .i64 (minI r (y+1-z))),.val (.int .i64 (minI r (y+1-z)))])
  (by kernel_rfl) (by kernel_rfl) (by kernel_rfl) ?_ ?_
 · refine ⟨?_,?_,?_,?_,?_,?_,?_,?_,?_,?_,?_,?_,trivial⟩ <;> intro a w' hb hf hd
   · exact ⟨qb rfl,qck rfl (hf.base 3 rfl) (by decide) rfl⟩
   · exact ⟨qb rfl,jg rfl (hd 0 rfl) (by rw [cell_of_row _ _ _ _ _ _ (HO.out.keep hb)]; rfl) (qay _) rfl⟩
   · exact ⟨qb rfl,qck rfl (hf.base 3 rfl) (by decide) rfl⟩
   · exact ⟨qb rfl,jg rfl (hd 2 rfl) (by rw [cell_of_row _ _ _ _ _ _ (HO.out.keep hb)]; rfl) (qay _) rfl⟩
   · exact ⟨qb rfl,jdf rfl (hd 3 rfl) rfl rfl (by omega) rfl⟩
   · exact ⟨qb rfl,qi rfl (hf.base 0 rfl)⟩
   · exact ⟨qb rfl,qaf rfl (hd 5 rfl) rfl⟩
   · exact ⟨qb rfl,qb0 rfl (hd 6 rfl) (by decide) rfl rfl⟩
   · exact ⟨qb rfl,jg rfl (hd 7 rfl) (by rw [(HM1.out.keep hb).cell]; exact H17.out) (qay _) rfl⟩
   · exact ⟨qb rfl,jdl rfl (hd 4 rfl) (hd 8 rfl) rfl (by omega) rfl⟩
   · exact ⟨qb rfl,ja2 rfl (hd 1 rfl) (hd 9 rfl) rfl rfl⟩
   · exact ⟨qb rfl,qr rfl (hd 10 rfl)⟩
 · intro a w' hb hf hh
   refine hK a w' ?_;go_wp2_with fail;exact qlu rfl hf.defers (show a.eval (.tmp 4) = .int .i64 (minI r (y+1-z)) from hh 11 (by decide)) ⟨rfl,qe HB1.out hb⟩
theorem qnf (k l er body:Int) (w:World) :
  Calls Tryz.prog 81 #[.agg #[.int .i64 k,.int .i64 l],.int .i64 er,.int .i64 body] w fun e w'=>e = .returned (.int .i64 (if er=3∨k=2∧body<l then 9 else er))∧Below w.heap.size w w':=by
 obtain ⟨W1,hW1⟩ : ∃ W1,W1=w.alloc (.cells #[.int .i64 k,.int .i64 l] 33):=⟨_,rfl⟩;have HB1:=Box.mk (show Below w.heap.size w W1 by rw [hW1]; exact qd _ _);have HO:=Box.mk (show KVar W1 w.heap.size k l by rw [hW1]; exact heap_alloc_new _ _);have HW1:=Box.mk hW1;clear hW1;have hk0:W1.cell? ⟨w.heap.size,0,none⟩=some (.int .i64 k):=by rw [cell_of_row _ _ _ _ _ _ HO.out]; rfl
 have hk1:W1.cell? ⟨w.heap.size,1,none⟩=some (.int .i64 l):=by rw [cell_of_row _ _ _ _ _ _ HO.out]; rfl
 by_cases h3:er=3
 · rw [if_pos (.inl h3)]
   have e3:(er == 3)=true:=by rw [h3]; rfl
   clear h3;go_enter Tryz.func81,Tryz.ntmps81
   go_upto_region 1 with fail
   rw [← HW1.out];clear HW1;go_wp2_with fail;go_ret;exact ⟨rfl,HB1.out⟩
 · have e3:(er == 3)=false:=by rw [beq_eq_false_iff_ne]; exact h3
   by_cases h2:k=2
   · have e2:(k == 2)=true:=by rw [h2]; rfl
     by_cases hb:body<l
     · rw [if_pos (.inr ⟨h2,hb⟩)]
       have hgt:l > body:=hb;clear h3 h2 hb;go_enter Tryz.func81,Tryz.ntmps81
       go_upto_region 1 with fail
       rw [← HW1.out];clear HW1;go_wp2_with fail;go_ret;exact ⟨rfl,HB1.out⟩
     · rw [if_neg (fun h=>h.elim h3 fun h=>hb h.2)]
       have hgt:¬ l > body:=hb;clear h3 h2 hb;go_enter Tryz.func81,Tryz.ntmps81
       go_upto_region 1 with fail
       rw [← HW1.out];clear HW1;go_wp2_with fail;go_ret;exact ⟨rfl,HB1.out⟩
   · rw [if_neg (fun h=>h.elim h3 fun h=>h2 h.1)]
     have e2:(k == 2)=false:=by rw [beq_eq_false_iff_ne]; exact h2
     clear h3 h2;go_enter Tryz.func81,Tryz.ntmps81
     go_upto_region 1 with fail
     rw [← HW1.out];clear HW1;go_wp2_with fail;go_ret;exact ⟨rfl,HB1.out⟩
theorem qrk (g:Nat) (v0 v1 v3 v4 v5 v6 v7 v8 v9 v10 v11 v12 v13:Value) (p k0 l0 left0 size0 q0 q1 q2 k l:Int) (qa:Option Addr) (qn qc:Nat) (w:World) (hm:MVr w g #[v0,v1,.int .i64 p,v3,v4,v5,v6,v7,v8,v9,v10,v11,v12,v13,.int .i64 k0,.int .i64 l0,.int .i64 left0,.int .i64 size0,.int .i64 q0,.int .i64 q1,.int .i64 q2,.slice qa qn qc]) :
  Calls Tryz.prog 80 #[.pointer (some ⟨g,0,none⟩),.agg #[.int .i64 k,.int .i64 l]] w fun e w'=>e = .returned (.tuple #[])∧MVr w' g #[v0,v1,.int .i64 1,v3,v4,v5,v6,v7,v8,v9,v10,v11,v12,v13,.int .i64 k,.int .i64 l,.int .i64 l,.int .i64 0,.int .i64 0,.int .i64 0,.int .i64 0,.slice none 0 0]∧w.grownBy w' (some g):=by
 obtain ⟨c0,hc0⟩ : ∃ y0:Array Value,y0=#[v0,v1,.int .i64 p,v3,v4,v5,v6,v7,v8,v9,v10,v11,v12,v13,.int .i64 k0,.int .i64 l0,.int .i64 left0,.int .i64 size0,.int .i64 q0,.int .i64 q1,.int .i64 q2,.slice qa qn qc]:=⟨_,rfl⟩;have HC0:=Box.mk hc0;obtain ⟨c1,hc1⟩ : ∃ y0:Array Value,y0=#[v0,v1,.int .i64 1,v3,v4,v5,v6,v7,v8,v9,v10,v11,v12,v13,.int .i64 k0,.int .i64 l0,.int .i64 left0,.int .i64 size0,.int .i64 q0,.int .i64 q1,.int .i64 q2,.slice qa qn qc]:=⟨_,rfl⟩;have HC1:=Box.mk hc1;obtain ⟨c2,hc2⟩ : ∃ y0:Array Value,y0=#[v0,v1,.int .i64 1,v3,v4,v5,v6,v7,v8,v9,v10,v11,v12,v13,.int .i64 k,.int .i64 l,.int .i64 left0,.int .i64 size0,.int .i64 q0,.int .i64 q1,.int .i64 q2,.slice qa qn qc]:=⟨_,rfl⟩;have HC2:=Box.mk hc2;obtain ⟨c3,hc3⟩ : ∃ y0:Array Value,y0=#[v0,v1,.int .i64 1,v3,v4,v5,v6,v7,v8,v9,v10,v11,v12,v13,.int .i64 k,.int .i64 l,.int .i64 l,.int .i64 size0,.int .i64 q0,.int .i64 q1,.int .i64 q2,.slice qa qn qc]:=⟨_,rfl⟩;have HC3:=Box.mk hc3;obtain ⟨c4,hc4⟩ : ∃ y0:Array Value,y0=#[v0,v1,.int .i64 1,v3,v4,v5,v6,v7,v8,v9,v10,v11,v12,v13,.int .i64 k,.int .i64 l,.int .i64 l,.int .i64 0,.int .i64 q0,.int .i64 q1,.int .i64 q2,.slice qa qn qc]:=⟨_,rfl⟩;have HC4:=Box.mk hc4;obtain ⟨c5,hc5⟩ : ∃ y0:Array Value,y0=#[v0,v1,.int .i64 1,v3,v4,v5,v6,v7,v8,v9,v10,v11,v12,v13,.int .i64 k,.int .i64 l,.int .i64 l,.int .i64 0,.int .i64 0,.int .i64 0,.int .i64 0,.slice none 0 0]:=⟨_,rfl⟩;have HC5:=Box.mk hc5;rw [← hc0] at hm;rw [← hc5];clear hc0 hc1 hc2 hc3 hc4 hc5;obtain ⟨W1,hW1⟩ : ∃ W1,W1=w.alloc (.cells #[.int .i64 k,.int .i64 l] 33):=⟨_,rfl⟩;have HB1:=Box.mk (show Below w.heap.size w W1 by rw [hW1]; exact qd _ _);have HO:=Box.mk (show KVar W1 w.heap.size k l by rw [hW1]; exact heap_alloc_new _ _);have HW1:=Box.mk hW1;clear hW1;have HM1:=Box.mk (hm.keep HB1.out);have hlt:=hm.lt;have HG1:=Box.mk (qs HB1.out (some g));have hm2:W1.cell? ⟨g,2,none⟩=some (.int .i64 p):=by rw [HM1.out.cell,HC0.out]; rfl
 have hz2:W1.frozen? ⟨g,2,none⟩=false:=HM1.out.frozen 2;clear hm;go_enter Tryz.func80,Tryz.ntmps80
 go_upto_region 1 with fail
 rw [← HW1.out];clear HW1;go_upto_region 2 with fail
 obtain ⟨W2,hW2⟩ : ∃ W2,W2=W1.setCell ⟨g,2,none⟩ (.int .i64 1):=⟨_,rfl⟩;have HM2:=Box.mk (show MVr W2 g c1 by rw [hW2]; have h:=HM1.out.put (i:=2) (v:=.int .i64 1); rw [show c0.setIfInBounds 2 (.int .i64 1)=c1 by rw [HC0.out,HC1.out]; rfl] at h; exact h);have HO2:=Box.mk (show KVar W2 w.heap.size k l by rw [hW2]; exact (heap_setCell_other _ _ _ _ (by show w.heap.size≠g; omega)).trans HO.out);have HG2:=Box.mk (show w.grownBy W2 (some g) by rw [hW2]; exact qh HG1.out (qu _ _ _ _));have hs1:c1.size=22:=by rw [HC1.out]; rfl
 rw [← hW2];clear hW2 hm2 hz2 HM1 HO HG1 HB1;go_upto_region 3 with (first | refine wpList_load_row rfl 33 _ rfl w.heap.size rfl 33 #[.int .i64 k,.int .i64 l] (0,0) _ HO2.out Tryz.underlying33 rfl jn ?_ | refine jk rfl 33 _ _ rfl g 14 #[.int .i64 k,.int .i64 l] rfl rfl 61 _ c2 HM2.out jn (by rw [hs1]; show 14+2≤22; decide) (oneK ..) (by rw [HC1.out,HC2.out]; rfl) ?_)
 obtain ⟨W3,hW3⟩ : ∃ W3,W3=W2.setRow g c2:=⟨_,rfl⟩;have HM3:=Box.mk (show MVr W3 g c2 by rw [hW3]; exact setRow_heap _ _ _ _ _ _ HM2.out);have HO3:=Box.mk (show KVar W3 w.heap.size k l by rw [hW3]; exact (setRow_other _ _ _ _ (by omega)).trans HO2.out);have HG3:=Box.mk (show w.grownBy W3 (some g) by rw [hW3]; exact qh HG2.out (jy _ _ _));have hk1:W3.cell? ⟨w.heap.size,1,none⟩=some (.int .i64 l):=by rw [cell_of_row _ _ _ _ _ _ HO3.out]; rfl
 have hm16:W3.cell? ⟨g,16,none⟩=some (.int .i64 left0):=by rw [HM3.out.cell,HC2.out]; rfl
 have hz16:W3.frozen? ⟨g,16,none⟩=false:=HM3.out.frozen 16;rw [← hW3];clear hW3 HM2 HO2 HG2 hs1;go_upto_region 4 with fail
 obtain ⟨W4,hW4⟩ : ∃ W4,W4=W3.setCell ⟨g,16,none⟩ (.int .i64 l):=⟨_,rfl⟩;have HM4:=Box.mk (show MVr W4 g c3 by rw [hW4]; have h:=HM3.out.put (i:=16) (v:=.int .i64 l); rw [show c2.setIfInBounds 16 (.int .i64 l)=c3 by rw [HC2.out,HC3.out]; rfl] at h; exact h);have HG4:=Box.mk (show w.grownBy W4 (some g) by rw [hW4]; exact qh HG3.out (qu _ _ _ _));have hm17:W4.cell? ⟨g,17,none⟩=some (.int .i64 size0):=by rw [HM4.out.cell,HC3.out]; rfl
 have hz17:W4.frozen? ⟨g,17,none⟩=false:=HM4.out.frozen 17;rw [← hW4];clear hW4 HM3 HO3 HG3 hk1 hm16 hz16;go_upto_region 5 with fail
 obtain ⟨W5,hW5⟩ : ∃ W5,W5=W4.setCell ⟨g,17,none⟩ (.int .i64 0):=⟨_,rfl⟩;have HM5:=Box.mk (show MVr W5 g c4 by rw [hW5]; have h:=HM4.out.put (i:=17) (v:=.int .i64 0); rw [show c3.setIfInBounds 17 (.int .i64 0)=c4 by rw [HC3.out,HC4.out]; rfl] at h; exact h);have HG5:=Box.mk (show w.grownBy W5 (some g) by rw [hW5]; exact qh HG4.out (qu _ _ _ _));have hs4:c4.size=22:=by rw [HC4.out]; rfl
 rw [← hW5];clear hW5 HM4 HG4 hm17 hz17;go_wp2_with (refine jk rfl 35 _ _ rfl g 18 #[.int .i64 0,.int .i64 0,.int .i64 0,.slice none 0 0] rfl rfl 61 _ c5 HM5.out j8 (by rw [hs4]; show 18+4≤22; decide) (oneC ..) (by rw [HC4.out,HC5.out]; rfl) ?_)
 go_end0
 exact ⟨rfl,setRow_heap _ _ _ _ _ _ HM5.out,qh HG5.out (jy _ _ _)⟩
end Go.Proofs.YtflhjpokjdjbpaaGreatDoor
namespace Go.Proofs.YtflhjpokjdjbpaaGreatDoor
open Go.RowKit
theorem jcb {y:ByteArray} (h:y.size=0):y.toList.isEmpty=true:=by
 rw [ByteArray.toList_eq,List.isEmpty_iff,← List.length_eq_zero_iff,Array.length_toList]; exact h
theorem je7 {y:ByteArray} (h:¬ y.size=0):y.toList.isEmpty=false:=by
 rw [← Bool.not_eq_true,ByteArray.toList_eq,List.isEmpty_iff,← List.length_eq_zero_iff,Array.length_toList]; exact h
theorem ja3 (g:Nat) (p l t left np:Int) (v:Value) (w:World) (h:CVar w g p l t v) (hnp:(if left=0 then 2 else p)=np) :
  Calls Tryz.prog 114 #[.pointer (some ⟨g,0,none⟩),.int .i64 left] w fun e w'=>e = .returned (.tuple #[])∧CVar w' g np left t v∧w.grownBy w' (some g):=by
 obtain ⟨ha0,ha1,ha2,ha3⟩:=h.cells;have hf1:=h.frozen (i:=1);have HC:=Box.mk (h.setL (z:=left));have hf0:=HC.out.frozen (i:=0);obtain ⟨hb0,hb1,hb2,hb3⟩:=HC.out.cells;clear h;by_cases hz:left=0
 · have HZ:=Box.mk (show np=2 by rw [← hnp,if_pos hz])
   have ez:(left == 0)=true:=by rw [hz]; rfl
   clear hz hnp;go_enter Tryz.func114,Tryz.ntmps114
   go_wp2_with fail;go_end0
   exact ⟨rfl,by rw [HZ.out]; exact HC.out.setP,qh (qu _ _ _ _) (qu _ _ _ _)⟩
 · have HZ:=Box.mk (show np=p by rw [← hnp,if_neg hz])
   have ez:(left == 0)=false:=by rw [beq_eq_false_iff_ne]; exact hz
   clear hz hnp;go_enter Tryz.func114,Tryz.ntmps114
   go_wp2_with fail;go_end0
   exact ⟨rfl,by rw [HZ.out]; exact HC.out,qu _ _ _ _⟩
theorem qmr (s:ByteArray) (w:World) (hs:s.size≤maxLen) :
  Calls Tryz.prog 168 #[.string s] w fun e w'=>e = .returned (.bool (visS s))∧Below w.heap.size w w':=by
 have HS:=Box.mk (And.intro hs (Nat.le_trans (qbv s) hs));have HV:=Box.mk (jao s);clear hs;go_enter Tryz.func168,Tryz.ntmps168
 go_wp2_with fail;refine (qiv s _ HS.out.1).mono ?_;rintro e w1 ⟨rfl,hb1⟩;generalize jf s=u at *;have HB1:=Box.mk hb1;clear hb1;go_wp2_with fail;refine (qtc u _ HS.out.2).mono ?_;rintro e w2 ⟨he,hb2⟩;rw [HV.out] at he;subst he;have HB2:=Box.mk (qe HB1.out hb2);clear hb2;go_wp2_with fail;go_ret;exact ⟨rfl,HB2.out⟩
def qdw (w:World) (g:Nat) (r:Int × Chk) (e:Ending) (w':World):Prop :=
 e = .returned (.int .i64 r.1)∧(r.1=0→CVar w' g r.2.ph r.2.left r.2.tr (.slice none 0 0)∧r.2.line=[])∧w.grownBy w' (some g)
theorem qdw.err {w w':World} {g:Nat} {r:Int × Chk} {e:Ending} {er:Int} (hr:r=(er,zeroC)) (he:e = .returned (.int .i64 er)) (h0:¬ er=0) (hg:w.grownBy w' (some g)):qdw w g r e w':=by
 subst hr; exact ⟨he,fun h=>absurd h h0,hg⟩
theorem qdw.ok {w w':World} {g:Nat} {r:Int × Chk} {e:Ending} {p l t:Int} (hr:r=(0,⟨p,l,t,[]⟩)) (he:e = .returned (.int .i64 0)) (hc:CVar w' g p l t (.slice none 0 0)) (hg:w.grownBy w' (some g)):qdw w g r e w':=by
 subst hr; exact ⟨he,fun _=>⟨hc,rfl⟩,hg⟩
theorem qnj (g:Nat) (y:ByteArray) (w:World) (h:CVar w g 0 0 0 (.slice none 0 0)) (hy:y.size≤1000) :
  Calls Tryz.prog 152 #[.pointer (some ⟨g,0,none⟩),.string y] w (qdw w g (kp ⟨0,0,0,[]⟩ y)):=by
 obtain ⟨d,x,hdx⟩ : ∃ d x,cutS 59 y=(d,x):=⟨_,_,rfl⟩;obtain ⟨n,er,hp⟩ : ∃ n er,qo 16 1000000000 d=(n,er):=⟨_,_,rfl⟩;have HD:=Box.mk hdx;have HPS:=Box.mk hp;have HDX:=Box.mk (show d.size≤maxLen∧x.size≤maxLen from by
  have h1:=qon 59 y;have h2:=qnz 59 y;rw [hdx] at h1 h2;have h3:d.size≤y.size:=h1;have h4:x.size≤y.size:=h2;unfold maxLen;omega)
 have HY:=Box.mk (show y.size≤maxLen from by unfold maxLen; omega);have HL1:=Box.mk (fun (hv:visS x=false)=>ja9 (l:=0) (t:=0) (y:=y) (by rw [hdx]; exact hv));have HL2:=Box.mk (fun (hv:visS x=true) (h0:¬ er=0)=>jbc (l:=0) (t:=0) (n:=n) (e:=er) (y:=y) (by rw [hdx]; exact hv) (by rw [hdx]; exact hp) h0);have HL3:=Box.mk (fun (hv:visS x=true) (h0:er=0)=>jde (l:=0) (t:=0) (n:=n) (y:=y) (by rw [hdx]; exact hv) (by rw [hdx,← h0]; exact hp));have HC:=Box.mk h;generalize kp ⟨0,0,0,[]⟩ y=R at *;clear h hp hdx hy;go_enter Tryz.func152,Tryz.ntmps152
 go_wp2_with fail;refine (qqc 59 y _ HY.out).mono ?_;rintro e w1 ⟨b,he,hb1⟩;rw [HD.out] at he;simp only [] at he;subst he;have HC1:=Box.mk (HC.out.keep hb1);have HG1:=Box.mk (qs hb1 (some g));clear hb1 HC;go_wp2_with fail;refine (qmr x _ HDX.out.2).mono ?_;rintro e w2 ⟨he,hb2⟩;have HC2:=Box.mk (HC1.out.keep hb2);have HG2:=Box.mk (qh HG1.out (qs hb2 (some g)));clear hb2 HC1 HG1;by_cases hv:visS x=true
 · rw [hv] at he
   subst he;have HV:=Box.mk hv;clear hv;go_wp2_with fail;refine (qt3 d 1000000000 _ HDX.out.1 (by decide) (by decide)).mono ?_;rintro e w3 ⟨he,rfl⟩;rw [HPS.out] at he;simp only [] at he;subst he;by_cases h0:er=0
   · have HR:=Box.mk (HL3.out HV.out h0)
     have e0:(er != 0)=false:=by rw [h0]; rfl
     clear h0 HL1 HL2 HL3 HPS;obtain ⟨ha0,ha1,ha2,ha3⟩:=HC2.out.cells;have hf0:=HC2.out.frozen (i:=0);by_cases hn:n=0
     · have HR2:=Box.mk (show R=(0,⟨3,0,0,[]⟩) by rw [HR.out,if_pos hn,hn])
       have en:(n == 0)=true:=by rw [hn]; rfl
       have HC3:=Box.mk (HC2.out.setP (z:=3));obtain ⟨hb0,hb1,hb2,hb3⟩:=HC3.out.cells;have hf2:=HC3.out.frozen (i:=2);clear hn HR;go_wp2_with fail;go_ret;exact qdw.ok HR2.out rfl HC3.out.setT (qh HG2.out (qh (qu _ _ _ _) (qu _ _ _ _)))
     · have HR2:=Box.mk (show R=(0,⟨1,n,0,[]⟩) by rw [HR.out,if_neg hn])
       have en:(n == 0)=false:=by rw [beq_eq_false_iff_ne]; exact hn
       have HC3:=Box.mk (HC2.out.setP (z:=1));obtain ⟨hb0,hb1,hb2,hb3⟩:=HC3.out.cells;have hf1:=HC3.out.frozen (i:=1);clear hn HR;go_wp2_with fail;go_ret;exact qdw.ok HR2.out rfl HC3.out.setL (qh HG2.out (qh (qu _ _ _ _) (qu _ _ _ _)))
   · have HR:=Box.mk (HL2.out HV.out h0)
     have e0:(er != 0)=true:=by rw [bne_iff_ne]; exact h0
     have H0:=Box.mk h0;clear h0 HL1 HL2 HL3 HPS;go_wp2_with fail;go_ret;exact qdw.err HR.out rfl H0.out HG2.out
 · have hv2:visS x=false:=by rw [← Bool.not_eq_true]; exact hv
   have HR:=Box.mk (HL1.out hv2);rw [hv2] at he;subst he;clear hv hv2 HL1 HL2 HL3 HPS;go_wp2_with fail;go_ret;exact qdw.err HR.out rfl (by decide) HG2.out
theorem qh5 (p l t:Int) (g:Nat) (y:ByteArray) (w:World) (h:CVar w g p l t (.slice none 0 0)) (hp:p=0∧l=0∧t=0∨p=2∨p=3) (hy:y.size≤1000) :
  Calls Tryz.prog 132 #[.pointer (some ⟨g,0,none⟩),.string y] w (qdw w g (kp ⟨p,l,t,[]⟩ y)):=by
 rcases hp with ⟨rfl,rfl,rfl⟩ | rfl | rfl
 · have HC:=Box.mk h
   obtain ⟨ha0,ha1,ha2,ha3⟩:=h.cells;have HY:=Box.mk hy;generalize hR:kp ⟨0,0,0,[]⟩ y=R;have HR:=Box.mk hR;clear h hy hR;go_enter Tryz.func132,Tryz.ntmps132
   go_wp2_with fail;refine (qnj g y _ HC.out HY.out).mono ?_;rintro e w1 ⟨he,h1,h2⟩;rw [HR.out] at he h1;subst he;have H1:=Box.mk h1;have H2:=Box.mk h2;clear h1 h2;go_wp2_with fail;go_ret;exact ⟨rfl,H1.out,H2.out⟩
 · obtain ⟨ha0,ha1,ha2,ha3⟩:=h.cells
   have hf0:=h.frozen (i:=0);have HC:=Box.mk h;clear h;by_cases hz:y.size=0
   · have HR:=Box.mk (show kp ⟨2,l,t,[]⟩ y=(0,⟨0,l,t,[]⟩) by unfold kp; simp [hz])
     have hye:=jcb hz;generalize kp ⟨2,l,t,[]⟩ y=R at *;clear hz hy;go_enter Tryz.func132,Tryz.ntmps132
     go_wp2_with fail;go_ret;exact qdw.ok HR.out rfl HC.out.setP (qu _ _ _ _)
   · have HR:=Box.mk (show kp ⟨2,l,t,[]⟩ y=(2,zeroC) by unfold kp; simp [hz])
     have hye:=je7 hz;generalize kp ⟨2,l,t,[]⟩ y=R at *;clear hz hy;go_enter Tryz.func132,Tryz.ntmps132
     go_wp2_with fail;go_ret;exact qdw.err HR.out rfl (by decide) (qs (Below.refl _ _) _)
 · obtain ⟨ha0,ha1,ha2,ha3⟩:=h.cells
   have hf0:=h.frozen (i:=0);have HC:=Box.mk h;clear h;by_cases hz:y.size=0
   · have HR:=Box.mk (show kp ⟨3,l,t,[]⟩ y=(0,⟨4,l,t,[]⟩) by unfold kp; simp [hz])
     have hye:=jcb hz;generalize kp ⟨3,l,t,[]⟩ y=R at *;clear hz hy;go_enter Tryz.func132,Tryz.ntmps132
     go_wp2_with fail;go_ret;exact qdw.ok HR.out rfl HC.out.setP (qu _ _ _ _)
   · have HR1:=Box.mk (fun (hf:(kr y).isSome=true)=>show kp ⟨3,l,t,[]⟩ y=(0,⟨3,l,t,[]⟩) by unfold kp; simp [hz,hf])
     have HR2:=Box.mk (fun (hf:¬ (kr y).isSome=true)=>show kp ⟨3,l,t,[]⟩ y=(2,zeroC) by unfold kp; simp [hz,hf]);have hye:=je7 hz;have HY:=Box.mk (show y.size≤maxLen from by unfold maxLen; omega);generalize kp ⟨3,l,t,[]⟩ y=R at *;clear hz hy;go_enter Tryz.func132,Tryz.ntmps132
     go_wp2_with fail;refine (qoo y _ HY.out).mono ?_;rintro e w1 ⟨he,hb1⟩;have HC1:=Box.mk (HC.out.keep hb1);have HB1:=Box.mk hb1;clear hb1;rcases hq:kr y with _ | ⟨fn,fv⟩
     · rw [hq] at he
       simp only [qh1] at he;subst he;have HR:=Box.mk (HR2.out (by rw [hq]; simp));clear hq HR1 HR2;go_wp2_with fail;go_ret;exact qdw.err HR.out rfl (by decide) (qs (qe HB1.out (qd _ _)) _)
     · rw [hq] at he
       simp only [qh1] at he;subst he;have HR:=Box.mk (HR1.out (by rw [hq]; rfl));clear hq HR1 HR2;go_wp2_with fail;go_ret;exact qdw.ok HR.out rfl (HC1.out.keep (qd _ _)) (qs (qe HB1.out (qd _ _)) _)
def kx (w:World) (g B:Nat) (v:Value) (r:Int × Chk) (e:Ending) (w':World):Prop :=
 e = .returned (.int .i64 r.1)∧(r.1=0 → ∃ v',CVar w' g r.2.ph r.2.left r.2.tr v'∧Own B w' v' r.2.line∧(v'.ownBlock=v.ownBlock∨v'.ownBlock=none ∨ ∃ k,v'.ownBlock=some k∧w.heap.size≤k))∧qaz w w' g v.ownBlock
theorem kx.err {w w':World} {g B:Nat} {v:Value} {r:Int × Chk} {e:Ending} {er:Int} (hr:r=(er,zeroC)) (he:e = .returned (.int .i64 er)) (h0:¬ er=0) (ht:qaz w w' g v.ownBlock):kx w g B v r e w':=by
 subst hr; exact ⟨he,fun h=>absurd h h0,ht⟩
theorem kx.ok {w w':World} {g B:Nat} {v v':Value} {r:Int × Chk} {e:Ending} {p l t:Int} {ln:List UInt8} (hr:r=(0,⟨p,l,t,ln⟩)) (he:e = .returned (.int .i64 0)) (hc:CVar w' g p l t v') (ho:Own B w' v' ln)
  (hb:v'.ownBlock=v.ownBlock∨v'.ownBlock=none ∨ ∃ k,v'.ownBlock=some k∧w.heap.size≤k) (ht:qaz w w' g v.ownBlock):kx w g B v r e w':=by
 subst hr; exact ⟨he,fun _=>⟨v',hc,ho,hb⟩,ht⟩
theorem jbv {w:World} {a:Option Addr} {m:List UInt8} {z:UInt8} {c:Nat} (h:qg w a (m++[z]) c):m.length+1≤c:=by
 rcases h with ⟨_,e,_⟩ | ⟨y,_,h1,_,_⟩
 · simp at e
 · simpa using h1
theorem qrq {w:World} {ad:Addr} {m:List UInt8} {z:UInt8} {c:Nat} (h:qg w (some ad) (m++[z]) c):w.cell? (ad.add m.length)=some (.int .u8 (z.toNat:Int)):=by
 rcases h with ⟨e,_⟩ | ⟨y,e,_,_,hc⟩
 · cases e
 · obtain rfl:=Option.some.inj e
   have:=hc m.length (by simp);simpa using this
theorem qpo (l t:Int) (x:UInt8) (g:Nat) (v:Value) (w:World) (hc:CVar w g 3 l t v) (ht0:0≤t∧t≤1024) (ht:1024<t+1) :
  Calls Tryz.prog 115 #[.pointer (some ⟨g,0,none⟩),.int .u8 x.toNat] w fun e w'=>e = .returned (.int .i64 3)∧qaz w w' g v.ownBlock:=by
 obtain ⟨ha0,ha1,ha2,ha3⟩:=hc.cells;have hf2:=hc.frozen (i:=2);obtain ⟨hd0,hd1,hd2,hd3⟩:=(hc.setT (z:=t+1)).cells;clear hc;go_enter Tryz.func115,Tryz.ntmps115
 go_wp2_with fail;go_ret;exact ⟨rfl,qaz.ofVar (qu _ _ _ _) _⟩
theorem Own.bytes2 {B:Nat} {w:World} {a:Option Addr} {l:List UInt8} {n c:Nat} (h:Own B w (.slice a n c) l) (_:l≠[]):qg w a l c:=h.bytes
theorem qz9 (p l t:Int) (line:List UInt8) (x:UInt8) (g B:Nat) (v:Value) (w:World) (hc:CVar w g p l t v) (ho:Own B w v line) (hB:B≤w.heap.size) (hg:g<B) (hp:p=0∧l=0∧t=0∨p=2) (hl:line.length≤129) :
  Calls Tryz.prog 115 #[.pointer (some ⟨g,0,none⟩),.int .u8 x.toNat] w (kx w g B v (qba ⟨p,l,t,line⟩ t x)):=by
 have HPP:=Box.mk hp;have ep:(p == 3)=false:=by rw [beq_eq_false_iff_ne]; rcases hp with h | h <;> omega
 clear hp;obtain ⟨va,vc,rfl,hvb⟩:=ho.val;rcases qem line with rfl | ⟨m,z,rfl⟩
 · have hcr:crB []=false:=rfl
   obtain ⟨n,hn⟩ : ∃ n:Nat,n=([]:List UInt8).length:=⟨_,rfl⟩;rw [← hn] at hc ho ⊢;have HN:=Box.mk (show n=0 from hn);have hni:(n:Int)≤0:=by rw [hn]; decide
   clear hn;obtain ⟨ha0,ha1,ha2,ha3⟩:=hc.cells;have HC:=Box.mk (show CVar w g p l t (.slice va n vc) from hc);have HO:=Box.mk (show Own B w (.slice va n vc) [] from ho);have HT:=Box.mk (show qaz w w g (Value.slice va n vc).ownBlock from qaz.refl _ _ _);have hsz:B≤w.heap.size:=by exact hB
   obtain ⟨hd0,hd1,hd2,hd3⟩:=HC.out.cells;have hf3:=HC.out.frozen (i:=3);clear hc ho hvb;by_cases hx:x=10
   · subst hx
     have HP:=Box.mk (qcy (s:=⟨p,l,t,[]⟩) (t:=t) hcr);clear hcr;rw [show (10:UInt8).toNat=10 from rfl];go_enter Tryz.func115,Tryz.ntmps115
     go_wp2_with fail;go_ret;exact kx.err HP.out rfl (by decide) HT.out
   · have e10:((x.toNat:Int) == 10)=false:=by
      rw [beq_eq_false_iff_ne]; intro e; exact hx (UInt8.toNat_inj.1 (by rw [show (10:UInt8).toNat=10 from rfl]; omega))
     go_enter Tryz.func115,Tryz.ntmps115
     go_wp2_with (at_builtin; refine jq _ rfl _ _ rfl rfl (HO.out.keep (qd w (.cells #[.int .u8 (x.toNat:Int)] 5))) rfl (r:=[x]) (qcw w x) (by simp) (by simp; omega) ?_)
     intro v5 w5 hown hgr hbl;have HBL:=Box.mk (show v5.ownBlock=(Value.slice va n vc).ownBlock∨v5.ownBlock=none ∨ ∃ k,v5.ownBlock=some k∧w.heap.size≤k by
      rcases hbl with h | h
      · exact .inl h
      · exact .inr (.inr ⟨_,h,by have h9:=HT.out.size; (try simp only [World.size_setCell] at h9); (try simp only [World.size_alloc,World.size_setCell]); omega⟩))
     obtain ⟨ln,hln⟩ : ∃ ln:List UInt8,ln=[]++[x]:=⟨_,rfl⟩;have hown:Own B w5 v5 ln:=by rw [hln]; simpa using hown
     obtain ⟨na,nc,rfl,hnb⟩:=hown.val;have hgr:=qaq (qd w (.cells #[.int .u8 (x.toNat:Int)] 5)) hgr;have HC5:=Box.mk (HC.out.grownC hgr (fun e=>by have:=(HO.out.lt e.symm).1; omega));have HT5:=Box.mk (HT.out.trans (qaz.ofRow hgr g) (.inl rfl));have HO5:=Box.mk (hown.setC (g:=g) (i:=3) (u:=.slice na ln.length nc) hg);have HLN:=Box.mk (show ln.length=n+1 by rw [hln]; rw [HN.out]; rfl);have HLE:=Box.mk hln;have hl130:ln.length≤130:=by have:=HLN.out; have:=HN.out; omega
     clear hown hgr hbl hnb hln;have hf5:=HC5.out.frozen (i:=3);obtain ⟨hb0,hb1,hb2,hb3⟩:=HC5.out.cells;have HC6:=Box.mk (HC5.out.setV (u:=.slice na ln.length nc));obtain ⟨hc0,hc1,hc2,hc3⟩:=HC6.out.cells;have HT6:=Box.mk (HT5.out.trans (qaz.ofVar (qu w5 g 3 (.slice na ln.length nc)) none) (.inr (.inl rfl)));by_cases hlong:128<ln.length∧¬ x=13
     · have h128:=hlong.1
       have HP:=Box.mk (qby (s:=⟨p,l,t,[]⟩) (t:=t) hcr hx (by have h8:=hlong.1; rw [HLN.out,HN.out] at h8; exact h8) hlong.2);have e13:((x.toNat:Int) != 13)=true:=by
        rw [bne_iff_ne]; intro e; exact hlong.2 (UInt8.toNat_inj.1 (by rw [show (13:UInt8).toNat=13 from rfl]; omega))
       clear hlong hx hcr;go_wp2_with fail;go_ret;exact kx.err HP.out rfl (by decide) HT6.out
     · have HP:=Box.mk (show qba ⟨p,l,t,[]⟩ t x=(0,⟨p,l,t,ln⟩) by
        rw [HLE.out];exact qb3 hcr hx (fun h=>hlong ⟨by rw [HLN.out,HN.out]; exact h.1,h.2⟩))
       by_cases h128:128<ln.length
       · have e13:((x.toNat:Int) != 13)=false:=by
          have hx13:x=13:=Decidable.byContradiction fun h=>hlong ⟨h128,h⟩;rw [hx13]; rfl
         clear hlong hx hcr;go_wp2_with fail;go_ret;exact kx.ok HP.out rfl HC6.out HO5.out HBL.out HT6.out
       · clear hlong hx hcr
         go_wp2_with fail;go_ret;exact kx.ok HP.out rfl HC6.out HO5.out HBL.out HT6.out
 · have hnl:(m++[z]).length=m.length+1:=by simp
   rw [hnl] at hc ho hl ⊢;obtain ⟨ad,hva⟩:=qe3 hvb;have hcap:=jbv hvb;obtain ⟨ha0,ha1,ha2,ha3⟩:=hc.cells;have HC:=Box.mk (show CVar w g p l t (.slice va (m.length+1) vc) from hc);have HO:=Box.mk (show Own B w (.slice va (m.length+1) vc) (m++[z]) from ho);have HT:=Box.mk (show qaz w w g (Value.slice va (m.length+1) vc).ownBlock from qaz.refl _ _ _);have hsz:B≤w.heap.size:=by exact hB
   obtain ⟨hd0,hd1,hd2,hd3⟩:=HC.out.cells;have hf3:=HC.out.frozen (i:=3);clear hc ho hvb;have hcell:=qrq (ad:=ad) (z:=z) (m:=m) (c:=vc) (w:=w) (by rw [← hva]; have h:=HO.out.bytes2 (by simp); exact h);by_cases hz:z=13
   · subst hz
     have hcell:(w).cell? (ad.add m.length)=some (.int .u8 13):=hcell;subst hva;by_cases hx:x=10
     · subst hx
       have HP0:=Box.mk (qep (m:=m) (p:=p) (l:=l) (t0:=t) (t:=t));have hcv:=jr (qak (HO.out.bytes2 (by simp)));have HY:=Box.mk (show (⟨m.toArray⟩ : ByteArray).size≤1000 by show m.toArray.size≤1000; rw [List.size_toArray]; omega);generalize (⟨m.toArray⟩ : ByteArray)=y at *;have HC2:=Box.mk (HC.out.setV (u:=.slice none 0 0));generalize hR:kp ⟨p,l,t,[]⟩ y=R;have HR:=Box.mk hR;clear hR;rw [show (10:UInt8).toNat=10 from rfl];go_enter Tryz.func115,Tryz.ntmps115
       go_wp2_with fail;refine (qh5 p l t g y _ HC2.out (by rcases HPP.out with h | h; exact .inl h; exact .inr (.inl h)) HY.out).mono ?_;rintro e w3 ⟨he,h1,h2⟩;rw [HR.out] at he h1;subst he;have H1:=Box.mk h1;have HT3:=Box.mk ((HT.out.trans (qaz.ofVar (qu w g 3 (.slice none 0 0)) none) (.inr (.inl rfl))).trans (qaz.ofVar h2 none) (.inr (.inl rfl)));clear h1 h2 hcv;go_wp2_with fail;go_ret;refine ⟨by rw [HP0.out,HR.out]; rfl,fun h0=>?_,HT3.out⟩;rw [HP0.out,HR.out] at h0 ⊢;obtain ⟨h3,h4⟩:=H1.out h0;exact ⟨.slice none 0 0,h3,by rw [h4]; exact Own.start _ _,.inr (.inl rfl)⟩
     · have HP:=Box.mk (qhx (s:=⟨p,l,t,m++[13]⟩) (t:=t) (by show crB (m++[13])=true; rw [qdt]; rfl) hx)
       have e10:((x.toNat:Int) == 10)=false:=by
        rw [beq_eq_false_iff_ne]; intro e; exact hx (UInt8.toNat_inj.1 (by rw [show (10:UInt8).toNat=10 from rfl]; omega))
       clear hx;go_enter Tryz.func115,Tryz.ntmps115
       go_wp2_with fail;go_ret;exact kx.err HP.out rfl (by decide) HT.out
   · have hcr:crB (m++[z])=false:=by rw [qdt]; simpa using hz
     have ez:((z.toNat:Int) == 13)=false:=by
      rw [beq_eq_false_iff_ne]; intro e; exact hz (UInt8.toNat_inj.1 (by rw [show (13:UInt8).toNat=13 from rfl]; omega))
     clear hz;by_cases hx:x=10
     · subst hx
       subst hva;have HP:=Box.mk (qcy (s:=⟨p,l,t,m++[z]⟩) (t:=t) hcr);clear hcr;rw [show (10:UInt8).toNat=10 from rfl];go_enter Tryz.func115,Tryz.ntmps115
       go_wp2_with fail;go_ret;exact kx.err HP.out rfl (by decide) HT.out
     · subst hva
       have e10:((x.toNat:Int) == 10)=false:=by
        rw [beq_eq_false_iff_ne]; intro e; exact hx (UInt8.toNat_inj.1 (by rw [show (10:UInt8).toNat=10 from rfl]; omega))
       go_enter Tryz.func115,Tryz.ntmps115
       go_wp2_with (at_builtin; refine jq _ rfl _ _ rfl rfl (HO.out.keep (qd w (.cells #[.int .u8 (x.toNat:Int)] 5))) rfl (r:=[x]) (qcw w x) (by simp; omega) (by simp; omega) ?_)
       intro v5 w5 hown hgr hbl;have HBL:=Box.mk (show v5.ownBlock=(Value.slice (some ad) (m.length+1) vc).ownBlock∨v5.ownBlock=none ∨ ∃ k,v5.ownBlock=some k∧w.heap.size≤k by
        rcases hbl with h | h
        · exact .inl h
        · exact .inr (.inr ⟨_,h,by have h9:=HT.out.size; (try simp only [World.size_setCell] at h9); (try simp only [World.size_alloc,World.size_setCell]); omega⟩))
       obtain ⟨ln,hln⟩ : ∃ ln:List UInt8,ln=(m++[z])++[x]:=⟨_,rfl⟩;have hown:Own B w5 v5 ln:=by rw [hln]; simpa using hown
       obtain ⟨na,nc,rfl,hnb⟩:=hown.val;have hgr:=qaq (qd w (.cells #[.int .u8 (x.toNat:Int)] 5)) hgr;have HC5:=Box.mk (HC.out.grownC hgr (fun e=>by have:=(HO.out.lt e.symm).1; omega));have HT5:=Box.mk (HT.out.trans (qaz.ofRow hgr g) (.inl rfl));have HO5:=Box.mk (hown.setC (g:=g) (i:=3) (u:=.slice na ln.length nc) hg);have HLN:=Box.mk (show ln.length=(m.length+1)+1 by rw [hln]; simp);have HLE:=Box.mk hln;have hl130:ln.length≤130:=by have:=HLN.out; omega
       clear hown hgr hbl hnb hln;have hf5:=HC5.out.frozen (i:=3);obtain ⟨hb0,hb1,hb2,hb3⟩:=HC5.out.cells;have HC6:=Box.mk (HC5.out.setV (u:=.slice na ln.length nc));obtain ⟨hc0,hc1,hc2,hc3⟩:=HC6.out.cells;have HT6:=Box.mk (HT5.out.trans (qaz.ofVar (qu w5 g 3 (.slice na ln.length nc)) none) (.inr (.inl rfl)));by_cases hlong:128<ln.length∧¬ x=13
       · have h128:=hlong.1
         have HP:=Box.mk (qby (s:=⟨p,l,t,(m++[z])⟩) (t:=t) hcr hx (by have h8:=hlong.1; rw [HLN.out] at h8; simpa using h8) hlong.2);have e13:((x.toNat:Int) != 13)=true:=by
          rw [bne_iff_ne]; intro e; exact hlong.2 (UInt8.toNat_inj.1 (by rw [show (13:UInt8).toNat=13 from rfl]; omega))
         clear hlong hx hcr;go_wp2_with fail;go_ret;exact kx.err HP.out rfl (by decide) HT6.out
       · have HP:=Box.mk (show qba ⟨p,l,t,(m++[z])⟩ t x=(0,⟨p,l,t,ln⟩) by
          rw [HLE.out];exact qb3 hcr hx (fun h=>hlong ⟨by rw [HLN.out]; simpa using h.1,h.2⟩))
         by_cases h128:128<ln.length
         · have e13:((x.toNat:Int) != 13)=false:=by
            have hx13:x=13:=Decidable.byContradiction fun h=>hlong ⟨h128,h⟩;rw [hx13]; rfl
           clear hlong hx hcr;go_wp2_with fail;go_ret;exact kx.ok HP.out rfl HC6.out HO5.out HBL.out HT6.out
         · clear hlong hx hcr
           go_wp2_with fail;go_ret;exact kx.ok HP.out rfl HC6.out HO5.out HBL.out HT6.out
theorem qxv (l t:Int) (line:List UInt8) (x:UInt8) (g B:Nat) (v:Value) (w:World) (hc:CVar w g 3 l t v) (ho:Own B w v line) (hB:B≤w.heap.size) (hg:g<B) (ht0:0≤t) (ht:t+1≤1024) (hl:line.length≤129) :
  Calls Tryz.prog 115 #[.pointer (some ⟨g,0,none⟩),.int .u8 x.toNat] w (kx w g B v (qba ⟨3,l,t,line⟩ (t+1) x)):=by
 obtain ⟨va,vc,rfl,hvb⟩:=ho.val;rcases qem line with rfl | ⟨m,z,rfl⟩
 · have hcr:crB []=false:=rfl
   obtain ⟨n,hn⟩ : ∃ n:Nat,n=([]:List UInt8).length:=⟨_,rfl⟩;rw [← hn] at hc ho ⊢;have HN:=Box.mk (show n=0 from hn);have hni:(n:Int)≤0:=by rw [hn]; decide
   clear hn;obtain ⟨ha0,ha1,ha2,ha3⟩:=hc.cells;have hf2:=hc.frozen (i:=2);have HC:=Box.mk (show CVar (w.setCell ⟨g,2,none⟩ (.int .i64 (t+1))) g 3 l (t+1) (.slice va n vc) from hc.setT);have HO:=Box.mk (show Own B (w.setCell ⟨g,2,none⟩ (.int .i64 (t+1))) (.slice va n vc) [] from ho.setC hg);have HT:=Box.mk (show qaz w (w.setCell ⟨g,2,none⟩ (.int .i64 (t+1))) g (Value.slice va n vc).ownBlock from qaz.ofVar (qu _ _ _ _) _);have hsz:B≤(w.setCell ⟨g,2,none⟩ (.int .i64 (t+1))).heap.size:=by rw [World.size_setCell]; exact hB
   obtain ⟨hd0,hd1,hd2,hd3⟩:=HC.out.cells;have hf3:=HC.out.frozen (i:=3);clear hc ho hvb;by_cases hx:x=10
   · subst hx
     have HP:=Box.mk (qcy (s:=⟨3,l,t,[]⟩) (t:=(t+1)) hcr);clear hcr;rw [show (10:UInt8).toNat=10 from rfl];go_enter Tryz.func115,Tryz.ntmps115
     go_wp2_with fail;go_ret;exact kx.err HP.out rfl (by decide) HT.out
   · have e10:((x.toNat:Int) == 10)=false:=by
      rw [beq_eq_false_iff_ne]; intro e; exact hx (UInt8.toNat_inj.1 (by rw [show (10:UInt8).toNat=10 from rfl]; omega))
     go_enter Tryz.func115,Tryz.ntmps115
     go_wp2_with (at_builtin; refine jq _ rfl _ _ rfl rfl (HO.out.keep (qd (w.setCell ⟨g,2,none⟩ (.int .i64 (t+1))) (.cells #[.int .u8 (x.toNat:Int)] 5))) rfl (r:=[x]) (by have h:=qcw (w.setCell ⟨g,2,none⟩ (.int .i64 (t+1))) x; rw [World.size_setCell] at h; exact h) (by simp) (by simp; omega) ?_)
     intro v5 w5 hown hgr hbl;have HBL:=Box.mk (show v5.ownBlock=(Value.slice va n vc).ownBlock∨v5.ownBlock=none ∨ ∃ k,v5.ownBlock=some k∧w.heap.size≤k by
      rcases hbl with h | h
      · exact .inl h
      · exact .inr (.inr ⟨_,h,by have h9:=HT.out.size; (try simp only [World.size_setCell] at h9); (try simp only [World.size_alloc,World.size_setCell]); omega⟩))
     obtain ⟨ln,hln⟩ : ∃ ln:List UInt8,ln=[]++[x]:=⟨_,rfl⟩;have hown:Own B w5 v5 ln:=by rw [hln]; simpa using hown
     obtain ⟨na,nc,rfl,hnb⟩:=hown.val;have hgr:=qaq (qd (w.setCell ⟨g,2,none⟩ (.int .i64 (t+1))) (.cells #[.int .u8 (x.toNat:Int)] 5)) hgr;have HC5:=Box.mk (HC.out.grownC hgr (fun e=>by have:=(HO.out.lt e.symm).1; omega));have HT5:=Box.mk (HT.out.trans (qaz.ofRow hgr g) (.inl rfl));have HO5:=Box.mk (hown.setC (g:=g) (i:=3) (u:=.slice na ln.length nc) hg);have HLN:=Box.mk (show ln.length=n+1 by rw [hln]; rw [HN.out]; rfl);have HLE:=Box.mk hln;have hl130:ln.length≤130:=by have:=HLN.out; have:=HN.out; omega
     clear hown hgr hbl hnb hln;have hf5:=HC5.out.frozen (i:=3);obtain ⟨hb0,hb1,hb2,hb3⟩:=HC5.out.cells;have HC6:=Box.mk (HC5.out.setV (u:=.slice na ln.length nc));obtain ⟨hc0,hc1,hc2,hc3⟩:=HC6.out.cells;have HT6:=Box.mk (HT5.out.trans (qaz.ofVar (qu w5 g 3 (.slice na ln.length nc)) none) (.inr (.inl rfl)));by_cases hlong:128<ln.length∧¬ x=13
     · have h128:=hlong.1
       have HP:=Box.mk (qby (s:=⟨3,l,t,[]⟩) (t:=(t+1)) hcr hx (by have h8:=hlong.1; rw [HLN.out,HN.out] at h8; exact h8) hlong.2);have e13:((x.toNat:Int) != 13)=true:=by
        rw [bne_iff_ne]; intro e; exact hlong.2 (UInt8.toNat_inj.1 (by rw [show (13:UInt8).toNat=13 from rfl]; omega))
       clear hlong hx hcr;go_wp2_with fail;go_ret;exact kx.err HP.out rfl (by decide) HT6.out
     · have HP:=Box.mk (show qba ⟨3,l,t,[]⟩ (t+1) x=(0,⟨3,l,(t+1),ln⟩) by
        rw [HLE.out];exact qb3 hcr hx (fun h=>hlong ⟨by rw [HLN.out,HN.out]; exact h.1,h.2⟩))
       by_cases h128:128<ln.length
       · have e13:((x.toNat:Int) != 13)=false:=by
          have hx13:x=13:=Decidable.byContradiction fun h=>hlong ⟨h128,h⟩;rw [hx13]; rfl
         clear hlong hx hcr;go_wp2_with fail;go_ret;exact kx.ok HP.out rfl HC6.out HO5.out HBL.out HT6.out
       · clear hlong hx hcr
         go_wp2_with fail;go_ret;exact kx.ok HP.out rfl HC6.out HO5.out HBL.out HT6.out
 · have hnl:(m++[z]).length=m.length+1:=by simp
   rw [hnl] at hc ho hl ⊢;obtain ⟨ad,hva⟩:=qe3 hvb;have hcap:=jbv hvb;obtain ⟨ha0,ha1,ha2,ha3⟩:=hc.cells;have hf2:=hc.frozen (i:=2);have HC:=Box.mk (show CVar (w.setCell ⟨g,2,none⟩ (.int .i64 (t+1))) g 3 l (t+1) (.slice va (m.length+1) vc) from hc.setT);have HO:=Box.mk (show Own B (w.setCell ⟨g,2,none⟩ (.int .i64 (t+1))) (.slice va (m.length+1) vc) (m++[z]) from ho.setC hg);have HT:=Box.mk (show qaz w (w.setCell ⟨g,2,none⟩ (.int .i64 (t+1))) g (Value.slice va (m.length+1) vc).ownBlock from qaz.ofVar (qu _ _ _ _) _);have hsz:B≤(w.setCell ⟨g,2,none⟩ (.int .i64 (t+1))).heap.size:=by rw [World.size_setCell]; exact hB
   obtain ⟨hd0,hd1,hd2,hd3⟩:=HC.out.cells;have hf3:=HC.out.frozen (i:=3);clear hc ho hvb;have hcell:=qrq (ad:=ad) (z:=z) (m:=m) (c:=vc) (w:=(w.setCell ⟨g,2,none⟩ (.int .i64 (t+1)))) (by rw [← hva]; have h:=HO.out.bytes2 (by simp); exact h);by_cases hz:z=13
   · subst hz
     have hcell:((w.setCell ⟨g,2,none⟩ (.int .i64 (t+1)))).cell? (ad.add m.length)=some (.int .u8 13):=hcell;subst hva;by_cases hx:x=10
     · subst hx
       have HP0:=Box.mk (qep (m:=m) (p:=3) (l:=l) (t0:=t) (t:=(t+1)));have hcv:=jr (qak (HO.out.bytes2 (by simp)));have HY:=Box.mk (show (⟨m.toArray⟩ : ByteArray).size≤1000 by show m.toArray.size≤1000; rw [List.size_toArray]; omega);generalize (⟨m.toArray⟩ : ByteArray)=y at *;have HC2:=Box.mk (HC.out.setV (u:=.slice none 0 0));generalize hR:kp ⟨3,l,(t+1),[]⟩ y=R;have HR:=Box.mk hR;clear hR;rw [show (10:UInt8).toNat=10 from rfl];go_enter Tryz.func115,Tryz.ntmps115
       go_wp2_with fail;refine (qh5 3 l (t+1) g y _ HC2.out (.inr (.inr rfl)) HY.out).mono ?_;rintro e w3 ⟨he,h1,h2⟩;rw [HR.out] at he h1;subst he;have H1:=Box.mk h1;have HT3:=Box.mk ((HT.out.trans (qaz.ofVar (qu (w.setCell ⟨g,2,none⟩ (.int .i64 (t+1))) g 3 (.slice none 0 0)) none) (.inr (.inl rfl))).trans (qaz.ofVar h2 none) (.inr (.inl rfl)));clear h1 h2 hcv;go_wp2_with fail;go_ret;refine ⟨by rw [HP0.out,HR.out]; rfl,fun h0=>?_,HT3.out⟩;rw [HP0.out,HR.out] at h0 ⊢;obtain ⟨h3,h4⟩:=H1.out h0;exact ⟨.slice none 0 0,h3,by rw [h4]; exact Own.start _ _,.inr (.inl rfl)⟩
     · have HP:=Box.mk (qhx (s:=⟨3,l,t,m++[13]⟩) (t:=(t+1)) (by show crB (m++[13])=true; rw [qdt]; rfl) hx)
       have e10:((x.toNat:Int) == 10)=false:=by
        rw [beq_eq_false_iff_ne]; intro e; exact hx (UInt8.toNat_inj.1 (by rw [show (10:UInt8).toNat=10 from rfl]; omega))
       clear hx;go_enter Tryz.func115,Tryz.ntmps115
       go_wp2_with fail;go_ret;exact kx.err HP.out rfl (by decide) HT.out
   · have hcr:crB (m++[z])=false:=by rw [qdt]; simpa using hz
     have ez:((z.toNat:Int) == 13)=false:=by
      rw [beq_eq_false_iff_ne]; intro e; exact hz (UInt8.toNat_inj.1 (by rw [show (13:UInt8).toNat=13 from rfl]; omega))
     clear hz;by_cases hx:x=10
     · subst hx
       subst hva;have HP:=Box.mk (qcy (s:=⟨3,l,t,m++[z]⟩) (t:=(t+1)) hcr);clear hcr;rw [show (10:UInt8).toNat=10 from rfl];go_enter Tryz.func115,Tryz.ntmps115
       go_wp2_with fail;go_ret;exact kx.err HP.out rfl (by decide) HT.out
     · subst hva
       have e10:((x.toNat:Int) == 10)=false:=by
        rw [beq_eq_false_iff_ne]; intro e; exact hx (UInt8.toNat_inj.1 (by rw [show (10:UInt8).toNat=10 from rfl]; omega))
       go_enter Tryz.func115,Tryz.ntmps115
       go_wp2_with (at_builtin; refine jq _ rfl _ _ rfl rfl (HO.out.keep (qd (w.setCell ⟨g,2,none⟩ (.int .i64 (t+1))) (.cells #[.int .u8 (x.toNat:Int)] 5))) rfl (r:=[x]) (by have h:=qcw (w.setCell ⟨g,2,none⟩ (.int .i64 (t+1))) x; rw [World.size_setCell] at h; exact h) (by simp; omega) (by simp; omega) ?_)
       intro v5 w5 hown hgr hbl;have HBL:=Box.mk (show v5.ownBlock=(Value.slice (some ad) (m.length+1) vc).ownBlock∨v5.ownBlock=none ∨ ∃ k,v5.ownBlock=some k∧w.heap.size≤k by
        rcases hbl with h | h
        · exact .inl h
        · exact .inr (.inr ⟨_,h,by have h9:=HT.out.size; (try simp only [World.size_setCell] at h9); (try simp only [World.size_alloc,World.size_setCell]); omega⟩))
       obtain ⟨ln,hln⟩ : ∃ ln:List UInt8,ln=(m++[z])++[x]:=⟨_,rfl⟩;have hown:Own B w5 v5 ln:=by rw [hln]; simpa using hown
       obtain ⟨na,nc,rfl,hnb⟩:=hown.val;have hgr:=qaq (qd (w.setCell ⟨g,2,none⟩ (.int .i64 (t+1))) (.cells #[.int .u8 (x.toNat:Int)] 5)) hgr;have HC5:=Box.mk (HC.out.grownC hgr (fun e=>by have:=(HO.out.lt e.symm).1; omega));have HT5:=Box.mk (HT.out.trans (qaz.ofRow hgr g) (.inl rfl));have HO5:=Box.mk (hown.setC (g:=g) (i:=3) (u:=.slice na ln.length nc) hg);have HLN:=Box.mk (show ln.length=(m.length+1)+1 by rw [hln]; simp);have HLE:=Box.mk hln;have hl130:ln.length≤130:=by have:=HLN.out; omega
       clear hown hgr hbl hnb hln;have hf5:=HC5.out.frozen (i:=3);obtain ⟨hb0,hb1,hb2,hb3⟩:=HC5.out.cells;have HC6:=Box.mk (HC5.out.setV (u:=.slice na ln.length nc));obtain ⟨hc0,hc1,hc2,hc3⟩:=HC6.out.cells;have HT6:=Box.mk (HT5.out.trans (qaz.ofVar (qu w5 g 3 (.slice na ln.length nc)) none) (.inr (.inl rfl)));by_cases hlong:128<ln.length∧¬ x=13
       · have h128:=hlong.1
         have HP:=Box.mk (qby (s:=⟨3,l,t,(m++[z])⟩) (t:=(t+1)) hcr hx (by have h8:=hlong.1; rw [HLN.out] at h8; simpa using h8) hlong.2);have e13:((x.toNat:Int) != 13)=true:=by
          rw [bne_iff_ne]; intro e; exact hlong.2 (UInt8.toNat_inj.1 (by rw [show (13:UInt8).toNat=13 from rfl]; omega))
         clear hlong hx hcr;go_wp2_with fail;go_ret;exact kx.err HP.out rfl (by decide) HT6.out
       · have HP:=Box.mk (show qba ⟨3,l,t,(m++[z])⟩ (t+1) x=(0,⟨3,l,(t+1),ln⟩) by
          rw [HLE.out];exact qb3 hcr hx (fun h=>hlong ⟨by rw [HLN.out]; simpa using h.1,h.2⟩))
         by_cases h128:128<ln.length
         · have e13:((x.toNat:Int) != 13)=false:=by
            have hx13:x=13:=Decidable.byContradiction fun h=>hlong ⟨h128,h⟩;rw [hx13]; rfl
           clear hlong hx hcr;go_wp2_with fail;go_ret;exact kx.ok HP.out rfl HC6.out HO5.out HBL.out HT6.out
         · clear hlong hx hcr
           go_wp2_with fail;go_ret;exact kx.ok HP.out rfl HC6.out HO5.out HBL.out HT6.out
theorem qt4 (s:Chk) (x:UInt8) (g B:Nat) (v:Value) (w:World) (hc:CVar w g s.ph s.left s.tr v) (ho:Own B w v s.line) (hB:B≤w.heap.size) (hg:g<B) (hs:OkC s) (h1:¬ s.ph=1) (h4:¬ s.ph=4) :
  Calls Tryz.prog 115 #[.pointer (some ⟨g,0,none⟩),.int .u8 x.toNat] w (kx w g B v (qat s x)):=by
 have hl:=hs.len;have hph:=hs.ph;have hlf:=hs.left h1;have htr:=hs.tr;have ht0:=hs.tr0;obtain ⟨p,l,t,ln⟩:=s;simp only [] at hl hph hlf htr ht0 h1 h4 hc ho;by_cases h3:p=3
 · subst h3
   by_cases ht:1024<t+1
   · have e:qat ⟨3,l,t,ln⟩ x=(3,zeroC):=by unfold qat; simp [ht]
     rw [e];refine (qpo l t x g v w hc htr ht).mono ?_;rintro e w' ⟨he,h⟩;exact kx.err rfl he (by decide) h
   · have e:qat ⟨3,l,t,ln⟩ x=qba ⟨3,l,t,ln⟩ (t+1) x:=by unfold qat; simp [ht]
     rw [e];exact qxv l t ln x g B v w hc ho hB hg htr.1 (by omega) hl
 · have e:qat ⟨p,l,t,ln⟩ x=qba ⟨p,l,t,ln⟩ t x:=by unfold qat; simp [h3]
   rw [e];exact qz9 p l t ln x g B v w hc ho hB hg (by
    have:p=0∨p=2:=by omega
    rcases this with h | h
    · exact .inl ⟨h,hlf,ht0 (by omega)⟩
    · exact .inr h) hl
theorem qq1 {w:World} {ad:Addr} {l:List UInt8} {c k q:Nat} (h:qg w (some ad) l c) (_hk:k<l.length) (hq:k+q≤l.length):qg w (some (ad.add k)) ((l.drop k).take q) (c-k):=by
 rcases h with ⟨e,_⟩ | ⟨y,e,h1,h2,h3⟩
 · cases e
 · obtain rfl:=Option.some.inj e
   refine .inr ⟨_,rfl,by rw [List.length_take,List.length_drop]; omega,by omega,fun j hj=>?_⟩;rw [List.length_take,List.length_drop] at hj;have h4:=h3 (k+j) (by omega);rw [List.getElem_take,List.getElem_drop,Addr.add_add];exact h4
structure qpj (w:World) (room:Int) (s1:Chk) (v bv:Value) (out:List UInt8) (k:Nat) (W:World):Prop where
 ok:OkC s1
 var:CVar W w.heap.size s1.ph s1.left s1.tr v
 line:Own (w.heap.size+2) W v s1.line
 res:CVar W (w.heap.size+1) 0 0 0 (.slice none 0 0)
 own:Own (w.heap.size+2) W bv out
 apart:∀ q q',v.ownBlock=some q→bv.ownBlock=some q'→q≠q'
 below:Below w.heap.size w W
 size:w.heap.size+2≤W.heap.size
 len:out.length≤k
 room:out.length=0∨(out.length:Int)≤room
theorem qpj.read {w:World} {room:Int} {s1 s2:Chk} {v v' bv:Value} {out:List UInt8} {k:Nat} {W W':World} (h:qpj w room s1 v bv out k W) (ho:OkC s2) (hc:CVar W' w.heap.size s2.ph s2.left s2.tr v') (hl:Own (w.heap.size+2) W' v' s2.line)
  (hb:v'.ownBlock=v.ownBlock∨v'.ownBlock=none ∨ ∃ q,v'.ownBlock=some q∧W.heap.size≤q) (ht:qaz W W' w.heap.size v.ownBlock):qpj w room s2 v' bv out (k+1) W':=by
 refine ⟨ho,hc,hl,h.res.touch ht (by omega) (fun e=>by have:=(h.line.lt e.symm).1; omega),h.own.touch ht (by omega) (fun q e e2=>h.apart q q e2.symm e rfl),fun q q' e1 e2=>?_,
  Below.touch h.below ht (by have:=h.size; omega) (Nat.le_refl _) (fun q e=>by have:=(h.line.lt e).1; omega),Nat.le_trans h.size ht.size,by have:=h.len; omega,h.room⟩
 rcases hb with hb | hb | ⟨r,hb,hr⟩
 · exact h.apart q q' (hb ▸ e1) e2
 · rw [hb] at e1; cases e1
 · have h1:q=r:=(Option.some.inj (hb.symm.trans e1)).symm
   have h2:=(h.own.lt e2).2;omega
theorem qpj.data {w:World} {room:Int} {s1:Chk} {v bv bv':Value} {out d:List UInt8} {k:Nat} {W W1 W2:World} (h:qpj w room s1 v bv out k W) (h1:s1.ph=1) (hd:0<d.length) (hdl:(d.length:Int)≤s1.left) (hdr:(out.length:Int)+d.length≤room)
  (ho:Own (w.heap.size+2) W1 bv' (out++d)) (hgr:W.grownBy W1 bv.ownBlock) (hbl:bv'.ownBlock=bv.ownBlock∨bv'.ownBlock=some W.heap.size)
  (hc:CVar W2 w.heap.size (if s1.left-d.length=0 then 2 else 1) (s1.left-d.length) s1.tr v) (hg2:W1.grownBy W2 (some w.heap.size)) :
  qpj w room ⟨if s1.left-d.length=0 then 2 else 1,s1.left-d.length,s1.tr,s1.line⟩ v bv' (out++d) (k+d.length) W2:=by
 have hw:=h.size;have hok:OkC ⟨if s1.left-d.length=0 then 2 else 1,s1.left-d.length,s1.tr,s1.line⟩:=by
  have hd2:=h.ok.data h1;have ht:=h.ok.tr0 (by omega);by_cases e:s1.left-d.length=0
  · simp only [if_pos e]
    exact qh9 (by decide) h.ok.line h.ok.tr (fun _=>ht) (fun h=>absurd h (by decide)) (fun _=>e) (fun _=>h.ok.empty (.inl h1))
  · simp only [if_neg e]
    exact qh9 (by decide) h.ok.line h.ok.tr (fun _=>ht) (fun _=>by omega) (fun h=>absurd rfl h) (fun _=>h.ok.empty (.inl h1))
 have hl1:=h.line.grown hgr (fun q e e2=>h.apart q q e e2.symm rfl);refine ⟨hok,hc,hl1.grown hg2 (fun q e e2=>by have:=(hl1.lt e).1; have:=Option.some.inj e2; omega),?_,ho.grown hg2 (fun q e e2=>by have:=(ho.lt e).1; have:=Option.some.inj e2; omega),fun q q' e1 e2=>?_,
  (h.below.grown hgr h.below.size (fun q e=>by have:=(h.own.lt e).1; omega)).grown hg2 (by have:=hgr.size; omega) (fun q e=>by have:=Option.some.inj e; omega),by have:=hgr.size; have:=hg2.size; omega,by have:=h.len; rw [List.length_append]; omega,.inr (by rw [List.length_append]; omega)⟩
 · exact (h.res.grownC hgr (fun e=>by have:=(h.own.lt e.symm).1; omega)).grownC hg2 (fun e=>by have:=Option.some.inj e; omega)
 · rcases hbl with hb | hb
   · exact h.apart q q' e1 (hb ▸ e2)
   · have h3:q'=W.heap.size:=(Option.some.inj (hb.symm.trans e2)).symm
     have h4:=(h.line.lt e1).2;omega
theorem Own.freshA {B:Nat} {w:World} {a:Option Addr} {n c:Nat} {l:List UInt8} (h:Own B w (.slice a n c) l) (x:Addr) (hx:a=some x) (hl:l≠[]):B≤x.block:=by
 obtain ⟨_,h2⟩:=h;rcases h2 with ⟨_,h3⟩ | ⟨g,cap,cur,hv,hg,_⟩
 · exact absurd (List.eq_nil_of_length_eq_zero h3) hl
 · injection hv with e1 _ _
   rw [hx] at e1;injection e1 with e1;rw [e1]; exact hg
def jdv (w:World) (r:Int × Chk × List UInt8 × Nat) (e:Ending) (w':World):Prop :=
 ∃ a c oa oc,e = .returned (.tuple #[.agg #[.int .i64 r.2.1.ph,.int .i64 r.2.1.left,.int .i64 r.2.1.tr,.slice a r.2.1.line.length c],.slice oa r.2.2.1.length oc,.int .i64 r.2.2.2,.int .i64 r.1])∧qg w' a r.2.1.line c∧qg w' oa r.2.2.1 oc∧Below w.heap.size w w' ∧ ∀ x,a=some x→r.2.1.line≠[]→w.heap.size≤x.block
theorem qc3 (s:Chk) (l:List UInt8) (room:Int) (la ba:Option Addr) (lc bc:Nat) (w:World) (h:qg w la s.line lc) (hb:qg w ba l bc) (hs:OkC s) (hl:l.length≤4000000000) (hr0:-9223372036854775808≤room) (hr1:room≤9223372036854775807) :
  Calls Tryz.prog 86 #[.agg #[.int .i64 s.ph,.int .i64 s.left,.int .i64 s.tr,.slice la s.line.length lc],.slice ba l.length bc,.int .i64 room] w (jdv w (jp room s [] 0 l)):=by
 obtain ⟨W2,hW2⟩ : ∃ W2,W2=(w.alloc (.cells #[.int .i64 s.ph,.int .i64 s.left,.int .i64 s.tr,.slice la s.line.length lc] 35)).alloc (.cells #[.int .i64 0,.int .i64 0,.int .i64 0,.slice none 0 0] 35):=⟨_,rfl⟩;have hb0:Below w.heap.size w W2:=by rw [hW2]; exact qk (qd w _) _
 have hz2:W2.heap.size=w.heap.size+2:=by rw [hW2,World.size_alloc,World.size_alloc]
 have HC0:=Box.mk (show CVar W2 w.heap.size s.ph s.left s.tr (.slice la s.line.length lc) by rw [hW2]; exact CVar.keep (heap_alloc_new _ _) (qd _ _));have HR0:=Box.mk (show CVar W2 (w.heap.size+1) 0 0 0 (.slice none 0 0) by
   have h:=heap_alloc_new (w.alloc (.cells #[.int .i64 s.ph,.int .i64 s.left,.int .i64 s.tr,.slice la s.line.length lc] 35)) (.cells #[.int .i64 0,.int .i64 0,.int .i64 0,.slice none 0 0] 35);rw [World.size_alloc] at h; rw [hW2]; exact h)
 have HB0:=Box.mk hb0;have HLB:=Box.mk (h.keep hb0);have HZ2:=Box.mk hz2;have hlz:s.line.length≤129:=hs.len;have HBB:=Box.mk hb;have hcapb:l.length≤bc:=by
  rcases hb with ⟨_,e,e2⟩ | ⟨_,_,h1,_,_⟩
  · subst e; simp
  · exact h1
 have HOK0:=Box.mk hs;obtain ⟨R,hR⟩ : ∃ R,R=jp room s [] 0 l:=⟨_,rfl⟩;rw [← hR];have HEQ:=Box.mk (show R=jp room s [] 0 (l.drop 0) from hR);clear hR;clear h hb hs hb0 hz2;have HW2:=Box.mk hW2;clear hW2;go_enter Tryz.func86,Tryz.ntmps86
 go_wp2_with fail;go_step3
 go_wp2_with (at_builtin; refine jq _ rfl _ _ rfl rfl (Own.start (w.heap.size+2) _) rfl (r:=s.line) (by rw [← HW2.out]; exact HLB.out) (by simp; omega) (by rw [← HW2.out,HZ2.out]; exact Nat.le_refl _) ?_)
 intro v3 w3 hown hgr _;have hown:Own (w.heap.size+2) w3 v3 s.line:=by simpa using hown
 have hgr:W2.grownBy w3 none:=by rw [HW2.out]; exact hgr
 obtain ⟨na,nc,rfl,_⟩:=hown.val;have HC3:=Box.mk (HC0.out.grownC hgr (by simp));have HR3:=Box.mk (HR0.out.grownC hgr (by simp));have HJ:=Box.mk (show qpj w room s (.slice na s.line.length nc) (.slice none 0 0) [] 0 (w3.setCell ⟨w.heap.size,3,none⟩ (.slice na s.line.length nc)) from
  ⟨HOK0.out,HC3.out.setV,hown.setC (by omega),HR3.out.other (by show w.heap.size+1≠w.heap.size; omega),Own.start _ _,fun _ _ _ e=>(by cases e),
   (HB0.out.grown hgr (by rw [HZ2.out]; omega) (fun q e=>by cases e)).setCell (p:=⟨w.heap.size,3,none⟩) (Nat.le_refl _) _,by rw [World.size_setCell]; have:=hgr.size; rw [HZ2.out] at this; exact this,Nat.le_refl _,.inl rfl⟩)
 obtain ⟨hd0,hd1,hd2,hd3⟩:=HC3.out.cells;have hf3:=HC3.out.frozen (i:=3);clear hown hgr HC0 HR0 HB0 HLB;go_wp2_with fail;clear hd0 hd1 hd2 hd3 hf3 HC3 HR3;go_step3
 go_wp2_with fail;go_loopw [10,11] (fun v iv wr=>∃ k:Nat,k≤l.length∧iv = .int .i64 k ∧ ∃ (s1:Chk) (va:Value) (out:List UInt8),Box (qpj w room s1 va v out k wr∧R=jp room s1 out k (l.drop k))) (fun _ iv _=>l.length-(intOf iv).toNat)
 case atStart=>exact ⟨0,Nat.zero_le _,rfl,s,_,[],⟨HJ.out,HEQ.out⟩⟩
 case round =>
  clear HJ HEQ HW2;obtain ⟨k,hk,rfl,s1,va,out,HM⟩:=hrel;obtain ⟨oa,oc,rfl,hob⟩:=HM.out.1.own.val;obtain ⟨la2,lc2,rfl,hlb⟩:=HM.out.1.line.val;have HFP:=Box.mk HM.out.1;have HEQM:=Box.mk HM.out.2;have HOB:=Box.mk hob;have HLB:=Box.mk hlb;obtain ⟨hd0,hd1,hd2,hd3⟩:=HFP.out.var.cells;have hol:out.length≤k:=HFP.out.len;have hszr:=HFP.out.below.size;have hsz2:=HFP.out.size;have HRM:=Box.mk HFP.out.room;clear hob hlb HM;obtain ⟨hr0,hr1,hr2,hr3⟩:=HFP.out.res.cells;have hz0:=HFP.out.res.frozen (i:=0);have hz1:=HFP.out.res.frozen (i:=1);have hz2:=HFP.out.res.frozen (i:=2);have hz3:=HFP.out.res.frozen (i:=3);by_cases hlt:k<l.length
  · obtain ⟨bad,rfl,hbc⟩:=qph (HBB.out.keep HFP.out.below) hlt
    have HEQ2:=Box.mk (show R=jp room s1 out k (l[k] :: l.drop (k+1)) by rw [← List.drop_eq_getElem_cons hlt]; exact HEQM.out);generalize l[k]=x at *;by_cases h4:s1.ph=4
    · have e4:(s1.ph == 4)=true:=by rw [h4]; rfl
      have HP:=Box.mk (show R=(0,s1,out,k) by rw [HEQ2.out,qcj (.inl h4)]);clear HEQ2 h4 HEQM;go_wp2_with fail
      (try rw [Exit.noGoto_ret])
      refine bodyPost_ret (kf rfl _ _ (w.heap.size+1) _ _ _ _ rfl HFP.out.res.set4 Tryz.underlying35 rfl j8) rfl ?_;exact ⟨la2,lc2,oa,oc,by rw [HP.out]; rfl,by rw [HP.out]; exact HFP.out.res.set4B HLB.out,by rw [HP.out]; exact HFP.out.res.set4B HOB.out,qbz HFP.out.below (by omega),by rw [HP.out]; exact fun x e hne=>by have:=HFP.out.line.freshA x e hne; omega⟩
    · have e4:(s1.ph == 4)=false:=by rw [beq_eq_false_iff_ne]; exact h4
      by_cases h1:s1.ph=1
      · have e1:(s1.ph == 1)=true:=by rw [h1]; rfl
        have hlf:=HFP.out.ok.data h1;have hbr:-9223372036854775808≤room-(out.length:Int)∧room-(out.length:Int)≤9223372036854775807:=by
         rcases HRM.out with h | h <;> omega
        have hbr1:=hbr.1;have hbr2:=hbr.2;clear hbr;by_cases hr:room≤out.length
        · have HP:=Box.mk (show R=(0,s1,out,k) by rw [HEQ2.out,qcj (.inr ⟨h1,hr⟩)])
          have hmin:∀ (ts:Array TypeId) (t:TypeId) (W:World),(Builtin.min_ ts t #[.int .i64 s1.left,.int .i64 (room-(out.length:Int)),.int .i64 ((l.length:Int)-(k:Int))]).run Tryz.prog W = .ok (.int .i64 (room-(out.length:Int))) W:=fun ts t W=>by
           rw [run_min_int3,if_pos (show room-(out.length:Int)<s1.left by omega),if_neg (by omega)]
          clear HEQ2 h4 h1 HEQM;go_wp2_with fail
          (try rw [Exit.noGoto_ret])
          refine bodyPost_ret (kf rfl _ _ (w.heap.size+1) _ _ _ _ rfl HFP.out.res.set4 Tryz.underlying35 rfl j8) rfl ?_;exact ⟨la2,lc2,oa,oc,by rw [HP.out]; rfl,by rw [HP.out]; exact HFP.out.res.set4B HLB.out,by rw [HP.out]; exact HFP.out.res.set4B HOB.out,qbz HFP.out.below (by omega),by rw [HP.out]; exact fun x e hne=>by have:=HFP.out.line.freshA x e hne; omega⟩
        · have hmq:∃ q:Nat,(∀ (ts:Array TypeId) (t:TypeId) (W:World),(Builtin.min_ ts t #[.int .i64 s1.left,.int .i64 (room-(out.length:Int)),.int .i64 ((l.length:Int)-(k:Int))]).run Tryz.prog W = .ok (.int .i64 (q:Int)) W)∧1≤q∧(q:Int)≤s1.left∧(out.length:Int)+q≤room∧k+q≤l.length:=by
           refine ⟨(if (l.length:Int)-(k:Int)<(if room-(out.length:Int)<s1.left then room-(out.length:Int) else s1.left) then (l.length:Int)-(k:Int) else (if room-(out.length:Int)<s1.left then room-(out.length:Int) else s1.left)).toNat,fun ts t W=>?_,?_,?_,?_,?_⟩
           · rw [run_min_int3,Int.toNat_of_nonneg]
             (repeat' split) <;> omega
           all_goals ((repeat' split) <;> omega)
          obtain ⟨q,hmin,hq1,hq2,hq3,hq4⟩:=hmq;obtain ⟨d,hd⟩ : ∃ d,d=(l.drop k).take q:=⟨_,rfl⟩;have hdl:d.length=q:=by rw [hd,List.length_take,List.length_drop]; omega
          have HDL:=Box.mk hdl;have HD:=Box.mk hd;have HDB:=Box.mk (show qg wr (some (bad.add k)) d (bc-k) by rw [hd]; exact qq1 (HBB.out.keep HFP.out.below) hlt hq4);have H1:=Box.mk h1;clear hd hdl HEQ2 h4 h1;go_wp2_with (at_builtin; refine jq _ rfl _ _ rfl rfl HFP.out.own (r:=d) (by show Value.slice (some (bad.add k)) (k+q-k) (bc-k)=_; rw [HDL.out,Nat.add_sub_cancel_left]) HDB.out (by have:=HDL.out; omega) (by omega) ?_)
          intro v5 w5 hown hgr hbl;obtain ⟨np,hnp⟩ : ∃ np:Int,(if s1.left-(q:Int)=0 then 2 else 1)=np:=⟨_,rfl⟩;have HNP:=Box.mk hnp;have HOWN:=Box.mk hown;have HGR:=Box.mk hgr;have HBL:=Box.mk hbl;obtain ⟨o2,ho2⟩ : ∃ o2,o2=out++d:=⟨_,rfl⟩;have HO2:=Box.mk ho2;have HC5:=Box.mk (HFP.out.var.grownC hgr (fun e=>by have:=(HFP.out.own.lt e.symm).1; omega));obtain ⟨he0,he1,he2,he3⟩:=HC5.out.cells;obtain ⟨nb,ncp,rfl,_⟩:=hown.val;clear hown hgr hbl hnp ho2 hd0 hd1 hd2 hd3 hr0 hr1 hr2 hr3 hz0 hz1 hz2 hz3;go_wp2_with fail;refine (ja3 w.heap.size s1.ph s1.left s1.tr (s1.left-q) np _ _ HC5.out (by rw [← HNP.out,H1.out])).mono ?_;rintro e w6 ⟨rfl,hc6,hg6⟩;have HC6:=Box.mk hc6;have HG6:=Box.mk hg6;clear hc6 hg6;have HN:=Box.mk (show qpj w room ⟨np,s1.left-q,s1.tr,s1.line⟩ (.slice la2 s1.line.length lc2) (.slice nb (out.length+d.length) ncp) o2 (k+q) w6 by
           have hq:=HDL.out;have h9:=HFP.out.data (d:=d) (W2:=w6) H1.out (by omega) (by omega) (by omega) HOWN.out HGR.out HBL.out (by rw [hq,HNP.out]; exact HC6.out) HG6.out;rw [HO2.out,← List.length_append];rw [hq,HNP.out] at h9;exact h9)
          go_wp2_with fail;go_roundw
          case rel =>
           refine ⟨k+q,by omega,by go_num,⟨np,s1.left-q,s1.tr,s1.line⟩,_,o2,⟨HN.out,?_⟩⟩;rw [HEQM.out];obtain ⟨q0,hq0⟩ : ∃ q0,q=q0+1:=⟨q-1,by omega⟩;have h9:=qn3 room q0 s1 out k (l.drop k) H1.out (by rw [List.length_drop]; omega) (by omega) (by omega);rw [← hq0,HNP.out,List.drop_drop] at h9;rw [h9,HO2.out,HD.out]
          case measure=>simp [intOf]; omega
      · have e1:(s1.ph == 1)=false:=by rw [beq_eq_false_iff_ne]; exact h1
        have HST:=Box.mk (And.intro h4 h1);obtain ⟨r,hr⟩ : ∃ r,r=qat s1 x:=⟨_,rfl⟩;have HREQ:=Box.mk hr;clear hr HEQM h4 h1 hr0 hr1 hr2 hr3 hz0 hz1 hz2 hz3;go_wp2_with fail;refine (qt4 s1 x w.heap.size (w.heap.size+2) _ _ HFP.out.var HFP.out.line HFP.out.size (by omega) HFP.out.ok HST.out.2 HST.out.1).mono ?_;rintro e w6 ⟨he,hok,ht⟩;rw [← HREQ.out] at he hok;subst he;have HT:=Box.mk ht;have HOK:=Box.mk hok;clear ht hok hd0 hd1 hd2 hd3;by_cases h0:r.1=0
        · have er:(r.1 != 0)=false:=by rw [h0]; rfl
          obtain ⟨v',hc,ho,hb⟩:=HOK.out h0;have HN:=Box.mk (HFP.out.read (by rw [HREQ.out]; exact qqa HFP.out.ok HST.out.2 HST.out.1 (by rw [← HREQ.out]; exact h0)) hc ho hb HT.out);have HZ:=Box.mk h0;clear hc ho hb h0;go_wp2_with fail;go_roundw
          case rel =>
           refine ⟨k+1,by omega,by go_num,r.2,v',out,⟨HN.out,?_⟩⟩;rw [HEQ2.out,qi9 HST.out.1 HST.out.2 (by rw [← HREQ.out]; exact HZ.out),← HREQ.out]
          case measure=>simp [intOf]; omega
        · have er:(r.1 != 0)=true:=by rw [bne_iff_ne]; exact h0
          have HP:=Box.mk (show R=(r.1,zeroC,[],0) by rw [HEQ2.out,qge HST.out.1 HST.out.2 (by rw [← HREQ.out]; exact h0),← HREQ.out]);have HR7:=Box.mk (HFP.out.res.touch HT.out (by omega) (fun e=>by have:=(HFP.out.line.lt e.symm).1; omega));have HB7:=Box.mk (Below.touch HFP.out.below HT.out (by omega) (Nat.le_refl _) (fun q e=>by have:=(HFP.out.line.lt e).1; omega));obtain ⟨hr0,hr1,hr2,hr3⟩:=HR7.out.cells;have hz0:=HR7.out.frozen (i:=0);have hz1:=HR7.out.frozen (i:=1);have hz2:=HR7.out.frozen (i:=2);have hz3:=HR7.out.frozen (i:=3);clear h0 HEQ2 HREQ HOK;go_wp2_with fail
          (try rw [Exit.noGoto_ret])
          refine bodyPost_ret (kf rfl _ _ (w.heap.size+1) _ _ _ _ rfl HR7.out.set4 Tryz.underlying35 rfl j8) rfl ?_;exact ⟨none,0,none,0,by rw [HP.out]; rfl,by rw [HP.out]; exact .inl ⟨rfl,rfl,rfl⟩,by rw [HP.out]; exact .inl ⟨rfl,rfl,rfl⟩,qbz HB7.out (by omega),fun x e=>by cases e⟩
  · have HP:=Box.mk (show R=(0,s1,out,k) by rw [HEQM.out,List.drop_of_length_le (by omega)]; rfl)
    obtain rfl:k=l.length:=by omega
    clear HEQM;go_wp2_with fail
    (try rw [Exit.noGoto_ret])
    refine bodyPost_ret (kf rfl _ _ (w.heap.size+1) _ _ _ _ rfl HFP.out.res.set4 Tryz.underlying35 rfl j8) rfl ?_;exact ⟨la2,lc2,oa,oc,by rw [HP.out]; rfl,by rw [HP.out]; exact HFP.out.res.set4B HLB.out,by rw [HP.out]; exact HFP.out.res.set4B HOB.out,qbz HFP.out.below (by omega),by rw [HP.out]; exact fun x e hne=>by have:=HFP.out.line.freshA x e hne; omega⟩
end Go.Proofs.YtflhjpokjdjbpaaGreatDoor

/- Wire: a request as a client writes it. OfRequest, OfReply and Persistent of package framing, and what they call. Heads by the library's search: index, count, pieces at line ends. Plain mathematics. The small functions of package head, and the library's functions that it calls. Package head: the fields of lines, End, the start lines. Package head: lines of a head as pieces; the variable of a message; start. Package head: parse, for requests. -/
import Derived.Test.YtflhjpokjdjbpaaGreatDoorPq10
set_option linter.unusedVariables false
set_option linter.unusedSimpArgs false
set_option maxRecDepth 100000
set_option maxHeartbeats 4000000
namespace Go.Proofs.YtflhjpokjdjbpaaGreatDoor
open Go.RowKit
set_option linter.unusedVariables false
theorem OwnF.shapeW {B:Nat} {w:World} {a:Option Addr} {n c:Nat} {l:List Fld} (h:OwnF B w (.slice a n c) l):qm w a l:=by
 obtain ⟨a2,c2,e,h2,_⟩:=OwnF.shape h;obtain ⟨rfl,rfl,rfl⟩:=Value.slice.inj e;exact h2.1
theorem jb9 (m t:ByteArray) (z:Int) (x:List Fld) (d:List UInt8) (fa ba:Option Addr) (fc bc:Nat) (ch:Bool) (w:World) (hm:m.size≤1000000000) (ht:t.size≤1000000000) (hx:qfo w fa x fc) (hd:qg w ba d bc) (hxl:x.length≤900) (hdl:d.length≤100000) (hz:qbe (x)) (hq:(jd m t z).size≤4000000000) (h0:0<(qa1 (jd m t z) (x)).length) (h1:(qa1 (jd m t z) (x)).length≤100000000) :
  Calls Tryz.prog 15 #[.agg #[.string m,.string t,.int .i64 z,.slice fa x.length fc,.bool false,.slice ba d.length bc],.bool ch] w fun e w'=>∃ v,e = .returned v∧OwnM w.heap.size w' v (qa1 (jd m t z) (x)++d)∧Below w.heap.size w w':=by
 obtain ⟨W1,hW1⟩ : ∃ W1,W1=w.alloc (.cells #[.string m,.string t,.int .i64 z,.slice fa x.length fc,.bool false,.slice ba d.length bc] 29):=⟨_,rfl⟩;have HB1:=Box.mk (show Below w.heap.size w W1 by rw [hW1]; exact qd _ _);have HQ1:=Box.mk (show W1.heap[w.heap.size]? = some (.cells #[.string m,.string t,.int .i64 z,.slice fa x.length fc,.bool false,.slice ba d.length bc] 29 (0,0)) by rw [hW1]; exact heap_alloc_new _ _);have hlt1:w.heap.size<W1.heap.size:=(Array.getElem?_eq_some_iff.1 HQ1.out).1;have HX:=Box.mk hx;have HD:=Box.mk hd;have HZ:=Box.mk hz;have HH:=Box.mk (And.intro hm (And.intro ht (And.intro hq (And.intro h0 h1))));have k2:W1.cell? ⟨w.heap.size,2,none⟩=some (.int .i64 z):=by rw [cell_of_row _ _ _ _ _ _ HQ1.out]; rfl
 have k3:W1.cell? ⟨w.heap.size,3,none⟩=some (.slice fa x.length fc):=by rw [cell_of_row _ _ _ _ _ _ HQ1.out]; rfl
 have k4:W1.cell? ⟨w.heap.size,4,none⟩=some (.bool false):=by rw [cell_of_row _ _ _ _ _ _ HQ1.out]; rfl
 have k5:W1.cell? ⟨w.heap.size,5,none⟩=some (.slice ba d.length bc):=by rw [cell_of_row _ _ _ _ _ _ HQ1.out]; rfl
 have HE:=Box.mk (AccF.empty W1);have HW1:=Box.mk hW1;clear hx hd hz hm ht hq h0 h1 hW1;go_enter Tryz.func15,Tryz.ntmps15
 go_upto_region 1 with fail
 rw [← HW1.out];clear HW1;go_wp2_with (at_builtin; refine kt _ rfl _ _ rfl rfl HE.out rfl (HX.out.keep (qe HB1.out HE.out.2)) (by rw [List.length_nil]; omega) ?c1)
 case c1 =>
  intro v1 w2 hacc;have HA:=Box.mk hacc;have HB2:=Box.mk (qe HB1.out hacc.2);have j2:=qp hacc.2 k2;have j4:=qp hacc.2 k4;have HQ2:=Box.mk (show w2.heap[w.heap.size]? = some (.cells #[.string m,.string t,.int .i64 z,.slice fa x.length fc,.bool false,.slice ba d.length bc] 29 (0,0)) by rw [hacc.2.block _ hlt1]; exact HQ1.out);clear hacc HE k2 k3 k4 k5 HX;have HXL:=Box.mk (show List.length (x)≤1000 by have:=hxl; omega);have HDL:=Box.mk (show List.length (d)≤200000 by omega);have HDD:=Box.mk (HD.out.keep HB2.out);clear HD;obtain ⟨xa,xc,rfl,hxf,_⟩:=OwnF.shape HA.out.1;obtain ⟨W5,hW5⟩ : ∃ W5,W5=w2.setCell ⟨w.heap.size,3,none⟩ (.slice xa (List.length (x)) xc):=⟨_,rfl⟩;have q3:w2.cell? ⟨w.heap.size,3,none⟩=some (.slice fa x.length fc):=by rw [cell_of_row _ _ _ _ _ _ HQ2.out]; rfl
  have q4:w2.frozen? ⟨w.heap.size,3,none⟩=false:=by simp [World.frozen?,HQ2.out]
  have HQ5:=Box.mk (show W5.heap[w.heap.size]? = some (.cells #[.string m,.string t,.int .i64 z,.slice xa (List.length (x)) xc,.bool false,.slice ba d.length bc] 29 (0,0)) by rw [hW5,heap_setCell_same _ _ _ _ _ _ HQ2.out]; rfl);have HB5:=Box.mk (show Below w.heap.size w W5 by rw [hW5]; exact HB2.out.setCell (Nat.le_refl _) _);have HD5:=Box.mk (show qg W5 ba (d) bc by rw [hW5]; exact HDD.out.same fun y e hl=>heap_setCell_other _ _ _ _ (qx HQ2.out (qw rfl) HDD.out y e hl));have HX5:=Box.mk (show qm W5 xa (x) from (OwnF.shapeW (OwnF.same HA.out.1 (w':=W5) fun k hk=>by rw [hW5]; exact heap_setCell_other _ _ _ _ (by have:=(OwnF.lt HA.out.1 hk).1; show k≠w.heap.size; omega))));have hcall:=qez m t z false (x) xa ba xc d.length bc W5 HH.out.1 HH.out.2.1 HX5.out HZ.out HXL.out HH.out.2.2.1;have HCALL:=Box.mk hcall;clear hcall;have HBS:Box (w.heap.size≤W5.heap.size):=⟨HB5.out.size⟩;have HLEN:=Box.mk (show (qa1 (jd m t z) (x)).length+List.length (d)≤1000000000 by have:=HH.out.2.2.2.2; have:=HDL.out; omega);clear hxf HA HB2 HDD HQ2 HZ;go_upto_region 10 with fail
  rw [← hW5];clear hW5 q3 q4;go_wp2_with (refine wpList_load_row rfl 29 _ rfl w.heap.size rfl 29 #[.string m,.string t,.int .i64 z,.slice xa (List.length (x)) xc,.bool false,.slice ba d.length bc] (0,0) _ HQ5.out Tryz.underlying29 rfl jo ?_)
  refine HCALL.out.mono ?_;rintro e w6 hret;obtain ⟨v6,rfl,hown,hb6⟩:=hret.own HH.out.2.2.2.1 (Nat.le_trans HH.out.2.2.2.2 (by decide));have HO6:=Box.mk hown;have HB6:=Box.mk (qe HB5.out hb6);have HD6:=Box.mk (HD5.out.keep hb6);have hs6:=hb6.size;clear hret hown hb6 HCALL HB5 HD5 HX5 HQ5;go_wp2_with (at_builtin; refine qae _ rfl _ _ rfl rfl HO6.out rfl HD6.out HLEN.out hs6 ?c9)
  case c9 =>
   intro v7 w7 hown7 hg7 hn7;have HR:=Box.mk (show OwnM w.heap.size w7 v7 (qa1 (jd m t z) (x)++d)∧Below w.heap.size w w7 from ⟨hown7.low HBS.out,HB6.out.grown hg7 HB6.out.size (fun q e=>Nat.le_trans HBS.out (HO6.out.lt e).1)⟩);clear hown7 hg7 hn7;go_wp2_with fail;go_ret;exact ⟨v7,rfl,HR.out⟩
theorem jaa (m t:ByteArray) (z:Int) (x:List Fld) (d:List UInt8) (fa ba:Option Addr) (fc bc:Nat) (ch:Bool) (w:World) (hm:m.size≤1000000000) (ht:t.size≤1000000000) (hx:qfo w fa x fc) (hd:qg w ba d bc) (hxl:x.length≤900) (hdl:d.length≤100000) (hz:qbe (x++[((⟨#[67,111,110,116,101,110,116,45,76,101,110,103,116,104]⟩ : ByteArray),fmtS 10 d.length)])) (hq:(jd m t z).size≤4000000000) (h0:0<(qa1 (jd m t z) (x++[((⟨#[67,111,110,116,101,110,116,45,76,101,110,103,116,104]⟩ : ByteArray),fmtS 10 d.length)])).length) (h1:(qa1 (jd m t z) (x++[((⟨#[67,111,110,116,101,110,116,45,76,101,110,103,116,104]⟩ : ByteArray),fmtS 10 d.length)])).length≤100000000) (hch:ch=true→¬ z=1) :
  Calls Tryz.prog 15 #[.agg #[.string m,.string t,.int .i64 z,.slice fa x.length fc,.bool true,.slice ba d.length bc],.bool ch] w fun e w'=>∃ v,e = .returned v∧OwnM w.heap.size w' v (qa1 (jd m t z) (x++[((⟨#[67,111,110,116,101,110,116,45,76,101,110,103,116,104]⟩ : ByteArray),fmtS 10 d.length)])++d)∧Below w.heap.size w w':=by
 obtain ⟨W1,hW1⟩ : ∃ W1,W1=w.alloc (.cells #[.string m,.string t,.int .i64 z,.slice fa x.length fc,.bool true,.slice ba d.length bc] 29):=⟨_,rfl⟩;have HB1:=Box.mk (show Below w.heap.size w W1 by rw [hW1]; exact qd _ _);have HQ1:=Box.mk (show W1.heap[w.heap.size]? = some (.cells #[.string m,.string t,.int .i64 z,.slice fa x.length fc,.bool true,.slice ba d.length bc] 29 (0,0)) by rw [hW1]; exact heap_alloc_new _ _);have hlt1:w.heap.size<W1.heap.size:=(Array.getElem?_eq_some_iff.1 HQ1.out).1;have HX:=Box.mk hx;have HD:=Box.mk hd;have HZ:=Box.mk hz;have HH:=Box.mk (And.intro hm (And.intro ht (And.intro hq (And.intro h0 h1))));have k2:W1.cell? ⟨w.heap.size,2,none⟩=some (.int .i64 z):=by rw [cell_of_row _ _ _ _ _ _ HQ1.out]; rfl
 have k3:W1.cell? ⟨w.heap.size,3,none⟩=some (.slice fa x.length fc):=by rw [cell_of_row _ _ _ _ _ _ HQ1.out]; rfl
 have k4:W1.cell? ⟨w.heap.size,4,none⟩=some (.bool true):=by rw [cell_of_row _ _ _ _ _ _ HQ1.out]; rfl
 have k5:W1.cell? ⟨w.heap.size,5,none⟩=some (.slice ba d.length bc):=by rw [cell_of_row _ _ _ _ _ _ HQ1.out]; rfl
 have HE:=Box.mk (AccF.empty W1);have HW1:=Box.mk hW1;clear hx hd hz hm ht hq h0 h1 hW1;go_enter Tryz.func15,Tryz.ntmps15
 go_upto_region 1 with fail
 rw [← HW1.out];clear HW1;go_wp2_with (at_builtin; refine kt _ rfl _ _ rfl rfl HE.out rfl (HX.out.keep (qe HB1.out HE.out.2)) (by rw [List.length_nil]; omega) ?c1)
 case c1 =>
  intro v1 w2 hacc;have HA:=Box.mk hacc;have HB2:=Box.mk (qe HB1.out hacc.2);have j2:=qp hacc.2 k2;have j4:=qp hacc.2 k4;have HQ2:=Box.mk (show w2.heap[w.heap.size]? = some (.cells #[.string m,.string t,.int .i64 z,.slice fa x.length fc,.bool true,.slice ba d.length bc] 29 (0,0)) by rw [hacc.2.block _ hlt1]; exact HQ1.out);clear hacc HE k2 k3 k4 k5 HX;have HAL:=Box.mk (show x.length+[(((⟨#[67,111,110,116,101,110,116,45,76,101,110,103,116,104]⟩ : ByteArray):ByteArray),fmtS 10 d.length)].length≤4398046511104 by simp; omega);have HCD:=Box.mk (fun W=>qao (d.length:Int) W (by omega) (by omega));have hbd:=HD.out.keep HB2.out;cases ch
  case' true=>have hz1:(z == 1)=false:=by rw [beq_eq_false_iff_ne]; exact hch rfl
  case' false=>have hz1:True:=trivial
  all_goals
   clear hch;go_wp2_with fail;refine (HCD.out _).mono ?_;rintro e w3 ⟨rfl,hb3⟩;have hb4:=qe hb3 (qd w3 (.cells #[.string (⟨#[67,111,110,116,101,110,116,45,76,101,110,103,116,104]⟩ : ByteArray),.string (fmtS 10 d.length)] 78));have HA3:=Box.mk (HA.out.keep hb4);have HF3:=Box.mk (show qfo (w3.alloc (.cells #[.string (⟨#[67,111,110,116,101,110,116,45,76,101,110,103,116,104]⟩ : ByteArray),.string (fmtS 10 d.length)] 78)) (some ⟨w3.heap.size,0,none⟩) [(((⟨#[67,111,110,116,101,110,116,45,76,101,110,103,116,104]⟩ : ByteArray):ByteArray),fmtS 10 d.length)] 1 from ⟨qjv w3 _ _,fun e=>by cases e⟩);clear hb3 hb4 HCD hbd HA HQ2 HB2 j2 j4;go_wp2_with (at_builtin; refine kt _ rfl _ _ rfl rfl HA3.out rfl HF3.out HAL.out ?c2)
   case c2 =>
    intro v3 w4 hacc;have HA:=Box.mk hacc;have HB2:=Box.mk (qe HB1.out hacc.2);have HQ2:=Box.mk (show w4.heap[w.heap.size]? = some (.cells #[.string m,.string t,.int .i64 z,.slice fa x.length fc,.bool true,.slice ba d.length bc] 29 (0,0)) by rw [hacc.2.block _ hlt1]; exact HQ1.out);have HDD:=Box.mk (HD.out.keep HB2.out);clear hacc HA3 HF3 HAL HD;have HXL:=Box.mk (show List.length (x++[((⟨#[67,111,110,116,101,110,116,45,76,101,110,103,116,104]⟩ : ByteArray),fmtS 10 d.length)])≤1000 by rw [List.length_append,List.length_singleton]; have:=hxl; omega);have HDL:=Box.mk (show List.length (d)≤200000 by omega);obtain ⟨xa,xc,rfl,hxf,_⟩:=OwnF.shape HA.out.1;obtain ⟨W5,hW5⟩ : ∃ W5,W5=w4.setCell ⟨w.heap.size,3,none⟩ (.slice xa (x.length+1) xc):=⟨_,rfl⟩;have q3:w4.cell? ⟨w.heap.size,3,none⟩=some (.slice fa x.length fc):=by rw [cell_of_row _ _ _ _ _ _ HQ2.out]; rfl
    have q4:w4.frozen? ⟨w.heap.size,3,none⟩=false:=by simp [World.frozen?,HQ2.out]
    have HQ5:=Box.mk (show W5.heap[w.heap.size]? = some (.cells #[.string m,.string t,.int .i64 z,.slice xa (x.length+1) xc,.bool true,.slice ba d.length bc] 29 (0,0)) by rw [hW5,heap_setCell_same _ _ _ _ _ _ HQ2.out]; rfl);have HB5:=Box.mk (show Below w.heap.size w W5 by rw [hW5]; exact HB2.out.setCell (Nat.le_refl _) _);have HD5:=Box.mk (show qg W5 ba (d) bc by rw [hW5]; exact HDD.out.same fun y e hl=>heap_setCell_other _ _ _ _ (qx HQ2.out (qw rfl) HDD.out y e hl));have HX5:=Box.mk (show qm W5 xa (x++[((⟨#[67,111,110,116,101,110,116,45,76,101,110,103,116,104]⟩ : ByteArray),fmtS 10 d.length)]) from (OwnF.shapeW (OwnF.same HA.out.1 (w':=W5) fun k hk=>by rw [hW5]; exact heap_setCell_other _ _ _ _ (by have:=(OwnF.lt HA.out.1 hk).1; show k≠w.heap.size; omega))));have hcall:=qez m t z true (x++[((⟨#[67,111,110,116,101,110,116,45,76,101,110,103,116,104]⟩ : ByteArray),fmtS 10 d.length)]) xa ba xc d.length bc W5 HH.out.1 HH.out.2.1 HX5.out HZ.out HXL.out HH.out.2.2.1;rw [show List.length (x++[((⟨#[67,111,110,116,101,110,116,45,76,101,110,103,116,104]⟩ : ByteArray),fmtS 10 d.length)])=(x.length+1) from by simp] at hcall;have HCALL:=Box.mk hcall;clear hcall;have HBS:Box (w.heap.size≤W5.heap.size):=⟨HB5.out.size⟩;have HLEN:=Box.mk (show (qa1 (jd m t z) (x++[((⟨#[67,111,110,116,101,110,116,45,76,101,110,103,116,104]⟩ : ByteArray),fmtS 10 d.length)])).length+List.length (d)≤1000000000 by have:=HH.out.2.2.2.2; have:=HDL.out; omega);clear hxf HA HB2 HDD HQ2 HZ;go_upto_region 10 with fail
    rw [← hW5];clear hW5 q3 q4;go_wp2_with (refine wpList_load_row rfl 29 _ rfl w.heap.size rfl 29 #[.string m,.string t,.int .i64 z,.slice xa (x.length+1) xc,.bool true,.slice ba d.length bc] (0,0) _ HQ5.out Tryz.underlying29 rfl jo ?_)
    refine HCALL.out.mono ?_;rintro e w6 hret;obtain ⟨v6,rfl,hown,hb6⟩:=hret.own HH.out.2.2.2.1 (Nat.le_trans HH.out.2.2.2.2 (by decide));have HO6:=Box.mk hown;have HB6:=Box.mk (qe HB5.out hb6);have HD6:=Box.mk (HD5.out.keep hb6);have hs6:=hb6.size;clear hret hown hb6 HCALL HB5 HD5 HX5 HQ5;go_wp2_with (at_builtin; refine qae _ rfl _ _ rfl rfl HO6.out rfl HD6.out HLEN.out hs6 ?c9)
    case c9 =>
     intro v7 w7 hown7 hg7 hn7;have HR:=Box.mk (show OwnM w.heap.size w7 v7 (qa1 (jd m t z) (x++[((⟨#[67,111,110,116,101,110,116,45,76,101,110,103,116,104]⟩ : ByteArray),fmtS 10 d.length)])++d)∧Below w.heap.size w w7 from ⟨hown7.low HBS.out,HB6.out.grown hg7 HB6.out.size (fun q e=>Nat.le_trans HBS.out (HO6.out.lt e).1)⟩);clear hown7 hg7 hn7;go_wp2_with fail;go_ret;exact ⟨v7,rfl,HR.out⟩
theorem qum (p q:List UInt8) (hp:p.length≤60000) (hq:q.length≤60000):(qcq [p,q]).length≤130000:=by
 rw [qgo];have h1:=qjr p.length (by omega);have h2:=qjr q.length (by omega);by_cases e1:p=[] <;> by_cases e2:q=[] <;> simp [encL,e1,e2] <;> omega
theorem jbj (m t:ByteArray) (z:Int) (x:List Fld) (d:List UInt8) (fa ba:Option Addr) (fc bc:Nat) (ch:Bool) (w:World) (hm:m.size≤1000000000) (ht:t.size≤1000000000) (hx:qfo w fa x fc) (hd:qg w ba d bc) (hxl:x.length≤900) (hdl:d.length≤100000) (hz:qbe (x++[((⟨#[84,114,97,110,115,102,101,114,45,69,110,99,111,100,105,110,103]⟩ : ByteArray),(⟨#[99,104,117,110,107,101,100]⟩ : ByteArray))])) (hq:(jd m t z).size≤4000000000) (h0:0<(qa1 (jd m t z) (x++[((⟨#[84,114,97,110,115,102,101,114,45,69,110,99,111,100,105,110,103]⟩ : ByteArray),(⟨#[99,104,117,110,107,101,100]⟩ : ByteArray))])).length) (h1:(qa1 (jd m t z) (x++[((⟨#[84,114,97,110,115,102,101,114,45,69,110,99,111,100,105,110,103]⟩ : ByteArray),(⟨#[99,104,117,110,107,101,100]⟩ : ByteArray))])).length≤100000000) (hch:ch=true) (hz2:(z == 1)=true) (k:Nat) (ed:List UInt8) (hk:k=d.length / 2) (hed:ed=qcq [d.take k,d.drop k]) (hdl2:d.length≤60000) :
  Calls Tryz.prog 15 #[.agg #[.string m,.string t,.int .i64 z,.slice fa x.length fc,.bool true,.slice ba d.length bc],.bool ch] w fun e w'=>∃ v,e = .returned v∧OwnM w.heap.size w' v (qa1 (jd m t z) (x++[((⟨#[84,114,97,110,115,102,101,114,45,69,110,99,111,100,105,110,103]⟩ : ByteArray),(⟨#[99,104,117,110,107,101,100]⟩ : ByteArray))])++ed)∧Below w.heap.size w w':=by
 subst hch;have HKK:=Box.mk hk;have HED:=Box.mk hed;clear hk hed;obtain ⟨W1,hW1⟩ : ∃ W1,W1=w.alloc (.cells #[.string m,.string t,.int .i64 z,.slice fa x.length fc,.bool true,.slice ba d.length bc] 29):=⟨_,rfl⟩;have HB1:=Box.mk (show Below w.heap.size w W1 by rw [hW1]; exact qd _ _);have HQ1:=Box.mk (show W1.heap[w.heap.size]? = some (.cells #[.string m,.string t,.int .i64 z,.slice fa x.length fc,.bool true,.slice ba d.length bc] 29 (0,0)) by rw [hW1]; exact heap_alloc_new _ _);have hlt1:w.heap.size<W1.heap.size:=(Array.getElem?_eq_some_iff.1 HQ1.out).1;have HX:=Box.mk hx;have HD:=Box.mk hd;have HZ:=Box.mk hz;have HH:=Box.mk (And.intro hm (And.intro ht (And.intro hq (And.intro h0 h1))));have k2:W1.cell? ⟨w.heap.size,2,none⟩=some (.int .i64 z):=by rw [cell_of_row _ _ _ _ _ _ HQ1.out]; rfl
 have k3:W1.cell? ⟨w.heap.size,3,none⟩=some (.slice fa x.length fc):=by rw [cell_of_row _ _ _ _ _ _ HQ1.out]; rfl
 have k4:W1.cell? ⟨w.heap.size,4,none⟩=some (.bool true):=by rw [cell_of_row _ _ _ _ _ _ HQ1.out]; rfl
 have k5:W1.cell? ⟨w.heap.size,5,none⟩=some (.slice ba d.length bc):=by rw [cell_of_row _ _ _ _ _ _ HQ1.out]; rfl
 have HE:=Box.mk (AccF.empty W1);have HW1:=Box.mk hW1;clear hx hd hz hm ht hq h0 h1 hW1;go_enter Tryz.func15,Tryz.ntmps15
 go_upto_region 1 with fail
 rw [← HW1.out];clear HW1;go_wp2_with (at_builtin; refine kt _ rfl _ _ rfl rfl HE.out rfl (HX.out.keep (qe HB1.out HE.out.2)) (by rw [List.length_nil]; omega) ?c1)
 case c1 =>
  intro v1 w2 hacc;have HA:=Box.mk hacc;have HB2:=Box.mk (qe HB1.out hacc.2);have j2:=qp hacc.2 k2;have j4:=qp hacc.2 k4;have HQ2:=Box.mk (show w2.heap[w.heap.size]? = some (.cells #[.string m,.string t,.int .i64 z,.slice fa x.length fc,.bool true,.slice ba d.length bc] 29 (0,0)) by rw [hacc.2.block _ hlt1]; exact HQ1.out);clear hacc HE k2 k3 k4 k5 HX;have HAL:=Box.mk (show x.length+[(((⟨#[84,114,97,110,115,102,101,114,45,69,110,99,111,100,105,110,103]⟩ : ByteArray):ByteArray),((⟨#[99,104,117,110,107,101,100]⟩ : ByteArray):ByteArray))].length≤4398046511104 by simp; omega);have HF3:=Box.mk (show qfo (w2.alloc (.cells #[.string (⟨#[84,114,97,110,115,102,101,114,45,69,110,99,111,100,105,110,103]⟩ : ByteArray),.string (⟨#[99,104,117,110,107,101,100]⟩ : ByteArray)] 78)) (some ⟨w2.heap.size,0,none⟩) [(((⟨#[84,114,97,110,115,102,101,114,45,69,110,99,111,100,105,110,103]⟩ : ByteArray):ByteArray),((⟨#[99,104,117,110,107,101,100]⟩ : ByteArray):ByteArray))] 1 from ⟨qjv w2 _ _,fun e=>by cases e⟩);have HA3:=Box.mk (HA.out.keep (qd w2 (.cells #[.string (⟨#[84,114,97,110,115,102,101,114,45,69,110,99,111,100,105,110,103]⟩ : ByteArray),.string (⟨#[99,104,117,110,107,101,100]⟩ : ByteArray)] 78)));clear HA HQ2 HB2;go_wp2_with (at_builtin; refine kt _ rfl _ _ rfl rfl HA3.out rfl HF3.out HAL.out ?c2)
  case c2 =>
   intro v3 w3 hacc;have HA4:=Box.mk hacc;have HB3:=Box.mk (qe HB1.out hacc.2);have HD3:=Box.mk (HD.out.keep HB3.out);have i4:=qp hacc.2 (show W1.cell? ⟨w.heap.size,4,none⟩=some (.bool true) by rw [cell_of_row _ _ _ _ _ _ HQ1.out]; rfl);clear hacc HA3 HF3 HAL HD;have hk:=HKK.out;have hq2:(d.length:Int).tdiv 2=(k:Int):=by rw [Int.tdiv_eq_ediv_of_nonneg (by omega)]; omega
   have hkl:k≤d.length:=by omega
   have HEL:=Box.mk (show ed.length≤200000 by rw [HED.out]; exact Nat.le_trans (qum _ _ (by rw [List.length_take]; omega) (by rw [List.length_drop]; omega)) (by decide));have HSL:=Box.mk (show ∀ l ∈ [d.take k,d.drop k],l.length≤1000000 from fun l hl=>by
    simp only [List.mem_cons,List.not_mem_nil,or_false] at hl;rcases hl with rfl | rfl
    · rw [List.length_take]; omega
    · rw [List.length_drop]; omega)
   clear hk;go_wp2_with fail;rename_i K hK;refine qgy [.bytes d,.val (.int .i64 (k:Int)),.bytes (d.take k),.bytes d,.val (.int .i64 (k:Int)),.bytes (d.drop k),.slc [d.take k,d.drop k],.bytes ed,.any] 8 [0,1,2,3,4,5,6,7] (by kernel_rfl) (by kernel_rfl) (by kernel_rfl) (by kernel_rfl) (by kernel_rfl) (by kernel_rfl) ?_ ?_
   · refine ⟨?_,?_,?_,?_,?_,?_,?_,?_,trivial⟩ <;> intro a1 w7 hb hf hd
     · exact ⟨qb rfl,qi rfl ⟨_,_,hf.base 5 rfl,HD3.out.keep hb⟩⟩
     · exact ⟨qb rfl,qi rfl (hf.base 7 rfl)⟩
     · exact ⟨qb rfl,qqg rfl (hd 0 rfl) (hd 1 rfl) hkl fun v h=>h⟩
     · exact ⟨qb rfl,qi rfl ⟨_,_,hf.base 5 rfl,HD3.out.keep hb⟩⟩
     · exact ⟨qb rfl,qi rfl (hf.base 7 rfl)⟩
     · exact ⟨qb rfl,qgq rfl (hd 3 rfl) (hd 4 rfl) hkl fun v h=>h⟩
     · exact ⟨qb rfl,qvi rfl (hd 2 rfl) (hd 5 rfl) fun v w' h=>h⟩
     · refine ⟨qb rfl,jz rfl (by kernel_rfl) ?_⟩
       show Calls _ _ #[a1.eval (.tmp 37)] w7 _
       obtain ⟨sa,sc,e37,hsl⟩:=hd 6 rfl;rw [show a1.eval (.tmp 37)=_ from e37];refine (qi7 [d.take k,d.drop k] sa sc w7 hsl (by show 2≤1000; omega) HSL.out).mono ?_;rintro e w' ⟨qa,ql,qc,hql,rfl,hqb,hb'⟩;rw [← HED.out] at hql;subst hql;exact ⟨_,rfl,hb',qa,qc,rfl,hqb⟩
   · intro a2 w4 hb hf hh
     obtain ⟨da,dc,e5a,hby⟩:=hh 7 (by decide) (by decide);have e5:a2.eval (.tmp 38) = .slice da ed.length dc:=e5a;refine qlf rfl rfl ?_;rw [e5];have HA:=Box.mk (HA4.out.keep hb);have HB2:=Box.mk (qe HB3.out hb);have HDD:=Box.mk hby;have HQ2:=Box.mk (show w4.heap[w.heap.size]? = some (.cells #[.string m,.string t,.int .i64 z,.slice fa x.length fc,.bool true,.slice ba d.length bc] 29 (0,0)) by rw [HA.out.2.block _ hlt1]; exact HQ1.out);have j4:=qp hb i4;clear hh e5a hby HA4 HB3 HD3 i4 HSL;refine hK _ _ ?_;rw [qp8 _ (qlx (n:=8) rfl rfl) hf];clear hf;simp only [List.take_succ_cons,List.take_zero,kg,e5];generalize a2.eval (.tmp 31)=u31;generalize a2.eval (.tmp 32)=u32;generalize a2.eval (.tmp 33)=u33;generalize a2.eval (.tmp 34)=u34;generalize a2.eval (.tmp 35)=u35;generalize a2.eval (.tmp 36)=u36;generalize a2.eval (.tmp 37)=u37;clear e5 a2;simp only [Act.put,List.setIfInBounds_toArray,List.set_cons_succ,List.set_cons_zero];clear hK hb;have HXL:=Box.mk (show List.length (x++[((⟨#[84,114,97,110,115,102,101,114,45,69,110,99,111,100,105,110,103]⟩ : ByteArray),(⟨#[99,104,117,110,107,101,100]⟩ : ByteArray))])≤1000 by rw [List.length_append,List.length_singleton]; have:=hxl; omega);have HDL:=Box.mk (show List.length (ed)≤200000 by have:=HEL.out; omega);obtain ⟨xa,xc,rfl,hxf,_⟩:=OwnF.shape HA.out.1;obtain ⟨W5,hW5⟩ : ∃ W5,W5=w4.setCell ⟨w.heap.size,3,none⟩ (.slice xa (x.length+1) xc):=⟨_,rfl⟩;have q3:w4.cell? ⟨w.heap.size,3,none⟩=some (.slice fa x.length fc):=by rw [cell_of_row _ _ _ _ _ _ HQ2.out]; rfl
     have q4:w4.frozen? ⟨w.heap.size,3,none⟩=false:=by simp [World.frozen?,HQ2.out]
     have HQ5:=Box.mk (show W5.heap[w.heap.size]? = some (.cells #[.string m,.string t,.int .i64 z,.slice xa (x.length+1) xc,.bool true,.slice ba d.length bc] 29 (0,0)) by rw [hW5,heap_setCell_same _ _ _ _ _ _ HQ2.out]; rfl);have HB5:=Box.mk (show Below w.heap.size w W5 by rw [hW5]; exact HB2.out.setCell (Nat.le_refl _) _);have HD5:=Box.mk (show qg W5 da (ed) dc by rw [hW5]; exact HDD.out.same fun y e hl=>heap_setCell_other _ _ _ _ (qx HQ2.out (qw rfl) HDD.out y e hl));have HX5:=Box.mk (show qm W5 xa (x++[((⟨#[84,114,97,110,115,102,101,114,45,69,110,99,111,100,105,110,103]⟩ : ByteArray),(⟨#[99,104,117,110,107,101,100]⟩ : ByteArray))]) from (OwnF.shapeW (OwnF.same HA.out.1 (w':=W5) fun k hk=>by rw [hW5]; exact heap_setCell_other _ _ _ _ (by have:=(OwnF.lt HA.out.1 hk).1; show k≠w.heap.size; omega))));have hcall:=qez m t z true (x++[((⟨#[84,114,97,110,115,102,101,114,45,69,110,99,111,100,105,110,103]⟩ : ByteArray),(⟨#[99,104,117,110,107,101,100]⟩ : ByteArray))]) xa ba xc d.length bc W5 HH.out.1 HH.out.2.1 HX5.out HZ.out HXL.out HH.out.2.2.1;rw [show List.length (x++[((⟨#[84,114,97,110,115,102,101,114,45,69,110,99,111,100,105,110,103]⟩ : ByteArray),(⟨#[99,104,117,110,107,101,100]⟩ : ByteArray))])=(x.length+1) from by simp] at hcall;have HCALL:=Box.mk hcall;clear hcall;have HBS:Box (w.heap.size≤W5.heap.size):=⟨HB5.out.size⟩;have HLEN:=Box.mk (show (qa1 (jd m t z) (x++[((⟨#[84,114,97,110,115,102,101,114,45,69,110,99,111,100,105,110,103]⟩ : ByteArray),(⟨#[99,104,117,110,107,101,100]⟩ : ByteArray))])).length+List.length (ed)≤1000000000 by have:=HH.out.2.2.2.2; have:=HDL.out; omega);clear hxf HA HB2 HDD HQ2 HZ;go_upto_region 10 with fail
     rw [← hW5];clear hW5 q3 q4;go_wp2_with (refine wpList_load_row rfl 29 _ rfl w.heap.size rfl 29 #[.string m,.string t,.int .i64 z,.slice xa (x.length+1) xc,.bool true,.slice ba d.length bc] (0,0) _ HQ5.out Tryz.underlying29 rfl jo ?_)
     refine HCALL.out.mono ?_;rintro e w6 hret;obtain ⟨v6,rfl,hown,hb6⟩:=hret.own HH.out.2.2.2.1 (Nat.le_trans HH.out.2.2.2.2 (by decide));have HO6:=Box.mk hown;have HB6:=Box.mk (qe HB5.out hb6);have HD6:=Box.mk (HD5.out.keep hb6);have hs6:=hb6.size;clear hret hown hb6 HCALL HB5 HD5 HX5 HQ5;go_wp2_with (at_builtin; refine qae _ rfl _ _ rfl rfl HO6.out rfl HD6.out HLEN.out hs6 ?c9)
     case c9 =>
      intro v7 w7 hown7 hg7 hn7;have HR:=Box.mk (show OwnM w.heap.size w7 v7 (qa1 (jd m t z) (x++[((⟨#[84,114,97,110,115,102,101,114,45,69,110,99,111,100,105,110,103]⟩ : ByteArray),(⟨#[99,104,117,110,107,101,100]⟩ : ByteArray))])++ed)∧Below w.heap.size w w7 from ⟨hown7.low HBS.out,HB6.out.grown hg7 HB6.out.size (fun q e=>Nat.le_trans HBS.out (HO6.out.lt e).1)⟩);clear hown7 hg7 hn7;go_wp2_with fail;go_ret;exact ⟨v7,rfl,HR.out⟩
def qvx (w:World) (mm:Int):Prop:=w.cell? ⟨0,0,none⟩=some (.int .i64 mm)
theorem qvx.keep {w w':World} {mm:Int} (h:qvx w mm) (hb:Below w.heap.size w w'):qvx w' mm:=qp hb h
def clP:ByteArray:=⟨#[67,111,110,116,101,110,116,45,76,101,110,103,116,104]⟩
def teP:ByteArray:=⟨#[84,114,97,110,115,102,101,114,45,69,110,99,111,100,105,110,103]⟩
theorem jfd:lowS clP=lowS clN:=by decide +kernel
theorem jdz:lowS teP=lowS teN:=by decide +kernel
theorem qsi {a n m:ByteArray} (h:lowS n=lowS m):qab a n=qab a m:=by unfold qab; rw [h]
theorem qhc {n m:ByteArray} (l:List Fld) (h:lowS n=lowS m):qj l n=qj l m:=by
 unfold qj; simp only [qsi h]
theorem jd1 {n m:ByteArray} (l:List Fld) (h:lowS n=lowS m):hasL l n=hasL l m:=by
 unfold hasL; simp only [qsi h]
theorem qwf {n m:ByteArray} (e:lowS n=lowS m) (l:List Fld) (a:Option Addr) (cap:Nat) (w:World) (h:qm w a l) (hz:qa6 l) (hn:n.size≤maxLen) (hl:l.length≤1000000) :
  Calls Tryz.prog 126 #[.slice a l.length cap,.string n] w (qhk w (qj l m)):=by
 rw [← qhc l e]; exact qhq l n a cap w h hz hn hl
theorem jct {n m:ByteArray} (e:lowS n=lowS m) (l:List Fld) (a:Option Addr) (cap:Nat) (w:World) (h:qm w a l) (hz:qa6 l) (hn:n.size≤maxLen) (hl:l.length≤1000000) :
  Calls Tryz.prog 127 #[.slice a l.length cap,.string n] w fun e w'=>e = .returned (.bool (hasL l m))∧Below w.heap.size w w':=by
 rw [← jd1 l e]; exact jdw l n a cap w h hz hn hl
theorem qqk {n m:ByteArray} (e:lowS n=lowS m) (w:World) (mm:Int) (l:List Fld) (a:Option Addr) (cap:Nat) (h:qm w a l) (hz:qa6 l) (hn:n.size≤maxLen) (hl:l.length≤1000000) (hm:qvx w mm) (ht:qam (qj l m)≤4000000000) :
  Calls Tryz.prog 129 #[.slice a l.length cap,.string n] w (qhk w (qbh (qj l m))):=by
 rw [← qhc l e]; exact qpu w mm l n a cap h hz hn hl hm (by rw [qhc l e]; exact ht)
theorem qpr (x:List ByteArray) (a:Option Addr) (cap:Nat) (w:World) (h:ky w a x) (hz:∀ y ∈ x,y.size≤maxLen) (hl:x.length≤4000000000) :
  Calls Tryz.prog 128 #[.slice a x.length cap] w fun e w'=>e = .returned (.bool (qcs x))∧Below w.heap.size w w':=by
 by_cases hx:x.length=1
 · obtain ⟨y,rfl⟩ : ∃ y,x=[y]:=by
    match x,hx with
    | [y],_=>exact ⟨y,rfl⟩
   have hyz:=hz y (by simp);obtain ⟨b3,o3,e3,hc3⟩:=h 0 (by simp);subst e3;simp only [List.getElem_cons_zero,Nat.add_zero] at hc3;have HP:=Box.mk (show qcs [y]=qab y qe2 from rfl);clear hx h hz hl;rw [show ([y]:List ByteArray).length=1 from rfl];go_enter Tryz.func128,Tryz.ntmps128
   go_wp2_with fail;refine (jd7 y qe2 _ hyz (by decide)).mono ?_;rintro e w1 ⟨rfl,hb⟩;have HB:=Box.mk hb;clear hb hc3;generalize hr:qab y qe2=r at *;have HR:=Box.mk hr;clear hr;go_wp2_with fail;go_ret;exact ⟨qq HP.out.symm,HB.out⟩
 · have HP:=Box.mk (qn5 hx)
   have ex:(((x.length:Nat):Int) == 1)=false:=by rw [beq_eq_false_iff_ne]; omega
   clear hx h hz;go_enter Tryz.func128,Tryz.ntmps128
   go_wp2_with fail;go_ret;exact ⟨qq HP.out.symm,Below.refl _ _⟩
def lenS (y:ByteArray):Int × Int × Int :=
 if (qo 10 1000000000 y).2=0 then (2,(qo 10 1000000000 y).1,0) else if (qo 10 1000000000 y).2=2 then (0,0,5) else (0,0,(qo 10 1000000000 y).2)
theorem qrh (y:ByteArray) (w:World) (hy:y.size≤maxLen) :
  Calls Tryz.prog 130 #[.string y] w fun e w'=>e = .returned (qc2 (lenS y))∧Below w.heap.size w w':=by
 have HB:=Box.mk (qd w (.cells #[.int .i64 0,.int .i64 0] 33));have HR:=Box.mk (show KVar (w.alloc (.cells #[.int .i64 0,.int .i64 0] 33)) w.heap.size 0 0 from heap_alloc_new _ _);have HP0:=Box.mk (show lenS y=if (qo 10 1000000000 y).2=0 then (2,(qo 10 1000000000 y).1,0) else if (qo 10 1000000000 y).2=2 then (0,0,5) else (0,0,(qo 10 1000000000 y).2) from rfl);go_enter Tryz.func130,Tryz.ntmps130
 go_wp2_with fail;refine (qfn y 1000000000 _ hy (by decide) (by decide)).mono ?_;rintro e w1 ⟨he,rfl⟩;generalize qo 10 1000000000 y=pp at *;obtain ⟨n,er⟩:=pp;simp only [] at HP0;subst he;by_cases h0:er=0
 · have HP:=Box.mk (show lenS y=(2,n,0) by rw [HP0.out,if_pos h0])
   have e0:(er == 0)=true:=by rw [h0]; rfl
   clear HP0 h0;go_wp2_with (refine wpList_store_row rfl 33 _ _ rfl (w.heap.size) #[.int .i64 2,.int .i64 n] rfl rfl 33 _ HR.out jn rfl (oneK _ _) ?_)
   (try simp only [Exit.inBlock,Exit.then])
   refine bodyPost_ret (qf rfl _ _ (w.heap.size) _ _ _ _ rfl (setRow_heap _ _ _ _ _ _ HR.out) Tryz.underlying33 rfl jn) rfl ?_;exact ⟨by rw [HP.out]; rfl,below_setRow HB.out (Nat.le_refl _) _⟩
 · have e0:(er == 0)=false:=by rw [beq_eq_false_iff_ne]; exact h0
   by_cases h2:er=2
   · have HP:=Box.mk (show lenS y=(0,0,5) by rw [HP0.out,if_neg h0,if_pos h2])
     have e2:(er == 2)=true:=by rw [h2]; rfl
     clear HP0 h0 h2;go_wp2_with (refine wpList_store_row rfl 33 _ _ rfl (w.heap.size) #[.int .i64 0,.int .i64 0] rfl rfl 33 _ HR.out jn rfl (oneK _ _) ?_)
     (try simp only [Exit.inBlock,Exit.then])
     refine bodyPost_ret (qf rfl _ _ (w.heap.size) _ _ _ _ rfl (setRow_heap _ _ _ _ _ _ HR.out) Tryz.underlying33 rfl jn) rfl ?_;exact ⟨by rw [HP.out]; rfl,below_setRow HB.out (Nat.le_refl _) _⟩
   · have HP:=Box.mk (show lenS y=(0,0,er) by rw [HP0.out,if_neg h0,if_neg h2])
     have e2:(er == 2)=false:=by rw [beq_eq_false_iff_ne]; exact h2
     clear HP0 h0 h2;go_wp2_with (refine wpList_store_row rfl 33 _ _ rfl (w.heap.size) #[.int .i64 0,.int .i64 0] rfl rfl 33 _ HR.out jn rfl (oneK _ _) ?_)
     (try simp only [Exit.inBlock,Exit.then])
     refine bodyPost_ret (qf rfl _ _ (w.heap.size) _ _ _ _ rfl (setRow_heap _ _ _ _ _ _ HR.out) Tryz.underlying33 rfl jn) rfl ?_;exact ⟨by rw [HP.out]; rfl,below_setRow HB.out (Nat.le_refl _) _⟩
theorem qxu {v:Int} {l:List Fld} {k0:Int} {y:ByteArray} (h:hasL l teN=false) (h2:qj l clN=[y]):j3 v l k0=lenS y:=by
 rw [qgj h h2];unfold lenS;by_cases h0:(qo 10 1000000000 y).2=0
 · rw [if_neg (by rw [h0]; simp),if_pos h0,if_pos h0]
 · by_cases h2:(qo 10 1000000000 y).2=2
   · rw [if_pos (.inr h2),if_neg h0,if_pos h2]
   · rw [if_neg (by simp [h2]),if_neg h0,if_neg h0,if_neg h2]
theorem qki (v:Int) (l:List Fld) (a:Option Addr) (cap:Nat) (mm:Int) (w:World) (h:qm w a l) (hz:qa6 l) (hl:l.length≤1000000) (ht:qam (qj l teN)≤4000000000) (hm:qvx w mm) :
  Calls Tryz.prog 110 #[.int .i64 v,.slice a l.length cap] w fun e w'=>e = .returned (qc2 (j3 v l 1))∧Below w.heap.size w w':=by
 have HB:=Box.mk (qd w (.cells #[.int .i64 0,.int .i64 0] 33));have HR:=Box.mk (show KVar (w.alloc (.cells #[.int .i64 0,.int .i64 0] 33)) w.heap.size 0 0 from heap_alloc_new _ _);have H0:=Box.mk (And.intro (h.keep HB.out) (And.intro hz ht));have HMX:=Box.mk hm;have HVS:=Box.mk (fun (n y:ByteArray)=>qiq hz (n:=n) (y:=y));have hcl:(qj l clN).length≤1000000:=Nat.le_trans (qdx l clN) hl;clear h hz ht hm;go_enter Tryz.func110,Tryz.ntmps110
 go_wp2_with fail;refine (qwf jfd l a cap _ H0.out.1 H0.out.2.1 (by decide) hl).mono ?_;rintro e w1 ⟨a1,c1,rfl,hs1,hb1⟩;have HB1:=Box.mk (qe HB.out hb1);have HR1:=Box.mk (HR.out.keep hb1);have HS1:=Box.mk hs1;have HF1:=Box.mk (H0.out.1.keep hb1);clear hb1 hs1 HB HR;go_wp2_with fail;refine (jct jdz l a cap _ HF1.out H0.out.2.1 (by decide) hl).mono ?_;rintro e w2 ⟨he,hb2⟩;have HB2:=Box.mk (qe HB1.out hb2);have HR2:=Box.mk (HR1.out.keep hb2);have HS2:=Box.mk (HS1.out.keep hb2);have HF2:=Box.mk (HF1.out.keep hb2);have HM2:=Box.mk (HMX.out.keep HB2.out);clear hb2 HB1 HR1 HS1 HF1 HMX;cases hte:hasL l teN with
 | true =>
  have HTE:=Box.mk hte;rw [HTE.out] at he;subst he;clear hte;have HP0:=Box.mk (qm1 (v:=v) (k0:=1) HTE.out);by_cases hv:v=0
  · have HP:=Box.mk (show j3 v l 1=(0,0,5) by rw [HP0.out,if_pos (.inl hv)])
    have ev:(v != 0)=false:=by rw [hv]; rfl
    clear hv HP0 HS2 HF2 HTE HVS;generalize (qj l clN).length=q at *;go_wp2_with (refine wpList_store_row rfl 33 _ _ rfl (w.heap.size) #[.int .i64 0,.int .i64 0] rfl rfl 33 _ HR2.out jn rfl (oneK _ _) ?_)
    (try simp only [Exit.inBlock,Exit.then])
    refine bodyPost_ret (qf rfl _ _ (w.heap.size) _ _ _ _ rfl (setRow_heap _ _ _ _ _ _ HR2.out) Tryz.underlying33 rfl jn) rfl ?_;exact ⟨by rw [HP.out]; rfl,below_setRow HB2.out (Nat.le_refl _) _⟩
  · have ev:(v != 0)=true:=by rw [bne_iff_ne]; exact hv
    by_cases hc:0<(qj l clN).length
    · have HP:=Box.mk (show j3 v l 1=(0,0,5) by rw [HP0.out,if_pos (.inr (.inl hc))])
      clear hv HP0 HS2 HF2 HTE HVS;generalize (qj l clN).length=q at *;have eq:(((q:Nat):Int) == 0)=false:=by rw [beq_eq_false_iff_ne]; omega
      go_wp2_with (refine wpList_store_row rfl 33 _ _ rfl (w.heap.size) #[.int .i64 0,.int .i64 0] rfl rfl 33 _ HR2.out jn rfl (oneK _ _) ?_)
      (try simp only [Exit.inBlock,Exit.then])
      refine bodyPost_ret (qf rfl _ _ (w.heap.size) _ _ _ _ rfl (setRow_heap _ _ _ _ _ _ HR2.out) Tryz.underlying33 rfl jn) rfl ?_;exact ⟨by rw [HP.out]; rfl,below_setRow HB2.out (Nat.le_refl _) _⟩
    · have HP1:=Box.mk (show j3 v l 1=if qcs (qbh (qj l teN))=false then (0,0,5) else (3,0,0) by
       rw [HP0.out];by_cases hf:qcs (qbh (qj l teN))=false
       · rw [if_pos (.inr (.inr hf)),if_pos hf]
       · rw [if_neg hf,if_neg]
         rintro (h | h | h)
         · exact hv h
         · exact hc h
         · exact hf h)
      have HXZ:=Box.mk (show ∀ y ∈ qbh (qj l teN),y.size≤maxLen from fun y hy=>by
       have:=qm4 hy;have:=H0.out.2.2;unfold maxLen; omega)
      have hxl:(qbh (qj l teN)).length≤4000000000:=Nat.le_trans (qd0 _) H0.out.2.2;clear hv HP0 HS2 HTE HVS;generalize (qj l clN).length=q at *;have eq:(((q:Nat):Int) == 0)=true:=by rw [beq_iff_eq]; omega
      go_wp2_with fail;refine (qqk jdz _ mm l a cap HF2.out H0.out.2.1 (by decide) hl HM2.out H0.out.2.2).mono ?_;rintro e w3 ⟨a3,c3,rfl,hs3,hb3⟩;have HB3:=Box.mk (qe HB2.out hb3);have HR3:=Box.mk (HR2.out.keep hb3);have HS3:=Box.mk hs3;clear hb3 HB2 HR2 HF2 hs3 HM2;generalize qbh (qj l teN)=x at *;go_wp2_with fail;refine (qpr x a3 c3 _ HS3.out HXZ.out hxl).mono ?_;rintro e w4 ⟨he,hb4⟩;have HB4:=Box.mk (qe HB3.out hb4);have HR4:=Box.mk (HR3.out.keep hb4);clear hb4 HB3 HR3 HS3 HXZ;cases hf:qcs x with
      | false =>
       have HP:=Box.mk (show j3 v l 1=(0,0,5) by rw [HP1.out,if_pos hf]);rw [hf] at he;subst he;clear hf HP1;go_wp2_with (refine wpList_store_row rfl 33 _ _ rfl (w.heap.size) #[.int .i64 0,.int .i64 0] rfl rfl 33 _ HR4.out jn rfl (oneK _ _) ?_)
       (try simp only [Exit.inBlock,Exit.then])
       refine bodyPost_ret (qf rfl _ _ (w.heap.size) _ _ _ _ rfl (setRow_heap _ _ _ _ _ _ HR4.out) Tryz.underlying33 rfl jn) rfl ?_;exact ⟨by rw [HP.out]; rfl,below_setRow HB4.out (Nat.le_refl _) _⟩
      | true =>
       have HP:=Box.mk (show j3 v l 1=(3,0,0) by rw [HP1.out,if_neg (by rw [hf]; decide)]);rw [hf] at he;subst he;clear hf HP1;go_wp2_with (refine wpList_store_row rfl 33 _ _ rfl (w.heap.size) #[.int .i64 3,.int .i64 0] rfl rfl 33 _ HR4.out jn rfl (oneK _ _) ?_)
       (try simp only [Exit.inBlock,Exit.then])
       refine bodyPost_ret (qf rfl _ _ (w.heap.size) _ _ _ _ rfl (setRow_heap _ _ _ _ _ _ HR4.out) Tryz.underlying33 rfl jn) rfl ?_;exact ⟨by rw [HP.out]; rfl,below_setRow HB4.out (Nat.le_refl _) _⟩
 | false =>
  have HTE:=Box.mk hte;rw [HTE.out] at he;subst he;clear hte
  match hcv:qj l clN with
  | [] =>
   have HP:=Box.mk (qhh (v:=v) (k0:=1) HTE.out hcv);rw [hcv] at hcl;rw [show ([]:List ByteArray).length=0 from rfl];clear hcv HS2 HF2 HTE HVS;go_wp2_with (refine wpList_store_row rfl 33 _ _ rfl (w.heap.size) #[.int .i64 1,.int .i64 0] rfl rfl 33 _ HR2.out jn rfl (oneK _ _) ?_)
   (try simp only [Exit.inBlock,Exit.then])
   refine bodyPost_ret (qf rfl _ _ (w.heap.size) _ _ _ _ rfl (setRow_heap _ _ _ _ _ _ HR2.out) Tryz.underlying33 rfl jn) rfl ?_;exact ⟨by rw [HP.out]; rfl,below_setRow HB2.out (Nat.le_refl _) _⟩
  | [y] =>
   have HP:=Box.mk (qxu (v:=v) (k0:=1) HTE.out hcv);have hyz:=HVS.out clN y (by rw [hcv]; simp);rw [hcv] at HS2 hcl;obtain ⟨b3,o3,e3,hc3⟩:=HS2.out 0 (by simp);subst e3;simp only [List.getElem_cons_zero,Nat.add_zero] at hc3;rw [show ([y]:List ByteArray).length=1 from rfl];clear hcv HS2 HF2 HTE HVS;go_wp2_with fail;refine (qrh y _ hyz).mono ?_;rintro e w3 ⟨he,hb3⟩;have HB3:=Box.mk (qe HB2.out hb3);have HR3:=Box.mk (HR2.out.keep hb3);clear hb3 HB2 HR2 hc3;generalize lenS y=pp at *;obtain ⟨k,n,er⟩:=pp;simp only [qc2] at he;subst he;go_wp2_with (refine wpList_store_row rfl 33 _ _ rfl (w.heap.size) #[.int .i64 k,.int .i64 n] rfl rfl 33 _ HR3.out jn rfl (oneK _ _) ?_)
   (try simp only [Exit.inBlock,Exit.then])
   refine bodyPost_ret (qf rfl _ _ (w.heap.size) _ _ _ _ rfl (setRow_heap _ _ _ _ _ _ HR3.out) Tryz.underlying33 rfl jn) rfl ?_;exact ⟨by rw [HP.out]; rfl,below_setRow HB3.out (Nat.le_refl _) _⟩
  | y :: z :: r =>
   have HP:=Box.mk (show j3 v l 1=(0,0,5) by rw [qgj HTE.out hcv,if_pos (.inl (by simp))]);rw [hcv] at hcl;obtain ⟨q,hq⟩ : ∃ q,(y :: z :: r).length=q:=⟨_,rfl⟩;rw [hq] at hcl ⊢;have hq1:1<q:=by rw [← hq]; simp
   clear hcv HS2 HF2 HTE HVS hq;go_wp2_with (refine wpList_store_row rfl 33 _ _ rfl (w.heap.size) #[.int .i64 0,.int .i64 0] rfl rfl 33 _ HR2.out jn rfl (oneK _ _) ?_)
   (try simp only [Exit.inBlock,Exit.then])
   refine bodyPost_ret (qf rfl _ _ (w.heap.size) _ _ _ _ rfl (setRow_heap _ _ _ _ _ _ HR2.out) Tryz.underlying33 rfl jn) rfl ?_;exact ⟨by rw [HP.out]; rfl,below_setRow HB2.out (Nat.le_refl _) _⟩
theorem qqe (m t:ByteArray) (v:Int) (l:List Fld) (a:Option Addr) (cap:Nat) (fr:Bool) (ba:Option Addr) (bn bc:Nat) (mm:Int) (w:World) (h:qm w a l) (hz:qa6 l) (hl:l.length≤1000000) (ht:qam (qj l teN)≤4000000000) (hm:qvx w mm) :
  Calls Tryz.prog 79 #[.agg #[.string m,.string t,.int .i64 v,.slice a l.length cap,.bool fr,.slice ba bn bc]] w fun e w'=>e = .returned (qc2 (j3 v l 1))∧Below w.heap.size w w':=by
 have hbw:=qk (qd w (.cells #[.string m,.string t,.int .i64 v,.slice a l.length cap,.bool fr,.slice ba bn bc] 29)) (.cells #[.int .i64 0,.int .i64 0] 33);have HB:=Box.mk hbw;have HR:=Box.mk (show KVar ((w.alloc (.cells #[.string m,.string t,.int .i64 v,.slice a l.length cap,.bool fr,.slice ba bn bc] 29)).alloc (.cells #[.int .i64 0,.int .i64 0] 33)) (w.heap.size+1) 0 0 by
  have h:=heap_alloc_new (w.alloc (.cells #[.string m,.string t,.int .i64 v,.slice a l.length cap,.bool fr,.slice ba bn bc] 29)) (.cells #[.int .i64 0,.int .i64 0] 33);rw [World.size_alloc] at h; exact h)
 have H0:=Box.mk (And.intro (h.keep hbw) (And.intro hz (And.intro ht (hm.keep hbw))));clear h hz ht hbw hm;go_enter Tryz.func79,Tryz.ntmps79
 go_wp2_with fail;refine (qki v l a cap mm _ H0.out.1 H0.out.2.1 hl H0.out.2.2.1 H0.out.2.2.2).mono ?_;rintro e w1 ⟨he,hb1⟩;have HB1:=Box.mk (qe HB.out hb1);have HR1:=Box.mk (HR.out.keep hb1);generalize hq:j3 v l 1=q at *;have HP:=Box.mk hq;obtain ⟨k,n,er⟩:=q;simp only [qc2] at he;clear hb1 HB HR hq H0;subst he;go_wp2_with (refine wpList_store_row rfl 33 _ _ rfl (w.heap.size+1) #[.int .i64 k,.int .i64 n] rfl rfl 33 _ HR1.out jn rfl (oneK _ _) ?_)
 (try simp only [Exit.inBlock,Exit.then])
 refine bodyPost_ret (qf rfl _ _ (w.heap.size+1) _ _ _ _ rfl (setRow_heap _ _ _ _ _ _ HR1.out) Tryz.underlying33 rfl jn) rfl ?_;exact ⟨by rw [HP.out]; rfl,below_setRow HB1.out (by omega) _⟩
theorem qnk (method:ByteArray) (st:Int) (w:World) :
  Calls Tryz.prog 112 #[.string method,.int .i64 st] w fun e w'=>e = .returned (.bool (qkd method st))∧w=w':=by
 rcases qkf method st with ⟨hn,hc⟩ | ⟨hn,h0,hst⟩
 · have HP:=Box.mk hn
   rcases hc with h0 | ⟨h0,h1,h2⟩ | ⟨h0,h1⟩ | ⟨h0,h1⟩
   · have hm:(method.toList == [72,69,65,68])=true:=by rw [qek,toList_eq]; simp; exact h0
     clear h0 hn;go_enter Tryz.func112,Tryz.ntmps112
     go_wp2_with fail;go_ret;exact ⟨qq HP.out.symm,rfl⟩
   · have hm:(method.toList == [72,69,65,68])=false:=by rw [qek,toList_eq]; simp; exact h0
     clear h0 hn;go_enter Tryz.func112,Tryz.ntmps112
     go_wp2_with fail;go_ret;exact ⟨qq HP.out.symm,rfl⟩
   · have hm:(method.toList == [72,69,65,68])=false:=by rw [qek,toList_eq]; simp; exact h0
     clear h0 hn;subst h1;go_enter Tryz.func112,Tryz.ntmps112
     go_wp2_with fail;go_ret;exact ⟨qq HP.out.symm,rfl⟩
   · have hm:(method.toList == [72,69,65,68])=false:=by rw [qek,toList_eq]; simp; exact h0
     clear h0 hn;subst h1;go_enter Tryz.func112,Tryz.ntmps112
     go_wp2_with fail;go_ret;exact ⟨qq HP.out.symm,rfl⟩
 · have HP:=Box.mk hn
   have hm:(method.toList == [72,69,65,68])=false:=by rw [qek,toList_eq]; simp; exact h0
   clear h0 hn;rcases hst with hst | ⟨hst,h2,h3⟩
   · have e2:(st == 204)=false:=by rw [beq_eq_false_iff_ne]; omega
     have e3:(st == 304)=false:=by rw [beq_eq_false_iff_ne]; omega
     go_enter Tryz.func112,Tryz.ntmps112
     go_wp2_with fail;go_ret;exact ⟨qq HP.out.symm,rfl⟩
   · have e2:(st == 204)=false:=by rw [beq_eq_false_iff_ne]; exact h2
     have e3:(st == 304)=false:=by rw [beq_eq_false_iff_ne]; exact h3
     clear h2 h3;go_enter Tryz.func112,Tryz.ntmps112
     go_wp2_with fail;go_ret;exact ⟨qq ((decide_eq_false (by omega)).trans HP.out.symm),rfl⟩
theorem qr8 (v:Int) (l:List Fld):j3 v l 4=if (j3 v l 1).1=1 then (4,(j3 v l 1).2.1,(j3 v l 1).2.2) else j3 v l 1:=by
 unfold j3
 repeat' split
 all_goals (first | rfl | simp_all)
theorem qls (method:ByteArray) (st:Int) (r:ByteArray) (v:Int) (l:List Fld) (a:Option Addr) (cap:Nat) (ba:Option Addr) (bn bc:Nat) (mm:Int) (w:World) (h:qm w a l) (hz:qa6 l) (hl:l.length≤1000000) (ht:qam (qj l teN)≤4000000000) (hm:qvx w mm) :
  Calls Tryz.prog 83 #[.string method,.agg #[.int .i64 st,.string r,.int .i64 v,.slice a l.length cap,.slice ba bn bc]] w fun e w'=>e = .returned (qc2 (kq method st v l))∧Below w.heap.size w w':=by
 have hbw:=qk (qd w (.cells #[.int .i64 st,.string r,.int .i64 v,.slice a l.length cap,.slice ba bn bc] 31)) (.cells #[.int .i64 0,.int .i64 0] 33);have HB:=Box.mk hbw;have HR:=Box.mk (show KVar ((w.alloc (.cells #[.int .i64 st,.string r,.int .i64 v,.slice a l.length cap,.slice ba bn bc] 31)).alloc (.cells #[.int .i64 0,.int .i64 0] 33)) (w.heap.size+1) 0 0 by
  have h:=heap_alloc_new (w.alloc (.cells #[.int .i64 st,.string r,.int .i64 v,.slice a l.length cap,.slice ba bn bc] 31)) (.cells #[.int .i64 0,.int .i64 0] 33);rw [World.size_alloc] at h; exact h)
 have H0:=Box.mk (And.intro (h.keep hbw) (And.intro hz (And.intro ht (hm.keep hbw))));have HPN:=Box.mk (show qkd method st=true→kq method st v l=(1,0,0) from fun e=>by unfold kq; rw [if_pos e]);have HPS:=Box.mk (show qkd method st=false→kq method st v l=if (j3 v l 1).1=1 then (4,(j3 v l 1).2.1,(j3 v l 1).2.2) else j3 v l 1 from fun e=>by unfold kq; rw [if_neg (by rw [e]; decide),qr8]);clear h hz ht hbw hm;go_enter Tryz.func83,Tryz.ntmps83
 go_wp2_with fail;refine (qnk method st _).mono ?_;rintro e w1 ⟨he,rfl⟩;cases hn:qkd method st with
 | true =>
  have HP:=Box.mk (HPN.out hn);rw [hn] at he;subst he;clear hn HPN HPS;go_wp2_with (refine wpList_store_row rfl 33 _ _ rfl (w.heap.size+1) #[.int .i64 1,.int .i64 0] rfl rfl 33 _ HR.out jn rfl (oneK _ _) ?_)
  (try simp only [Exit.inBlock,Exit.then])
  refine bodyPost_ret (qf rfl _ _ (w.heap.size+1) _ _ _ _ rfl (setRow_heap _ _ _ _ _ _ HR.out) Tryz.underlying33 rfl jn) rfl ?_;exact ⟨by rw [HP.out]; rfl,below_setRow HB.out (by omega) _⟩
 | false =>
  have HP0:=Box.mk (HPS.out hn);rw [hn] at he;subst he;clear hn HPN HPS;go_wp2_with fail;refine (qki v l a cap mm _ H0.out.1 H0.out.2.1 hl H0.out.2.2.1 H0.out.2.2.2).mono ?_;rintro e w1 ⟨he,hb1⟩;have HB1:=Box.mk (qe HB.out hb1);have HR1:=Box.mk (HR.out.keep hb1);generalize j3 v l 1=q at *;obtain ⟨k,n,er⟩:=q;simp only [qc2] at he;simp only [] at HP0;clear hb1 HB HR H0;subst he;by_cases hk:k=1
  · subst hk
    have HP:=Box.mk (show kq method st v l=(4,n,er) by rw [HP0.out]; rfl);have HR2:=Box.mk (HR1.out.keep (qd w1 (.cells #[.int .i64 4,.int .i64 n] 33)));have HB2:=Box.mk (qk HB1.out (.cells #[.int .i64 4,.int .i64 n] 33));clear HP0 HR1 HB1;go_wp2_with (refine wpList_store_row rfl 33 _ _ rfl (w.heap.size+1) #[.int .i64 4,.int .i64 n] rfl rfl 33 _ HR2.out jn rfl (oneK _ _) ?_)
    (try simp only [Exit.inBlock,Exit.then])
    refine bodyPost_ret (qf rfl _ _ (w.heap.size+1) _ _ _ _ rfl (setRow_heap _ _ _ _ _ _ HR2.out) Tryz.underlying33 rfl jn) rfl ?_;exact ⟨by rw [HP.out]; rfl,below_setRow HB2.out (by omega) _⟩
  · have HP:=Box.mk (show kq method st v l=(k,n,er) by rw [HP0.out]; exact if_neg hk)
    have ek:(k == 1)=false:=by rw [beq_eq_false_iff_ne]; exact hk
    have HR2:=Box.mk (HR1.out.keep (qd w1 (.cells #[.int .i64 k,.int .i64 n] 33)));have HB2:=Box.mk (qk HB1.out (.cells #[.int .i64 k,.int .i64 n] 33));clear HP0 hk HR1 HB1;go_wp2_with (refine wpList_store_row rfl 33 _ _ rfl (w.heap.size+1) #[.int .i64 k,.int .i64 n] rfl rfl 33 _ HR2.out jn rfl (oneK _ _) ?_)
    (try simp only [Exit.inBlock,Exit.then])
    refine bodyPost_ret (qf rfl _ _ (w.heap.size+1) _ _ _ _ rfl (setRow_heap _ _ _ _ _ _ HR2.out) Tryz.underlying33 rfl jn) rfl ?_;exact ⟨by rw [HP.out]; rfl,below_setRow HB2.out (by omega) _⟩
theorem qkn (l:List UInt8):(crlf2.isPrefixOf l=true) ↔ l.take 4=crlf2:=by
 rw [List.isPrefixOf_iff_prefix,List.prefix_iff_eq_take];exact ⟨fun h=>h.symm,fun h=>h.symm⟩
theorem qmv:∀ (l:List UInt8) (i:Nat),qb7 i l=if Lib.index l crlf2 = -1 then -1 else Lib.index l crlf2+4+i
 | [],i=>by
  have e:Lib.index [] crlf2 = -1:=rfl;rw [if_pos e]; rfl
 | x :: r,i=>by
  have ih:=qmv r (i+1);have hge:=Lib.index_ge r crlf2;unfold qb7 Lib.index;by_cases h:(x :: r).take 4=crlf2
  · rw [if_pos h,if_pos ((qkn _).2 h),if_neg (by decide)]
    omega
  · rw [if_neg h,if_neg (fun e=>h ((qkn _).1 e)),ih]
    by_cases h1:Lib.index r crlf2 = -1
    · rw [if_pos h1,if_pos (beq_iff_eq.2 h1),if_pos rfl]
    · rw [if_neg h1,if_neg (fun e=>h1 (beq_iff_eq.1 e)),if_neg (by omega)]
      omega
theorem qjz:∀ (l:List UInt8) (q i:Nat),qb7 i (l.take q)=if qb7 i l≤((i+q:Nat):Int) then qb7 i l else -1
 | [],q,i=>by
  rw [List.take_nil];have e:qb7 i [] = -1:=rfl;rw [e,if_pos (by omega)]
 | x :: r,0,i=>by
  rw [List.take_zero];have e:qb7 i [] = -1:=rfl;rw [e]
  split
  · rename_i h
    rcases qcm (x :: r) i with h2 | ⟨k,h1,h2,_⟩
    · exact h2.symm
    · rw [h1] at h; omega
  · rfl
 | x :: r,q+1,i=>by
  have ih:=qjz r q (i+1);rw [List.take_succ_cons]
  conv=>lhs; unfold qb7
  conv=>rhs; unfold qb7
  have e1:(x :: r.take q).take 4=((x :: r).take 4).take (q+1):=by
   rw [List.take_take,← List.take_succ_cons,List.take_take,Nat.min_comm]
  by_cases h:(x :: r).take 4=crlf2
  · rw [if_pos h]
    by_cases hq:4≤q+1
    · rw [if_pos (by rw [e1,h,List.take_of_length_le (by simp [crlf2]; omega)]),if_pos (by omega)]
    · rw [if_neg (fun e=>by
       rw [e1,h] at e;have:=congrArg List.length e;rw [List.length_take] at this;simp [crlf2] at this;omega),ih]
      rw [if_neg (show ¬ (((i+4:Nat):Int)≤((i+(q+1):Nat):Int)) by omega)]
      split
      · rename_i h3
        rcases qcm r (i+1) with h2 | ⟨k,h1,h2,_⟩
        · exact h2
        · rw [h1] at h3; omega
      · rfl
  · rw [if_neg h,ih]
    by_cases hn:(x :: r.take q).take 4=crlf2
    · exfalso
      rw [e1] at hn;have hl:=congrArg List.length hn;rw [List.length_take,List.length_take] at hl;simp only [crlf2,List.length_cons,List.length_nil] at hl;rw [List.take_of_length_le (by rw [List.length_take]; omega)] at hn;exact h hn
    · rw [if_neg hn]
      rw [show i+1+q=i+(q+1) by omega]
theorem qxt (b:List UInt8) (q:Nat):Lib.index (b.take q) crlf2=if 0≤endZ b∧endZ b≤q then endZ b-4 else -1:=by
 have h1:=qmv (b.take q) 0;have h2:=qjz b q 0;have hge:=Lib.index_ge (b.take q) crlf2;rw [h2] at h1;unfold endZ;rw [show ((0+q:Nat):Int)=(q:Int) by omega] at h1;rcases qcm b 0 with h | ⟨k,hk,hk1,hk2⟩
 · rw [h] at h1 ⊢
   rw [if_pos (by omega)] at h1;rw [if_neg (by omega)]
   split at h1
   · assumption
   · omega
 · rw [hk] at h1 ⊢
   by_cases hq:(k:Int)≤q
   · rw [if_pos hq] at h1
     rw [if_pos ⟨by omega,hq⟩]
     split at h1 <;> omega
   · rw [if_neg hq] at h1
     rw [if_neg (fun h=>hq h.2)]
     split at h1
     · assumption
     · omega
def prs:List UInt8→Nat
 | 13 :: 10 :: r=>1+prs r
 | _ :: r=>prs r
 | []=>0
def crlf1:List UInt8:=[13,10]
theorem qn4 (l:List UInt8):crlf1.isPrefixOf l=true ↔ ∃ r,l=13 :: 10 :: r:=by
 rw [List.isPrefixOf_iff_prefix];constructor
 · rintro ⟨t,h⟩; exact ⟨t,h.symm⟩
 · rintro ⟨r,rfl⟩; exact ⟨r,rfl⟩
theorem qnt (r:List UInt8):Lib.count (13 :: 10 :: r) crlf1=1+Lib.count r crlf1:=by
 have h:Lib.index (13 :: 10 :: r) crlf1=((0:Nat):Int):=by
  unfold Lib.index;rw [if_pos ((qn4 _).2 ⟨r,rfl⟩)]; rfl
 rw [Lib.count_hit (by simp [crlf1]) h];rfl
theorem qll (x:UInt8) (r:List UInt8) (hn:¬ ∃ t,x :: r=13 :: 10 :: t):Lib.count (x :: r) crlf1=Lib.count r crlf1:=by
 have hix:Lib.index (x :: r) crlf1=if Lib.index r crlf1 == -1 then -1 else Lib.index r crlf1+1:=by
  conv=>lhs; unfold Lib.index
  rw [if_neg (fun e=>hn ((qn4 _).1 e))]
 by_cases hm:Lib.index r crlf1 = -1
 · rw [Lib.count_miss hm,Lib.count_miss (by rw [hix,if_pos (beq_iff_eq.2 hm)])]
 · have hge:=Lib.index_ge r crlf1
   obtain ⟨j,hj⟩ : ∃ j:Nat,Lib.index r crlf1=j:=⟨(Lib.index r crlf1).toNat,by omega⟩;have hix':Lib.index (x :: r) crlf1=((j+1:Nat):Int):=by rw [hix,if_neg (fun e=>hm (beq_iff_eq.1 e)),hj]; omega
   rw [Lib.count_hit (by simp [crlf1]) hj,Lib.count_hit (by simp [crlf1]) hix'];rw [show j+1+crlf1.length=(j+crlf1.length)+1 by omega,List.drop_succ_cons]
theorem qua (r:List UInt8):prs (13 :: 10 :: r)=1+prs r:=rfl
theorem qhv (x:UInt8) (r:List UInt8) (hn:¬ ∃ t,x :: r=13 :: 10 :: t):prs (x :: r)=prs r:=by
 conv=>lhs; unfold prs
 split
 · rename_i h; cases h; exact absurd ⟨_,rfl⟩ hn
 · rename_i h; cases h; rfl
 · rename_i h; cases h
theorem jc1 (n:Nat):∀ l:List UInt8,l.length≤n→Lib.count l crlf1=prs l:=by
 induction n with
 | zero=>intro l h; obtain rfl:=List.eq_nil_of_length_eq_zero (Nat.le_zero.1 h); rfl
 | succ n ih =>
  intro l h;cases l with
  | nil=>rfl
  | cons x r =>
   by_cases hp:∃ t,x :: r=13 :: 10 :: t
   · obtain ⟨t,e⟩:=hp
     rw [e,qnt,qua,ih t (by rw [e] at h; simp at h; omega)]
   · rw [qll x r hp,qhv x r hp,ih r (by simpa using h)]
theorem jfg (n:Nat):∀ l:List UInt8,l.length≤n→prs l≤l.count 10∧prs l≤l.count 13:=by
 induction n with
 | zero=>intro l h; obtain rfl:=List.eq_nil_of_length_eq_zero (Nat.le_zero.1 h); exact ⟨Nat.zero_le _,Nat.zero_le _⟩
 | succ n ih =>
  intro l h;cases l with
  | nil=>exact ⟨Nat.zero_le _,Nat.zero_le _⟩
  | cons x r =>
   by_cases hp:∃ t,x :: r=13 :: 10 :: t
   · obtain ⟨t,e⟩:=hp
     rw [e];obtain ⟨h1,h2⟩:=ih t (by rw [e] at h; simp at h; omega);rw [qua]
     simp
     omega
   · obtain ⟨h1,h2⟩:=ih r (by simpa using h)
     rw [qhv x r hp,List.count_cons,List.count_cons];omega
theorem qfj:∀ (l cur:List UInt8),(cur.getLast? = some 13→l.head? = some 10) →
  ((j6 cur l).isSome=true ↔ (l.count 13+(if cur.getLast? = some 13 then 1 else 0)=prs (if cur.getLast? = some 13 then 13 :: l else l)∧l.count 10=prs (if cur.getLast? = some 13 then 13 :: l else l)))
 | [],cur,hp=>by
  have hn:¬ cur.getLast? = some 13:=fun e=>by have:=hp e; cases this
  rw [qfz,if_neg hn,if_neg hn];simp [prs]
 | x :: r,cur,hp=>by
  by_cases hc:cur.getLast? = some 13
  · have hx:x=10:=by have:=hp hc; simpa using this
    subst hx;have ih:=qfj r [] (by simp);rw [if_neg (by simp)] at ih;rw [qct hc,if_pos hc,if_pos hc,qua,Option.isSome_map,ih,List.count_cons,List.count_cons];rw [if_neg (by simp)]
    simp
    omega
  · rw [if_neg hc,if_neg hc]
    obtain ⟨hl1,hl2⟩:=jfg r.length r (Nat.le_refl _);by_cases h10:x=10
    · subst h10
      rw [qc8 (.inr ⟨rfl,hc⟩),qhv 10 r (fun ⟨t,e⟩=>by injection e with e1 _; exact absurd e1 (by decide)),List.count_cons,List.count_cons]
      simp
      omega
    · by_cases h13:x=13
      · subst h13
        by_cases hr:r.head? = some 10
        · rw [qar h10 (fun _=>hr)]
          have ih:=qfj r (cur++[13]) (fun _=>hr);rw [if_pos (by simp),if_pos (by simp)] at ih;rw [ih,List.count_cons,List.count_cons]
          simp
        · rw [qc8 (.inl ⟨rfl,hr⟩),qhv 13 r (fun ⟨t,e⟩=>by injection e with _ e2; rw [e2] at hr; exact hr rfl),List.count_cons,List.count_cons]
          simp
          omega
      · rw [qar h10 (fun e=>absurd e h13)]
        have hl:¬ (cur++[x]).getLast? = some 13:=by simpa using h13
        have ih:=qfj r (cur++[x]) (fun e=>absurd e hl);rw [if_neg hl,if_neg hl] at ih;rw [ih,qhv x r (fun ⟨t,e⟩=>by injection e with e1 _; exact h13 e1),List.count_cons,List.count_cons];simp [h10,h13]
theorem qt9 (b:List UInt8):(j6 [] b).isSome=true ↔ (b.count 13=Lib.count b crlf1∧b.count 10=Lib.count b crlf1):=by
 have h:=qfj b [] (by simp);rw [if_neg (by simp),if_neg (by simp)] at h;rw [h,jc1 b.length b (Nat.le_refl _)]
 simp
def spl:List UInt8→List UInt8→List ByteArray
 | cur,[]=>[⟨cur.toArray⟩]
 | cur,x :: r=>if x=10∧cur.getLast? = some 13 then ⟨cur.dropLast.toArray⟩ :: spl [] r else spl (cur++[x]) r
theorem qn6:∀ (t cur:List UInt8) (L:List ByteArray),j6 cur (t++crlf2)=some L→L=spl cur t++[⟨#[]⟩]
 | [],cur,L,h=>by
  have e:j6 cur ([]++crlf2)=some [⟨cur.toArray⟩,⟨#[]⟩]:=by
   show j6 cur [13,10,13,10]=_
   rw [qar (by decide) (fun _=>rfl),qct (by simp),qar (by decide) (fun _=>rfl),qct (by simp),qfz]
   simp
  rw [e] at h;cases h
  rfl
 | x :: r,cur,L,h=>by
  rw [List.cons_append] at h;unfold spl;by_cases hb:(x=13∧¬ (r++crlf2).head? = some 10)∨(x=10∧¬ cur.getLast? = some 13)
  · rw [qc8 hb] at h; cases h
  · by_cases h10:x=10
    · have hc:cur.getLast? = some 13:=Classical.byContradiction fun e=>hb (.inr ⟨h10,e⟩)
      subst h10;rw [if_pos ⟨rfl,hc⟩];rw [qct hc] at h;cases hr:j6 [] (r++crlf2) with
      | none=>rw [hr] at h; cases h
      | some y =>
       rw [hr] at h;cases h
       rw [qn6 r [] y hr];rfl
    · rw [if_neg (fun e=>h10 e.1)]
      rw [qar h10 (fun e=>Classical.byContradiction fun e2=>hb (.inl ⟨e,e2⟩))] at h;exact qn6 r _ L h
def qdo:ByteArray:=⟨#[13,10]⟩
theorem qgs {l:List UInt8} {j:Nat}:Lib.occAt l crlf1 j=true ↔ l[j]? = some 13∧l[j+1]? = some 10:=by
 unfold Lib.occAt;rw [qn4];constructor
 · rintro ⟨r,h⟩
   have h0:(l.drop j)[0]? = some 13:=by rw [h]; rfl
   have h1:(l.drop j)[1]? = some 10:=by rw [h]; rfl
   rw [List.getElem?_drop] at h0 h1;exact ⟨h0,h1⟩
 · rintro ⟨h0,h1⟩
   have e0:(l.drop j)[0]? = some 13:=by rw [List.getElem?_drop]; exact h0
   have e1:(l.drop j)[1]? = some 10:=by rw [List.getElem?_drop]; exact h1
   match hd:l.drop j,e0,e1 with
   | x :: y :: r,e0,e1 =>
    simp at e0 e1;exact ⟨r,by rw [e0,e1]⟩
def qrp (cur:List UInt8):Prop:=∀ j,Lib.occAt cur crlf1 j=false
theorem qrp.nil:qrp []:=fun j=>by
 rw [Bool.eq_false_iff]; intro h;have:=(qgs.1 h).1;simp at this
theorem qrp.snoc {cur:List UInt8} {x:UInt8} (h:qrp cur) (hx:¬ (x=10∧cur.getLast? = some 13)):qrp (cur++[x]):=fun j=>by
 rw [Bool.eq_false_iff]; intro hj;obtain ⟨h0,h1⟩:=qgs.1 hj;by_cases hl:j+1<cur.length
 · rw [List.getElem?_append_left (by omega)] at h0
   rw [List.getElem?_append_left hl] at h1;have:=h j;rw [qgs.2 ⟨h0,h1⟩] at this;cases this
 · by_cases he:j+1=cur.length
   · apply hx
     rw [List.getElem?_append_right (by omega),he,Nat.sub_self] at h1;refine ⟨by simpa using h1,?_⟩;rw [List.getElem?_append_left (by omega)] at h0;rw [List.getLast?_eq_getElem?,← he];exact h0
   · rw [List.getElem?_append_right (by omega)] at h1
     have hk:j+1-cur.length≠0:=by omega
     obtain ⟨k,hk2⟩:=Nat.exists_eq_succ_of_ne_zero hk;rw [hk2] at h1;simp at h1
theorem qw1 (s:List UInt8):Lib.indexB ⟨s.toArray⟩ qdo=Lib.index s crlf1:=rfl
theorem qn9:∀ (s cur:List UInt8) (k:Nat),qrp cur→Lib.countB ⟨(cur++s).toArray⟩ qdo≤k→Lib.splitB qdo 0 k ⟨(cur++s).toArray⟩=spl cur s
 | [],cur,k,hn,_=>by
  rw [List.append_nil];rw [Lib.splitB_miss]
  · rfl
  · rw [qw1]
    exact Lib.index_none fun j _=>hn j
 | x :: r,cur,k,hn,hk=>by
  unfold spl;by_cases hx:x=10∧cur.getLast? = some 13
  · rw [if_pos hx]
    obtain ⟨rfl,hc⟩:=hx;obtain ⟨c,rfl⟩ : ∃ c,cur=c++[13]:=by
     obtain ⟨ys,h⟩:=List.getLast?_eq_some_iff.1 hc;exact ⟨ys,h⟩
    rw [List.dropLast_concat];have hi:Lib.index (c++[13]++10 :: r) crlf1=(c.length:Int):=by
     refine Lib.index_first (by simp) ?_ ?_
     · rw [qgs]
       constructor
       · simp
       · simp
     · intro j hj
       rw [Bool.eq_false_iff]; intro ho;obtain ⟨h0,h1⟩:=qgs.1 ho;rw [List.getElem?_append_left (by simp; omega)] at h0 h1;have:=hn j;rw [qgs.2 ⟨h0,h1⟩] at this;cases this
    have hib:Lib.indexB ⟨(c++[13]++10 :: r).toArray⟩ qdo=(c.length:Int):=hi;have e2:(⟨(c++[13]++10 :: r).toArray⟩ : ByteArray).extract (c.length+qdo.size) (⟨(c++[13]++10 :: r).toArray⟩ : ByteArray).size=⟨r.toArray⟩:=by
     apply ByteArray.ext
     apply Array.ext'
     rw [Lib.extract_to_end];show (c++[13]++10 :: r).drop (c.length+2)=r
     rw [show c++[13]++10 :: r=(c++[13,10])++r by simp,List.drop_append_of_le_length (by simp)];rw [show c.length+2=(c++[13,10]).length by simp,List.drop_length,List.nil_append]
    have hc2:=Lib.countB_hit _ qdo c.length (by decide) hib;rw [e2] at hc2;obtain ⟨k',rfl⟩ : ∃ k',k=k'+1:=⟨k-1,by omega⟩;rw [Lib.splitB_hit qdo 0 k' _ c.length hib,e2];have ih:=qn9 r [] k' qrp.nil (by rw [List.nil_append]; omega);rw [List.nil_append] at ih;rw [ih];congr 1;apply ByteArray.ext
    apply Array.ext'
    rw [ByteArray.data_extract,Array.toList_extract];show List.extract (c++[13]++10 :: r) 0 (c.length+0)=c
    simp [List.extract]
  · rw [if_neg hx]
    have ih:=qn9 r (cur++[x]) k (hn.snoc hx) (by rw [List.append_assoc]; exact hk);rw [List.append_assoc] at ih;exact ih
def HdOk (w:World) (mm:Int):Prop:=w.cell? ⟨0,0,none⟩=some (.int .i64 mm)
theorem HdOk.keep {w w':World} {mm:Int} (h:HdOk w mm) (hb:Below w.heap.size w w'):HdOk w' mm:=qp hb h
theorem qzf (s sep:ByteArray) (mm:Int) (w:World) (hs:s.size<4294967281) (hm:HdOk w mm) (h1:1≤sep.size) :
  Calls Tryz.prog 134 #[.string s,.string sep] w fun e w'=>e = .returned (.int .i64 (Lib.count s.data.toList sep.data.toList:Nat))∧w=w' :=
 (Any.strings_Count_any Tryz.lays138 s sep mm w hs hm h1).mono fun _ _ ⟨he,hw⟩=>⟨he,hw.symm⟩
theorem qm5 (s p:ByteArray) (w:World) (hs:s.size≤9223372036854775807) :
  Calls Tryz.prog 123 #[.string s,.string p] w fun e w'=>e = .returned (.string ⟨(Lib.trimSuffix s.data.toList p.data.toList).toArray⟩)∧w=w' :=
 (Any.strings_TrimSuffix Tryz.lays102 s p w hs).mono fun _ _ ⟨he,hw⟩=>⟨he,hw.symm⟩
def qcl (s:ByteArray):List ByteArray:=Lib.splitB qdo 0 (min 66 (s.size+1)-1) s
theorem quw (s:ByteArray):0<(qcl s).length:=by
 unfold qcl;generalize min 66 (s.size+1)-1=k;cases k with
 | zero=>exact Nat.one_pos
 | succ k=>unfold Lib.splitB; split <;> simp
theorem qp5 (s:ByteArray) (w:World) (mm:Int) (hs:s.size<4294967281) (hm:HdOk w mm) :
  Calls Tryz.prog 122 #[.string s,.string ⟨#[13,10]⟩,.int .i64 66] w fun e w'=>∃ cap,e = .returned (.slice (some ⟨w.heap.size,0,none⟩) (qcl s).length cap) ∧
   (qcl s).length≤cap∧cap≤66∧ky w' (some ⟨w.heap.size,0,none⟩) (qcl s)∧Below w.heap.size w w':=by
 refine (Any.strings_SplitN { Tryz.laysM147 with } Tryz.laysM147.i9 s ⟨#[13,10]⟩ 66 mm w hs hm (by decide) (by decide) (by decide)).mono ?_;rintro e w' ⟨he,hw⟩;have hlen:=Lib.splitB_length_le qdo 0 (min 66 (s.size+1)-1) s;refine ⟨_,he,by unfold qcl; omega,by omega,fun j hj=>⟨_,_,rfl,?_⟩,by rw [hw]; exact (Below.refl _ _).alloc (Nat.le_refl _) _⟩;rw [hw,jm,Nat.zero_add];exact qos _ _ j hj
theorem qmx (b:List UInt8):Lib.bytesOf (b.map fun x=>(x.toNat:Int))=b:=by
 unfold Lib.bytesOf;rw [List.map_map]
 conv=>rhs; rw [← List.map_id b]
 apply List.map_congr_left
 intro x _;show UInt8.ofNat (x.toNat:Int).toNat=x
 rw [Int.toNat_natCast]; exact UInt8.ofNat_toNat
theorem jd5 (b s:List UInt8) (a:Option Addr) (x2:Addr) (c c2:Nat) (mm:Int) (w:World) (h:qg w a b c) (h2:qg w (some x2) s c2) (h0:1<s.length) (hl:b.length≤4000000000) (hm:HdOk w mm) :
  Calls Tryz.prog 77 #[.slice a b.length c,.slice (some x2) s.length c2] w fun e w'=>e = .returned (.int .i64 (Lib.index b s))∧Below w.heap.size w w':=by
 rcases h2 with ⟨e,_⟩ | ⟨x3,e,h21,h22,h23⟩
 · cases e
 cases e
 have hmx:maxLen=9223372036854775807∨maxLen≤9223372036854775807:=by unfold maxLen; omega
 have hsl:s.length≤9223372036854775807:=by unfold maxLen at h22; omega
 rcases h with ⟨rfl,rfl,rfl⟩ | ⟨x,rfl,h11,h12,h13⟩
 · refine (Any.bytes_Index_nil Tryz.lays185 (some x2) s.length c2 w hsl (fun e=>by omega)).mono ?_
   rintro e w' ⟨he,hw⟩;refine ⟨?_,by rw [hw]; exact Below.refl _ _⟩;rw [he,if_neg (by omega)];unfold Lib.index;rw [if_neg (by cases s with
    | nil=>simp at h0
    | cons x r=>simp)]
 · have hr:∀ l:List UInt8,∀ z ∈ l.map (fun x=>(x.toNat:Int)),0≤z∧z<256:=fun l z hz=>by
    obtain ⟨y,_,rfl⟩:=List.mem_map.1 hz;have:=y.toNat_lt;constructor
    · omega
    · have h3:y.toNat<256:=this
      omega
   have hg:∀ (l:List UInt8) (i:Nat) (hi:i<l.length),(l.map fun x=>(x.toNat:Int)).getD i 0=(l[i].toNat:Int):=fun l i hi=>by
    rw [List.getD_eq_getElem?_getD,List.getElem?_map,List.getElem?_eq_getElem hi]; rfl
   refine (Any.bytes_Index_at Tryz.lays185 x x2 b.length c s.length c2 (b.map fun x=>(x.toNat:Int)) (s.map fun x=>(x.toNat:Int)) mm w (by simp) (by simp) (hr b) (hr s)
    (fun i hi=>by rw [hg b i hi]; exact h13 i hi) (fun i hi=>by rw [hg s i hi]; exact h23 i hi) h11 (by omega) hsl hm).mono ?_
   rintro e w' ⟨he,q,hw⟩;refine ⟨?_,by rw [hw]; exact below_drewN (Below.refl _ _) q⟩;rw [he,qmx,qmx]
theorem qhw (b:List UInt8) (mm:Int) (w:World) (hl:b.length≤4000000000) (hm:HdOk w mm) :
  Calls Tryz.prog 121 #[.string ⟨b.toArray⟩] w fun e w'=>e = .returned (.bool (j6 [] b).isSome)∧w=w':=by
 have HC:=Box.mk (qt9 b);have HM:=Box.mk hm;have hsz:(⟨b.toArray⟩ : ByteArray).size=b.length:=rfl;have HN:=Box.mk (fun sep h1=>qzf ⟨b.toArray⟩ sep mm w (by omega) hm h1);have HN1:=Box.mk (show Calls Tryz.prog 134 #[.string ⟨b.toArray⟩,.string ⟨#[13,10]⟩] w fun e w'=>e = .returned (.int .i64 (Lib.count b crlf1:Nat))∧w=w' from HN.out ⟨#[13,10]⟩ (by decide));have HN2:=Box.mk (show Calls Tryz.prog 134 #[.string ⟨b.toArray⟩,.string ⟨#[13]⟩] w fun e w'=>e = .returned (.int .i64 (b.count 13:Nat))∧w=w' by rw [← Lib.count_one]; exact HN.out ⟨#[13]⟩ (by decide));have HN3:=Box.mk (show Calls Tryz.prog 134 #[.string ⟨b.toArray⟩,.string ⟨#[10]⟩] w fun e w'=>e = .returned (.int .i64 (b.count 10:Nat))∧w=w' by rw [← Lib.count_one]; exact HN.out ⟨#[10]⟩ (by decide));generalize (j6 [] b).isSome=r at *;generalize Lib.count b crlf1=n at *;generalize b.count 13=n1 at *;generalize b.count 10=n2 at *;clear hm HN hsz;go_enter Tryz.func121,Tryz.ntmps121
 go_wp2_with fail;refine HN1.out.mono ?_;rintro e w1 ⟨rfl,rfl⟩;clear HN1;go_wp2_with fail;refine HN2.out.mono ?_;rintro e w1 ⟨rfl,rfl⟩;clear HN2;by_cases h1:n1=n
 · have e1:((n1:Int) == (n:Int))=true:=by rw [h1]; exact beq_self_eq_true _
   go_wp2_with fail;refine HN3.out.mono ?_;rintro e w1 ⟨rfl,rfl⟩;have HP:=Box.mk (show ((n2:Int) == (n:Int))=r by
    rw [Bool.eq_iff_iff,HC.out,beq_iff_eq];constructor
    · intro h; exact ⟨h1,by omega⟩
    · intro h; omega)
   clear HN3 HC h1;go_wp2_with fail;go_ret;rw [HP.out];exact ⟨rfl,rfl⟩
 · have e1:((n1:Int) == (n:Int))=false:=by rw [beq_eq_false_iff_ne]; omega
   have HP:=Box.mk (show r=false by
    rw [Bool.eq_false_iff];intro h;exact h1 (HC.out.1 h).1)
   clear HN3 HC h1;go_wp2_with fail;go_ret;rw [HP.out];exact ⟨rfl,rfl⟩
def jf8:ByteArray:=⟨#[72,111,115,116]⟩
theorem qv2 (x:List Fld):qj x jf8=qj x hostN:=by
 have h:lowS jf8=lowS hostN:=by decide +kernel
 unfold qj;congr 1
def qrj (x:List Fld) (z:Int):Bool:=decide ((qj x hostN).length=1∨((qj x hostN).length=0∧¬ z=1))
theorem qns (z:Int) (x:List Fld) (fa:Option Addr) (fc:Nat) (w:World) (h:qm w fa x) (hz:qa6 x) (hl:x.length≤1000) :
  Calls Tryz.prog 109 #[.int .i64 z,.slice fa x.length fc] w fun e w'=>e = .returned (.bool (qrj x z))∧Below w.heap.size w w':=by
 have HD:=Box.mk (show qrj x z=decide ((qj x hostN).length=1∨((qj x hostN).length=0∧¬ z=1)) from rfl);have HN:=Box.mk (qhq x jf8 fa fc w h hz (by decide) (by omega));rw [qv2] at HN;generalize qrj x z=r at *;go_enter Tryz.func109,Tryz.ntmps109
 go_wp2_with fail;refine HN.out.mono ?_;rintro e w1 ⟨va,vc,rfl,_,hb1⟩;have HB1:=Box.mk hb1;clear HN h hz hb1;generalize (qj x hostN).length=nv at *;by_cases h1:nv=1
 · have e1:((nv:Int) == 1)=true:=by rw [h1]; rfl
   have HP:=Box.mk (show r=true by rw [HD.out]; exact decide_eq_true (.inl h1));clear HD h1;go_wp2_with fail;go_ret;rw [HP.out];exact ⟨rfl,HB1.out⟩
 · have e1:((nv:Int) == 1)=false:=by rw [beq_eq_false_iff_ne]; omega
   by_cases h0:nv=0
   · have e0:((nv:Int) == 0)=true:=by rw [h0]; rfl
     have HP:=Box.mk (show r=(z != 1) by
      rw [HD.out,Bool.eq_iff_iff,decide_eq_true_iff,bne_iff_ne];constructor
      · intro h; exact h.elim (fun h=>absurd h h1) (fun h=>h.2)
      · intro h; exact .inr ⟨h0,h⟩)
     clear HD h1 h0;go_wp2_with fail;go_ret;rw [HP.out];exact ⟨rfl,HB1.out⟩
   · have e0:((nv:Int) == 0)=false:=by rw [beq_eq_false_iff_ne]; omega
     have HP:=Box.mk (show r=false by rw [HD.out]; exact decide_eq_false (fun h=>h.elim h1 (fun h=>h0 h.1)));clear HD h1 h0;go_wp2_with fail;go_ret;rw [HP.out];exact ⟨rfl,HB1.out⟩
theorem qc5 (l:List ByteArray) (a:Option Addr) (c:Nat) (w:World) (h:ky w a l) (hz:∀ s ∈ l,s.size≤maxLen) (hl:l.length≤4000000) :
  Calls Tryz.prog 124 #[.slice a l.length c] w fun e w'=>∃ x fa fc er,qt l=(er,x)∧e = .returned (.tuple #[.slice fa (List.length x) fc,.int .i64 er])∧qm w' fa x∧(∀ y,fa=some y→w.heap.size≤y.block)∧Below w.heap.size w w':=by
 have HS:=Box.mk h;have HZ:=Box.mk hz;have HF1:=Box.mk (fun h=>qf9 (l:=l) h);have HF2:=Box.mk (fun h x hx=>qkg (l:=l) (x:=x) h hx);have HF3:=Box.mk (fun h hx=>qk5 (l:=l) h hx);generalize qt l=R at *;clear h hz;by_cases h64:64<l.length
 · have HP:=Box.mk (HF1.out h64)
   clear HF1 HF2 HF3;go_enter Tryz.func124,Tryz.ntmps124
   go_wp2_with fail;go_ret2;exact ⟨[],none,0,3,HP.out,rfl,qm.nil _ _,(fun _ e=>by cases e),Below.refl _ _⟩
 · have HF4:=Box.mk h64
   clear HF1;go_enter Tryz.func124,Tryz.ntmps124
   go_wp2_with fail;go_loopw [4,14] (fun v iv wr=>∃ k:Nat,k≤l.length∧iv = .int .i64 k ∧ ∃ x:List Fld,Box (AccF w wr v x∧x.length≤k∧je (l.take k)=some x)) (fun _ iv _=>l.length-(intOf iv).toNat)
   case atStart=>exact ⟨0,Nat.zero_le _,rfl,[],⟨AccF.start _,Nat.le_refl _,rfl⟩⟩
   case round =>
    obtain ⟨k,hk,rfl,x,HM⟩:=hrel;by_cases hlt:k<l.length
    · obtain ⟨b,off,rfl,hcell⟩:=(HS.out.keep HM.out.1.2) k hlt
      have HSZ:=Box.mk (HZ.out _ (List.getElem_mem hlt));have HST:=Box.mk (qj1 hlt rfl HM.out.2.2);generalize l[k]=s at *;go_wp2_with fail;refine (qoo s _ HSZ.out).mono ?_;rintro e w2 ⟨he,hb2⟩;have HA2:=Box.mk (HM.out.1.keep hb2);have HXL:=Box.mk HM.out.2.1;clear hb2 hcell;rcases hq:kr s with _ | ⟨fn,fv⟩
      · rw [hq] at he
        simp only [qh1] at he;subst he;have HP:=Box.mk (show R=(2,[]) by
         have h9:=HST.out;rw [hq] at h9;have h10:=qf6 _ (l.drop (k+1)) h9;rw [List.take_append_drop] at h10;exact HF3.out HF4.out h10)
        clear hq HST HF2 HF3;go_wp2_with fail;go_ret2;exact ⟨[],none,0,2,HP.out,rfl,qm.nil _ _,(fun _ e=>by cases e),qe HA2.out.2 (qd _ _)⟩
      · rw [hq] at he
        simp only [qh1] at he;subst he;have HN:=Box.mk (show je (l.take (k+1))=some (x++[(fn,fv)]) by rw [HST.out,hq]; rfl);clear hq HST;go_wp2_with (at_builtin; refine qe5 _ rfl _ _ rfl rfl (HA2.out.keep (qk (qd w2 _) _)) rfl (y:=(fn,fv)) ?c1 ?c2 ?c3 ?c4)
        case c3=>have:=HXL.out; omega
        case c4 =>
         intro g cap w3 hacc;obtain ⟨x2,hx2⟩ : ∃ x2,x2=x++[(fn,fv)]:=⟨_,rfl⟩;rw [← hx2] at hacc HN;have HX2:=Box.mk (show x2.length=x.length+1 by rw [hx2]; simp);have HACC:=Box.mk hacc;clear hacc hx2;go_wp2_with fail;go_roundw
         case rel=>exact ⟨k+1,by omega,by go_num,x2,⟨HACC.out,by rw [HX2.out]; have:=HXL.out; omega,HN.out⟩⟩
         case measure=>simp [intOf]; omega
    · have HP:=Box.mk (show R=(0,x) by
       have h9:=HM.out.2.2;rw [List.take_of_length_le (by omega)] at h9;exact HF2.out HF4.out x h9)
      obtain ⟨fa,fc,rfl,hfs⟩:=HM.out.1.shape;have HFS:=Box.mk hfs;clear hfs;go_wp2_with fail;go_ret2;exact ⟨x,fa,fc,0,HP.out,rfl,HFS.out,HM.out.1.fresh,HM.out.1.2⟩
theorem qiu {w:World} {a:Option Addr} {l:List UInt8} {c:Nat} (h:qg w a l c) (k:Nat):qg w a (l.take k) c:=by
 rcases h with ⟨h1,rfl,h3⟩ | ⟨x,h1,h2,h3,h4⟩
 · exact .inl ⟨h1,by simp,h3⟩
 · refine .inr ⟨x,h1,by rw [List.length_take]; omega,h3,fun j hj=>?_⟩
   rw [List.getElem_take]; exact h4 j (by rw [List.length_take] at hj; omega)
theorem qo4 {w:World} {g:Nat} {l:List UInt8} {t:TypeId} {fr:Nat × Nat} (h:w.heap[g]? = some (.cells (j9 l).toArray t fr)) (hl:l.length≤maxLen):qg w (some ⟨g,0,none⟩) l l.length:=by
 refine .inr ⟨_,rfl,Nat.le_refl _,hl,fun j hj=>?_⟩;rw [Addr.add_lit,Nat.zero_add,cell_of_row _ _ _ _ _ _ h];simp [j9,hj]
theorem qcn (b:List UInt8) (a:Option Addr) (c:Nat) (most mm:Int) (w:World) (h:qg w a b c) (hl:b.length≤3000000) (hm:HdOk w mm) :
  Calls Tryz.prog 57 #[.slice a b.length c,.int .i64 most] w fun e w'=>e = .returned (.tuple #[.int .i64 (endS b most).1,.int .i64 (endS b most).2])∧Below w.heap.size w w':=by
 have kc:=fun (w:World) (C:Array Value) (n c:Nat)=>Lib.run_convert_bytes_const (P:=Tryz.prog) w 23 5 C n c Tryz.underlying23 Tryz.underlying5;have HS:=Box.mk (show endS b most=if 0≤endZ b∧endZ b≤most then (endZ b,0) else if most≤b.length then (0,3) else (0,4) from rfl);have HR:=Box.mk (qcm b 0);obtain ⟨q,hq⟩ : ∃ q:Nat,max 0 (min most (b.length:Int))=(q:Int):=⟨(max 0 (min most (b.length:Int))).toNat,by omega⟩;have HQ:=Box.mk hq;have hqb:q≤b.length:=by omega
 have HI:=Box.mk (qxt b q);obtain ⟨W1,hW1⟩ : ∃ W1,W1=w.alloc (.cells #[.int .u8 13,.int .u8 10,.int .u8 13,.int .u8 10] 5 (4,5)):=⟨_,rfl⟩;have HB1:=Box.mk (show Below w.heap.size w W1 by rw [hW1]; exact qd w _);have HP:=Box.mk (show qg W1 (some ⟨w.heap.size,0,none⟩) crlf2 4 by rw [hW1]; exact qo4 (heap_alloc_new w (.cells (j9 crlf2).toArray 5 (4,5))) (by decide));have HM:=Box.mk (hm.keep HB1.out);have HIX:=Box.mk (fun ad ca (h2:qg W1 ad (b.take q) ca)=>jd5 (b.take q) crlf2 ad ⟨w.heap.size,0,none⟩ ca 4 mm W1 h2 HP.out (by decide) (by rw [List.length_take]; omega) HM.out);rw [List.length_take,Nat.min_eq_left hqb] at HIX;have HW1:=Box.mk hW1;have HBY:=Box.mk h;obtain ⟨n,hn⟩ : ∃ n,endS b most=n:=⟨_,rfl⟩;have HZ2:=Box.mk (show endZ b = -1∨4≤endZ b by
  rcases HR.out with h | ⟨k,h1,h2,_⟩
  · exact .inl h
  · right; show 4≤qb7 0 b; rw [h1]; omega)
 have HZ3:=Box.mk (show endZ b≤b.length by
  rcases HR.out with h | ⟨k,h1,_,h2⟩
  · show qb7 0 b≤_; rw [h]; omega
  · show qb7 0 b≤_; rw [h1]; omega)
 rw [hn] at HS ⊢;generalize endZ b=z at *;have hqc:(q:Int)≤(c:Int):=by have:=kb h; omega
 clear hn HR h hm hW1 HM;go_enter Tryz.func57,Tryz.ntmps57
 go_wp2_with fail;rw [← HW1.out];refine (HIX.out a c ((qiu HBY.out q).keep HB1.out)).mono ?_;rintro e w2 ⟨rfl,hb2⟩;have HB2:=Box.mk (qe HB1.out hb2);rw [HI.out];clear hb2 HIX HP HW1 HB1 kc;by_cases h1:0≤z∧z≤(q:Int)
 · rw [if_pos h1]
   have hz4:4≤z:=by have:=HZ2.out; omega
   obtain ⟨r,hr⟩ : ∃ r,r=z-4:=⟨_,rfl⟩;have h0:0≤r:=by omega
   have hadd:IntKind.i64.wrap (r+4)=z:=by
    rw [show r+4=z by omega];exact IntWalk.i64_in _ ⟨by omega,by have:=HZ3.out; omega⟩
   have HN:=Box.mk (show n=(z,0) by
    rw [HS.out,if_pos ⟨h1.1,by have:=HQ.out; omega⟩])
   rw [← hr];clear hr h1 HI HS;go_wp2_with fail;go_ret2;rw [HN.out];exact ⟨rfl,HB2.out⟩
 · rw [if_neg h1]
   have h3:¬ (0≤z∧z≤most):=fun h=>h1 ⟨h.1,by have:=HQ.out; have:=HZ3.out; omega⟩;by_cases h4:most≤b.length
   · have HN:=Box.mk (show n=(0,3) by rw [HS.out,if_neg h3,if_pos h4])
     clear h3 h1 HI HS;go_wp2_with fail;go_ret2;rw [HN.out];exact ⟨rfl,HB2.out⟩
   · have HN:=Box.mk (show n=(0,4) by rw [HS.out,if_neg h3,if_neg h4])
     clear h3 h1 HI HS;go_wp2_with fail;go_ret2;rw [HN.out];exact ⟨rfl,HB2.out⟩
theorem qtj (sep:ByteArray) (save:Nat) (k:Nat):∀ (s:ByteArray),∀ x ∈ Lib.splitB sep save k s,x.size≤s.size:=by
 induction k with
 | zero=>intro s x hx; unfold Lib.splitB at hx; obtain rfl:=List.mem_singleton.1 hx; exact Nat.le_refl _
 | succ k ih =>
  intro s x hx;unfold Lib.splitB at hx
  split at hx
  · obtain rfl:=List.mem_singleton.1 hx; exact Nat.le_refl _
  · rcases List.mem_cons.1 hx with rfl | h
    · rw [ByteArray.size_extract]; omega
    · have:=ih _ x h
      rw [ByteArray.size_extract] at this;omega
theorem qvf (sep:ByteArray) (save:Nat) (s:ByteArray) (k k':Nat):∃ x r r',Lib.splitB sep save (k+1) s=x :: r∧Lib.splitB sep save (k'+1) s=x :: r':=by
 unfold Lib.splitB
 split
 · exact ⟨_,_,_,rfl,rfl⟩
 · exact ⟨_,_,_,rfl,rfl⟩
theorem qix {b t:List UInt8} (hb:b=t++crlf2) (he:endZ b=b.length) (hw:(j6 [] b).isSome=true) :
  ∃ l0 ls ls',qa5 b=some (l0 :: ls)∧qcl ⟨t.toArray⟩=l0 :: ls'∧qt ls'=qt ls∧l0.size≤b.length∧(∀ s ∈ ls',s.size≤b.length)∧ls'.length≤65:=by
 obtain ⟨L,hL⟩:=Option.isSome_iff_exists.1 hw;have h4:4≤b.length:=by rw [hb,List.length_append]; show 4≤t.length+4; omega
 have hls:qa5 b=some L.dropLast:=by unfold qa5; rw [if_pos ⟨he,h4⟩,hL]; rfl
 rw [hb] at hL;have hsp:=qn6 t [] L hL;have hz:1≤qdo.size:=by decide
 have hts:(⟨t.toArray⟩ : ByteArray).size=t.length:=rfl;have hle:=Lib.countB_le qdo hz t.length ⟨t.toArray⟩ (Nat.le_refl _);have hall:=qn9 t [] (Lib.countB ⟨t.toArray⟩ qdo) qrp.nil (by rw [List.nil_append]; exact Nat.le_refl _);rw [List.nil_append] at hall;have hsm:∀ s ∈ qcl ⟨t.toArray⟩,s.size≤b.length:=fun s hs=>by
  have:=qtj _ _ _ _ s hs;rw [hts] at this;rw [hb,List.length_append]; omega
 have hpl:=Lib.splitB_length_le qdo 0 (min 66 ((⟨t.toArray⟩ : ByteArray).size+1)-1) ⟨t.toArray⟩;rw [hsp,List.dropLast_concat,← hall] at hls;by_cases hc:Lib.countB ⟨t.toArray⟩ qdo≤min 66 ((⟨t.toArray⟩ : ByteArray).size+1)-1
 · have e:qcl ⟨t.toArray⟩=Lib.splitB qdo 0 (Lib.countB ⟨t.toArray⟩ qdo) ⟨t.toArray⟩:=qjo _ hz _ _ _ hc
   rw [← e] at hls;cases hp:qcl ⟨t.toArray⟩ with
   | nil=>have:=quw ⟨t.toArray⟩; rw [hp] at this; exact absurd this (by simp)
   | cons l0 ls =>
    rw [hp] at hls hsm;refine ⟨l0,ls,ls,hls,rfl,rfl,hsm l0 (List.mem_cons_self ..),fun s hs=>hsm s (List.mem_cons_of_mem _ hs),?_⟩;have e2:(qcl ⟨t.toArray⟩).length≤min 66 ((⟨t.toArray⟩ : ByteArray).size+1)-1+1:=hpl;rw [hp,List.length_cons] at e2;omega
 · have hm:min 66 ((⟨t.toArray⟩ : ByteArray).size+1)-1=65:=by rw [hts] at hc ⊢; omega
   rw [hm] at hc;have hk:Lib.countB ⟨t.toArray⟩ qdo=(Lib.countB ⟨t.toArray⟩ qdo-1)+1:=by omega
   obtain ⟨x,r,r',h1,h2⟩:=qvf qdo 0 ⟨t.toArray⟩ (Lib.countB ⟨t.toArray⟩ qdo-1) 64;rw [← hk] at h1;have hp:qcl ⟨t.toArray⟩=x :: r':=by unfold qcl; rw [hm]; exact h2
   have hl1:=qdm qdo hz 0 65 ⟨t.toArray⟩ (by omega);have hl2:=qdm qdo hz 0 (Lib.countB ⟨t.toArray⟩ qdo) ⟨t.toArray⟩ (Nat.le_refl _);rw [h2,List.length_cons] at hl1;rw [h1,List.length_cons] at hl2;rw [h1] at hls;rw [hp] at hsm;exact ⟨x,r,r',hls,hp,by rw [qf9 (by omega),qf9 (by omega)],hsm x (List.mem_cons_self ..),fun s hs=>hsm s (List.mem_cons_of_mem _ hs),by omega⟩
theorem qwu {b:List UInt8} (he:endZ b=b.length):∃ t,b=t++crlf2∧4≤b.length:=by
 obtain ⟨h1,h2⟩:=qgt b 0 (by rw [Nat.zero_add]; exact he);exact ⟨b.take (b.length-4),by rw [← h2,List.take_append_drop],h1⟩
theorem qox (t:List UInt8):Lib.trimSuffix (t++crlf2) crlf2=t:=by
 unfold Lib.trimSuffix;rw [if_pos (by unfold Lib.hasSuffix; simp)];rw [List.length_append,Nat.add_sub_cancel,List.take_left'];rfl
structure ButH (p:Nat) (W wr:World):Prop where
 os:wr.os=W.os
 tape:wr.tape=W.tape
 output:wr.output=W.output
 size:W.heap.size≤wr.heap.size
 block:∀ k,k<W.heap.size→k≠p→wr.heap[k]? = W.heap[k]?
theorem ButH.of {p:Nat} {W wr:World} (h:Below W.heap.size W wr):ButH p W wr:=⟨h.os,h.tape,h.output,h.size,fun k hk _=>h.block k hk⟩
theorem ButH.trans {p:Nat} {a b c:World} (h:ButH p a b) (h2:ButH p b c):ButH p a c :=
 ⟨h2.os.trans h.os,h2.tape.trans h.tape,h2.output.trans h.output,Nat.le_trans h.size h2.size,fun k hk hp=>(h2.block k (Nat.lt_of_lt_of_le hk h.size) hp).trans (h.block k hk hp)⟩
theorem ButH.setRow {p:Nat} {W wr:World} (h:ButH p W wr) (cs:Array Value):ButH p W (wr.setRow p cs) :=
 h.trans ⟨rfl,rfl,rfl,by simp [World.setRow],fun k _ hp=>setRow_other _ _ _ _ hp⟩
theorem ButH.below {p K:Nat} {W wr:World} (h:ButH p W wr) (hK:K≤p) (hK2:K≤W.heap.size):Below K W wr:=⟨h.os,h.tape,h.output,h.size,fun k hk=>h.block k (by omega) (by omega)⟩
theorem ButH.strs {p g o:Nat} {W wr:World} {l:List ByteArray} (h:ButH p W wr) (hs:ky W (some ⟨g,o,none⟩) l) (hg:g<W.heap.size) (hp:g≠p):ky wr (some ⟨g,o,none⟩) l:=fun j hj=>by
 obtain ⟨b,off,e,hc⟩:=hs j hj;refine ⟨b,off,e,?_⟩;cases e
 unfold World.cell? at *;rw [show wr.heap[g]? = W.heap[g]? from h.block g hg hp];exact hc
def qf0 (w:World) (g:Nat) (m t:ByteArray) (z:Int) (v:Value):Prop:=w.heap[g]? = some (.cells #[.string m,.string t,.int .i64 z,v,.bool false,.slice none 0 0] 143 (0,0))
theorem qf0.keep {w w':World} {g:Nat} {m t:ByteArray} {z:Int} {v:Value} (h:qf0 w g m t z v) (hb:Below w.heap.size w w'):qf0 w' g m t z v:=by
 unfold qf0 at *;rw [hb.block g (Array.getElem?_eq_some_iff.1 h).1]; exact h
theorem je3:(Tryz.prog.info? 143).map (·.size)=some 6:=by kernel_rfl
def qa3 (s:ByteArray):Int × ByteArray × ByteArray × Int :=
 match qbb (jj 32 s) with
 | (some f,_)=>(0,f.1,f.2.1,f.2.2)
 | (none,e)=>(e,⟨#[]⟩,⟨#[]⟩,0)
theorem qrb (s:ByteArray) (g:Nat) (mm:Int) (w:World) (hs:s.size≤4000000) (hm:HdOk w mm) (hq:qf0 w g ⟨#[]⟩ ⟨#[]⟩ 0 (.slice none 0 0)) :
  Calls Tryz.prog 108 #[.pointer (some ⟨g,0,none⟩),.string s] w fun e w'=>e = .returned (.int .i64 (qa3 s).1)∧qf0 w' g (qa3 s).2.1 (qa3 s).2.2.1 (qa3 s).2.2.2 (.slice none 0 0)∧ButH g w w':=by
 have HQ:=Box.mk hq;have HC:=Box.mk (qkx s w mm (by omega) hm);have HD:=Box.mk (show qa3 s=match qbb (jj 32 s) with
  | (some f,_)=>(0,f.1,f.2.1,f.2.2)
  | (none,e)=>(e,⟨#[]⟩,⟨#[]⟩,0) from rfl)
 generalize qa3 s=R at *;generalize qbb (jj 32 s)=o at *;clear hq hm;have hg:g<w.heap.size:=(Array.getElem?_eq_some_iff.1 HQ.out).1;go_enter Tryz.func108,Tryz.ntmps108
 go_wp2_with fail;refine HC.out.mono ?_;rintro e w1 ⟨he,hb1⟩;have HB1:=Box.mk (ButH.of (p:=g) hb1);have HQ1:=Box.mk (HQ.out.keep hb1);clear hb1 HC HQ;obtain ⟨o1,er⟩:=o;rcases o1 with _ | ⟨m,t,z⟩
 · simp only [reqV] at he
   subst he;have HP:=Box.mk (show R=(er,⟨#[]⟩,⟨#[]⟩,0) from HD.out);clear HD;have hb2:=qd w1 (.cells #[.string ⟨#[]⟩,.string ⟨#[]⟩,.int .i64 0,.slice none 0 0,.bool false,.slice none 0 0] 29);have HQ2:=Box.mk (HQ1.out.keep hb2);have HB2:=Box.mk (HB1.out.trans (ButH.of hb2));clear hb2;go_wp2_with (refine wpList_store_row rfl 143 _ _ rfl g #[.string ⟨#[]⟩,.string ⟨#[]⟩,.int .i64 0,.slice none 0 0,.bool false,.slice none 0 0] rfl rfl 143 _ HQ2.out je3 rfl (qew _ _ _ _ _ _) ?_)
   go_ret;rw [HP.out];exact ⟨rfl,setRow_heap _ _ _ _ _ _ HQ2.out,HB2.out.setRow _⟩
 · simp only [reqV] at he
   subst he;have HP:=Box.mk (show R=(0,m,t,z) from HD.out);clear HD;have hb2:=qd w1 (.cells #[.string m,.string t,.int .i64 z,.slice none 0 0,.bool false,.slice none 0 0] 29);have HQ2:=Box.mk (HQ1.out.keep hb2);have HB2:=Box.mk (HB1.out.trans (ButH.of hb2));clear hb2;go_wp2_with (refine wpList_store_row rfl 143 _ _ rfl g #[.string m,.string t,.int .i64 z,.slice none 0 0,.bool false,.slice none 0 0] rfl rfl 143 _ HQ2.out je3 rfl (qew _ _ _ _ _ _) ?_)
   go_ret;rw [HP.out];exact ⟨rfl,setRow_heap _ _ _ _ _ _ HQ2.out,HB2.out.setRow _⟩
def qnw (b:List UInt8):Int × ByteArray × ByteArray × Int × List Fld :=
 match qa5 b with
 | some (l0 :: ls)=>if (qa3 l0).1=0 then ((qt ls).1,(qa3 l0).2.1,(qa3 l0).2.2.1,(qa3 l0).2.2.2,(qt ls).2) else ((qa3 l0).1,(qa3 l0).2.1,(qa3 l0).2.2.1,(qa3 l0).2.2.2,[])
 | _=>(2,⟨#[]⟩,⟨#[]⟩,0,[])
def jbe (w:World) (g:Nat) (r:Int × ByteArray × ByteArray × Int × List Fld) (e:Ending) (w':World):Prop :=
 ∃ fa fc,e = .returned (.tuple #[.slice fa r.2.2.2.2.length fc,.int .i64 r.1])∧qf0 w' g r.2.1 r.2.2.1 r.2.2.2.1 (.slice none 0 0)∧qm w' fa r.2.2.2.2∧(∀ y,fa=some y→w.heap.size≤y.block)∧ButH g w w'∧qa6 r.2.2.2.2∧r.2.2.2.2.length≤64
theorem ja6 {b:List UInt8} (h:¬ endZ b=b.length):¬ ((endS b b.length).2=0∧(endS b b.length).1=b.length):=by
 rintro ⟨h1,h2⟩;unfold endS at h1 h2
 split at h1
 · rename_i h3; rw [if_pos h3] at h2; exact h h2
 · rename_i h3
   split at h1
   · exact absurd h1 (by decide)
   · exact absurd h1 (by decide)
theorem jbs {b:List UInt8} (h:endZ b=b.length):endS b b.length=((b.length:Int),0):=by
 unfold endS; rw [if_pos ⟨by omega,by omega⟩,h]
theorem qnm (b:List UInt8) (a:Option Addr) (c g:Nat) (mm:Int) (w:World) (h:qg w a b c) (hl:b.length≤3000000) (hm:HdOk w mm) (hgm:0≠g) (hq:qf0 w g ⟨#[]⟩ ⟨#[]⟩ 0 (.slice none 0 0)) :
  Calls Tryz.prog 107 #[.slice a b.length c,.func (.func 108) #[.pointer (some ⟨g,0,none⟩)] #[]] w (jbe w g (qnw b)):=by
 have HQ:=Box.mk hq;have HM:=Box.mk hm;have HBY:=Box.mk h;have hg:g<w.heap.size:=(Array.getElem?_eq_some_iff.1 hq).1;have HD:=Box.mk (show qnw b=match qa5 b with
  | some (l0 :: ls)=>if (qa3 l0).1=0 then ((qt ls).1,(qa3 l0).2.1,(qa3 l0).2.2.1,(qa3 l0).2.2.2,(qt ls).2) else ((qa3 l0).1,(qa3 l0).2.1,(qa3 l0).2.2.1,(qa3 l0).2.2.2,[])
  | _=>(2,⟨#[]⟩,⟨#[]⟩,0,[]) from rfl)
 have HEND:=Box.mk (qcn b a c b.length mm w h hl hm);have HGM:=Box.mk hgm;generalize qnw b=R at *;clear h hm hq hgm;by_cases he:endZ b=b.length
 · obtain ⟨t,ht,h4⟩:=qwu he
   rw [jbs he] at HEND;have HE:=Box.mk he;have HT:=Box.mk ht;clear he ht;go_enter Tryz.func107,Tryz.ntmps107
   go_wp2_with fail;refine HEND.out.mono ?_;rintro e w1 ⟨rfl,hb1⟩;have HB1:=Box.mk hb1;have HBY1:=Box.mk (HBY.out.keep hb1);have HM1:=Box.mk (HM.out.keep hb1);have HQ1:=Box.mk (HQ.out.keep hb1);have HN1:=Box.mk (ButH.of (p:=g) hb1);have hg1:g<w1.heap.size:=(Array.getElem?_eq_some_iff.1 HQ1.out).1;have hcv:=jr HBY1.out;clear hb1 HEND HBY HM HQ;go_wp2_with fail;refine (qhw b mm w1 (by omega) HM1.out).mono ?_;rintro e w2 ⟨rfl,rfl⟩;by_cases hw:(j6 [] b).isSome=true
   · obtain ⟨l0,ls,ls',hls,hps,hfs,hz0,hzl,hln⟩:=qix HT.out HE.out hw
     rw [hw];have HR:=Box.mk (show R=if (qa3 l0).1=0 then ((qt ls').1,(qa3 l0).2.1,(qa3 l0).2.2.1,(qa3 l0).2.2.2,(qt ls').2) else ((qa3 l0).1,(qa3 l0).2.1,(qa3 l0).2.2.1,(qa3 l0).2.2.2,[]) by rw [HD.out,hls,hfs]);have htz:t.length≤3000000:=by have:=HT.out; rw [this,List.length_append] at hl; omega
     have HSUF:=Box.mk (show Calls Tryz.prog 123 #[.string ⟨b.toArray⟩,.string ⟨#[13,10,13,10]⟩] w1 fun e w'=>e = .returned (.string ⟨t.toArray⟩)∧w1=w' by
      have h:=qm5 ⟨b.toArray⟩ ⟨#[13,10,13,10]⟩ w1 (by show b.length≤_; omega);have e:(⟨(Lib.trimSuffix (⟨b.toArray⟩ : ByteArray).data.toList (⟨#[13,10,13,10]⟩ : ByteArray).data.toList).toArray⟩ : ByteArray)=⟨t.toArray⟩:=by
       show (⟨(Lib.trimSuffix b crlf2).toArray⟩ : ByteArray)=_
       rw [HT.out,qox]
      rw [e] at h;exact h)
     have HSPL:=Box.mk (qp5 ⟨t.toArray⟩ w1 mm (by show t.length<_; omega) HM1.out);rw [hps] at HSPL;have HZ0:=Box.mk hz0;have HZL:=Box.mk (show ∀ s ∈ ls',s.size≤maxLen from fun s hs=>Nat.le_trans (hzl s hs) (by unfold maxLen; omega));clear hw hls hps hfs hzl HD HE HT hz0;go_wp2_with fail;refine HSUF.out.mono ?_;rintro e w2 ⟨rfl,rfl⟩;clear HSUF;go_wp2_with fail;refine HSPL.out.mono ?_;rintro e w2 ⟨cap,rfl,hlc,hcap,hst,hb2⟩;rw [List.length_cons] at hlc;have HST:=Box.mk hst;have HB2:=Box.mk (qe HB1.out hb2);have HM2:=Box.mk (HM1.out.keep hb2);have HQ2:=Box.mk (HQ1.out.keep hb2);have HN2:=Box.mk (HN1.out.trans (ButH.of hb2));have hc0:=hst.head;have hlt2:w1.heap.size<w2.heap.size:=by
      by_cases hh:w1.heap.size<w2.heap.size
      · exact hh
      · have h:=hc0
        unfold World.cell? at h;rw [show w2.heap[w1.heap.size]? = none from Array.getElem?_eq_none (by omega)] at h;cases h
     have hG1:w.heap.size≤w1.heap.size:=HB1.out.size;have HSTA:=Box.mk (qrb l0 g mm w2 (by have:=HZ0.out; omega) HM2.out HQ2.out);clear hst hb2 HSPL HM1 HQ1 HN1 HBY1 hcv;generalize qa3 l0=S at *;obtain ⟨er,m,tt,z⟩:=S;go_wp2_with fail;refine HSTA.out.mono ?_;rintro e w3 ⟨rfl,hq3,hn3⟩;have HQ3:=Box.mk hq3;have HN3:=Box.mk (HN2.out.trans hn3);have HST3:=Box.mk ((hn3.strs HST.out hlt2 (by omega)).tail);have hs3:w2.heap.size≤w3.heap.size:=hn3.size;clear hq3 hn3 HST HSTA HQ2 HN2 HM2 hc0;by_cases h0:er=0
     · subst h0
       have HR2:=Box.mk (show R=((qt ls').1,m,tt,z,(qt ls').2) by rw [HR.out,if_pos rfl]);clear HR;by_cases hc1:cap=1
       · subst hc1
         obtain rfl:ls'=[]:=List.eq_nil_of_length_eq_zero (by omega);go_wp2_with fail;refine (qc5 [] (some ⟨w1.heap.size,0,none⟩) 0 w3 (ky.nil _ _) HZL.out (by simp)).mono ?_;rintro e w4 ⟨x,fa,fc,er,hx,rfl,hfx,hfr,hb4⟩;obtain ⟨hs1,hs2,_⟩:=qag hx HZL.out;have HR3:=Box.mk (show R=(er,m,tt,z,x) by rw [HR2.out,hx]);have HFX:=Box.mk hfx;have HQ4:=Box.mk (HQ3.out.keep hb4);have HN4:=Box.mk (HN3.out.trans (ButH.of hb4));have HFR:=Box.mk (show ∀ y,fa=some y→w.heap.size≤y.block from fun y hy=>by have:=hfr y hy; omega);have HS1:=Box.mk hs1;clear hx hfx hfr hb4 HR2 HST3 HQ3 HN3 hs1;go_wp2_with fail;go_ret2;rw [HR3.out];exact ⟨fa,fc,rfl,HQ4.out,HFX.out,HFR.out,HN4.out,HS1.out,hs2⟩
       · have hlc2:1≤cap:=by omega
         go_wp2_with fail;refine (qc5 ls' (some ⟨w1.heap.size,1,none⟩) (cap-1) w3 HST3.out HZL.out (by omega)).mono ?_;rintro e w4 ⟨x,fa,fc,er,hx,rfl,hfx,hfr,hb4⟩;obtain ⟨hs1,hs2,_⟩:=qag hx HZL.out;have HR3:=Box.mk (show R=(er,m,tt,z,x) by rw [HR2.out,hx]);have HFX:=Box.mk hfx;have HQ4:=Box.mk (HQ3.out.keep hb4);have HN4:=Box.mk (HN3.out.trans (ButH.of hb4));have HFR:=Box.mk (show ∀ y,fa=some y→w.heap.size≤y.block from fun y hy=>by have:=hfr y hy; omega);have HS1:=Box.mk hs1;clear hx hfx hfr hb4 HR2 HST3 HQ3 HN3 hs1;go_wp2_with fail;go_ret2;rw [HR3.out];exact ⟨fa,fc,rfl,HQ4.out,HFX.out,HFR.out,HN4.out,HS1.out,hs2⟩
     · have e0:(er != 0)=true:=by rw [bne_iff_ne]; exact h0
       have HR2:=Box.mk (show R=(er,m,tt,z,[]) by rw [HR.out,if_neg h0]);clear HR h0;go_wp2_with fail;go_ret2;rw [HR2.out];exact ⟨none,0,rfl,HQ3.out,qm.nil _ _,(fun _ e=>by cases e),HN3.out,(fun f hf=>by cases hf),Nat.zero_le _⟩
   · have hw0:(j6 [] b).isSome=false:=by rw [← Bool.not_eq_true]; exact hw
     rw [hw0];have HR:=Box.mk (show R=(2,⟨#[]⟩,⟨#[]⟩,0,[]) by
      rw [HD.out];have:qa5 b=none:=by
       unfold qa5;cases hh:j6 [] b with
       | none=>split <;> rfl
       | some L=>rw [hh] at hw0; cases hw0
      rw [this])
     clear hw hw0 HD HE HT;go_wp2_with fail;go_ret2;rw [HR.out];exact ⟨none,0,rfl,HQ1.out,qm.nil _ _,(fun _ e=>by cases e),HN1.out,(fun f hf=>by cases hf),Nat.zero_le _⟩
 · have HNE:=Box.mk (ja6 he)
   have HR:=Box.mk (show R=(2,⟨#[]⟩,⟨#[]⟩,0,[]) by
    rw [HD.out];have:qa5 b=none:=by unfold qa5; rw [if_neg (fun h=>he h.1)]
    rw [this])
   generalize endS b b.length=E at *;obtain ⟨n,er⟩:=E;clear he HD;go_enter Tryz.func107,Tryz.ntmps107
   go_wp2_with fail;refine HEND.out.mono ?_;rintro e w1 ⟨rfl,hb1⟩;have HQ1:=Box.mk (HQ.out.keep hb1);have HN1:=Box.mk (ButH.of (p:=g) hb1);clear hb1 HEND HQ HBY HM;by_cases h0:er=0
   · subst h0
     have en:(n != (b.length:Int))=true:=by rw [bne_iff_ne]; exact fun h=>HNE.out ⟨rfl,h⟩
     clear HNE;go_wp2_with fail;go_ret2;rw [HR.out];exact ⟨none,0,rfl,HQ1.out,qm.nil _ _,(fun _ e=>by cases e),HN1.out,(fun f hf=>by cases hf),Nat.zero_le _⟩
   · have e0:(er != 0)=true:=by rw [bne_iff_ne]; exact h0
     clear HNE h0;go_wp2_with fail;go_ret2;rw [HR.out];exact ⟨none,0,rfl,HQ1.out,qm.nil _ _,(fun _ e=>by cases e),HN1.out,(fun f hf=>by cases hf),Nat.zero_le _⟩
end Go.Proofs.YtflhjpokjdjbpaaGreatDoor

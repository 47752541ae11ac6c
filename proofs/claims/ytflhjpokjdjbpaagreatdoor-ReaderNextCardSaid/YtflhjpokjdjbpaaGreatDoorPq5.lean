/- The status line, parsed by package startline: the same as the reference's. The law FieldWithout. SameReply and SameRequest of the reference, at equal messages; FormatRequest and FormatStatus of package startline. Heads of messages: where a head ends, its lines. The reference's End. The reference's lines. The reference's fields of lines. A slice of bytes of the call's own, beside other memory: what an append leaves alone. The reference's ParseRequest. The reference's ParseReply. -/
import Derived.Test.YtflhjpokjdjbpaaGreatDoorPq4
import Derived.Sort.Grow
set_option maxRecDepth 100000
set_option maxHeartbeats 4000000
namespace Go.Proofs.YtflhjpokjdjbpaaGreatDoor
open Go.RowKit
theorem jcz (s:ByteArray):(qo 10 599 s).2=0∧(qo 10 599 s).1≤599∨¬ (qo 10 599 s).2=0∧(qo 10 599 s).1=0:=by
 unfold qo
 split
 · rename_i h
   have hne:s.data.toList≠[]:=by
    intro e;unfold numS at h;rw [e] at h; simp at h
   rw [qsv 10 599 (by decide) _ 0 (by decide) (.inr hne)]
   split
   · exact .inl ⟨rfl,by assumption⟩
   · exact .inr ⟨by decide,rfl⟩
 · exact .inr ⟨by decide,rfl⟩
theorem qot (s:ByteArray):qnd (qo 10 599 s).1=true ↔ (qo 10 599 s).2=0∧100≤(qo 10 599 s).1:=by
 unfold qnd;simp only [Bool.and_eq_true,decide_eq_true_eq];rcases jcz s with ⟨h1,h2⟩ | ⟨h1,h2⟩
 · exact ⟨fun h=>⟨h1,h.1⟩,fun h=>⟨h.2,h2⟩⟩
 · rw [h2]; exact ⟨fun h=>absurd h.1 (by decide),fun h=>absurd h.2 (by decide)⟩
theorem qv7 {s:ByteArray} {k:Nat} (h:s.data.toList[k]? = some 32):¬ (qo 10 599 s).2=0:=by
 unfold qo;rw [if_neg]
 · decide
 · intro h2
   unfold numS at h2;rw [Bool.and_eq_true] at h2;have:=List.all_eq_true.1 h2.1 32 (List.mem_of_getElem? h);revert this; decide
theorem qwq (v:ByteArray):(verZ v).2=0 ↔ 0≤jb v:=by
 by_cases h:0≤jb v
 · exact ⟨fun _=>h,fun _=>by rw [qpv h]⟩
 · refine ⟨fun h2=>?_,fun h2=>absurd h2 h⟩
   have hlt:jb v<0:=by omega
   cases hv:verB v with
   | true=>rw [qwy hlt hv] at h2; exact absurd h2 (by decide)
   | false=>rw [qjc hlt hv] at h2; exact absurd h2 (by decide)
theorem qro {v:ByteArray} (h:0≤jb v):v=v10∨v=v11:=by
 unfold jb at h;by_cases h0:v=v10
 · exact .inl h0
 · rw [if_neg h0] at h
   by_cases h1:v=v11
   · exact .inr h1
   · rw [if_neg h1] at h; omega
theorem qvn {v:ByteArray} (h:0≤jb v):v.size=8:=by
 rcases qro h with rfl | rfl <;> rfl
theorem qsq {v:ByteArray} (h:0≤jb v) (k:Nat):v.data.toList[k]? ≠ some 32:=by
 have h10:∀ k:Nat,v10.data.toList[k]? ≠ some 32:=fun k e=>by
  have:=List.mem_of_getElem? e;revert this; decide
 have h11:∀ k:Nat,v11.data.toList[k]? ≠ some 32:=fun k e=>by
  have:=List.mem_of_getElem? e;revert this; decide
 rcases qro h with rfl | rfl
 · exact h10 k
 · exact h11 k
def qd9 (s:ByteArray):Option (Int × ByteArray × Int) :=
 if (verZ (cutS 32 s).1).2=0∧qnd (qij (cutS 32 (cutS 32 s).2).1)=true∧visS (cutS 32 (cutS 32 s).2).2=true then
  some (qij (cutS 32 (cutS 32 s).2).1,(cutS 32 (cutS 32 s).2).2,(verZ (cutS 32 s).1).1) else none
theorem jg8:qnd 0=false:=rfl
theorem jex {s:ByteArray} (h:¬ s.size=3):qij s=0:=by unfold qij; rw [if_neg h]
theorem qgc {s:ByteArray} (h:¬ (cutS 32 (cutS 32 s).2).1.size=3):qd9 s=none:=by
 unfold qd9;rw [if_neg (fun h2=>by have:=h2.2.1; rw [jex h,jg8] at this; cases this)]
theorem quy {s:ByteArray} (h:¬ 0≤jb (cutS 32 s).1):qd9 s=none:=by
 unfold qd9;rw [if_neg (fun h2=>h ((qwq _).1 h2.1))]
theorem qel (s:ByteArray) (a b k:Nat) (h:k<b-a):(s.extract a b).data.toList[k]? = s.data.toList[a+k]?:=by
 rw [Lib.extract_data,List.getElem?_take_of_lt h,List.getElem?_drop]
theorem qsf {s:ByteArray} {d r:ByteArray} (h1:(cutS 32 s).1=s.extract 0 8) (h2:(cutS 32 (cutS 32 s).2).1=d) (h3:(cutS 32 (cutS 32 s).2).2=r) (hd:d=s.extract 9 12) (hz:d.size=3) (hr:r=qee s)
  (g1:12≤s.size) (g2:s.data.toList[8]? = some 32) (g3:12<s.size→s.data.toList[12]? = some 32):qd9 s=ks s:=by
 unfold qd9 ks;rw [h1,h2,h3,hr];have hc:qij d=(qo 10 599 (s.extract 9 12)).1:=by unfold qij; rw [if_pos hz,hd]
 rw [hc];by_cases c:0≤jb (s.extract 0 8)
 · have e1:verZ (s.extract 0 8)=(jb (s.extract 0 8),0):=qpv c
   rw [e1];by_cases c2:qnd (qo 10 599 (s.extract 9 12)).1=true
   · obtain ⟨c3,c4⟩:=(qot _).1 c2
     by_cases c5:visS (qee s)=true
     · rw [if_pos ⟨rfl,c2,c5⟩,if_pos ⟨g1,c,g2,g3,c3,c4,c5⟩]
     · rw [if_neg (fun h=>c5 h.2.2),if_neg (fun h=>c5 h.2.2.2.2.2.2)]
   · rw [if_neg (fun h=>c2 h.2.1),if_neg (fun h=>c2 ((qot _).2 ⟨h.2.2.2.2.1,h.2.2.2.2.2.1⟩))]
 · rw [if_neg (fun h=>c ((qwq _).1 h.1)),if_neg (fun h=>c h.2.1)]
theorem qhy {s:ByteArray} (h:12≤s.size→0≤jb (s.extract 0 8)→s.data.toList[8]? = some 32→(12<s.size→s.data.toList[12]? = some 32)→(qo 10 599 (s.extract 9 12)).2=0→False):ks s=none:=by
 unfold ks;rw [if_neg (fun h2=>h h2.1 h2.2.1 h2.2.2.1 h2.2.2.2.1 h2.2.2.2.2.1)]
theorem jg5 (s:ByteArray) (h:12<s.size):(s.extract 9 s.size).extract 0 3=s.extract 9 12:=by
 apply qd5
 rw [Lib.extract_data,Lib.extract_data,Lib.extract_data,List.drop_zero,List.take_take,show min (3-0) (s.size-9)=12-9 by omega]
theorem jga (s:ByteArray) (h:12<s.size):(s.extract 9 s.size).extract (3+1) (s.extract 9 s.size).size=s.extract 13 s.size:=by
 have hz:(s.extract 9 s.size).size=s.size-9:=by rw [ByteArray.size_extract]; omega
 rw [hz];apply qd5
 rw [Lib.extract_data,Lib.extract_data,Lib.extract_data,List.drop_take,List.drop_drop,List.take_take,show min (s.size-9-(3+1)) (s.size-9-(3+1))=s.size-13 by omega]
theorem qz7 (s:ByteArray):qd9 s=ks s:=by
 rcases qdk 32 s with h | ⟨k,h,hk⟩
 · have hn:=Lib.indexByte_none h
   rw [qgc (by rw [qfs h]; show ¬ (cutS 32 ⟨#[]⟩).1.size=3; decide),qhy (fun _ _ h2=>absurd h2 (hn 8))]
 · have hs:=Lib.indexByte_some h
   by_cases h8:k=8
   · subst h8
     have h1:(cutS 32 s).1=s.extract 0 8:=by rw [qfb h]
     have h2:(cutS 32 s).2=s.extract 9 s.size:=by rw [qfb h]
     have hz:(s.extract 9 s.size).size=s.size-9:=by rw [ByteArray.size_extract]; omega
     rcases qdk 32 (s.extract 9 s.size) with ht | ⟨j,ht,hj⟩
     · have hn:=Lib.indexByte_none ht
       by_cases hz3:(s.extract 9 s.size).size=3
       · have h12:s.size=12:=by omega
         refine qsf h1 (by rw [h2,qfs ht]) (by rw [h2,qfs ht]) ?_ hz3 ?_ (by omega) hs.1 (fun h3=>by omega)
         · rw [h12]
         · unfold qee; rw [if_neg (by omega)]
       · rw [qgc (by rw [h2,qfs ht]; exact hz3)]
         refine (qhy fun h3 h4 h5 h6 h7=>?_).symm;have h12:12<s.size:=by omega
         refine hn 3 ?_;rw [qel _ _ _ _ (by omega)]; exact h6 h12
     · have hjs:=Lib.indexByte_some ht
       have hq1:(cutS 32 (cutS 32 s).2).1=(s.extract 9 s.size).extract 0 j:=by rw [h2,qfb ht]
       have hq2:(cutS 32 (cutS 32 s).2).2=(s.extract 9 s.size).extract (j+1) (s.extract 9 s.size).size:=by rw [h2,qfb ht]
       have hjz:((s.extract 9 s.size).extract 0 j).size=j:=by rw [ByteArray.size_extract]; omega
       by_cases hj3:j=3
       · subst hj3
         have h13:12<s.size:=by omega
         refine qsf h1 hq1 hq2 ?_ hjz ?_ (by omega) hs.1 (fun _=>?_)
         · exact jg5 s h13
         · unfold qee
           rw [if_pos h13];exact jga s h13
         · have:=hjs.1
           rw [qel _ _ _ _ (by omega)] at this; exact this
       · rw [qgc (by rw [hq1,hjz]; exact hj3)]
         refine (qhy fun h3 h4 h5 h6 h7=>?_).symm;rcases Nat.lt_or_ge j 3 with hlt | hge
         · refine qv7 (k:=j) ?_ h7
           have:=hjs.1;rw [qel _ _ _ _ (by omega)] at this ⊢; exact this
         · have h12:12<s.size:=by omega
           refine hjs.2 3 (by omega) ?_;rw [qel _ _ _ _ (by omega)]; exact h6 h12
   · have h1:(cutS 32 s).1=s.extract 0 k:=by rw [qfb h]
     rw [quy (by rw [h1]; intro h2; have:=qvn h2; rw [ByteArray.size_extract] at this; omega)];refine (qhy fun h3 h4 h5 h6 h7=>?_).symm;rcases Nat.lt_or_ge k 8 with hlt | hge
     · refine qsq h4 k ?_
       rw [qel _ _ _ _ (by omega),Nat.zero_add]; exact hs.1
     · exact hs.2 8 (by omega) h5
theorem qkv (s:ByteArray) (w:World) (hs:s.size≤maxLen) :
  Calls Tryz.prog 131 #[.string s] w fun e w'=>e = .returned (qow (ks s))∧Below w.heap.size w w':=by
 rw [← qz7];have HB:=Box.mk (qd w (.cells #[.int .i64 0,.string ⟨#[]⟩,.int .i64 0,.slice none 0 0,.slice none 0 0] 31));have HR:=Box.mk (show AVar (w.alloc (.cells #[.int .i64 0,.string ⟨#[]⟩,.int .i64 0,.slice none 0 0,.slice none 0 0] 31)) w.heap.size 0 ⟨#[]⟩ 0 from heap_alloc_new _ _);have HZ2:=Box.mk (qnz 32 s);have HZ3:=Box.mk (qon 32 (cutS 32 s).2);have HP0:=Box.mk (show qd9 s=if (verZ (cutS 32 s).1).2=0∧qnd (qij (cutS 32 (cutS 32 s).2).1)=true∧visS (cutS 32 (cutS 32 s).2).2=true then
  some (qij (cutS 32 (cutS 32 s).2).1,(cutS 32 (cutS 32 s).2).2,(verZ (cutS 32 s).1).1) else none from rfl)
 have H0:=Box.mk hs;clear hs;go_enter Tryz.func131,Tryz.ntmps131
 go_wp2_with fail;refine (qqc 32 s _ H0.out).mono ?_;rintro e w1 ⟨b1,rfl,hb1⟩;have HB1:=Box.mk (qe HB.out hb1);have HR1:=Box.mk (HR.out.keep hb1);clear hb1 HB HR;generalize (cutS 32 s).1=v at *;generalize (cutS 32 s).2=t at *;go_wp2_with fail;refine (qqc 32 t _ (Nat.le_trans HZ2.out H0.out)).mono ?_;rintro e w2 ⟨b2,rfl,hb2⟩;have HB2:=Box.mk (qe HB1.out hb2);have HR2:=Box.mk (HR1.out.keep hb2);clear hb2 HB1 HR1;generalize (cutS 32 t).1=d at *;generalize (cutS 32 t).2=r at *;go_wp2_with fail;refine (qd7 v _).mono ?_;rintro e w3 ⟨rfl,rfl⟩;generalize verZ v=q at *;obtain ⟨q1,q2⟩:=q;go_wp2_with fail;refine (qqi d _ (Nat.le_trans HZ3.out (Nat.le_trans HZ2.out H0.out))).mono ?_;rintro e w3 ⟨rfl,rfl⟩;generalize qij d=c at *;by_cases c0:q2=0
 · by_cases c1:qnd c=true
   · by_cases c2:visS r=true
     · have HP:=Box.mk (show qd9 s=some (c,r,q1) by rw [HP0.out,if_pos ⟨c0,c1,c2⟩])
       subst c0;have C1:=Box.mk c1;have C2:=Box.mk c2;clear c1 c2 HP0;go_wp2_with fail;refine (qfv c _).mono ?_;rintro e w4 ⟨he,rfl⟩;rw [C1.out] at he;subst he;go_wp2_with fail;refine (qk7 r _).mono ?_;rintro e w4 ⟨he,hb4⟩;rw [C2.out] at he;subst he;have HB4:=Box.mk (qe HB2.out hb4);have HR4:=Box.mk (HR2.out.keep hb4);clear hb4 HB2 HR2;go_wp2_with (refine wpList_store_row rfl 31 _ _ rfl w.heap.size #[.int .i64 c,.string r,.int .i64 q1,.slice none 0 0,.slice none 0 0] rfl rfl 31 _ HR4.out ko rfl (oneA _ _ _) ?_)
       (try simp only [Exit.inBlock,Exit.then])
       refine bodyPost_ret (qf rfl _ _ w.heap.size _ _ _ _ rfl (setRow_heap _ _ _ _ _ _ HR4.out) Tryz.underlying31 rfl ko) rfl ?_;exact ⟨by rw [HP.out]; rfl,below_setRow HB4.out (Nat.le_refl _) _⟩
     · have HP:=Box.mk (show qd9 s=none by rw [HP0.out,if_neg (fun h=>c2 h.2.2)])
       subst c0;have C1:=Box.mk c1;have C2:=Box.mk (show visS r=false by simpa using c2);clear c1 c2 HP0;go_wp2_with fail;refine (qfv c _).mono ?_;rintro e w4 ⟨he,rfl⟩;rw [C1.out] at he;subst he;go_wp2_with fail;refine (qk7 r _).mono ?_;rintro e w4 ⟨he,hb4⟩;rw [C2.out] at he;subst he;have HB4:=Box.mk (qe HB2.out hb4);have HR4:=Box.mk (HR2.out.keep hb4);clear hb4 HB2 HR2;go_wp2_with (refine wpList_store_row rfl 31 _ _ rfl w.heap.size #[.int .i64 0,.string ⟨#[]⟩,.int .i64 0,.slice none 0 0,.slice none 0 0] rfl rfl 31 _ HR4.out ko rfl (oneA _ _ _) ?_)
       (try simp only [Exit.inBlock,Exit.then])
       refine bodyPost_ret (qf rfl _ _ w.heap.size _ _ _ _ rfl (setRow_heap _ _ _ _ _ _ HR4.out) Tryz.underlying31 rfl ko) rfl ?_;exact ⟨by rw [HP.out]; rfl,below_setRow HB4.out (Nat.le_refl _) _⟩
   · have HP:=Box.mk (show qd9 s=none by rw [HP0.out,if_neg (fun h=>c1 h.2.1)])
     subst c0;have C1:=Box.mk (show qnd c=false by simpa using c1);clear c1 HP0;go_wp2_with fail;refine (qfv c _).mono ?_;rintro e w4 ⟨he,rfl⟩;rw [C1.out] at he;subst he;go_wp2_with (refine wpList_store_row rfl 31 _ _ rfl w.heap.size #[.int .i64 0,.string ⟨#[]⟩,.int .i64 0,.slice none 0 0,.slice none 0 0] rfl rfl 31 _ HR2.out ko rfl (oneA _ _ _) ?_)
     (try simp only [Exit.inBlock,Exit.then])
     refine bodyPost_ret (qf rfl _ _ w.heap.size _ _ _ _ rfl (setRow_heap _ _ _ _ _ _ HR2.out) Tryz.underlying31 rfl ko) rfl ?_;exact ⟨by rw [HP.out]; rfl,below_setRow HB2.out (Nat.le_refl _) _⟩
 · have HP:=Box.mk (show qd9 s=none by rw [HP0.out,if_neg (fun h=>c0 h.1)])
   have e0:(q2 != 0)=true:=by rw [bne_iff_ne]; exact c0
   clear c0 HP0;go_wp2_with (refine wpList_store_row rfl 31 _ _ rfl w.heap.size #[.int .i64 0,.string ⟨#[]⟩,.int .i64 0,.slice none 0 0,.slice none 0 0] rfl rfl 31 _ HR2.out ko rfl (oneA _ _ _) ?_)
   (try simp only [Exit.inBlock,Exit.then])
   refine bodyPost_ret (qf rfl _ _ w.heap.size _ _ _ _ rfl (setRow_heap _ _ _ _ _ _ HR2.out) Tryz.underlying31 rfl ko) rfl ?_;exact ⟨by rw [HP.out]; rfl,below_setRow HB2.out (Nat.le_refl _) _⟩
theorem qwg (w:World) (n m:ByteArray) (t:TypeId):qbn (w.alloc (.cells #[.string n,.string m] t)) (some ⟨w.heap.size,0,none⟩) [n,m]:=fun j hj=>by
 have hj':j<2:=by simpa using hj
 match j,hj' with
 | 0,_=>exact ⟨_,rfl,by rw [Addr.add_lit,jm]; rfl⟩
 | 1,_=>exact ⟨_,rfl,by rw [Addr.add_lit,jm]; rfl⟩
theorem qrn (x:List Fld) (a b:Option Addr) (ca cb:Nat) (w:World) (hx:qm w a x) (hy:qm w b x) (h:x.length≤2000000) :
  Calls Tryz.prog 48 #[.slice a x.length ca,.slice b x.length cb] w fun e w'=>e = .returned (.bool true)∧Below w.heap.size w w':=by
 refine (qnh x x a b ca cb w hx hy h h).mono ?_;rintro e w' ⟨rfl,hb⟩;exact ⟨by rw [qyh],hb⟩
theorem qxr (w:World) (cs ds:Array Value) (t s:TypeId) (j:Nat):((w.alloc (.cells cs t (0,0))).alloc (.cells ds s (0,0))).cell? ⟨w.heap.size,j,none⟩=cs[j]?:=by
 have h1:(w.alloc (.cells cs t (0,0))).heap[w.heap.size]? = some (.cells cs t (0,0)):=heap_alloc_new _ _;have h2:=(qd (w.alloc (.cells cs t (0,0))) (.cells ds s (0,0))).block w.heap.size (by rw [World.size_alloc]; omega);exact cell_of_row _ _ _ _ _ _ (h2.trans h1)
theorem qvh (st z:Int) (r:ByteArray) (x:List Fld) (l:List UInt8) (a b p q:Option Addr) (ca cb cp cq:Nat) (w:World) (h1:qm w a x) (h2:qm w b x) (h3:qg w p l cp) (h4:qg w q l cq) (hx:x.length≤2000000) :
  Calls Tryz.prog 28 #[.agg #[.int .i64 st,.string r,.int .i64 z,.slice a x.length ca,.slice p l.length cp],.agg #[.int .i64 st,.string r,.int .i64 z,.slice b x.length cb,.slice q l.length cq]] w fun e w'=>e = .returned (.bool true)∧Below w.heap.size w w':=by
 have HBW:=Box.mk (qk (qd w (.cells #[.int .i64 st,.string r,.int .i64 z,.slice a x.length ca,.slice p l.length cp] 31)) (.cells #[.int .i64 st,.string r,.int .i64 z,.slice b x.length cb,.slice q l.length cq] 31));have hd4:=qxr w #[.int .i64 st,.string r,.int .i64 z,.slice a x.length ca,.slice p l.length cp] #[.int .i64 st,.string r,.int .i64 z,.slice b x.length cb,.slice q l.length cq] 31 31 4;have he4:=qov w (.cells #[.int .i64 st,.string r,.int .i64 z,.slice a x.length ca,.slice p l.length cp] 31) #[.int .i64 st,.string r,.int .i64 z,.slice b x.length cb,.slice q l.length cq] 31 4;have HC:=Box.mk (And.intro hd4 he4);have H:=Box.mk (And.intro (h1.keep HBW.out) (And.intro (h2.keep HBW.out) (And.intro (h3.keep HBW.out) (h4.keep HBW.out))));clear h1 h2 h3 h4 hd4 he4;go_enter Tryz.func28,Tryz.ntmps28
 go_wp2_with fail;refine (qrn x a b ca cb _ H.out.1 H.out.2.1 hx).mono ?_;rintro e w1 ⟨rfl,hb1⟩;have hc4:=qp hb1 (show _=some (Value.slice p l.length cp) from HC.out.1);have he4:=qp hb1 (show _=some (Value.slice q l.length cq) from HC.out.2);have hcv1:=jr (H.out.2.2.1.keep hb1);have hcv2:=jr (H.out.2.2.2.keep hb1);have HB:=Box.mk (qe HBW.out hb1);clear hb1 H HC HBW;generalize (⟨l.toArray⟩ : ByteArray)=bs at *;have hself:(bs.toList == bs.toList)=true:=by simp
 go_wp2_with fail;go_ret;exact ⟨rfl,HB.out⟩
theorem qux (m t:ByteArray) (z:Int) (fr:Bool) (x:List Fld) (l:List UInt8) (a b p q:Option Addr) (ca cb cp cq:Nat) (w:World) (h1:qm w a x) (h2:qm w b x) (h3:qg w p l cp) (h4:qg w q l cq) (hx:x.length≤2000000) :
  Calls Tryz.prog 27 #[.agg #[.string m,.string t,.int .i64 z,.slice a x.length ca,.bool fr,.slice p l.length cp],.agg #[.string m,.string t,.int .i64 z,.slice b x.length cb,.bool fr,.slice q l.length cq]] w fun e w'=>e = .returned (.bool true)∧Below w.heap.size w w':=by
 have HBW:=Box.mk (qk (qd w (.cells #[.string m,.string t,.int .i64 z,.slice a x.length ca,.bool fr,.slice p l.length cp] 29)) (.cells #[.string m,.string t,.int .i64 z,.slice b x.length cb,.bool fr,.slice q l.length cq] 29));have hd5:=qxr w #[.string m,.string t,.int .i64 z,.slice a x.length ca,.bool fr,.slice p l.length cp] #[.string m,.string t,.int .i64 z,.slice b x.length cb,.bool fr,.slice q l.length cq] 29 29 5;have he5:=qov w (.cells #[.string m,.string t,.int .i64 z,.slice a x.length ca,.bool fr,.slice p l.length cp] 29) #[.string m,.string t,.int .i64 z,.slice b x.length cb,.bool fr,.slice q l.length cq] 29 5;have HC:=Box.mk (And.intro hd5 he5);have H:=Box.mk (And.intro (h1.keep HBW.out) (And.intro (h2.keep HBW.out) (And.intro (h3.keep HBW.out) (h4.keep HBW.out))));clear h1 h2 h3 h4 hd5 he5;have hfr:(fr == fr)=true:=by simp
 go_enter Tryz.func27,Tryz.ntmps27
 go_wp2_with fail;refine (qrn x a b ca cb _ H.out.1 H.out.2.1 hx).mono ?_;rintro e w1 ⟨rfl,hb1⟩;have hc5:=qp hb1 (show _=some (Value.slice p l.length cp) from HC.out.1);have he5:=qp hb1 (show _=some (Value.slice q l.length cq) from HC.out.2);have hcv1:=jr (H.out.2.2.1.keep hb1);have hcv2:=jr (H.out.2.2.2.keep hb1);have HB:=Box.mk (qe HBW.out hb1);clear hb1 H HC HBW;generalize (⟨l.toArray⟩ : ByteArray)=bs at *;have hself:(bs.toList == bs.toList)=true:=by simp
 go_wp2_with fail;go_ret;exact ⟨rfl,HB.out⟩
theorem qsk {z:Int} (h0:0≤z) (h1:z≤1):⟨#[32]⟩++qi8 z=qkp++fmtS 10 z∧qi8 z=qgf++fmtS 10 z:=by
 have:z=0∨z=1:=by omega
 rcases this with rfl | rfl
 · decide +kernel
 · decide +kernel
def crlf2:List UInt8:=[13,10,13,10]
def qb7:Nat→List UInt8→Int
 | _,[]=>-1
 | i,x :: r=>if (x :: r).take 4=crlf2 then ((i+4:Nat):Int) else qb7 (i+1) r
def endZ (l:List UInt8):Int:=qb7 0 l
theorem qmz:∀ (l:List UInt8) (i:Nat),l.length<4→qb7 i l = -1
 | [],_,_=>rfl
 | x :: r,i,h=>by
  unfold qb7;rw [if_neg,qmz r (i+1) (by simp at h; omega)];intro e;have h2:=congrArg List.length e;rw [List.length_take] at h2;simp [crlf2] at h2 h;omega
theorem qcm:∀ (l:List UInt8) (i:Nat),qb7 i l = -1 ∨ ∃ k:Nat,qb7 i l=k∧i+4≤k∧k≤i+l.length
 | [],_=>.inl rfl
 | x :: r,i=>by
  unfold qb7;by_cases h:(x :: r).take 4=crlf2
  · rw [if_pos h]
    have h2:=congrArg List.length h;rw [List.length_take] at h2;simp only [crlf2,List.length_cons,List.length_nil] at h2;exact .inr ⟨i+4,rfl,Nat.le_refl _,by rw [List.length_cons]; omega⟩
  · rw [if_neg h]
    rcases qcm r (i+1) with h | ⟨k,h1,h2,h3⟩
    · exact .inl h
    · exact .inr ⟨k,h1,by omega,by rw [List.length_cons]; omega⟩
def endS (b:List UInt8) (most:Int):Int × Int :=
 if 0≤endZ b∧endZ b≤most then (endZ b,0) else if most≤b.length then (0,3) else (0,4)
def j6:List UInt8→List UInt8→Option (List ByteArray)
 | _,[]=>some []
 | cur,x :: r =>
  if (x=13∧¬ r.head? = some 10)∨(x=10∧¬ cur.getLast? = some 13) then none
  else if x=10 then (j6 [] r).map (⟨cur.dropLast.toArray⟩ :: ·) else j6 (cur++[x]) r
def qa5 (b:List UInt8):Option (List ByteArray):=if endZ b=b.length∧4≤b.length then (j6 [] b).map List.dropLast else none
def je:List ByteArray→Option (List Fld)
 | []=>some []
 | s :: r=>match kr s with
  | some f=>(je r).map (f :: ·)
  | none=>none
def qt (l:List ByteArray):Int × List Fld:=if 64<l.length then (3,[]) else match je l with | some x=>(0,x) | none=>(2,[])
theorem qim:∀ (l:List ByteArray) (s:ByteArray) (x:List Fld),je l=some x→je (l++[s])=(kr s).map fun f=>x++[f]
 | [],s,x,h=>by
  cases h
  show (match kr s with | some f=>(je []).map (f :: ·) | none=>none)=_
  cases kr s <;> rfl
 | t :: l,s,x,h=>by
  rw [List.cons_append];unfold je at h ⊢;cases ht:kr t with
  | none=>rw [ht] at h; cases h
  | some f =>
   rw [ht] at h;simp only at h ⊢;cases hx:je l with
   | none=>rw [hx] at h; cases h
   | some y =>
    rw [hx] at h;simp only [Option.map_some,Option.some.injEq] at h;subst h;rw [qim l s y hx];cases kr s <;> rfl
theorem qf6:∀ (l r:List ByteArray),je l=none→je (l++r)=none
 | [],_,h=>by cases h
 | t :: l,r,h=>by
  rw [List.cons_append];unfold je at h ⊢;cases ht:kr t with
  | none=>rfl
  | some f =>
   rw [ht] at h;simp only at h ⊢;cases hx:je l with
   | none=>rw [qf6 l r hx]; rfl
   | some y=>rw [hx] at h; cases h
theorem jdr {b:List UInt8} {j:Nat} (h:j+4≤b.length):qb7 j (b.drop j)=if (b.drop j).take 4=crlf2 then ((j+4:Nat):Int) else qb7 (j+1) (b.drop (j+1)):=by
 rw [List.drop_eq_getElem_cons (show j<b.length by omega)];rfl
theorem kb {w:World} {a:Option Addr} {l:List UInt8} {c:Nat} (h:qg w a l c):l.length≤c:=by
 rcases h with ⟨_,e,e2⟩ | ⟨_,_,h1,_,_⟩
 · subst e; simp
 · exact h1
theorem qm8 {w:World} {ad:Addr} {l:List UInt8} {c k q:Nat} (h:qg w (some ad) l c) (hq:k+q≤l.length):qg w (some (ad.add k)) ((l.drop k).take q) (c-k):=by
 rcases h with ⟨e,_⟩ | ⟨y,e,h1,h2,h3⟩
 · cases e
 · obtain rfl:=Option.some.inj e
   refine .inr ⟨_,rfl,by rw [List.length_take,List.length_drop]; omega,by omega,fun j hj=>?_⟩;rw [List.length_take,List.length_drop] at hj;have h4:=h3 (k+j) (by omega);rw [List.getElem_take,List.getElem_drop,Addr.add_add];exact h4
theorem qho {w:World} {a:Option Addr} {l:List UInt8} {c:Nat} (h:qg w a l c) {k:Nat} (hk:k<l.length):∃ ad,a=some ad∧w.cell? (ad.add k)=some (.int .u8 (l[k].toNat:Int)):=by
 rcases h with ⟨_,e,_⟩ | ⟨x,e,_,_,hc⟩
 · subst e; simp at hk
 · exact ⟨x,e,hc k hk⟩
theorem qrm {w:World} {x:Addr} {k:Nat} {v:Value} (h:w.cell? (x.add (k+1))=some v):w.cell? ⟨x.block,x.off+(k+1),none⟩=some v:=by
 rw [← h]; rfl
theorem qe6 {w:World} {a:Option Addr} {l:List UInt8} {c:Nat} (h:qg w a l c) (hl:0<l.length):∃ ad,a=some ad:=by
 rcases h with ⟨_,e,_⟩ | ⟨x,e,_⟩
 · rw [e] at hl; exact absurd hl (Nat.lt_irrefl _)
 · exact ⟨x,e⟩
theorem qlq (b:List UInt8) (a:Option Addr) (c:Nat) (w:World) (h:qg w a b c) (hl:b.length≤4000000000) :
  Calls Tryz.prog 63 #[.slice a b.length c] w fun e w'=>e = .returned (.int .i64 (endZ b))∧w=w':=by
 have HB:=Box.mk h;have hcap:=kb h;have HE:=Box.mk (show endZ b=qb7 (4-4) (b.drop (4-4)) from rfl);clear h;generalize endZ b=z at *;go_enter Tryz.func63,Tryz.ntmps63
 go_wp2_with fail;go_loop [3] (fun iv=>∃ i:Nat,4≤i∧i≤b.length+4∧iv = .int .i64 i∧Box (z=qb7 (i-4) (b.drop (i-4)))) (fun iv=>b.length+5-(intOf iv).toNat)
 case atStart=>exact ⟨4,Nat.le_refl _,by omega,rfl,HE⟩
 case round =>
  clear HE;obtain ⟨i,hi4,hib,rfl,HE⟩:=hrel;by_cases hle:i≤b.length
  · obtain ⟨ad,rfl⟩:=qe6 HB.out (by omega)
    obtain ⟨p,hp⟩ : ∃ p,p=(b.drop (i-4)).take 4:=⟨_,rfl⟩;have hpl:p.length=i-(i-4):=by rw [hp,List.length_take,List.length_drop]; omega
    have hpb:=qm8 (k:=i-4) (q:=4) HB.out (by omega);rw [← hp] at hpb;have hcv:=jr hpb;rw [hpl] at hcv;have HEQ:=Box.mk (jdr (b:=b) (j:=i-4) (by omega));rw [← hp] at HEQ;obtain ⟨pb,hpb2⟩ : ∃ x:ByteArray,x=⟨p.toArray⟩:=⟨_,rfl⟩;rw [← hpb2] at hcv;have hl0:(0:Int)≤(i:Int)-4:=by omega
    by_cases hm:p=crlf2
    · have hcm:pb.toList=[13,10,13,10]:=by rw [hpb2,ByteArray.toList_eq,hm]; rfl
      have HZ:=Box.mk (show z=(i:Int) by rw [HE.out,HEQ.out,if_pos hm]; omega);clear hm hp hpl hpb hpb2 HEQ;go_wp2_with fail;go_ret;exact ⟨qbu HZ.out.symm,rfl⟩
    · have hcm:(pb.toList == [13,10,13,10])=false:=by
       rw [beq_eq_false_iff_ne,hpb2,ByteArray.toList_eq];intro e;exact hm (by simpa [crlf2] using e)
      have HZ:=Box.mk (show z=qb7 (i+1-4) (b.drop (i+1-4)) by rw [HE.out,HEQ.out,if_neg hm,show i+1-4=i-4+1 by omega]);clear hm hp hpl hpb hpb2 HEQ;go_wp2_with fail;go_round
      case rel=>exact ⟨i+1,by omega,by omega,by go_num,HZ⟩
      case measure=>simp [intOf]; omega
  · have HZ:=Box.mk (show z = -1 by rw [HE.out]; exact qmz _ _ (by rw [List.length_drop]; omega))
    go_wp2_with fail;go_ret;exact ⟨qbu HZ.out.symm,rfl⟩
theorem qjx (b:List UInt8) (a:Option Addr) (c:Nat) (most:Int) (w:World) (h:qg w a b c) (hl:b.length≤4000000000) :
  Calls Tryz.prog 42 #[.slice a b.length c,.int .i64 most] w fun e w'=>e = .returned (.tuple #[.int .i64 (endS b most).1,.int .i64 (endS b most).2])∧w=w':=by
 have HB:=Box.mk h;have HS:=Box.mk (show endS b most=if 0≤endZ b∧endZ b≤most then (endZ b,0) else if most≤b.length then (0,3) else (0,4) from rfl);generalize hR:endS b most=R at *;obtain ⟨n,er⟩:=R;clear h hR;have HC:=Box.mk (qlq b a c w HB.out hl);generalize endZ b=z at *;go_enter Tryz.func42,Tryz.ntmps42
 go_wp2_with fail;refine HC.out.mono ?_;rintro e w1 ⟨rfl,rfl⟩;by_cases h1:0≤z∧z≤most
 · obtain ⟨rfl,rfl⟩ : n=z∧er=0:=by
    have h:=HS.out;rw [if_pos h1] at h;injection h with h2 h3;exact ⟨h2,h3⟩
   have h2:=h1.1;have h3:=h1.2;clear h1;go_wp2_with fail;go_ret2;exact ⟨rfl,rfl⟩
 · by_cases h4:most≤b.length
   · obtain ⟨rfl,rfl⟩ : n=0∧er=3:=by
      have h:=HS.out;rw [if_neg h1,if_pos h4] at h;injection h with h2 h3;exact ⟨h2,h3⟩
     by_cases h0:0≤z
     · have h3:¬ z≤most:=fun h=>h1 ⟨h0,h⟩
       clear h1;go_wp2_with fail;go_ret2;exact ⟨rfl,rfl⟩
     · clear h1
       go_wp2_with fail;go_ret2;exact ⟨rfl,rfl⟩
   · obtain ⟨rfl,rfl⟩ : n=0∧er=4:=by
      have h:=HS.out;rw [if_neg h1,if_neg h4] at h;injection h with h2 h3;exact ⟨h2,h3⟩
     by_cases h0:0≤z
     · have h3:¬ z≤most:=fun h=>h1 ⟨h0,h⟩
       clear h1;go_wp2_with fail;go_ret2;exact ⟨rfl,rfl⟩
     · clear h1
       go_wp2_with fail;go_ret2;exact ⟨rfl,rfl⟩
theorem qfz (cur:List UInt8):j6 cur []=some []:=by unfold j6; rfl
theorem qc8 {cur:List UInt8} {x:UInt8} {r:List UInt8} (h:(x=13∧¬ r.head? = some 10)∨(x=10∧¬ cur.getLast? = some 13)):j6 cur (x :: r)=none:=by
 unfold j6; rw [if_pos h]
theorem qct {cur:List UInt8} {r:List UInt8} (h:cur.getLast? = some 13):j6 cur (10 :: r)=(j6 [] r).map (⟨cur.dropLast.toArray⟩ :: ·):=by
  conv=>lhs; unfold j6
  rw [if_neg (by rintro (h2 | h2); · exact absurd h2.1 (by decide)
                 · exact h2.2 h),if_pos rfl]
theorem qar {cur:List UInt8} {x:UInt8} {r:List UInt8} (hx:¬ x=10) (h:x=13→r.head? = some 10):j6 cur (x :: r)=j6 (cur++[x]) r:=by
  conv=>lhs; unfold j6
  rw [if_neg (by rintro (h2 | h2); · exact h2.2 (h h2.1)
                 · exact hx h2.1),if_neg hx]
theorem qf2:∀ (l cur:List UInt8) (L:List ByteArray),j6 cur l=some L→L.length=l.count 10
 | [],_,L,h=>by
  unfold j6 at h;cases h; rfl
 | x :: r,cur,L,h=>by
  by_cases hb:(x=13∧¬ r.head? = some 10)∨(x=10∧¬ cur.getLast? = some 13)
  · rw [qc8 hb] at h; cases h
  · by_cases hx:x=10
    · subst hx
      have hl:cur.getLast? = some 13:=Decidable.byContradiction fun e=>hb (.inr ⟨rfl,e⟩);rw [qct hl] at h;cases hq:j6 [] r with
      | none=>rw [hq] at h; cases h
      | some L2 =>
       rw [hq] at h;simp only [Option.map_some,Option.some.injEq] at h;subst h;rw [List.length_cons,qf2 r [] L2 hq,List.count_cons_self]
    · rw [qar hx (fun e=>Decidable.byContradiction fun e2=>hb (.inl ⟨e,e2⟩))] at h
      rw [qf2 r _ L h,List.count_cons_of_ne (by simpa using hx)]
theorem qgt:∀ (l:List UInt8) (i:Nat),qb7 i l=((i+l.length:Nat):Int)→4≤l.length∧l.drop (l.length-4)=crlf2
 | [],i,h=>by
  unfold qb7 at h;omega
 | x :: r,i,h=>by
  unfold qb7 at h;by_cases hm:(x :: r).take 4=crlf2
  · rw [if_pos hm] at h
    have hl:(x :: r).length=4:=by omega
    refine ⟨by omega,?_⟩;rw [hl,Nat.sub_self,List.drop_zero,← hm,List.take_of_length_le (by omega)]
  · rw [if_neg hm] at h
    obtain ⟨h1,h2⟩:=qgt r (i+1) (by rw [h,List.length_cons]; omega);refine ⟨by rw [List.length_cons]; omega,?_⟩;rw [List.length_cons,show r.length+1-4=(r.length-4)+1 by omega,List.drop_succ_cons];exact h2
theorem jbf {b:List UInt8} {L:List ByteArray} (he:endZ b=b.length) (h:j6 [] b=some L):2≤L.length:=by
 obtain ⟨h1,h2⟩:=qgt b 0 (by rw [Nat.zero_add]; exact he);rw [qf2 b [] L h,← List.take_append_drop (b.length-4) b,h2,List.count_append];have:crlf2.count 10=2:=by decide
 omega
theorem qxk {b:List UInt8} {f i:Nat} (hf:f≤i) (hi:i<b.length):(b.drop f).take (i+1-f)=(b.drop f).take (i-f)++[b[i]]:=by
 rw [show i+1-f=(i-f)+1 by omega,List.take_succ_eq_append_getElem (by rw [List.length_drop]; omega)];simp only [List.getElem_drop];congr 3;omega
theorem qxi {b:List UInt8} {f i:Nat} (hf:f<i) (hi:i≤b.length):((b.drop f).take (i-f)).getLast? = some (b[i-1]'(by omega))∧((b.drop f).take (i-f)).dropLast=(b.drop f).take (i-1-f):=by
 have h:=qxk (b:=b) (f:=f) (i:=i-1) (by omega) (by omega);rw [show i-1+1-f=i-f by omega] at h;rw [h];exact ⟨by simp,by simp⟩
theorem Acc.fits {w0 w:World} {a:Option Addr} {n c:Nat} {l:List ByteArray} (h:Acc w0 w (.slice a n c) l):l.length≤c∧n=l.length:=by
 obtain ⟨⟨_,h2⟩,_⟩:=h;rcases h2 with ⟨e,h3⟩ | ⟨g,cap,cur,hv,_,_,hn,_⟩
 · injection e with e1 e2 e3
   subst e2;exact ⟨by omega,h3.symm⟩
 · injection hv with e1 e2 e3
   subst e2 e3;exact ⟨hn,rfl⟩
theorem Acc.capm {w0 w:World} {a:Option Addr} {n c:Nat} {l:List ByteArray} (h:Acc w0 w (.slice a n c) l):c≤maxLen:=by
 obtain ⟨⟨_,h2⟩,_⟩:=h;rcases h2 with ⟨e,h3⟩ | ⟨g,cap,cur,hv,_,_,_,hm,_⟩
 · injection e with e1 e2 e3
   subst e3;exact Nat.zero_le _
 · injection hv with e1 e2 e3
   subst e3;exact hm
def jdu (w:World) (o:Option (List ByteArray)) (e:Ending) (w':World):Prop :=
 match o with
 | some L=>∃ g c,e = .returned (.tuple #[.slice (some ⟨g,0,none⟩) L.length c,.int .i64 0])∧L.length≤c∧c≤maxLen∧0<L.length∧ky w' (some ⟨g,0,none⟩) L∧Below w.heap.size w w'
 | none=>e = .returned (.tuple #[.slice none 0 0,.int .i64 2])∧Below w.heap.size w w'
theorem ky.dropLast {w:World} {a:Option Addr} {l:List ByteArray} (h:ky w a l):ky w a l.dropLast:=fun j hj=>by
 rw [List.length_dropLast] at hj;obtain ⟨b,off,e,hc⟩:=h j (by omega);exact ⟨b,off,e,by rw [List.getElem_dropLast]; exact hc⟩
theorem qk8 (b:List UInt8) (a:Option Addr) (c:Nat) (w:World) (h:qg w a b c) (hl:b.length≤4000000) :
  Calls Tryz.prog 64 #[.slice a b.length c] w (jdu w (qa5 b)):=by
 have HB:=Box.mk h;have hcap:=kb h;have HSP:=Box.mk (show qa5 b=if endZ b=b.length∧4≤b.length then (j6 [] b).map List.dropLast else none from rfl);generalize hR:qa5 b=R at *;clear hR;by_cases h4:4≤b.length
 · have hcall:=qlq b a c w h (by omega)
   have H2:=Box.mk (fun (he:endZ b=b.length) (L:List ByteArray) (hL:j6 [] b=some L)=>jbf he hL);have HCALL:=Box.mk hcall;clear h hcall;by_cases he:endZ b=b.length
   · have HE:=Box.mk he
     have ee:(endZ b != (b.length:Int))=false:=by rw [he]; simp
     clear he;generalize endZ b=z at *;go_enter Tryz.func64,Tryz.ntmps64
     go_wp2_with fail;refine HCALL.out.mono ?_;rintro e w1 ⟨rfl,rfl⟩;clear HCALL;have HG:=Box.mk (show R=(j6 [] b).map List.dropLast by rw [HSP.out,if_pos ⟨HE.out,h4⟩]);have HJ:=Box.mk (show j6 [] b=(j6 ((b.drop 0).take (0-0)) (b.drop 0)).map ([] ++ ·) by simp);clear HSP;go_wp2_with fail;go_loopw [4,5,6] (fun v fv iv wr=>∃ f i:Nat,f≤i∧i≤b.length∧fv = .int .i64 f∧iv = .int .i64 i ∧ ∃ out:List ByteArray,Box (Acc w wr v out∧out.length≤i∧(∀ k,f=k+1→b[k]? = some 10)∧j6 [] b=(j6 ((b.drop f).take (i-f)) (b.drop i)).map (out ++ ·))) (fun _ _ iv _=>b.length-(intOf iv).toNat)
     case atStart=>exact ⟨0,0,Nat.le_refl _,Nat.zero_le _,rfl,rfl,[],⟨Acc.start _,Nat.zero_le _,fun k hk=>absurd hk (by omega),HJ.out⟩⟩
     case round =>
      clear HJ;obtain ⟨f,i,hfi,hib,rfl,rfl,out,HM⟩:=hrel;by_cases hlt:i<b.length
      · obtain ⟨bad,rfl,hbc⟩:=qho (HB.out.keep HM.out.1.2) hlt
        have HDR:=Box.mk (List.drop_eq_getElem_cons hlt);have HSN:=Box.mk (qxk hfi hlt);by_cases hx13:b[i]=13
        · have e13:((b[i].toNat:Int) == 13)=true:=by rw [hx13]; rfl
          have e10:((b[i].toNat:Int) == 10)=false:=by rw [hx13]; rfl
          by_cases hend:i+1=b.length
          · have eend:((i:Int)+1 == (b.length:Int))=true:=by rw [← hend]; simp
            have HP:=Box.mk (show R=none by
             rw [HG.out,HM.out.2.2.2,HDR.out,qc8 (.inl ⟨hx13,by rw [List.drop_of_length_le (by omega)]; simp⟩)]; rfl)
            generalize b[i]=x at *;clear hx13 hend HG HDR HSN;go_wp2_with fail;go_ret2;rw [HP.out];exact ⟨rfl,HM.out.1.2⟩
          · have eend:((i:Int)+1 == (b.length:Int))=false:=by rw [beq_eq_false_iff_ne]; omega
            have hlt1:i+1<b.length:=by omega
            obtain ⟨bad2,ebad,hbc2⟩:=qho (HB.out.keep HM.out.1.2) hlt1;obtain rfl:=Option.some.inj ebad;have hbc3:=qrm hbc2;have HHD:=Box.mk (show (b.drop (i+1)).head? = some b[i+1] by rw [List.drop_eq_getElem_cons hlt1]; rfl);by_cases hy:b[i+1]=10
            · have ey:((b[i+1].toNat:Int) != 10)=false:=by rw [hy]; rfl
              have HN:=Box.mk (show j6 [] b=(j6 ((b.drop f).take (i+1-f)) (b.drop (i+1))).map (out ++ ·) by
               rw [HM.out.2.2.2,HDR.out,qar (by rw [hx13]; decide) (fun _=>by rw [HHD.out,hy]),← HSN.out])
              generalize b[i+1]=y at *;generalize b[i]=x at *;clear hx13 hend hy HDR HSN HHD;go_wp2_with fail;go_roundw
              case rel=>exact ⟨f,i+1,by omega,by omega,rfl,by go_num,out,⟨HM.out.1,by have:=HM.out.2.1; omega,HM.out.2.2.1,HN.out⟩⟩
              case measure=>simp [intOf]; omega
            · have ey:((b[i+1].toNat:Int) != 10)=true:=by
               rw [bne_iff_ne]; intro e; exact hy (UInt8.toNat_inj.1 (by rw [show (10:UInt8).toNat=10 from rfl]; omega))
              have HP:=Box.mk (show R=none by
               rw [HG.out,HM.out.2.2.2,HDR.out,qc8 (.inl ⟨hx13,by rw [HHD.out]; intro e; exact hy (Option.some.inj e)⟩)]; rfl)
              generalize b[i+1]=y at *;generalize b[i]=x at *;clear hx13 hend hy HG HDR HSN HHD;go_wp2_with fail;go_ret2;rw [HP.out];exact ⟨rfl,HM.out.1.2⟩
        · have e13:((b[i].toNat:Int) == 13)=false:=by
           rw [beq_eq_false_iff_ne]; intro e; exact hx13 (UInt8.toNat_inj.1 (by rw [show (13:UInt8).toNat=13 from rfl]; omega))
          by_cases hx10:b[i]=10
          · have e10:((b[i].toNat:Int) == 10)=true:=by rw [hx10]; rfl
            by_cases hi0:i=0
            · have ei:((i:Int) == 0)=true:=by rw [hi0]; rfl
              have HP:=Box.mk (show R=none by
               rw [HG.out,HM.out.2.2.2,HDR.out,qc8 (.inr ⟨hx10,by rw [show i-f=0 by omega]; simp⟩)]; rfl)
              generalize b[i]=x at *;clear hx13 hx10 hi0 HG HDR HSN;go_wp2_with fail;go_ret2;rw [HP.out];exact ⟨rfl,HM.out.1.2⟩
            · have ei:((i:Int) == 0)=false:=by rw [beq_eq_false_iff_ne]; omega
              have hlt1:i-1<b.length:=by omega
              obtain ⟨bad2,ebad,hbc2⟩:=qho (HB.out.keep HM.out.1.2) hlt1;obtain rfl:=Option.some.inj ebad;have hi1:(1:Int)≤i:=by omega
              by_cases hz:b[i-1]=13
              · have ez:((b[i-1].toNat:Int) != 13)=false:=by rw [hz]; rfl
                have hfl:f<i:=by
                 rcases Nat.lt_or_ge f i with h | h
                 · exact h
                 · exfalso
                   have hfe:f=(i-1)+1:=by omega
                   have h9:=HM.out.2.2.1 (i-1) hfe;rw [List.getElem?_eq_getElem hlt1,hz] at h9;exact absurd (Option.some.inj h9) (by decide)
                obtain ⟨hcl,hcd⟩:=qxi hfl hib;have HCD:=Box.mk hcd;have HN:=Box.mk (show j6 [] b=(j6 [] (b.drop (i+1))).map ((out++[⟨((b.drop f).take (i-1-f)).toArray⟩]) ++ ·) by
                 rw [HM.out.2.2.2,HDR.out,hx10,qct (by rw [hcl,hz]),hcd,Option.map_map];congr 1;funext q
                 simp)
                obtain ⟨q,hq⟩ : ∃ q,q=(b.drop f).take (i-1-f):=⟨_,rfl⟩;have hql:q.length=i-1-f:=by rw [hq,List.length_take,List.length_drop]; omega
                have hqb:=qm8 (k:=f) (q:=i-1-f) (HB.out.keep HM.out.1.2) (by omega);rw [← hq] at hqb HN;have hcv:=jr hqb;rw [hql] at hcv;obtain ⟨y,hy⟩ : ∃ y:ByteArray,y=⟨q.toArray⟩:=⟨_,rfl⟩;rw [← hy] at hcv HN;have hfc:f<c:=by omega
                have H10:=Box.mk (show b[i]? = some 10 by rw [List.getElem?_eq_getElem hlt,hx10]);generalize b[i-1]=z1 at *;generalize b[i]=x at *;have hol:out.length≤4000000:=by have:=HM.out.2.1; omega
                clear hx13 hx10 hi0 hz HDR HSN hcl hcd hq hql hqb hy HCD;go_wp2_with (at_builtin; refine qa7 _ rfl _ _ rfl rfl (HM.out.1.keep ((Below.refl _ _).alloc (Nat.le_refl _) _)) rfl (y:=y) ?c1 ?c2 ?c3)
                case c2=>omega
                case c3 =>
                 intro g cap w2 hacc has;have HACC:=Box.mk hacc;clear hacc has;go_wp2_with fail;go_roundw
                 case rel=>exact ⟨i+1,i+1,Nat.le_refl _,by omega,by go_num,by go_num,out++[y],⟨HACC.out,by rw [List.length_append]; have:=HM.out.2.1; show _+1≤_; omega,fun k hk=>(show i=k by omega) ▸ H10.out,by rw [Nat.sub_self,List.take_zero]; exact HN.out⟩⟩
                 case measure=>simp [intOf]; omega
              · have ez:((b[i-1].toNat:Int) != 13)=true:=by
                 rw [bne_iff_ne]; intro e; exact hz (UInt8.toNat_inj.1 (by rw [show (13:UInt8).toNat=13 from rfl]; omega))
                have HP:=Box.mk (show R=none by
                 rw [HG.out,HM.out.2.2.2,HDR.out,qc8 (.inr ⟨hx10,fun e=>by
                  rcases Nat.lt_or_ge f i with h | h
                  · rw [(qxi h hib).1] at e
                    exact hz (Option.some.inj e)
                  · rw [show i-f=0 by omega] at e
                    simp at e⟩)]; rfl)
                generalize b[i-1]=z1 at *;generalize b[i]=x at *;clear hx13 hx10 hi0 hz HG HDR HSN;go_wp2_with fail;go_ret2;rw [HP.out];exact ⟨rfl,HM.out.1.2⟩
          · have e10:((b[i].toNat:Int) == 10)=false:=by
             rw [beq_eq_false_iff_ne]; intro e; exact hx10 (UInt8.toNat_inj.1 (by rw [show (10:UInt8).toNat=10 from rfl]; omega))
            have HN:=Box.mk (show j6 [] b=(j6 ((b.drop f).take (i+1-f)) (b.drop (i+1))).map (out ++ ·) by
             rw [HM.out.2.2.2,HDR.out,qar hx10 (fun e=>absurd e hx13),← HSN.out])
            generalize b[i]=x at *;clear hx13 hx10 HDR HSN;go_wp2_with fail;go_roundw
            case rel=>exact ⟨f,i+1,by omega,by omega,rfl,by go_num,out,⟨HM.out.1,by have:=HM.out.2.1; omega,HM.out.2.2.1,HN.out⟩⟩
            case measure=>simp [intOf]; omega
      · obtain rfl:i=b.length:=by omega
        have HL:=Box.mk (show j6 [] b=some out by
         rw [HM.out.2.2.2,List.drop_of_length_le (Nat.le_refl _),qfz]
         simp)
        have hol:out.length≤4000000:=by have:=HM.out.2.1; omega
        have HTW:=Box.mk (H2.out HE.out out HL.out);have HP:=Box.mk (show R=some out.dropLast by rw [HG.out,HL.out]; rfl);obtain ⟨g,cap,hv,_,_,hst⟩:=HM.out.1.isNew (by intro e; have:=HTW.out; rw [e] at this; simp at this);subst hv;have hfit:=HM.out.1.fits.1;have HFIT:=Box.mk (And.intro hfit HM.out.1.capm);have HST:=Box.mk hst;have htw:=HTW.out;have HDL:=Box.mk (show out.dropLast.length=out.length-1 from List.length_dropLast);obtain ⟨o2,ho2⟩ : ∃ o2,o2=out.dropLast:=⟨_,rfl⟩;rw [← ho2] at HP HDL;have HO2:=Box.mk ho2;clear HG HL hst ho2;go_wp2_with fail;go_ret2;rw [HP.out];exact ⟨g,cap,by rw [HDL.out]; rfl,by rw [HDL.out]; omega,HFIT.out.2,by rw [HDL.out]; omega,by rw [HO2.out]; exact HST.out.dropLast,HM.out.1.2⟩
   · have ee:(endZ b != (b.length:Int))=true:=by rw [bne_iff_ne]; exact he
     have HP:=Box.mk (show R=none by rw [HSP.out,if_neg (fun h=>he h.1)]);clear he HSP H2;generalize endZ b=z at *;go_enter Tryz.func64,Tryz.ntmps64
     go_wp2_with fail;refine HCALL.out.mono ?_;rintro e w1 ⟨rfl,rfl⟩;clear HCALL;go_wp2_with fail;go_ret2;rw [HP.out];exact ⟨rfl,Below.refl _ _⟩
 · have HP:=Box.mk (show R=none by rw [HSP.out,if_neg (fun h=>h4 h.2)])
   clear h HSP;go_enter Tryz.func64,Tryz.ntmps64
   go_wp2_with fail;go_ret2;rw [HP.out];exact ⟨rfl,Below.refl _ _⟩
theorem qj1 {l:List ByteArray} {k:Nat} {x:List Fld} {s:ByteArray} (hk:k<l.length) (hs:l[k]=s) (h:je (l.take k)=some x):je (l.take (k+1))=(kr s).map fun f=>x++[f]:=by
 rw [List.take_succ_eq_append_getElem hk,hs];exact qim _ _ _ h
theorem AccF.fresh {w0 w:World} {a:Option Addr} {n c:Nat} {l:List Fld} (h:AccF w0 w (.slice a n c) l):∀ y,a=some y→w0.heap.size≤y.block:=fun y hy=>by
 obtain ⟨⟨_,h2⟩,_⟩:=h;rcases h2 with ⟨e,_⟩ | ⟨g,cap,cur,hv,hg,_⟩
 · injection e with e1 _ _
   rw [e1] at hy; cases hy
 · injection hv with e1 _ _
   rw [e1] at hy;obtain rfl:=Option.some.inj hy;exact hg
theorem qf9 {l:List ByteArray} (h:64<l.length):qt l=(3,[]):=by unfold qt; rw [if_pos h]
theorem qkg {l:List ByteArray} {x:List Fld} (h:¬ 64<l.length) (hx:je l=some x):qt l=(0,x):=by unfold qt; rw [if_neg h,hx]
theorem qk5 {l:List ByteArray} (h:¬ 64<l.length) (hx:je l=none):qt l=(2,[]):=by unfold qt; rw [if_neg h,hx]
theorem qcr (l:List ByteArray) (a:Option Addr) (c:Nat) (w:World) (h:ky w a l) (hz:∀ s ∈ l,s.size≤maxLen) (hl:l.length≤4000000) :
  Calls Tryz.prog 66 #[.slice a l.length c] w fun e w'=>∃ x fa fc er,qt l=(er,x)∧e = .returned (.tuple #[.slice fa (List.length x) fc,.int .i64 er])∧qm w' fa x∧(∀ y,fa=some y→w.heap.size≤y.block)∧Below w.heap.size w w':=by
 have HS:=Box.mk h;have HZ:=Box.mk hz;have HF1:=Box.mk (fun h=>qf9 (l:=l) h);have HF2:=Box.mk (fun h x hx=>qkg (l:=l) (x:=x) h hx);have HF3:=Box.mk (fun h hx=>qk5 (l:=l) h hx);generalize qt l=R at *;clear h hz;by_cases h64:64<l.length
 · have HP:=Box.mk (HF1.out h64)
   clear HF1 HF2 HF3;go_enter Tryz.func66,Tryz.ntmps66
   go_wp2_with fail;go_ret2;exact ⟨[],none,0,3,HP.out,rfl,qm.nil _ _,(fun _ e=>by cases e),Below.refl _ _⟩
 · have HF4:=Box.mk h64
   clear HF1;go_enter Tryz.func66,Tryz.ntmps66
   go_wp2_with fail;go_loopw [4,5] (fun v iv wr=>∃ k:Nat,k≤l.length∧iv = .int .i64 k ∧ ∃ x:List Fld,Box (AccF w wr v x∧x.length≤k∧je (l.take k)=some x)) (fun _ iv _=>l.length-(intOf iv).toNat)
   case atStart=>exact ⟨0,Nat.zero_le _,rfl,[],⟨AccF.start _,Nat.le_refl _,rfl⟩⟩
   case round =>
    obtain ⟨k,hk,rfl,x,HM⟩:=hrel;by_cases hlt:k<l.length
    · obtain ⟨b,off,rfl,hcell⟩:=(HS.out.keep HM.out.1.2) k hlt
      have HSZ:=Box.mk (HZ.out _ (List.getElem_mem hlt));have HST:=Box.mk (qj1 hlt rfl HM.out.2.2);generalize l[k]=s at *;go_wp2_with fail;refine (qkb s _ HSZ.out).mono ?_;rintro e w2 ⟨he,hb2⟩;have HA2:=Box.mk (HM.out.1.keep hb2);have HXL:=Box.mk HM.out.2.1;clear hb2 hcell;rcases hq:kr s with _ | ⟨fn,fv⟩
      · rw [hq] at he
        simp only [qh1] at he;subst he;have HP:=Box.mk (show R=(2,[]) by
         have h9:=HST.out;rw [hq] at h9;have h10:=qf6 _ (l.drop (k+1)) h9;rw [List.take_append_drop] at h10;exact HF3.out HF4.out h10)
        clear hq HST HF2 HF3;go_wp2_with fail;go_ret2;exact ⟨[],none,0,2,HP.out,rfl,qm.nil _ _,(fun _ e=>by cases e),qe HA2.out.2 (qd _ _)⟩
      · rw [hq] at he
        simp only [qh1] at he;subst he;have HN:=Box.mk (show je (l.take (k+1))=some (x++[(fn,fv)]) by rw [HST.out,hq]; rfl);clear hq HST;go_wp2_with (at_builtin; refine qe5 _ rfl _ _ rfl rfl (HA2.out.keep (qk (qd w2 _) _)) rfl (y:=(fn,fv)) ?c1 ?c2 ?c3 ?c4)
        case c3=>have:=HXL.out; omega
        case c4 =>
         intro g cap w3 hacc;obtain ⟨x2,hx2⟩ : ∃ x2,x2=x++[(fn,fv)]:=⟨_,rfl⟩;rw [← hx2] at hacc HN;have HX2:=Box.mk (show x2.length=x.length+1 by rw [hx2]; simp);have HACC:=Box.mk hacc;clear hacc hx2;go_wp2_with fail;go_roundw
         case rel=>exact ⟨k+1,by omega,by go_num,x2,⟨HACC.out,by rw [HX2.out]; have:=HXL.out; omega,HN.out⟩⟩
         case measure=>simp [intOf]; omega
    · have HP:=Box.mk (show R=(0,x) by
       have h9:=HM.out.2.2;rw [List.take_of_length_le (by omega)] at h9;exact HF2.out HF4.out x h9)
      obtain ⟨fa,fc,rfl,hfs⟩:=HM.out.1.shape;have HFS:=Box.mk hfs;clear hfs;go_wp2_with fail;go_ret2;exact ⟨x,fa,fc,0,HP.out,rfl,HFS.out,HM.out.1.fresh,HM.out.1.2⟩
def Own (B:Nat) (w:World) (v:Value) (l:List UInt8):Prop:=w.ownsRow B 5 1 v l.length (j9 l)
theorem Own.start (B:Nat) (w:World):Own B w (.slice none 0 0) []:=World.ownsRow_nil _ _ _ _
theorem Own.same {B:Nat} {w w':World} {v:Value} {l:List UInt8} (h:Own B w v l) (hs:∀ k,v.ownBlock=some k→w'.heap[k]? = w.heap[k]?):Own B w' v l:=by
 obtain ⟨h1,h2⟩:=h;refine ⟨h1,?_⟩;rcases h2 with h2 | ⟨g,cap,cur,hv,hg,hc,r⟩
 · exact .inl h2
 · exact .inr ⟨g,cap,cur,hv,hg,by rw [hs g (by rw [hv]; rfl)]; exact hc,r⟩
theorem Own.lt {B:Nat} {w:World} {v:Value} {l:List UInt8} (h:Own B w v l) {k:Nat} (hk:v.ownBlock=some k):B≤k∧k<w.heap.size:=World.ownsRow.lt h k hk
theorem Own.keep {B:Nat} {w w':World} {v:Value} {l:List UInt8} (h:Own B w v l) (hb:Below w.heap.size w w'):Own B w' v l :=
 h.same fun k hk=>hb.block k (h.lt hk).2
theorem Own.val {B:Nat} {w:World} {v:Value} {l:List UInt8} (h:Own B w v l):qcf w v l:=by
 obtain ⟨h1,h2⟩:=h;rcases h2 with ⟨rfl,h2⟩ | ⟨g,cap,cur,rfl,hg,hc,hcap,hm,hsz,ht⟩
 · have:l=[]:=List.eq_nil_of_length_eq_zero h2
   subst this;exact ⟨none,0,rfl,.inl ⟨rfl,rfl,rfl⟩⟩
 · refine ⟨_,cap,rfl,.inr ⟨_,rfl,hcap,hm,fun j hj=>?_⟩⟩
   have e:cur.toList[j]? = some (Value.int .u8 (l[j].toNat:Int)):=by
    have:=congrArg (fun x=>x[j]?) ht;simp only [Nat.mul_one,j9] at this;rw [List.getElem?_take_of_lt hj,List.getElem?_map,List.getElem?_eq_getElem hj] at this;exact this
   rw [Addr.add_lit];simp only [World.cell?,hc,Nat.zero_add];simpa using e
theorem ql8 {w w':World} {p:Addr} (h:w'.heap[p.block]? = w.heap[p.block]?):w'.cell? p=w.cell? p:=by
 unfold World.cell?;rw [h]
theorem qmm (x:Addr) (j:Nat):(x.add j).block=x.block:=by unfold Addr.add; split <;> rfl
theorem qg.same {w w':World} {a:Option Addr} {l:List UInt8} {c:Nat} (h:qg w a l c) (hs:∀ x,a=some x→l≠[]→w'.heap[x.block]? = w.heap[x.block]?):qg w' a l c:=by
 rcases h with h | ⟨x,h1,h2,h3,h4⟩
 · exact .inl h
 · refine .inr ⟨x,h1,h2,h3,fun j hj=>?_⟩
   have e:w'.heap[(x.add j).block]? = w.heap[(x.add j).block]?:=by
    rw [qmm];exact hs x h1 (fun e=>by rw [e] at hj; exact absurd hj (Nat.not_lt_zero _))
   rw [ql8 e];exact h4 j hj
section
variable {ops:Array Oper} {rest:List Oper} {o:Oper} {act:Act} {Q:Exit→Act→World→Prop}
theorem jq (w:World) (hgd:o.guard=none) (s x:Operand) (ho:o.op = .call { callee:=.builtin .append,args:=#[s,x],argTypes:=#[23,23] })
  {B:Nat} {v:Value} {l:List UInt8} (hs:act.eval s=v) (h:Own B w v l) {a:Option Addr} {r:List UInt8} {c:Nat} (hx:act.eval x = .slice a r.length c) (hr:qg w a r c)
  (hn:l.length+r.length≤140737488355328) (hB:B≤w.heap.size)
  (K:∀ v' w',Own B w' v' (l++r)→w.grownBy w' v.ownBlock→(v'.ownBlock=v.ownBlock∨v'.ownBlock=some w.heap.size)→wpList Tryz.prog ops Q rest (act.put o.dst v') w'):wpList Tryz.prog ops Q (o :: rest) act w:=by
 obtain ⟨i0,hi,hz0,hz1,hz2⟩:=info_parts Tryz.info5;rcases hr with ⟨rfl,rfl,rfl⟩ | ⟨ad,rfl,hr1,hr2,hr3⟩
 · refine wpList_append_own_none hgd s x 23 ho B 5 i0 1 Tryz.underlying23 hi v l.length (j9 l) hs h hx (K _ _ ?_ (World.grownBy.refl _ _) (.inl rfl))
   rw [List.append_nil]; exact h
 · refine wpList_append_own_at w hgd s x 23 ho B 5 i0 (.int .u8 0) 1 1 Tryz.underlying23 hi hz0 hz1 hz2 rfl (by decide) v l.length (j9 l) hs h ad r.length c (j9 r) hx (by rw [ke,Nat.mul_one]) ?_ ?_ (by unfold maxLen; omega) (by omega) hB ?_
   · intro j u hj
     unfold j9 at hj;rw [List.getElem?_map] at hj;obtain ⟨c',hc',rfl⟩:=Option.map_eq_some_iff.1 hj;obtain ⟨hlt,rfl⟩:=List.getElem?_eq_some_iff.1 hc';exact hr3 j hlt
   · intro u hu
     unfold j9 at hu;obtain ⟨c',_,rfl⟩:=List.mem_map.1 hu;rfl
   · intro v' w' hown hgrow _ h5
     refine K v' w' ?_ hgrow h5;unfold Own;rw [List.length_append];have e:j9 (l++r)=j9 l++j9 r:=by unfold j9; rw [List.map_append]
     rw [e]; exact hown
end
end Go.Proofs.YtflhjpokjdjbpaaGreatDoor
namespace Go.Proofs.YtflhjpokjdjbpaaGreatDoor
open Go.RowKit
theorem qx5 (l:List ByteArray) (h:(qbb l).1=none):¬ (qbb l).2=0:=by
 unfold qbb at h ⊢
 split at h
 · rename_i m t v
   by_cases h1:tokS m=true∧jx t=true
   · rw [if_pos h1] at h ⊢
     by_cases h2:(verZ v).2=0
     · rw [if_pos h2] at h; cases h
     · rw [if_neg h2]; exact h2
   · rw [if_neg h1]; decide
 · decide
theorem qhf:∀ (l cur:List UInt8) (L:List ByteArray),j6 cur l=some L → ∀ s ∈ L,s.size≤cur.length+l.length
 | [],_,L,h,s,hs=>by
  rw [qfz] at h;cases h; cases hs
 | x :: r,cur,L,h,s,hs=>by
  by_cases hb:(x=13∧¬ r.head? = some 10)∨(x=10∧¬ cur.getLast? = some 13)
  · rw [qc8 hb] at h; cases h
  · by_cases hx:x=10
    · subst hx
      have hl:cur.getLast? = some 13:=Decidable.byContradiction fun e=>hb (.inr ⟨rfl,e⟩);rw [qct hl] at h;cases hq:j6 [] r with
      | none=>rw [hq] at h; cases h
      | some L2 =>
       rw [hq] at h;simp only [Option.map_some,Option.some.injEq] at h;subst h;rcases List.mem_cons.1 hs with rfl | hs
       · show cur.dropLast.toArray.size≤_
         rw [List.size_toArray,List.length_dropLast]; omega
       · have:=qhf r [] L2 hq s hs
         rw [List.length_cons];simp at this;omega
    · rw [qar hx (fun e=>Decidable.byContradiction fun e2=>hb (.inl ⟨e,e2⟩))] at h
      have:=qhf r _ L h s hs;rw [List.length_append] at this;rw [List.length_cons];simp at this;omega
theorem qe9 {b:List UInt8} {L:List ByteArray} (h:qa5 b=some L):(∀ s ∈ L,s.size≤b.length)∧L.length≤b.length:=by
 unfold qa5 at h
 split at h
 · cases hq:j6 [] b with
   | none=>rw [hq] at h; cases h
   | some G =>
    rw [hq] at h;simp only [Option.map_some,Option.some.injEq] at h;subst h;refine ⟨fun s hs=>?_,?_⟩
    · have:=qhf b [] G hq s ((List.dropLast_sublist G).subset hs)
      simpa using this
    · have:=qf2 b [] G hq
      have h2:=List.count_le_length (a:=(10:UInt8)) (l:=b);rw [List.length_dropLast]; omega
 · cases h
theorem qkm {s:ByteArray} {f:Fld} (h:kr s=some f):f.1.size≤s.size∧f.2.size≤s.size:=by
 unfold kr at h
 split at h
 · split at h
   · cases h
     exact ⟨qb4 _ _ _,Nat.le_trans (qbv _) (qb4 _ _ _)⟩
   · cases h
 · cases h
theorem qea:∀ (l:List ByteArray) (x:List Fld),je l=some x→(∀ s ∈ l,s.size≤maxLen)→qa6 x∧x.length=l.length
 | [],x,h,_=>by
  cases h
  exact ⟨fun f hf=>absurd hf (by simp),rfl⟩
 | t :: l,x,h,hz=>by
  unfold je at h;cases ht:kr t with
  | none=>rw [ht] at h; cases h
  | some f =>
   rw [ht] at h;simp only at h;cases hx:je l with
   | none=>rw [hx] at h; cases h
   | some y =>
    rw [hx] at h;simp only [Option.map_some,Option.some.injEq] at h;subst h;obtain ⟨h1,h2⟩:=qea l y hx (fun s hs=>hz s (List.mem_cons_of_mem _ hs));have h3:=qkm ht;have h4:=hz t (List.mem_cons_self ..);refine ⟨fun g hg=>?_,by simp [h2]⟩;rcases List.mem_cons.1 hg with rfl | hg
    · exact ⟨Nat.le_trans h3.1 h4,Nat.le_trans h3.2 h4⟩
    · exact h1 g hg
theorem qag {l:List ByteArray} {x:List Fld} {er:Int} (h:qt l=(er,x)) (hz:∀ s ∈ l,s.size≤maxLen):qa6 x∧x.length≤64∧(¬ er=0→x=[]):=by
 unfold qt at h
 split at h
 · cases h
   exact ⟨fun f hf=>absurd hf (by simp),by simp,fun _=>rfl⟩
 · rename_i h64
   cases hx:je l with
   | none =>
    rw [hx] at h;cases h
    exact ⟨fun f hf=>absurd hf (by simp),by simp,fun _=>rfl⟩
   | some y =>
    rw [hx] at h;cases h
    obtain ⟨h1,h2⟩:=qea l x hx hz;exact ⟨h1,by omega,fun e=>absurd rfl e⟩
def hostN:ByteArray:=⟨#[104,111,115,116]⟩
def qa0 (b:List UInt8):Int × ByteArray × ByteArray × Int × List Fld :=
 match qa5 b with
 | some (l0 :: ls) =>
  match qbb (jj 32 l0) with
  | (some f,_) =>
   if (qt ls).1=0 then (if 1<(qj (qt ls).2 hostN).length∨((qj (qt ls).2 hostN).length=0∧f.2.2=1) then (2,⟨#[]⟩,⟨#[]⟩,0,[]) else (0,f.1,f.2.1,f.2.2,(qt ls).2))
   else ((qt ls).1,⟨#[]⟩,⟨#[]⟩,0,[])
  | (none,e)=>(e,⟨#[]⟩,⟨#[]⟩,0,[])
 | _=>(2,⟨#[]⟩,⟨#[]⟩,0,[])
def qd1 (w:World) (g:Nat) (m t:ByteArray) (z:Int) (v:Value):Prop:=w.heap[g]? = some (.cells #[.string m,.string t,.int .i64 z,v,.bool false,.slice none 0 0] 29 (0,0))
theorem qd1.keep {w w':World} {g:Nat} {m t:ByteArray} {z:Int} {v:Value} (h:qd1 w g m t z v) (hb:Below w.heap.size w w'):qd1 w' g m t z v:=by
 unfold qd1 at *;rw [hb.block g (Array.getElem?_eq_some_iff.1 h).1]; exact h
theorem qew (m t:ByteArray) (z:Int) (a:Option Addr) (n c:Nat):(#[.string m,.string t,.int .i64 z,.slice a n c,.bool false,.slice none 0 0]:Array Value).all (·.oneCell')=true:=by simp [Value.oneCell']
theorem qd1.cells {w:World} {g:Nat} {m t:ByteArray} {z:Int} {v:Value} (h:qd1 w g m t z v):w.cell? ⟨g,2,none⟩=some (.int .i64 z)∧w.cell? ⟨g,3,none⟩=some v:=by
 refine ⟨?_,?_⟩ <;> rw [cell_of_row _ _ _ _ _ _ h] <;> rfl
theorem qd1.put {w:World} {g:Nat} {m t:ByteArray} {z:Int} {v u:Value} (h:qd1 w g m t z v):qd1 (w.setCell ⟨g,3,none⟩ u) g m t z u:=by
 unfold qd1; rw [heap_setCell_same _ _ _ _ _ _ h]; rfl
theorem qd1.frozen {w:World} {g i:Nat} {m t:ByteArray} {z:Int} {v:Value} (h:qd1 w g m t z v):w.frozen? ⟨g,i,none⟩=false:=by
 unfold qd1 at h; simp [World.frozen?,h]
theorem qd1.cells6 {w:World} {g:Nat} {m t:ByteArray} {z:Int} {v:Value} (h:qd1 w g m t z v):w.cell? ⟨g,0,none⟩=some (.string m)∧w.cell? ⟨g,1,none⟩=some (.string t)∧w.cell? ⟨g,2,none⟩=some (.int .i64 z)∧w.cell? ⟨g,3,none⟩=some v∧w.cell? ⟨g,4,none⟩=some (.bool false)∧w.cell? ⟨g,5,none⟩=some (.slice none 0 0):=by
 refine ⟨?_,?_,?_,?_,?_,?_⟩ <;> rw [cell_of_row _ _ _ _ _ _ h] <;> rfl
theorem qm.same {w w':World} {a:Option Addr} {l:List Fld} (h:qm w a l) (hs:∀ y,a=some y→w'.heap[y.block]? = w.heap[y.block]?):qm w' a l:=fun j hj=>by
 obtain ⟨x,e,h1,h2⟩:=h j hj;have hx:=hs x e;exact ⟨x,e,(ql8 (w:=w) (w':=w') (by rw [qmm]; exact hx)).trans h1,(ql8 (w:=w) (w':=w') (by rw [qmm]; exact hx)).trans h2⟩
theorem ky.tail {w:World} {g:Nat} {s:ByteArray} {l:List ByteArray} (h:ky w (some ⟨g,0,none⟩) (s :: l)):ky w (some ⟨g,1,none⟩) l:=fun j hj=>by
 obtain ⟨b,off,e,hc⟩:=h (j+1) (by rw [List.length_cons]; omega);cases e
 refine ⟨g,1,rfl,?_⟩;rw [show 1+j=0+(j+1) by omega];exact hc
theorem ky.head {w:World} {g:Nat} {s:ByteArray} {l:List ByteArray} (h:ky w (some ⟨g,0,none⟩) (s :: l)):w.cell? ⟨g,0,none⟩=some (.string s):=by
 obtain ⟨b,off,e,hc⟩:=h 0 (by simp);cases e
 exact hc
def jb0 (w:World) (r:Int × ByteArray × ByteArray × Int × List Fld) (e:Ending) (w':World):Prop :=
 ∃ fa fc,e = .returned (.tuple #[.agg #[.string r.2.1,.string r.2.2.1,.int .i64 r.2.2.2.1,.slice fa r.2.2.2.2.length fc,.bool false,.slice none 0 0],.int .i64 r.1])∧qm w' fa r.2.2.2.2∧(∀ y,fa=some y→w.heap.size≤y.block)∧Below w.heap.size w w'
theorem qmh (b:List UInt8) (a:Option Addr) (c:Nat) (w:World) (h:qg w a b c) (hl:b.length≤4000000) :
  Calls Tryz.prog 45 #[.slice a b.length c] w (jb0 w (qa0 b)):=by
 obtain ⟨W0,hW0⟩ : ∃ W0,W0=w.alloc (.cells #[.string ⟨#[]⟩,.string ⟨#[]⟩,.int .i64 0,.slice none 0 0,.bool false,.slice none 0 0] 29):=⟨_,rfl⟩;have HB0:=Box.mk (show Below w.heap.size w W0 by rw [hW0]; exact qd w _);have HR0:=Box.mk (show qd1 W0 w.heap.size ⟨#[]⟩ ⟨#[]⟩ 0 (.slice none 0 0) by rw [hW0]; exact heap_alloc_new _ _);have HCALL:=Box.mk (qk8 b a c W0 (h.keep HB0.out) hl);have HSZ:=Box.mk (fun L hL=>qe9 (b:=b) (L:=L) hL);have HD:=Box.mk (show qa0 b=match qa5 b with
  | some (l0 :: ls) =>
   match qbb (jj 32 l0) with
   | (some f,_) =>
    if (qt ls).1=0 then (if 1<(qj (qt ls).2 hostN).length∨((qj (qt ls).2 hostN).length=0∧f.2.2=1) then (2,⟨#[]⟩,⟨#[]⟩,0,[]) else (0,f.1,f.2.1,f.2.2,(qt ls).2))
    else ((qt ls).1,⟨#[]⟩,⟨#[]⟩,0,[])
   | (none,e)=>(e,⟨#[]⟩,⟨#[]⟩,0,[])
  | _=>(2,⟨#[]⟩,⟨#[]⟩,0,[]) from rfl)
 generalize qa0 b=R at *;have HW0:=Box.mk hW0;clear h hW0;go_enter Tryz.func45,Tryz.ntmps45
 go_wp2_with fail;rw [← HW0.out];clear HW0;refine HCALL.out.mono ?_;intro e w1 hret;clear HCALL;rcases ho:qa5 b with _ | L
 · rw [ho] at hret
   obtain ⟨rfl,hb1⟩:=hret;have HP:=Box.mk (show R=(2,⟨#[]⟩,⟨#[]⟩,0,[]) by rw [HD.out,ho]);have HB1:=Box.mk (qe HB0.out hb1);have HR1:=Box.mk (HR0.out.keep hb1);clear ho hb1 HD HSZ;go_wp2_with (refine wpList_store_row rfl 29 _ _ rfl w.heap.size #[.string ⟨#[]⟩,.string ⟨#[]⟩,.int .i64 0,.slice none 0 0,.bool false,.slice none 0 0] rfl rfl 29 _ HR1.out jo rfl (qew _ _ _ _ _ _) ?_)
   (try simp only [Exit.inBlock,Exit.then])
   refine bodyPost_ret (qf rfl _ _ w.heap.size _ _ _ _ rfl (setRow_heap _ _ _ _ _ _ HR1.out) Tryz.underlying29 rfl jo) rfl ?_;rw [HP.out];exact ⟨none,0,rfl,qm.nil _ _,(fun y hy=>by cases hy),below_setRow HB1.out (Nat.le_refl _) _⟩
 · rw [ho] at hret
   obtain ⟨g,lc,rfl,hlc,hcm,hL0,hst,hb1⟩:=hret;obtain ⟨hz1,hz2⟩:=HSZ.out L ho;obtain ⟨l0,ls,rfl⟩ : ∃ l0 ls,L=l0 :: ls:=by
    cases L with
    | nil=>exact absurd hL0 (Nat.lt_irrefl _)
    | cons x r=>exact ⟨x,r,rfl⟩
   have HB1:=Box.mk (qe HB0.out hb1);have HR1:=Box.mk (HR0.out.keep hb1);have hc0:=hst.head;have HT:=Box.mk hst.tail;have HZ0:=Box.mk (show l0.size≤4000000 from Nat.le_trans (hz1 l0 (List.mem_cons_self ..)) hl);have HZL:=Box.mk (show ∀ s ∈ ls,s.size≤maxLen from fun s hs=>Nat.le_trans (hz1 s (List.mem_cons_of_mem _ hs)) (by unfold maxLen; omega));have hll:ls.length≤4000000:=by rw [List.length_cons] at hz2; omega
   rw [List.length_cons] at hlc;have HD2:=Box.mk (show R=match qbb (jj 32 l0) with
    | (some f,_) =>
     if (qt ls).1=0 then (if 1<(qj (qt ls).2 hostN).length∨((qj (qt ls).2 hostN).length=0∧f.2.2=1) then (2,⟨#[]⟩,⟨#[]⟩,0,[]) else (0,f.1,f.2.1,f.2.2,(qt ls).2))
     else ((qt ls).1,⟨#[]⟩,⟨#[]⟩,0,[])
    | (none,e)=>(e,⟨#[]⟩,⟨#[]⟩,0,[]) by rw [HD.out,ho])
   clear ho hb1 hst hz1 hz2 HD HSZ HB0 HR0 hL0;go_wp2_with fail;refine (qld l0 _ (by have:=HZ0.out; omega)).mono ?_;rintro e w2 ⟨he,hb2⟩;have HB2:=Box.mk (qe HB1.out hb2);have HR2:=Box.mk (HR1.out.keep hb2);have HT2:=Box.mk (HT.out.keep hb2);have hne:=qx5 (jj 32 l0);clear hb2 HB1 HR1 HT hc0;generalize qbb (jj 32 l0)=o at *;obtain ⟨o1,er⟩:=o;rcases o1 with _ | ⟨m,t,z⟩
   · simp only [reqV] at he
     subst he;have HP:=Box.mk (show R=(er,⟨#[]⟩,⟨#[]⟩,0,[]) from HD2.out);have e0:(er != 0)=true:=by rw [bne_iff_ne]; exact hne rfl
     have hb3:=qd w2 (.cells #[.string ⟨#[]⟩,.string ⟨#[]⟩,.int .i64 0,.slice none 0 0,.bool false,.slice none 0 0] 29);have HB3:=Box.mk (qe HB2.out hb3);have HR3:=Box.mk (HR2.out.keep hb3);clear hne HD2 hb3;go_wp2_with (refine wpList_store_row rfl 29 _ _ rfl w.heap.size #[.string ⟨#[]⟩,.string ⟨#[]⟩,.int .i64 0,.slice none 0 0,.bool false,.slice none 0 0] rfl rfl 29 _ HR3.out jo rfl (qew _ _ _ _ _ _) ?_)
     (try simp only [Exit.inBlock,Exit.then])
     refine bodyPost_ret (qf rfl _ _ w.heap.size _ _ _ _ rfl (setRow_heap _ _ _ _ _ _ HR3.out) Tryz.underlying29 rfl jo) rfl ?_;rw [HP.out];exact ⟨none,0,rfl,qm.nil _ _,(fun y hy=>by cases hy),below_setRow HB3.out (Nat.le_refl _) _⟩
   · simp only [reqV] at he
     subst he;have HD3:=Box.mk (show R=if (qt ls).1=0 then (if 1<(qj (qt ls).2 hostN).length∨((qj (qt ls).2 hostN).length=0∧z=1) then (2,⟨#[]⟩,⟨#[]⟩,0,[]) else (0,m,t,z,(qt ls).2))
      else ((qt ls).1,⟨#[]⟩,⟨#[]⟩,0,[]) from HD2.out)
     clear hne HD2;obtain ⟨W3,hW3⟩ : ∃ W3,W3=w2.alloc (.cells #[.string m,.string t,.int .i64 z,.slice none 0 0,.bool false,.slice none 0 0] 29):=⟨_,rfl⟩;have hb3:Below w2.heap.size w2 W3:=by rw [hW3]; exact qd w2 _
     have HB3:=Box.mk (qe HB2.out hb3);have HR3:=Box.mk (HR2.out.keep hb3);have HV3:=Box.mk (show qd1 W3 w2.heap.size m t z (.slice none 0 0) by rw [hW3]; exact heap_alloc_new _ _);have HT3:=Box.mk (HT2.out.keep hb3);have hlt:=HB2.out.size;have hrl:=(Array.getElem?_eq_some_iff.1 HR2.out).1;have HW3:=Box.mk hW3;clear hb3 hW3 HB2 HR2 HT2;by_cases hc1:lc=1
     · subst hc1
       obtain rfl:ls=[]:=List.eq_nil_of_length_eq_zero (by omega);go_wp2_with fail;rw [← HW3.out];refine (qcr [] (some ⟨g,0,none⟩) 0 W3 (ky.nil _ _) HZL.out (by simp)).mono ?_;rintro e w4 ⟨x,fa,fc,er,hx,rfl,hfx,hfr,hb4⟩;obtain ⟨hs1,hs2,hs3⟩:=qag hx HZL.out;have HX:=Box.mk hx;have HD4:=Box.mk (show R=if er=0 then (if 1<(qj x hostN).length∨((qj x hostN).length=0∧z=1) then (2,⟨#[]⟩,⟨#[]⟩,0,[]) else (0,m,t,z,x)) else (er,⟨#[]⟩,⟨#[]⟩,0,[]) by
        have h:=HD3.out;rw [hx] at h;exact h)
       have HS1:=Box.mk hs1;have HV4:=Box.mk (HV3.out.keep hb4);have HR4:=Box.mk (HR3.out.keep hb4);have HB4:=Box.mk (qe HB3.out hb4);have hf3:=HV4.out.frozen (i:=3);obtain ⟨hd2,hd3⟩:=HV4.out.cells;have HV5:=Box.mk (HV4.out.put (u:=.slice fa x.length fc));have HR5:=Box.mk (show qd1 (w4.setCell ⟨w2.heap.size,3,none⟩ (.slice fa x.length fc)) w.heap.size ⟨#[]⟩ ⟨#[]⟩ 0 (.slice none 0 0) by
        unfold qd1; rw [heap_setCell_other _ _ _ _ (by show w.heap.size≠w2.heap.size; omega)]; exact HR4.out)
       have HB5:=Box.mk (HB4.out.setCell (p:=⟨w2.heap.size,3,none⟩) (show w.heap.size≤w2.heap.size from hlt) (.slice fa x.length fc));have hw3:w2.heap.size<W3.heap.size:=(Array.getElem?_eq_some_iff.1 HV3.out).1;have HFR:=Box.mk (show ∀ y,fa=some y→w2.heap.size<y.block from fun y hy=>Nat.lt_of_lt_of_le hw3 (hfr y hy));have HX5:=Box.mk (show qm (w4.setCell ⟨w2.heap.size,3,none⟩ (.slice fa x.length fc)) fa x from hfx.same fun y hy=>heap_setCell_other _ _ _ _ (by have:=HFR.out y hy; show y.block≠w2.heap.size; omega));have HX0:=Box.mk hs3;clear hx hfx hfr hb4 hs1 hs3 HD3 HV3 HR3 HB3 HW3 HT3;by_cases h0:er=0
       · have e0:(er != 0)=false:=by rw [h0]; rfl
         have HD5:=Box.mk (show R=if 1<(qj x hostN).length∨((qj x hostN).length=0∧z=1) then (2,⟨#[]⟩,⟨#[]⟩,0,[]) else (0,m,t,z,x) by rw [HD4.out,if_pos h0]);obtain ⟨hg2,hg3⟩:=HV5.out.cells;clear h0 HD4 HX0;go_wp2_with fail;refine (qc7 x hostN fa fc _ HX5.out HS1.out (by decide) (by omega)).mono ?_;rintro e w6 ⟨va,vc,rfl,_,hb6⟩;have HV6:=Box.mk (HV5.out.keep hb6);have HR6:=Box.mk (HR5.out.keep hb6);have HB6:=Box.mk (qe HB5.out hb6);have HX6:=Box.mk (HX5.out.keep hb6);have hvl:(qj x hostN).length≤64:=Nat.le_trans (by unfold qj; rw [List.length_map]; exact List.length_filter_le _ _) hs2;generalize (qj x hostN).length=nv at *;obtain ⟨c0,c1,c2,c3,c4,c5⟩:=HV6.out.cells6;clear hb6 hg2 hg3 HV5 HR5 HB5 HX5 hd2 hd3 hf3 HV4 HR4 HB4;by_cases hn1:1<nv
         · have HP:=Box.mk (show R=(2,⟨#[]⟩,⟨#[]⟩,0,[]) by rw [HD5.out,if_pos (.inl hn1)])
           have hn2:(1:Int)<(nv:Int):=by omega
           clear HD5;go_wp2_with (refine wpList_store_row rfl 29 _ _ rfl w.heap.size #[.string ⟨#[]⟩,.string ⟨#[]⟩,.int .i64 0,.slice none 0 0,.bool false,.slice none 0 0] rfl rfl 29 _ HR6.out jo rfl (qew _ _ _ _ _ _) ?_)
           (try simp only [Exit.inBlock,Exit.then])
           refine bodyPost_ret (qf rfl _ _ w.heap.size _ _ _ _ rfl (setRow_heap _ _ _ _ _ _ HR6.out) Tryz.underlying29 rfl jo) rfl ?_;rw [HP.out];exact ⟨none,0,rfl,qm.nil _ _,(fun y hy=>by cases hy),below_setRow HB6.out (Nat.le_refl _) _⟩
         · have hn2:¬ (1:Int)<(nv:Int):=by omega
           by_cases hn0:nv=0
           · have en:((nv:Int) == 0)=true:=by rw [hn0]; rfl
             by_cases hz1:z=1
             · have ez:(z == 1)=true:=by rw [hz1]; rfl
               have HP:=Box.mk (show R=(2,⟨#[]⟩,⟨#[]⟩,0,[]) by rw [HD5.out,if_pos (.inr ⟨hn0,hz1⟩)]);clear HD5 hz1 hn0;go_wp2_with (refine wpList_store_row rfl 29 _ _ rfl w.heap.size #[.string ⟨#[]⟩,.string ⟨#[]⟩,.int .i64 0,.slice none 0 0,.bool false,.slice none 0 0] rfl rfl 29 _ HR6.out jo rfl (qew _ _ _ _ _ _) ?_)
               (try simp only [Exit.inBlock,Exit.then])
               refine bodyPost_ret (qf rfl _ _ w.heap.size _ _ _ _ rfl (setRow_heap _ _ _ _ _ _ HR6.out) Tryz.underlying29 rfl jo) rfl ?_;rw [HP.out];exact ⟨none,0,rfl,qm.nil _ _,(fun y hy=>by cases hy),below_setRow HB6.out (Nat.le_refl _) _⟩
             · have ez:(z == 1)=false:=by rw [beq_eq_false_iff_ne]; exact hz1
               have HP:=Box.mk (show R=(0,m,t,z,x) by rw [HD5.out,if_neg (fun h=>h.elim hn1 (fun h=>hz1 h.2))]);clear HD5 hz1 hn0;go_wp2_with (refine wpList_store_row rfl 29 _ _ rfl w.heap.size #[.string m,.string t,.int .i64 z,.slice fa x.length fc,.bool false,.slice none 0 0] rfl rfl 29 _ HR6.out jo rfl (qew _ _ _ _ _ _) ?_)
               (try simp only [Exit.inBlock,Exit.then])
               refine bodyPost_ret (qf rfl _ _ w.heap.size _ _ _ _ rfl (setRow_heap _ _ _ _ _ _ HR6.out) Tryz.underlying29 rfl jo) rfl ?_;rw [HP.out];exact ⟨fa,fc,rfl,HX6.out.same fun y hy=>setRow_other _ _ _ _ (by have:=HFR.out y hy; omega),(fun y hy=>by have:=HFR.out y hy; omega),below_setRow HB6.out (Nat.le_refl _) _⟩
           · have en:((nv:Int) == 0)=false:=by rw [beq_eq_false_iff_ne]; omega
             have HP:=Box.mk (show R=(0,m,t,z,x) by rw [HD5.out,if_neg (fun h=>h.elim hn1 (fun h=>hn0 h.1))]);clear HD5 hn0;go_wp2_with (refine wpList_store_row rfl 29 _ _ rfl w.heap.size #[.string m,.string t,.int .i64 z,.slice fa x.length fc,.bool false,.slice none 0 0] rfl rfl 29 _ HR6.out jo rfl (qew _ _ _ _ _ _) ?_)
             (try simp only [Exit.inBlock,Exit.then])
             refine bodyPost_ret (qf rfl _ _ w.heap.size _ _ _ _ rfl (setRow_heap _ _ _ _ _ _ HR6.out) Tryz.underlying29 rfl jo) rfl ?_;rw [HP.out];exact ⟨fa,fc,rfl,HX6.out.same fun y hy=>setRow_other _ _ _ _ (by have:=HFR.out y hy; omega),(fun y hy=>by have:=HFR.out y hy; omega),below_setRow HB6.out (Nat.le_refl _) _⟩
       · have e0:(er != 0)=true:=by rw [bne_iff_ne]; exact h0
         have HP:=Box.mk (show R=(er,⟨#[]⟩,⟨#[]⟩,0,[]) by rw [HD4.out,if_neg h0]);clear h0 HD4;go_wp2_with (refine wpList_store_row rfl 29 _ _ rfl w.heap.size #[.string ⟨#[]⟩,.string ⟨#[]⟩,.int .i64 0,.slice none 0 0,.bool false,.slice none 0 0] rfl rfl 29 _ HR5.out jo rfl (qew _ _ _ _ _ _) ?_)
         (try simp only [Exit.inBlock,Exit.then])
         refine bodyPost_ret (qf rfl _ _ w.heap.size _ _ _ _ rfl (setRow_heap _ _ _ _ _ _ HR5.out) Tryz.underlying29 rfl jo) rfl ?_;rw [HP.out];exact ⟨none,0,rfl,qm.nil _ _,(fun y hy=>by cases hy),below_setRow HB5.out (Nat.le_refl _) _⟩
     · have hlc2:1≤lc:=by omega
       go_wp2_with fail;rw [← HW3.out];refine (qcr ls (some ⟨g,1,none⟩) (lc-1) W3 HT3.out HZL.out hll).mono ?_;rintro e w4 ⟨x,fa,fc,er,hx,rfl,hfx,hfr,hb4⟩;obtain ⟨hs1,hs2,hs3⟩:=qag hx HZL.out;have HX:=Box.mk hx;have HD4:=Box.mk (show R=if er=0 then (if 1<(qj x hostN).length∨((qj x hostN).length=0∧z=1) then (2,⟨#[]⟩,⟨#[]⟩,0,[]) else (0,m,t,z,x)) else (er,⟨#[]⟩,⟨#[]⟩,0,[]) by
        have h:=HD3.out;rw [hx] at h;exact h)
       have HS1:=Box.mk hs1;have HV4:=Box.mk (HV3.out.keep hb4);have HR4:=Box.mk (HR3.out.keep hb4);have HB4:=Box.mk (qe HB3.out hb4);have hf3:=HV4.out.frozen (i:=3);obtain ⟨hd2,hd3⟩:=HV4.out.cells;have HV5:=Box.mk (HV4.out.put (u:=.slice fa x.length fc));have HR5:=Box.mk (show qd1 (w4.setCell ⟨w2.heap.size,3,none⟩ (.slice fa x.length fc)) w.heap.size ⟨#[]⟩ ⟨#[]⟩ 0 (.slice none 0 0) by
        unfold qd1; rw [heap_setCell_other _ _ _ _ (by show w.heap.size≠w2.heap.size; omega)]; exact HR4.out)
       have HB5:=Box.mk (HB4.out.setCell (p:=⟨w2.heap.size,3,none⟩) (show w.heap.size≤w2.heap.size from hlt) (.slice fa x.length fc));have hw3:w2.heap.size<W3.heap.size:=(Array.getElem?_eq_some_iff.1 HV3.out).1;have HFR:=Box.mk (show ∀ y,fa=some y→w2.heap.size<y.block from fun y hy=>Nat.lt_of_lt_of_le hw3 (hfr y hy));have HX5:=Box.mk (show qm (w4.setCell ⟨w2.heap.size,3,none⟩ (.slice fa x.length fc)) fa x from hfx.same fun y hy=>heap_setCell_other _ _ _ _ (by have:=HFR.out y hy; show y.block≠w2.heap.size; omega));have HX0:=Box.mk hs3;clear hx hfx hfr hb4 hs1 hs3 HD3 HV3 HR3 HB3 HW3 HT3;by_cases h0:er=0
       · have e0:(er != 0)=false:=by rw [h0]; rfl
         have HD5:=Box.mk (show R=if 1<(qj x hostN).length∨((qj x hostN).length=0∧z=1) then (2,⟨#[]⟩,⟨#[]⟩,0,[]) else (0,m,t,z,x) by rw [HD4.out,if_pos h0]);obtain ⟨hg2,hg3⟩:=HV5.out.cells;clear h0 HD4 HX0;go_wp2_with fail;refine (qc7 x hostN fa fc _ HX5.out HS1.out (by decide) (by omega)).mono ?_;rintro e w6 ⟨va,vc,rfl,_,hb6⟩;have HV6:=Box.mk (HV5.out.keep hb6);have HR6:=Box.mk (HR5.out.keep hb6);have HB6:=Box.mk (qe HB5.out hb6);have HX6:=Box.mk (HX5.out.keep hb6);have hvl:(qj x hostN).length≤64:=Nat.le_trans (by unfold qj; rw [List.length_map]; exact List.length_filter_le _ _) hs2;generalize (qj x hostN).length=nv at *;obtain ⟨c0,c1,c2,c3,c4,c5⟩:=HV6.out.cells6;clear hb6 hg2 hg3 HV5 HR5 HB5 HX5 hd2 hd3 hf3 HV4 HR4 HB4;by_cases hn1:1<nv
         · have HP:=Box.mk (show R=(2,⟨#[]⟩,⟨#[]⟩,0,[]) by rw [HD5.out,if_pos (.inl hn1)])
           have hn2:(1:Int)<(nv:Int):=by omega
           clear HD5;go_wp2_with (refine wpList_store_row rfl 29 _ _ rfl w.heap.size #[.string ⟨#[]⟩,.string ⟨#[]⟩,.int .i64 0,.slice none 0 0,.bool false,.slice none 0 0] rfl rfl 29 _ HR6.out jo rfl (qew _ _ _ _ _ _) ?_)
           (try simp only [Exit.inBlock,Exit.then])
           refine bodyPost_ret (qf rfl _ _ w.heap.size _ _ _ _ rfl (setRow_heap _ _ _ _ _ _ HR6.out) Tryz.underlying29 rfl jo) rfl ?_;rw [HP.out];exact ⟨none,0,rfl,qm.nil _ _,(fun y hy=>by cases hy),below_setRow HB6.out (Nat.le_refl _) _⟩
         · have hn2:¬ (1:Int)<(nv:Int):=by omega
           by_cases hn0:nv=0
           · have en:((nv:Int) == 0)=true:=by rw [hn0]; rfl
             by_cases hz1:z=1
             · have ez:(z == 1)=true:=by rw [hz1]; rfl
               have HP:=Box.mk (show R=(2,⟨#[]⟩,⟨#[]⟩,0,[]) by rw [HD5.out,if_pos (.inr ⟨hn0,hz1⟩)]);clear HD5 hz1 hn0;go_wp2_with (refine wpList_store_row rfl 29 _ _ rfl w.heap.size #[.string ⟨#[]⟩,.string ⟨#[]⟩,.int .i64 0,.slice none 0 0,.bool false,.slice none 0 0] rfl rfl 29 _ HR6.out jo rfl (qew _ _ _ _ _ _) ?_)
               (try simp only [Exit.inBlock,Exit.then])
               refine bodyPost_ret (qf rfl _ _ w.heap.size _ _ _ _ rfl (setRow_heap _ _ _ _ _ _ HR6.out) Tryz.underlying29 rfl jo) rfl ?_;rw [HP.out];exact ⟨none,0,rfl,qm.nil _ _,(fun y hy=>by cases hy),below_setRow HB6.out (Nat.le_refl _) _⟩
             · have ez:(z == 1)=false:=by rw [beq_eq_false_iff_ne]; exact hz1
               have HP:=Box.mk (show R=(0,m,t,z,x) by rw [HD5.out,if_neg (fun h=>h.elim hn1 (fun h=>hz1 h.2))]);clear HD5 hz1 hn0;go_wp2_with (refine wpList_store_row rfl 29 _ _ rfl w.heap.size #[.string m,.string t,.int .i64 z,.slice fa x.length fc,.bool false,.slice none 0 0] rfl rfl 29 _ HR6.out jo rfl (qew _ _ _ _ _ _) ?_)
               (try simp only [Exit.inBlock,Exit.then])
               refine bodyPost_ret (qf rfl _ _ w.heap.size _ _ _ _ rfl (setRow_heap _ _ _ _ _ _ HR6.out) Tryz.underlying29 rfl jo) rfl ?_;rw [HP.out];exact ⟨fa,fc,rfl,HX6.out.same fun y hy=>setRow_other _ _ _ _ (by have:=HFR.out y hy; omega),(fun y hy=>by have:=HFR.out y hy; omega),below_setRow HB6.out (Nat.le_refl _) _⟩
           · have en:((nv:Int) == 0)=false:=by rw [beq_eq_false_iff_ne]; omega
             have HP:=Box.mk (show R=(0,m,t,z,x) by rw [HD5.out,if_neg (fun h=>h.elim hn1 (fun h=>hn0 h.1))]);clear HD5 hn0;go_wp2_with (refine wpList_store_row rfl 29 _ _ rfl w.heap.size #[.string m,.string t,.int .i64 z,.slice fa x.length fc,.bool false,.slice none 0 0] rfl rfl 29 _ HR6.out jo rfl (qew _ _ _ _ _ _) ?_)
             (try simp only [Exit.inBlock,Exit.then])
             refine bodyPost_ret (qf rfl _ _ w.heap.size _ _ _ _ rfl (setRow_heap _ _ _ _ _ _ HR6.out) Tryz.underlying29 rfl jo) rfl ?_;rw [HP.out];exact ⟨fa,fc,rfl,HX6.out.same fun y hy=>setRow_other _ _ _ _ (by have:=HFR.out y hy; omega),(fun y hy=>by have:=HFR.out y hy; omega),below_setRow HB6.out (Nat.le_refl _) _⟩
       · have e0:(er != 0)=true:=by rw [bne_iff_ne]; exact h0
         have HP:=Box.mk (show R=(er,⟨#[]⟩,⟨#[]⟩,0,[]) by rw [HD4.out,if_neg h0]);clear h0 HD4;go_wp2_with (refine wpList_store_row rfl 29 _ _ rfl w.heap.size #[.string ⟨#[]⟩,.string ⟨#[]⟩,.int .i64 0,.slice none 0 0,.bool false,.slice none 0 0] rfl rfl 29 _ HR5.out jo rfl (qew _ _ _ _ _ _) ?_)
         (try simp only [Exit.inBlock,Exit.then])
         refine bodyPost_ret (qf rfl _ _ w.heap.size _ _ _ _ rfl (setRow_heap _ _ _ _ _ _ HR5.out) Tryz.underlying29 rfl jo) rfl ?_;rw [HP.out];exact ⟨none,0,rfl,qm.nil _ _,(fun y hy=>by cases hy),below_setRow HB5.out (Nat.le_refl _) _⟩
def qaa (b:List UInt8):Int × Int × ByteArray × Int × List Fld :=
 match qa5 b with
 | some (l0 :: ls) =>
  match ks l0 with
  | some f=>if (qt ls).1=0 then (0,f.1,f.2.1,f.2.2,(qt ls).2) else ((qt ls).1,0,⟨#[]⟩,0,[])
  | none=>(2,0,⟨#[]⟩,0,[])
 | _=>(2,0,⟨#[]⟩,0,[])
def qcv (w:World) (g:Nat) (m:Int) (t:ByteArray) (z:Int) (v:Value):Prop:=w.heap[g]? = some (.cells #[.int .i64 m,.string t,.int .i64 z,v,.slice none 0 0] 31 (0,0))
theorem qcv.keep {w w':World} {g:Nat} {m:Int} {t:ByteArray} {z:Int} {v:Value} (h:qcv w g m t z v) (hb:Below w.heap.size w w'):qcv w' g m t z v:=by
 unfold qcv at *;rw [hb.block g (Array.getElem?_eq_some_iff.1 h).1]; exact h
theorem qhs (m:Int) (t:ByteArray) (z:Int) (a:Option Addr) (n c:Nat):(#[.int .i64 m,.string t,.int .i64 z,.slice a n c,.slice none 0 0]:Array Value).all (·.oneCell')=true:=by simp [Value.oneCell']
theorem qcv.cells {w:World} {g:Nat} {m:Int} {t:ByteArray} {z:Int} {v:Value} (h:qcv w g m t z v):w.cell? ⟨g,2,none⟩=some (.int .i64 z)∧w.cell? ⟨g,3,none⟩=some v:=by
 refine ⟨?_,?_⟩ <;> rw [cell_of_row _ _ _ _ _ _ h] <;> rfl
theorem qcv.put {w:World} {g:Nat} {m:Int} {t:ByteArray} {z:Int} {v u:Value} (h:qcv w g m t z v):qcv (w.setCell ⟨g,3,none⟩ u) g m t z u:=by
 unfold qcv; rw [heap_setCell_same _ _ _ _ _ _ h]; rfl
theorem qcv.frozen {w:World} {g i:Nat} {m:Int} {t:ByteArray} {z:Int} {v:Value} (h:qcv w g m t z v):w.frozen? ⟨g,i,none⟩=false:=by
 unfold qcv at h; simp [World.frozen?,h]
theorem qcv.cells5 {w:World} {g:Nat} {m:Int} {t:ByteArray} {z:Int} {v:Value} (h:qcv w g m t z v):w.cell? ⟨g,0,none⟩=some (.int .i64 m)∧w.cell? ⟨g,1,none⟩=some (.string t)∧w.cell? ⟨g,2,none⟩=some (.int .i64 z)∧w.cell? ⟨g,3,none⟩=some v∧w.cell? ⟨g,4,none⟩=some (.slice none 0 0):=by
 refine ⟨?_,?_,?_,?_,?_⟩ <;> rw [cell_of_row _ _ _ _ _ _ h] <;> rfl
def jce (w:World) (r:Int × Int × ByteArray × Int × List Fld) (e:Ending) (w':World):Prop :=
 ∃ fa fc,e = .returned (.tuple #[.agg #[.int .i64 r.2.1,.string r.2.2.1,.int .i64 r.2.2.2.1,.slice fa r.2.2.2.2.length fc,.slice none 0 0],.int .i64 r.1])∧qm w' fa r.2.2.2.2∧(∀ y,fa=some y→w.heap.size≤y.block)∧Below w.heap.size w w'
theorem qmu (b:List UInt8) (a:Option Addr) (c:Nat) (w:World) (h:qg w a b c) (hl:b.length≤4000000) :
  Calls Tryz.prog 43 #[.slice a b.length c] w (jce w (qaa b)):=by
 obtain ⟨W0,hW0⟩ : ∃ W0,W0=w.alloc (.cells #[.int .i64 0,.string ⟨#[]⟩,.int .i64 0,.slice none 0 0,.slice none 0 0] 31):=⟨_,rfl⟩;have HB0:=Box.mk (show Below w.heap.size w W0 by rw [hW0]; exact qd w _);have HR0:=Box.mk (show qcv W0 w.heap.size 0 ⟨#[]⟩ 0 (.slice none 0 0) by rw [hW0]; exact heap_alloc_new _ _);have HCALL:=Box.mk (qk8 b a c W0 (h.keep HB0.out) hl);have HSZ:=Box.mk (fun L hL=>qe9 (b:=b) (L:=L) hL);have HD:=Box.mk (show qaa b=match qa5 b with
  | some (l0 :: ls) =>
   match ks l0 with
   | some f=>if (qt ls).1=0 then (0,f.1,f.2.1,f.2.2,(qt ls).2) else ((qt ls).1,0,⟨#[]⟩,0,[])
   | none=>(2,0,⟨#[]⟩,0,[])
  | _=>(2,0,⟨#[]⟩,0,[]) from rfl)
 generalize qaa b=R at *;have HW0:=Box.mk hW0;clear h hW0;go_enter Tryz.func43,Tryz.ntmps43
 go_wp2_with fail;rw [← HW0.out];clear HW0;refine HCALL.out.mono ?_;intro e w1 hret;clear HCALL;rcases ho:qa5 b with _ | L
 · rw [ho] at hret
   obtain ⟨rfl,hb1⟩:=hret;have HP:=Box.mk (show R=(2,0,⟨#[]⟩,0,[]) by rw [HD.out,ho]);have HB1:=Box.mk (qe HB0.out hb1);have HR1:=Box.mk (HR0.out.keep hb1);clear ho hb1 HD HSZ;go_wp2_with (refine wpList_store_row rfl 31 _ _ rfl w.heap.size #[.int .i64 0,.string ⟨#[]⟩,.int .i64 0,.slice none 0 0,.slice none 0 0] rfl rfl 31 _ HR1.out ko rfl (qhs _ _ _ _ _ _) ?_)
   (try simp only [Exit.inBlock,Exit.then])
   refine bodyPost_ret (qf rfl _ _ w.heap.size _ _ _ _ rfl (setRow_heap _ _ _ _ _ _ HR1.out) Tryz.underlying31 rfl ko) rfl ?_;rw [HP.out];exact ⟨none,0,rfl,qm.nil _ _,(fun y hy=>by cases hy),below_setRow HB1.out (Nat.le_refl _) _⟩
 · rw [ho] at hret
   obtain ⟨g,lc,rfl,hlc,hcm,hL0,hst,hb1⟩:=hret;obtain ⟨hz1,hz2⟩:=HSZ.out L ho;obtain ⟨l0,ls,rfl⟩ : ∃ l0 ls,L=l0 :: ls:=by
    cases L with
    | nil=>exact absurd hL0 (Nat.lt_irrefl _)
    | cons x r=>exact ⟨x,r,rfl⟩
   have HB1:=Box.mk (qe HB0.out hb1);have HR1:=Box.mk (HR0.out.keep hb1);have hc0:=hst.head;have HT:=Box.mk hst.tail;have HZ0:=Box.mk (show l0.size≤4000000 from Nat.le_trans (hz1 l0 (List.mem_cons_self ..)) hl);have HZL:=Box.mk (show ∀ s ∈ ls,s.size≤maxLen from fun s hs=>Nat.le_trans (hz1 s (List.mem_cons_of_mem _ hs)) (by unfold maxLen; omega));have hll:ls.length≤4000000:=by rw [List.length_cons] at hz2; omega
   rw [List.length_cons] at hlc;have HD2:=Box.mk (show R=match ks l0 with
    | some f=>if (qt ls).1=0 then (0,f.1,f.2.1,f.2.2,(qt ls).2) else ((qt ls).1,0,⟨#[]⟩,0,[])
    | none=>(2,0,⟨#[]⟩,0,[]) by rw [HD.out,ho])
   clear ho hb1 hst hz1 hz2 HD HSZ HB0 HR0 hL0;go_wp2_with fail;refine (qlg l0 _ (by have:=HZ0.out; unfold maxLen; omega)).mono ?_;rintro e w2 ⟨he,hb2⟩;have HB2:=Box.mk (qe HB1.out hb2);have HR2:=Box.mk (HR1.out.keep hb2);have HT2:=Box.mk (HT.out.keep hb2);clear hb2 HB1 HR1 HT hc0;generalize ks l0=o at *;rcases o with _ | ⟨m,t,z⟩
   · simp only [qow] at he
     subst he;have HP:=Box.mk (show R=(2,0,⟨#[]⟩,0,[]) from HD2.out);have hb3:=qd w2 (.cells #[.int .i64 0,.string ⟨#[]⟩,.int .i64 0,.slice none 0 0,.slice none 0 0] 31);have HB3:=Box.mk (qe HB2.out hb3);have HR3:=Box.mk (HR2.out.keep hb3);clear HD2 hb3;go_wp2_with (refine wpList_store_row rfl 31 _ _ rfl w.heap.size #[.int .i64 0,.string ⟨#[]⟩,.int .i64 0,.slice none 0 0,.slice none 0 0] rfl rfl 31 _ HR3.out ko rfl (qhs _ _ _ _ _ _) ?_)
     (try simp only [Exit.inBlock,Exit.then])
     refine bodyPost_ret (qf rfl _ _ w.heap.size _ _ _ _ rfl (setRow_heap _ _ _ _ _ _ HR3.out) Tryz.underlying31 rfl ko) rfl ?_;rw [HP.out];exact ⟨none,0,rfl,qm.nil _ _,(fun y hy=>by cases hy),below_setRow HB3.out (Nat.le_refl _) _⟩
   · simp only [qow] at he
     subst he;have HD3:=Box.mk (show R=if (qt ls).1=0 then (0,m,t,z,(qt ls).2) else ((qt ls).1,0,⟨#[]⟩,0,[]) from HD2.out);clear HD2;obtain ⟨W3,hW3⟩ : ∃ W3,W3=w2.alloc (.cells #[.int .i64 m,.string t,.int .i64 z,.slice none 0 0,.slice none 0 0] 31):=⟨_,rfl⟩;have hb3:Below w2.heap.size w2 W3:=by rw [hW3]; exact qd w2 _
     have HB3:=Box.mk (qe HB2.out hb3);have HR3:=Box.mk (HR2.out.keep hb3);have HV3:=Box.mk (show qcv W3 w2.heap.size m t z (.slice none 0 0) by rw [hW3]; exact heap_alloc_new _ _);have HT3:=Box.mk (HT2.out.keep hb3);have hlt:=HB2.out.size;have hrl:=(Array.getElem?_eq_some_iff.1 HR2.out).1;have HW3:=Box.mk hW3;clear hb3 hW3 HB2 HR2 HT2;by_cases hc1:lc=1
     · subst hc1
       obtain rfl:ls=[]:=List.eq_nil_of_length_eq_zero (by omega);go_wp2_with fail;rw [← HW3.out];refine (qcr [] (some ⟨g,0,none⟩) 0 W3 (ky.nil _ _) HZL.out (by simp)).mono ?_;rintro e w4 ⟨x,fa,fc,er,hx,rfl,hfx,hfr,hb4⟩;obtain ⟨hs1,hs2,hs3⟩:=qag hx HZL.out;have HX:=Box.mk hx;have HD4:=Box.mk (show R=if er=0 then (0,m,t,z,x) else (er,0,⟨#[]⟩,0,[]) by
        have h:=HD3.out;rw [hx] at h;exact h)
       have HS1:=Box.mk hs1;have HV4:=Box.mk (HV3.out.keep hb4);have HR4:=Box.mk (HR3.out.keep hb4);have HB4:=Box.mk (qe HB3.out hb4);have hf3:=HV4.out.frozen (i:=3);obtain ⟨hd2,hd3⟩:=HV4.out.cells;have HV5:=Box.mk (HV4.out.put (u:=.slice fa x.length fc));have HR5:=Box.mk (show qcv (w4.setCell ⟨w2.heap.size,3,none⟩ (.slice fa x.length fc)) w.heap.size 0 ⟨#[]⟩ 0 (.slice none 0 0) by
        unfold qcv; rw [heap_setCell_other _ _ _ _ (by show w.heap.size≠w2.heap.size; omega)]; exact HR4.out)
       have HB5:=Box.mk (HB4.out.setCell (p:=⟨w2.heap.size,3,none⟩) (show w.heap.size≤w2.heap.size from hlt) (.slice fa x.length fc));have hw3:w2.heap.size<W3.heap.size:=(Array.getElem?_eq_some_iff.1 HV3.out).1;have HFR:=Box.mk (show ∀ y,fa=some y→w2.heap.size<y.block from fun y hy=>Nat.lt_of_lt_of_le hw3 (hfr y hy));have HX5:=Box.mk (show qm (w4.setCell ⟨w2.heap.size,3,none⟩ (.slice fa x.length fc)) fa x from hfx.same fun y hy=>heap_setCell_other _ _ _ _ (by have:=HFR.out y hy; show y.block≠w2.heap.size; omega));have HX0:=Box.mk hs3;clear hx hfx hfr hb4 hs1 hs3 HD3 HV3 HR3 HB3 HW3 HT3;by_cases h0:er=0
       · have e0:(er != 0)=false:=by rw [h0]; rfl
         have HP:=Box.mk (show R=(0,m,t,z,x) by rw [HD4.out,if_pos h0]);obtain ⟨c0,c1,c2,c3,c4⟩:=HV5.out.cells5;clear h0 HD4 HX0;go_wp2_with (refine wpList_store_row rfl 31 _ _ rfl w.heap.size #[.int .i64 m,.string t,.int .i64 z,.slice fa x.length fc,.slice none 0 0] rfl rfl 31 _ HR5.out ko rfl (qhs _ _ _ _ _ _) ?_)
         (try simp only [Exit.inBlock,Exit.then])
         refine bodyPost_ret (qf rfl _ _ w.heap.size _ #[.int .i64 m,.string t,.int .i64 z,.slice fa x.length fc,.slice none 0 0] _ _ rfl (setRow_heap _ _ _ _ _ _ HR5.out) Tryz.underlying31 rfl ko) rfl ?_;rw [HP.out];exact ⟨fa,fc,rfl,HX5.out.same fun y hy=>setRow_other _ _ _ _ (by have:=HFR.out y hy; omega),(fun y hy=>by have:=HFR.out y hy; omega),below_setRow HB5.out (Nat.le_refl _) _⟩
       · have e0:(er != 0)=true:=by rw [bne_iff_ne]; exact h0
         have HP:=Box.mk (show R=(er,0,⟨#[]⟩,0,[]) by rw [HD4.out,if_neg h0]);clear h0 HD4;go_wp2_with (refine wpList_store_row rfl 31 _ _ rfl w.heap.size #[.int .i64 0,.string ⟨#[]⟩,.int .i64 0,.slice none 0 0,.slice none 0 0] rfl rfl 31 _ HR5.out ko rfl (qhs _ _ _ _ _ _) ?_)
         (try simp only [Exit.inBlock,Exit.then])
         refine bodyPost_ret (qf rfl _ _ w.heap.size _ _ _ _ rfl (setRow_heap _ _ _ _ _ _ HR5.out) Tryz.underlying31 rfl ko) rfl ?_;rw [HP.out];exact ⟨none,0,rfl,qm.nil _ _,(fun y hy=>by cases hy),below_setRow HB5.out (Nat.le_refl _) _⟩
     · have hlc2:1≤lc:=by omega
       go_wp2_with fail;rw [← HW3.out];refine (qcr ls (some ⟨g,1,none⟩) (lc-1) W3 HT3.out HZL.out hll).mono ?_;rintro e w4 ⟨x,fa,fc,er,hx,rfl,hfx,hfr,hb4⟩;obtain ⟨hs1,hs2,hs3⟩:=qag hx HZL.out;have HX:=Box.mk hx;have HD4:=Box.mk (show R=if er=0 then (0,m,t,z,x) else (er,0,⟨#[]⟩,0,[]) by
        have h:=HD3.out;rw [hx] at h;exact h)
       have HS1:=Box.mk hs1;have HV4:=Box.mk (HV3.out.keep hb4);have HR4:=Box.mk (HR3.out.keep hb4);have HB4:=Box.mk (qe HB3.out hb4);have hf3:=HV4.out.frozen (i:=3);obtain ⟨hd2,hd3⟩:=HV4.out.cells;have HV5:=Box.mk (HV4.out.put (u:=.slice fa x.length fc));have HR5:=Box.mk (show qcv (w4.setCell ⟨w2.heap.size,3,none⟩ (.slice fa x.length fc)) w.heap.size 0 ⟨#[]⟩ 0 (.slice none 0 0) by
        unfold qcv; rw [heap_setCell_other _ _ _ _ (by show w.heap.size≠w2.heap.size; omega)]; exact HR4.out)
       have HB5:=Box.mk (HB4.out.setCell (p:=⟨w2.heap.size,3,none⟩) (show w.heap.size≤w2.heap.size from hlt) (.slice fa x.length fc));have hw3:w2.heap.size<W3.heap.size:=(Array.getElem?_eq_some_iff.1 HV3.out).1;have HFR:=Box.mk (show ∀ y,fa=some y→w2.heap.size<y.block from fun y hy=>Nat.lt_of_lt_of_le hw3 (hfr y hy));have HX5:=Box.mk (show qm (w4.setCell ⟨w2.heap.size,3,none⟩ (.slice fa x.length fc)) fa x from hfx.same fun y hy=>heap_setCell_other _ _ _ _ (by have:=HFR.out y hy; show y.block≠w2.heap.size; omega));have HX0:=Box.mk hs3;clear hx hfx hfr hb4 hs1 hs3 HD3 HV3 HR3 HB3 HW3 HT3;by_cases h0:er=0
       · have e0:(er != 0)=false:=by rw [h0]; rfl
         have HP:=Box.mk (show R=(0,m,t,z,x) by rw [HD4.out,if_pos h0]);obtain ⟨c0,c1,c2,c3,c4⟩:=HV5.out.cells5;clear h0 HD4 HX0;go_wp2_with (refine wpList_store_row rfl 31 _ _ rfl w.heap.size #[.int .i64 m,.string t,.int .i64 z,.slice fa x.length fc,.slice none 0 0] rfl rfl 31 _ HR5.out ko rfl (qhs _ _ _ _ _ _) ?_)
         (try simp only [Exit.inBlock,Exit.then])
         refine bodyPost_ret (qf rfl _ _ w.heap.size _ #[.int .i64 m,.string t,.int .i64 z,.slice fa x.length fc,.slice none 0 0] _ _ rfl (setRow_heap _ _ _ _ _ _ HR5.out) Tryz.underlying31 rfl ko) rfl ?_;rw [HP.out];exact ⟨fa,fc,rfl,HX5.out.same fun y hy=>setRow_other _ _ _ _ (by have:=HFR.out y hy; omega),(fun y hy=>by have:=HFR.out y hy; omega),below_setRow HB5.out (Nat.le_refl _) _⟩
       · have e0:(er != 0)=true:=by rw [bne_iff_ne]; exact h0
         have HP:=Box.mk (show R=(er,0,⟨#[]⟩,0,[]) by rw [HD4.out,if_neg h0]);clear h0 HD4;go_wp2_with (refine wpList_store_row rfl 31 _ _ rfl w.heap.size #[.int .i64 0,.string ⟨#[]⟩,.int .i64 0,.slice none 0 0,.slice none 0 0] rfl rfl 31 _ HR5.out ko rfl (qhs _ _ _ _ _ _) ?_)
         (try simp only [Exit.inBlock,Exit.then])
         refine bodyPost_ret (qf rfl _ _ w.heap.size _ _ _ _ rfl (setRow_heap _ _ _ _ _ _ HR5.out) Tryz.underlying31 rfl ko) rfl ?_;rw [HP.out];exact ⟨none,0,rfl,qm.nil _ _,(fun y hy=>by cases hy),below_setRow HB5.out (Nat.le_refl _) _⟩
end Go.Proofs.YtflhjpokjdjbpaaGreatDoor

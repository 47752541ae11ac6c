/- A region that draws its order, in phases, where an operation may read a slot that a later one writes. wire of the laws on heads, walked. The laws HeadEnd and HeadGrows. Reading a message in pieces: what comes out does not depend on the pieces. The law FieldLine. A formatted head is parsed to what it was made of: plain mathematics. Reading a message in pieces: heads, and all rounds. The names of fields that were read are not empty. Regions of the laws that call Next. awake of the laws on readers. The state in the reference; the small functions of the laws. begin of the laws on readers. whole: a message is read in rounds. Interim replies are left out. The law ReaderInterim. The law ReaderRequest, walked. The law ReaderRequest: what the fields of a made request say of its body. The law ReaderRequest: its mathematics. Windows of four bytes: one changed byte makes no end of a head. -/
import Derived.Test.YtflhjpokjdjbpaaGreatDoorPq14
set_option linter.unusedVariables false
set_option linter.unusedSimpArgs false
set_option maxRecDepth 100000
set_option maxHeartbeats 4000000
namespace Go.Proofs.YtflhjpokjdjbpaaGreatDoor
open Go.RowKit
def jag (ops:Array Oper) (i k:Nat):Bool:=(List.range ops.size).any fun j=>((ops[j]?).bind (·.dst) == some k) && (!decide (j=i) && !(match ops[j]? with | some o=>jh o i | none=>false))
structure FrW (ops:Array Oper) (i:Nat) (a0 a:Act):Prop where
 defers:a.defers=a0.defers
 size:a.tmps.size=a0.tmps.size
 base:∀ k,jag ops i k=false→a.eval (.tmp k)=a0.eval (.tmp k)
structure FrM (ops:Array Oper) (m:Array Bool) (a0 a:Act):Prop where
 defers:a.defers=a0.defers
 size:a.tmps.size=a0.tmps.size
 base:∀ k,(∀ j o,ops[j]? = some o→o.dst=some k→m.getD j false=false)→a.eval (.tmp k)=a0.eval (.tmp k)
theorem FrM.plain {ops:Array Oper} {m:Array Bool} {a0 a:Act} (h:FrM ops m a0 a):Fr ops a0 a:=⟨h.defers,h.size,fun k hk=>h.base k fun j o ho hd=>by
 have:qtp ops k=true:=by
  unfold qtp;exact List.any_eq_true.2 ⟨o,Array.mem_toList_iff.2 (Array.mem_of_getElem? ho),by rw [hd]; simp⟩
 rw [hk] at this; cases this⟩
theorem FrM.at {ops:Array Oper} {m:Array Bool} {a0 a:Act} {i:Nat} (h:FrM ops m a0 a) (hmi:m.getD i false=false) (hcl:∀ j o,ops[j]? = some o→m.getD j false=true → ∀ i,jh o i=true→m.getD i false=true):FrW ops i a0 a :=
 ⟨h.defers,h.size,fun k hk=>h.base k fun j o ho hd=>by
  by_cases hji:j=i
  · subst hji; exact hmi
  · by_cases hw:jh o i=true
    · cases hm:m.getD j false with
      | false=>rfl
      | true=>rw [hcl j o ho hm i hw] at hmi; cases hmi
    · exfalso
      have:jag ops i k=true:=by
       unfold jag;exact List.any_eq_true.2 ⟨j,List.mem_range.2 (Array.getElem?_eq_some_iff.1 ho).1,by simp only [ho,Option.bind_some,hd]; simp [hji,hw]⟩
      rw [hk] at this; cases this⟩
theorem jc4 {ops:Array Oper} {m:Array Bool} {a0 a:Act} {o:Oper} {i:Nat} (ho:ops[i]? = some o) (him:i<m.size) (h:FrM ops m a0 a) (v:Value):FrM ops (m.setIfInBounds i true) a0 (a.put o.dst v):=by
 refine ⟨?_,?_,fun k hk=>?_⟩
 · have:=h.defers
   cases o.dst <;> simpa [Act.put] using this
 · have:=h.size
   cases o.dst <;> simpa [Act.put] using this
 · have hne:o.dst≠some k:=fun e=>by
    have:=hk i o ho e;simp [him] at this
   rw [kh hne,h.base k fun j oj hoj hd=>by
    have h2:=hk j oj hoj hd;by_cases hji:j=i
    · subst hji
      obtain rfl:=Option.some.inj (ho.symm.trans hoj);exact absurd hd hne
    · rwa [getD_set_ne false (fun e=>hji e.symm)] at h2]
def je2 (P:Program) (Q:Exit→Act→World→Prop) (ops:Array Oper) (S:List Spec) (Inv:World→Prop) (a0:Act) (i:Nat) (o:Oper) (s:Spec):Prop :=
 ∀ a w,Inv w→FrW ops i a0 a→(∀ j,jh o j=true→qb5 ops S a w j) →
  Region.wanted o (yielded ops a.tmps)=true∧o.wp P a w (fun a' w'=>∃ v,a'=a.put o.dst v∧Below w.heap.size w w'∧s.p v w') Q
def quq (P:Program) (Q:Exit→Act→World→Prop) (ops:Array Oper) (S:List Spec) (Inv:World→Prop) (a0:Act):List Nat→Prop
 | i :: r=>(match ops[i]?,S[i]? with | some o,some s=>je2 P Q ops S Inv a0 i o s | _,_=>False)∧quq P Q ops S Inv a0 r
 | []=>True
def jc7 (P:Program) (Q:Exit→Act→World→Prop) (ops:Array Oper) (S S':List Spec) (Inv Inv':World→Prop) (a0:Act) (c:Nat):Prop :=
 match ops[c]?,S'[c]? with
 | some o,some s=>∀ a w,Inv w→FrW ops c a0 a→(∀ j,jh o j=true→qb5 ops S a w j) →
   Region.wanted o (yielded ops a.tmps)=true∧o.wp P a w (fun a' w'=>∃ v,a'=a.put o.dst v∧Inv' w'∧s.p v w'∧Over ops a w w' c 0 S S') Q
 | _,_=>False
section
variable {P:Program} {Q:Exit→Act→World→Prop} {ops:Array Oper} {a0:Act} {w0:World}
theorem qo3 {S:List Spec} {Inv:World→Prop}:∀ {l:List Nat},quq P Q ops S Inv a0 l → ∀ i,i ∈ l → ∀ o,ops[i]? = some o → ∃ s,S[i]? = some s∧je2 P Q ops S Inv a0 i o s
 | k :: r,h,i,hi,o,ho=>by
  rcases List.mem_cons.1 hi with rfl | hi
  · have:=h.1
    rw [ho] at this;cases hs:S[i]? with
    | none=>rw [hs] at this; exact this.elim
    | some s=>rw [hs] at this; exact ⟨s,rfl,this⟩
  · exact qo3 h.2 i hi o ho
theorem qco {id:Nat} (chain:List Nat) (sides:Nat→List Nat) (S:Nat→List Spec) (Inv:Nat→World→Prop) (hm:P.follows .mixedOrders=true)
  (hB:(List.range ops.size).all (fun i=>match ops[i]? with | some x=>x.after.all (fun e=>!Region.binds .any e || decide (e.on<i)) | none=>true)=true)
  (hd:qj3 ops a0.tmps.size=true) (hc:je0 ops chain=true) (hlt:chain.all (fun c=>decide (c<ops.size))=true) (hsB:(List.range (chain.length+1)).all (fun p=>je5 ops chain chain.length (sides p) p)=true)
  (hI:∀ p w w',Inv p w→Below w.heap.size w w'→Inv p w') (h0:Inv 0 w0) (hS:∀ p,p≤chain.length→quq P Q ops (S p) (Inv p) a0 (sides p))
  (hC:∀ p (hp:p<chain.length),jc7 P Q ops (S p) (S (p+1)) (Inv p) (Inv (p+1)) a0 chain[p])
  (hQ:∀ a w,Inv chain.length w→Fr ops a0 a→(∀ j,j<ops.size→qb5 ops (S chain.length) a w j)→Q .normal a w):(Code.region id ops true).wp P Q a0 w0:=by
 have hchain:∀ p q (hp:p<chain.length) (hq:q<chain.length),p<q→qd6 ops ops.size chain[q] chain[p]=true∧chain[p]≠chain[q]:=fun p q hp hq hpq=>by
  have h1:=List.all_eq_true.1 (List.all_eq_true.1 hc p (List.mem_range.2 hp)) q (List.mem_range.2 hq);simp only [List.getElem?_eq_getElem hp,List.getElem?_eq_getElem hq,Bool.or_eq_true,Bool.and_eq_true,decide_eq_true_eq] at h1;rcases h1 with h1 | h1
  · omega
  · exact ⟨h1.1.1.1,h1.1.1.2⟩
 refine qbj hm (fun m a w=>FrM ops m a0 a∧(∀ j o,ops[j]? = some o→m.getD j false=true → ∀ i,jh o i=true→m.getD i false=true) ∧
  ∃ p,p≤chain.length∧(∀ q (hq:q<chain.length),m.getD chain[q] false=decide (q<p))∧Inv p w ∧ ∀ j,m.getD j false=true→qb5 ops (S p) a w j) ?_ ?_ ?_
 · rintro m a w hs ⟨hf,hcl,p,hp,hph,hinv,hh⟩ i hi
   obtain ⟨h1,o,ho,hall⟩:=mem_ready.1 hi;have hil:i<ops.size:=(Array.getElem?_eq_some_iff.1 ho).1;have him:i<m.size:=by rw [hs]; exact hil
   have hmi:m.getD i false=false:=by simp [him] at h1 ⊢; exact h1
   have hdeps:∀ j,jh o j=true→m.getD j false=true:=fun j hj=>by
    obtain ⟨e,he,h2⟩:=List.any_eq_true.1 hj;simp only [Bool.and_eq_true,beq_iff_eq] at h2;obtain ⟨h3,rfl⟩:=h2;exact hall e (Array.mem_toList_iff.1 he) h3
   have hcl':∀ j o,ops[j]? = some o→(m.setIfInBounds i true).getD j false=true → ∀ k,jh o k=true→(m.setIfInBounds i true).getD k false=true:=fun j oj hoj hj k hk=>by
    by_cases hji:j=i
    · subst hji
      obtain rfl:o=oj:=Option.some.inj (ho.symm.trans hoj);exact getD_set_true (hdeps k hk)
    · rw [getD_set_ne false (fun e=>hji e.symm)] at hj
      exact getD_set_true (hcl j oj hoj hj k hk)
   unfold wpOp;simp only [ho];by_cases hic:i ∈ chain
   · obtain ⟨q,hq,rfl⟩:=List.getElem_of_mem hic
     have hqp:p≤q:=by
      have:=hph q hq;rw [hmi] at this;have:=of_decide_eq_false this.symm;omega
     have hqe:q=p:=by
      rcases Nat.lt_or_ge p q with h2 | h2
      · exfalso
        have h3:=qe8 hcl ho hdeps (hchain p q (by omega) hq h2).1;rw [hph p (by omega)] at h3;simp at h3
      · omega
     subst hqe;have hCp:=hC q hq;unfold jc7 at hCp;rw [ho] at hCp;cases hsc:(S (q+1))[chain[q]]? with
     | none=>rw [hsc] at hCp; exact hCp.elim
     | some s =>
      rw [hsc] at hCp;simp only at hCp;obtain ⟨hw,hwp⟩:=hCp a w hinv (hf.at hmi hcl) fun j hj=>hh j (hdeps j hj);rw [if_pos hw];refine .inl (Oper.wp_mono ?_ hwp);rintro a' w' ⟨v,rfl,hinv',hsp,hov⟩;refine ⟨jc4 ho him hf v,hcl',q+1,hq,fun r hr=>?_,hinv',fun j hj=>?_⟩
      · by_cases hrq:r=q
        · subst hrq
          simp [him]
        · have hne:chain[q]≠chain[r]:=by
           rcases Nat.lt_or_ge q r with h2 | h2
           · exact (hchain q r hq hr h2).2
           · exact fun e=>(hchain r q hr hq (by omega)).2 e.symm
          rw [getD_set_ne false hne,hph r hr];by_cases hrl:r<q
          · simp [hrl,show r<q+1 by omega]
          · simp [hrl,show ¬ r<q+1 by omega]
      · by_cases hji:j=chain[q]
        · subst hji
          unfold qb5;simp only [ho,hsc];cases hdo:o.dst with
          | none=>trivial
          | some d =>
           show s.p ((a.put (some d) v).eval (.tmp d)) w'
           rw [kv]
           · exact hsp
           · rw [hf.size]; exact (qc4 hd ho hdo).1
        · have hj':m.getD j false=true:=by rw [getD_set_ne false (fun e=>hji e.symm)] at hj; exact hj
          have h5:=qdu (a:=a) (v:=v) hd ho hji (hh j hj');unfold qb5 at *;cases hoj:ops[j]? with
          | none=>simp
          | some o' =>
           cases hsj:(S (q+1))[j]? with
           | none=>simp
           | some s' =>
            obtain ⟨s0,hs0,himp⟩:=qvs hov j s' hsj (by omega);simp only [hoj,hs0] at h5;simp only;cases hdo:o'.dst with
            | none=>trivial
            | some d =>
             simp only [hdo] at h5;refine himp _ (fun o2 d2 ho2 hd2=>?_) h5;rw [Nat.zero_add,hoj] at ho2;obtain rfl:=Option.some.inj ho2;rw [hdo] at hd2;obtain rfl:=Option.some.inj hd2;exact kh fun e=>(qc4 hd ho e).2 j o' hoj hji hdo
   · have hside:i ∈ sides p:=by
      have:=List.all_eq_true.1 (List.all_eq_true.1 hsB p (List.mem_range.2 (by omega))) i (List.mem_range.2 hil);simp only [Bool.or_eq_true,List.contains_iff_mem,List.any_eq_true] at this;rcases this with (h2 | h2) | ⟨q,hq,h2⟩
      · exact absurd h2 hic
      · exact h2
      · exfalso
        have hql:=List.mem_range.1 hq;rw [List.getElem?_eq_getElem hql] at h2;simp only at h2;by_cases hqp:q<p
        · rw [if_pos hqp] at h2
          have h3:=qdb hcl _ _ _ h2 (by rw [hph q hql]; simp [hqp]);rw [hmi] at h3; cases h3
        · rw [if_neg hqp] at h2
          have h3:=qe8 hcl ho hdeps h2;rw [hph q hql] at h3;simp [hqp] at h3
     obtain ⟨s,hsi,hstep⟩:=qo3 (hS p hp) i hside o ho;obtain ⟨hw,hwp⟩:=hstep a w hinv (hf.at hmi hcl) fun j hj=>hh j (hdeps j hj);rw [if_pos hw];refine .inl (Oper.wp_mono ?_ hwp);rintro a' w' ⟨v,rfl,hb',hsp⟩;refine ⟨jc4 ho him hf v,hcl',p,hp,fun r hr=>?_,hI p w w' hinv hb',fun j hj=>?_⟩
     · rw [getD_set_ne false (fun e=>hic (by rw [e]; exact List.getElem_mem hr)),hph r hr]
     · by_cases hji:j=i
       · subst hji
         unfold qb5;simp only [ho,hsi];cases hdo:o.dst with
         | none=>trivial
         | some d =>
          show s.p ((a.put (some d) v).eval (.tmp d)) w'
          rw [kv]
          · exact hsp
          · rw [hf.size]; exact (qc4 hd ho hdo).1
       · have hj':m.getD j false=true:=by rw [getD_set_ne false (fun e=>hji e.symm)] at hj; exact hj
         exact qdu hd ho hji (qdi (hh j hj') hb')
 · rintro m a w hs ⟨hf,hcl,p,hp,hph,hinv,hh⟩ hr
   have hmarked:∀ j,j<ops.size→m.getD j false=true:=fun j=>by
    induction j using Nat.strongRecOn with
    | _ j ih =>
     intro hj;cases hmj:m.getD j false with
     | true=>rfl
     | false =>
      exfalso
      have hoj:ops[j]? = some ops[j]:=Array.getElem?_eq_getElem hj;have hbk:=List.all_eq_true.1 hB j (List.mem_range.2 hj);rw [hoj] at hbk;simp only [Array.all_eq_true_iff_forall_mem,Bool.or_eq_true,Bool.not_eq_true',decide_eq_true_eq] at hbk;have hlt:∀ e ∈ ops[j].after,Region.binds .any e=true→e.on<j:=fun e he hbd=>by
       rcases hbk e he with h | h
       · rw [hbd] at h; cases h
       · exact h
      have:j ∈ Region.ready .any ops m:=mem_ready.2 ⟨by
       have hs':j<m.size:=by rw [hs]; exact hj
       simp [hs'] at hmj ⊢; exact hmj,ops[j],hoj,fun e he hbd=>ih _ (hlt e he hbd) (by have:=hlt e he hbd; omega)⟩
      rw [hr] at this; cases this
   have hpe:p=chain.length:=by
    rcases Nat.lt_or_ge p chain.length with h2 | h2
    · exfalso
      have h3:=hph p h2;have h4:=hmarked chain[p] (of_decide_eq_true (List.all_eq_true.1 hlt _ (List.getElem_mem h2)));rw [h4] at h3;simp at h3
    · omega
   subst hpe;exact hQ a w hinv hf.plain fun j hj=>hh j (hmarked j hj)
 · have hz:∀ j,(Array.replicate ops.size false).getD j false=false:=fun j=>by
    simp only [Array.getD_eq_getD_getElem?,Array.getElem?_replicate]; split <;> rfl
   refine ⟨⟨rfl,rfl,fun _ _=>rfl⟩,fun j o _ hj=>(by rw [hz] at hj; cases hj),0,Nat.zero_le _,fun q _=>by rw [hz]; rfl,hI 0 w0 _ h0 (Below.refl _ _).drew,fun j hj=>(by rw [hz] at hj; cases hj)⟩
end
end Go.Proofs.YtflhjpokjdjbpaaGreatDoor
namespace Go.Proofs.YtflhjpokjdjbpaaGreatDoor
open Go.RowKit
theorem qg.cellAtH {w:World} {g c k:Nat} {l:List UInt8} (h:qg w (some ⟨g,0,none⟩) l c) (hk:k<l.length):w.cell? ⟨g,k,none⟩=some (.int .u8 ((l.getD k 0).toNat:Int)):=by
 rcases h with ⟨h1,_⟩ | ⟨y,h1,_,_,h2⟩
 · cases h1
 · obtain rfl:=Option.some.inj h1
   have:=h2 k hk;rw [Addr.add_lit,Nat.zero_add] at this;rw [this]; simp [List.getD,hk]
theorem qrx {w:World} {a:Option Addr} {l:List UInt8} {c:Nat} (h:qg w a l c):l.length≤maxLen:=by
 rcases h with ⟨_,rfl,_⟩ | ⟨_,_,h1,h2,_⟩
 · unfold maxLen; simp
 · omega
theorem qxw (l:List UInt8) (a:Option Addr) (c k:Nat) (w:World) (h:qg w a l c) (_hk:k≤1000) :
  Calls Tryz.prog 5 #[.slice a l.length c,.int .i64 k] w fun e w'=>∃ r,r=l.take k∧r.length≤k∧e = .returned (.slice a r.length c)∧qg w' a r c∧w=w':=by
 have HB:=Box.mk h;have hml:=qrx h;unfold maxLen at hml;by_cases hlt:k<l.length
 · have hcap:k≤c:=by
    rcases h with ⟨_,e,_⟩ | ⟨_,_,h1,_,_⟩
    · subst e; exact absurd hlt (Nat.not_lt_zero _)
    · omega
   obtain ⟨ad,rfl⟩ : ∃ ad,a=some ad:=by
    rcases h with ⟨_,e,_⟩ | ⟨x,e,_⟩
    · subst e; exact absurd hlt (Nat.not_lt_zero _)
    · exact ⟨x,e⟩
   clear h;have HT:=Box.mk (show (l.take k).length=k by rw [List.length_take]; omega);go_enter Tryz.func5,Tryz.ntmps5
   go_wp2_with fail;go_ret;exact ⟨l.take k,rfl,by rw [HT.out]; exact Nat.le_refl _,by rw [HT.out]; rfl,qiu HB.out k,rfl⟩
 · clear h
   have HT:=Box.mk (show l.take k=l from List.take_of_length_le (by omega));go_enter Tryz.func5,Tryz.ntmps5
   go_wp2_with fail;go_ret;exact ⟨l,HT.out.symm,by omega,rfl,HB.out,rfl⟩
theorem qdg (i:Nat) (x:UInt8) (r:List UInt8):qb7 i (x :: r)=if (x :: r).take 4=crlf2 then ((i+4:Nat):Int) else qb7 (i+1) r:=by rw [qb7]
theorem jc2 (l:List UInt8) (n:Nat):endZ (l.take n)=if endZ l≤(n:Int) then endZ l else -1:=by
 have:=qjz l n 0;rw [Nat.zero_add] at this;exact this
inductive RW where
 | err (e:Int)
 | got (e:Int) (s:RS) (d:List UInt8) (n:Nat)
def RW.add (d0:List UInt8) (n0:Nat):RW→RW
 | .err e=>.err e
 | .got e s d n=>.got e s (d0++d) (n0+n)
def qzv (s:RS) (b:List UInt8):RW :=
 if s.fk=1∨s.fk=2 then
  (if s.left.toNat≤b.length then .got 0 s (b.take s.left.toNat) s.left.toNat else .got 4 s b b.length)
 else if s.fk=3 then
  (if (qc0 s.ck [] 0 b).1=0 then .got (if (qc0 s.ck [] 0 b).2.1.ph=4 then 0 else 4) s (qc0 s.ck [] 0 b).2.2.1 (qc0 s.ck [] 0 b).2.2.2 else .err (qc0 s.ck [] 0 b).1)
 else (if 100<s.size+b.length then .err 9 else .got 4 s b b.length)
def allC:Nat→RS→List UInt8→RW
 | 0,_,_=>.err 7
 | f+1,s,b =>
  if s.ph=0 then
   (if (endS b 400).2=4 then .got 4 s [] 0
   else if (endS b 400).2≠0 then .err (endS b 400).2
   else if (qbo s (b.take (endS b 400).1.toNat) 100).er≠0 then .err (qbo s (b.take (endS b 400).1.toNat) 100).er
   else (allC f (qbo s (b.take (endS b 400).1.toNat) 100).r (b.drop (endS b 400).1.toNat)).add [] (endS b 400).1.toNat)
  else qzv s b
def qfa (b:List UInt8):Prop:=∀ p,4≤p→p≤b.length→(b.drop (p-4)).take 4=crlf2→p≤25∨b.length≤p+100
theorem qo0:∀ (l:List UInt8) (i n:Nat),qb7 i l=(n:Int)→i+4≤n∧n≤i+l.length∧(l.drop (n-i-4)).take 4=crlf2
 | [],i,n,h=>by
  unfold qb7 at h;omega
 | x :: r,i,n,h=>by
  rw [qdg] at h
  split at h
  · rename_i hc
    have:n=i+4:=by omega
    subst this;have hl:4≤(x :: r).length:=by
     have:=congrArg List.length hc;rw [List.length_take] at this;simp [crlf2] at this
     simp; omega
    refine ⟨by omega,by omega,?_⟩;rw [show i+4-i-4=0 by omega];exact hc
  · have:=qo0 r (i+1) n h
    refine ⟨by omega,by simp; omega,?_⟩;rw [show n-i-4=(n-(i+1)-4)+1 by omega,List.drop_succ_cons];exact this.2.2
theorem qxs {b:List UInt8} {most:Int} {n:Nat} (h:endS b most=((n:Int),0)):endZ b=(n:Int)∧(n:Int)≤most∧4≤n∧n≤b.length∧(b.drop (n-4)).take 4=crlf2:=by
 unfold endS at h
 split at h
 · rename_i hc
   have e:endZ b=(n:Int):=congrArg Prod.fst h;have:=qo0 b 0 n e;refine ⟨e,by omega,by omega,by omega,?_⟩;simpa using this.2.2
 · split at h <;> cases h
theorem qtb {n:ByteArray} (h:tokS n=true):∀ c ∈ n.data.toList,c≠58:=fun c hc=>by
 unfold tokS at h;simp only [Bool.and_eq_true] at h;have h1:=List.all_eq_true.1 h.1 c hc;intro e;subst e;have:tokB 58=false:=by decide +kernel
 rw [this] at h1; cases h1
theorem jdi {v:ByteArray} (h:valS v=true):jf v=v:=by
 unfold valS at h;simp only [Bool.and_eq_true] at h;have h2:=h.2;rw [toList_eq] at h2;exact of_decide_eq_true h2
theorem qzr (n v P:ByteArray) (hn:tokS n=true) (hv:valS v=true) (hP:P.data.toList=n.data.toList++58 :: 32 :: v.data.toList):kr P=some (n,v):=by
 have hnl:n.data.toList.length=n.size:=by rw [Array.length_toList]; rfl
 have hsz:P.size=n.size+(2+v.data.toList.length):=by
  have:P.size=P.data.toList.length:=by rw [Array.length_toList]; rfl
  rw [this,hP,List.length_append,hnl]; simp; omega
 have hlt:n.size<P.size:=by omega
 have hat:P.data.toList[n.size]? = some 58:=by
  rw [hP,List.getElem?_append_right (by omega),hnl,Nat.sub_self]; rfl
 have hc:qac P=(n.size:Int):=by
  refine qsr P n.size hlt ?_ (fun j hj=>?_)
  · have h2:P.data.toList[n.size]? = some P[n.size]:=by
     rw [List.getElem?_eq_getElem (by simpa using hlt)]; rfl
    rw [hat] at h2;exact (Option.some.inj h2).symm
  · rw [hP,List.getElem?_append_left (by omega)]
    intro e;exact qtb hn 58 (List.mem_of_getElem? e) rfl
 rw [qmf hc];have e1:P.extract 0 n.size=n:=qd5 (by
  rw [qfd];show (ofL _).data.toList=_
  simp only [ofL,List.drop_zero,Nat.sub_zero,hP];rw [List.take_left' hnl])
 have e2:jf (P.extract (n.size+1) P.size)=v:=by
  rw [← jdi hv];refine qd5 ?_;rw [qbs,qbs,qfd];have e3:(P.data.toList.drop (n.size+1)).take (P.size-(n.size+1))=32 :: v.data.toList:=by
   rw [hP,show n.size+1=n.data.toList.length+1 by omega,List.drop_append,List.drop_of_length_le (by omega),Nat.add_sub_cancel_left,List.nil_append];show List.take _ (32 :: v.data.toList)=_
   exact List.take_of_length_le (by rw [List.length_cons]; omega)
  show qeb (ofL ((P.data.toList.drop (n.size+1)).take (P.size-(n.size+1)))).data.toList=_
  rw [e3];show qeb (32 :: v.data.toList)=_
  rw [qw7 _ 32 (by decide)]
 rw [e1,e2,if_pos (by unfold fldB; rw [hn,hv]; rfl)]
def noCL (l:List UInt8):Prop:=∀ c ∈ l,¬ c=13∧¬ c=10
theorem noCL.app {a b:List UInt8} (ha:noCL a) (hb:noCL b):noCL (a++b):=fun c hc=>by
 rcases List.mem_append.1 hc with h | h
 · exact ha c h
 · exact hb c h
theorem qo5:∀ (l cur r:List UInt8),noCL l→j6 cur (l++13 :: 10 :: r)=(j6 [] r).map (⟨(cur++l).toArray⟩ :: ·)
 | [],cur,r,_=>by
  rw [List.nil_append,qar (by decide) (fun _=>rfl),qct (by simp),List.dropLast_concat,List.append_nil]
 | c :: l,cur,r,h=>by
  have hc:=h c (List.mem_cons_self ..);rw [List.cons_append,qar hc.2 (fun e=>absurd e hc.1),qo5 l (cur++[c]) r (fun x hx=>h x (List.mem_cons_of_mem _ hx)),List.append_assoc];rfl
def qbc (ws:List (List UInt8)):List UInt8:=ws.flatMap (· ++ [13,10])
theorem qbq (w:List UInt8) (ws:List (List UInt8)):qbc (w :: ws)=w++13 :: 10 :: qbc ws:=by
 unfold qbc; rw [List.flatMap_cons,List.append_assoc]; rfl
theorem qmj:∀ ws:List (List UInt8),(∀ w ∈ ws,noCL w)→j6 [] (qbc ws)=some (ws.map fun w=>(⟨w.toArray⟩ : ByteArray))
 | [],_=>by rw [show qbc []=[] from rfl,qfz]; rfl
 | w :: ws,h=>by
  rw [qbq,qo5 w [] _ (h w (List.mem_cons_self ..)),qmj ws (fun x hx=>h x (List.mem_cons_of_mem _ hx))];rfl
theorem qof:∀ (l r:List UInt8) (i:Nat),noCL l→qb7 i (l++r)=qb7 (i+l.length) r
 | [],r,i,_=>rfl
 | c :: l,r,i,h=>by
  have hc:=h c (List.mem_cons_self ..);rw [List.cons_append,qdg,if_neg (fun e=>by
   have:=congrArg List.head? e;rw [List.take_succ_cons] at this;exact hc.1 (Option.some.inj this)),qof l r (i+1) (fun x hx=>h x (List.mem_cons_of_mem _ hx)),List.length_cons,show i+1+l.length=i+(l.length+1) by omega]
theorem qrz:∀ (ws:List (List UInt8)) (i:Nat),¬ ws=[]→(∀ w ∈ ws,noCL w∧¬ w=[])→qb7 i (qbc ws++[13,10])=((i+(qbc ws).length+2:Nat):Int)
 | [],_,h,_=>absurd rfl h
 | w :: ws,i,_,h=>by
  have hw:=h w (List.mem_cons_self ..);have e:qbc (w :: ws)++[13,10]=w++13 :: 10 :: (qbc ws++[13,10]):=by rw [qbq,List.append_assoc]; rfl
  have hl:(qbc (w :: ws)).length=w.length+2+(qbc ws).length:=by rw [qbq,List.length_append,List.length_cons,List.length_cons]; omega
  rw [e,qof w _ i hw.1,hl];cases ws with
  | nil =>
   rw [show qbc []=[] from rfl,List.nil_append,qdg,if_pos (show List.take 4 [13,10,13,10]=crlf2 from rfl)];rw [List.length_nil];omega
  | cons v vs =>
   have hv:=h v (List.mem_cons_of_mem _ (List.mem_cons_self ..));obtain ⟨c,v',rfl⟩ : ∃ c v',v=c :: v':=by
    cases v with
    | nil=>exact absurd rfl hv.2
    | cons c v'=>exact ⟨c,v',rfl⟩
   have hc:=hv.1 c (List.mem_cons_self ..);have hn:qbc ((c :: v') :: vs)++[13,10]=c :: (v'++13 :: 10 :: (qbc vs++[13,10])):=by rw [qbq,List.append_assoc]; rfl
   have ih:=qrz ((c :: v') :: vs) (i+w.length+2) (by simp) (fun x hx=>h x (List.mem_cons_of_mem _ hx));rw [qdg,if_neg (fun e=>by
    rw [hn] at e;have:=congrArg (fun l=>l[2]?) e;simp only [List.take_succ_cons,crlf2] at this;exact hc.1 (Option.some.inj this)),qdg,if_neg (fun e=>by
    have:=congrArg List.head? e;rw [List.take_succ_cons] at this;have h2:=Option.some.inj this;revert h2; decide),show i+w.length+1+1=i+w.length+2 by omega,ih]
   omega
theorem qu2 (ws:List (List UInt8)) (h0:¬ ws=[]) (h:∀ w ∈ ws,noCL w∧¬ w=[]):qa5 (qbc ws++[13,10])=some (ws.map fun w=>(⟨w.toArray⟩ : ByteArray)):=by
 have e:qbc ws++[13,10]=qbc (ws++[[]]):=by unfold qbc; rw [List.flatMap_append]; rfl
 have h1:=qrz ws 0 h0 h;have h2:qb7 0 (qbc ws++[13,10])=((0+(qbc ws++[13,10]).length:Nat):Int):=by
  rw [h1,List.length_append,List.length_cons,List.length_cons,List.length_nil]; omega
 have h3:=qgt _ 0 h2;unfold qa5 endZ;rw [if_pos ⟨by rw [h2,Nat.zero_add],h3.1⟩,e,qmj (ws++[[]]) (fun w hw=>by
  rcases List.mem_append.1 hw with hw | hw
  · exact (h w hw).1
  · obtain rfl:=List.mem_singleton.1 hw
    exact fun c hc=>absurd hc (by simp)),Option.map_some,List.map_append,List.map_cons,List.map_nil,List.dropLast_concat]
def qes (f:Fld):List UInt8:=f.1.data.toList++[58,32]++f.2.data.toList
theorem qgi:∀ x:List Fld,kz x=qbc (x.map qes)
 | []=>rfl
 | f :: r=>by
  have ih:=qgi r;unfold kz at ih ⊢;rw [List.flatMap_cons,List.map_cons,qbq,← ih];unfold qjl qes
  simp
theorem qx7 {m:ByteArray} (h:tokS m=true):noCL m.data.toList:=fun c hc=>by
 unfold tokS at h;rw [Bool.and_eq_true] at h;have h1:=List.all_eq_true.1 h.1 c hc;constructor
 · rintro rfl; revert h1; decide +kernel
 · rintro rfl; revert h1; decide +kernel
theorem jc3 {m:ByteArray} (h:jx m=true):noCL m.data.toList:=fun c hc=>by
 unfold jx at h;rw [Bool.and_eq_true] at h;have h1:=List.all_eq_true.1 h.1 c hc;constructor
 · rintro rfl; revert h1; decide +kernel
 · rintro rfl; revert h1; decide +kernel
theorem qww {m:ByteArray} (h:visS m=true):noCL m.data.toList:=fun c hc=>by
 unfold visS at h;have h1:=List.all_eq_true.1 h c hc;constructor
 · rintro rfl; revert h1; decide +kernel
 · rintro rfl; revert h1; decide +kernel
def jfq (l:List UInt8):Bool:=l.all fun c=>!(c == 13) && !(c == 10)
theorem qfk {l:List UInt8} (h:jfq l=true):noCL l:=fun c hc=>by
 have:=List.all_eq_true.1 h c hc;simpa using this
theorem qpl {z:Int} (h0:0≤z) (h1:z≤599):noCL (fmtS 10 z).data.toList:=by
 obtain ⟨k,rfl⟩ : ∃ k:Nat,z=k:=⟨z.toNat,by omega⟩;have hk:k<600:=by omega
 have h:∀ m:Fin 600,jfq (fmtS 10 (m.val:Int)).data.toList=true:=by decide +kernel
 exact qfk (h ⟨k,hk⟩)
theorem qvo {s:ByteArray} (h:0<s.size):¬ s.data.toList=[]:=fun e=>by
 have h1:=congrArg List.length e;rw [Array.length_toList,List.length_nil] at h1;have h2:s.data.size=s.size:=rfl;omega
theorem qx0 {f:Fld} (h:fldB f.1 f.2=true):noCL (qes f)∧¬ qes f=[]:=by
 unfold fldB at h;rw [Bool.and_eq_true] at h;have hv:=h.2;unfold valS at hv;rw [Bool.and_eq_true] at hv;refine ⟨((qx7 h.1).app (qfk (by decide))).app (qww hv.1),fun e=>?_⟩;have h1:=congrArg List.length e;unfold qes at h1;simp at h1
theorem qgz:∀ x:List Fld,allB x=true→je (x.map fun f=>(⟨(qes f).toArray⟩ : ByteArray))=some x
 | [],_=>rfl
 | f :: r,h=>by
  have h0:=h;unfold allB at h0;rw [List.all_cons,Bool.and_eq_true] at h0;have hf:=h0.1;unfold fldB at hf;rw [Bool.and_eq_true] at hf;have hp:kr (⟨(qes f).toArray⟩ : ByteArray)=some f:=qzr f.1 f.2 _ hf.1 hf.2 (by show qes f=_; unfold qes; simp);rw [List.map_cons];unfold je;rw [hp];simp only [];rw [qgz r h0.2]; rfl
theorem qqm {x:List Fld} (h:allB x=true):qt (x.map fun f=>(⟨(qes f).toArray⟩ : ByteArray))=if 64<x.length then (3,[]) else (0,x):=by
 unfold qt;rw [List.length_map,qgz x h]
theorem qui {s:ByteArray} {x:List Fld} (hs:noCL s.data.toList) (h0:0<s.size) (hx:allB x=true):qa5 (qa1 s x)=some (s :: x.map fun f=>(⟨(qes f).toArray⟩ : ByteArray)):=by
 have e:qa1 s x=qbc (s.data.toList :: x.map qes)++[13,10]:=by
  rw [qer (by omega) hx,qbq,qgi x]
  simp
 rw [e,qu2 _ (by simp) (fun w hw=>by
  rcases List.mem_cons.1 hw with rfl | hw
  · exact ⟨hs,qvo h0⟩
  · obtain ⟨f,hf,rfl⟩:=List.mem_map.1 hw
    unfold allB at hx;exact qx0 (List.all_eq_true.1 hx f hf)),List.map_cons,List.map_map]
 rfl
theorem qly {m t:ByteArray} {z:Int} (hm:tokS m=true) (ht:jx t=true) (hz:z=0∨z=1):noCL (jd m t z).data.toList∧0<(jd m t z).size:=by
 unfold jd;rw [if_pos ⟨hm,ht,by omega,by omega⟩];refine ⟨?_,by simp only [ByteArray.size_append]; have e1:qkp.size=8:=rfl; omega⟩;rw [jt,jt,jt,jt];exact ((((qx7 hm).app (qfk (by decide))).app (jc3 ht)).app (qfk (by decide))).app (qpl (by omega) (by omega))
theorem qzl {m t:ByteArray} {z:Int} {x:List Fld} (hm:tokS m=true) (ht:jx t=true) (hz:z=0∨z=1) (hx:allB x=true) :
  qa0 (qa1 (jd m t z) x)=if 64<x.length then (3,⟨#[]⟩,⟨#[]⟩,0,[]) else if 1<(qj x hostN).length∨((qj x hostN).length=0∧z=1) then (2,⟨#[]⟩,⟨#[]⟩,0,[]) else (0,m,t,z,x):=by
 obtain ⟨h1,h2⟩:=qly hm ht hz;have h3:=qui h1 h2 hx;have h4:=jca hm ht hz;have h5:=qqm hx;unfold qa0;rw [h3];simp only [];rw [h4];simp only [];rw [h5];by_cases h64:64<x.length
 · simp only [if_pos h64]; rfl
 · simp only [if_neg h64]; rfl
theorem qhm {st z:Int} {r:ByteArray} (h0:100≤st) (h1:st≤599) (hz:z=0∨z=1) (hr:visS r=true):noCL (qad st r z).data.toList:=by
 unfold qad;rw [if_pos ⟨h0,h1,by omega,by omega,hr⟩];rw [jt,jt,jt,jt,jt];exact (((((qfk (by decide):noCL qgf.data.toList).app (qpl (by omega) (by omega))).app (qfk (by decide))).app (qpl (by omega) h1)).app (qfk (by decide))).app (qww hr)
theorem qi4:∀ (l:List ByteArray) (x:List Fld),je l=some x → ∀ f ∈ x,∃ s ∈ l,kr s=some f
 | [],x,h,f,hf=>by
  cases h
  exact absurd hf (by simp)
 | t :: l,x,h,f,hf=>by
  unfold je at h;cases ht:kr t with
  | none=>rw [ht] at h; cases h
  | some g =>
   rw [ht] at h;simp only at h;cases hx:je l with
   | none=>rw [hx] at h; cases h
   | some y =>
    rw [hx] at h;simp only [Option.map_some,Option.some.injEq] at h;subst h;rcases List.mem_cons.1 hf with rfl | hf
    · exact ⟨t,List.mem_cons_self ..,ht⟩
    · obtain ⟨s,h1,h2⟩:=qi4 l y hx f hf
      exact ⟨s,List.mem_cons_of_mem _ h1,h2⟩
theorem qu5 {l:List ByteArray} {f:Fld} (hf:f ∈ (qt l).2):∃ s ∈ l,kr s=some f:=by
 unfold qt at hf
 split at hf
 · exact absurd hf (by simp)
 · cases hx:je l with
   | none=>rw [hx] at hf; exact absurd hf (by simp)
   | some y=>rw [hx] at hf; exact qi4 l y hx f hf
theorem qn7:∀ (N f:Nat) (s:RS) (b:List UInt8),b.length≤N→b.length<f→allC f s b=allC (b.length+1) s b
 | N,0,s,b,_,h=>absurd h (Nat.not_lt_zero _)
 | N,f+1,s,b,hN,h=>by
  unfold allC
  split
  · split
    · rfl
    · split
      · rfl
      · rename_i h0
        split
        · rfl
        · have h0':(endS b 400).2=0:=Decidable.not_not.1 h0
          obtain ⟨n,hn,h1,h2⟩:=qzz h0';rw [hn];show (allC f _ (b.drop (Int.toNat (n:Int)))).add _ _=(allC b.length _ (b.drop (Int.toNat (n:Int)))).add _ _
          rw [Int.toNat_natCast];have hd:(b.drop n).length=b.length-n:=List.length_drop
          match N,hN with
          | 0,hN=>omega
          | N+1,hN=>rw [qn7 N f _ (b.drop n) (by omega) (by omega),qn7 N b.length _ (b.drop n) (by omega) (by omega)]
  · rfl
def CW (s:RS) (b:List UInt8):RW:=allC (b.length+1) s b
theorem jfb {s:RS} {b:List UInt8} (h:¬ s.ph=0):CW s b=qzv s b:=by unfold CW allC; rw [if_neg h]
theorem jeh {s:RS} {b:List UInt8} {n:Nat} (h:s.ph=0) (hE:endS b 400=((n:Int),0)):CW s b=if (qbo s (b.take n) 100).er≠0 then .err (qbo s (b.take n) 100).er else (CW (qbo s (b.take n) 100).r (b.drop n)).add [] n:=by
 have h1:=qxs hE;have hd:(b.drop n).length=b.length-n:=List.length_drop;unfold CW;rw [← qn7 b.length b.length _ (b.drop n) (by omega) (by omega)]
 conv=>lhs; unfold allC
 rw [if_pos h,if_neg (by rw [hE]; show ¬ (0:Int)=4; decide),if_neg (by rw [hE]; exact fun h=>h rfl),hE];show (if (qbo s (b.take (Int.toNat (n:Int))) 100).er≠0 then RW.err (qbo s (b.take (Int.toNat (n:Int))) 100).er else (allC b.length (qbo s (b.take (Int.toNat (n:Int))) 100).r (b.drop (Int.toNat (n:Int)))).add [] (Int.toNat (n:Int)))=_
 rw [Int.toNat_natCast]
def NmS (s:RS):Prop:=(∀ f ∈ s.xs,¬ f.1.size=0) ∧ ∀ f ∈ s.ys,¬ f.1.size=0
theorem qc9:NmS zeroR:=⟨fun f hf=>absurd hf (by simp [zeroR]),fun f hf=>absurd hf (by simp [zeroR])⟩
theorem qw6 {s:ByteArray} {f:Fld} (h:kr s=some f):¬ f.1.size=0:=by
 unfold kr at h
 split at h
 · split at h
   · rename_i hb
     have e:=Option.some.inj h;rw [← e];intro hz;have hb2:tokS (s.extract 0 (qac s).toNat)=true:=by
      cases ht:tokS (s.extract 0 (qac s).toNat) with
      | true=>rfl
      | false=>rw [qq8 ht] at hb; cases hb
     have hz2:(s.extract 0 (qac s).toNat).data.toList=[]:=List.eq_nil_of_length_eq_zero (by simpa using hz);unfold tokS at hb2;rw [hz2] at hb2;exact absurd hb2 (by decide)
   · cases h
 · cases h
theorem qin {l:List ByteArray}:∀ f ∈ (qt l).2,¬ f.1.size=0:=fun f hf=>by
 obtain ⟨s,_,hp⟩:=qu5 hf;exact qw6 hp
theorem qwj (h:List UInt8):∀ f ∈ (qaa h).2.2.2.2,¬ f.1.size=0:=by
 unfold qaa
 split
 · split
   · split
     · exact qin
     · exact fun f hf=>absurd hf (by simp)
   · exact fun f hf=>absurd hf (by simp)
 · exact fun f hf=>absurd hf (by simp)
theorem qu7 (h:List UInt8):∀ f ∈ (qa0 h).2.2.2.2,¬ f.1.size=0:=by
 unfold qa0
 split
 · split
   · split
     · split
       · exact fun f hf=>absurd hf (by simp)
       · exact qin
     · exact fun f hf=>absurd hf (by simp)
   · exact fun f hf=>absurd hf (by simp)
 · exact fun f hf=>absurd hf (by simp)
theorem qoh {x:RS} (h:NmS x) (f:Int × Int × Int) (n:Nat) (body:Int):NmS (finX x f n body).r:=by
 unfold finX
 split
 · exact qc9
 · split
   · exact qc9
   · exact h
theorem qv0 {s:RS} (hs:NmS s) (b:List UInt8) (body room:Int):NmS (qdp s b body room).r:=by
 unfold qdp
 split
 · split
   · exact hs
   · split <;> exact hs
 · split
   · split
     · exact qc9
     · split
       · exact qc9
       · split
         · exact hs
         · split <;> exact hs
   · split
     · exact hs
     · split
       · exact qc9
       · exact hs
theorem qf8 {s:RS} (hs:NmS s) (b:List UInt8) (most body room:Int):NmS (qbg s b most body room).r:=by
 unfold qbg
 split
 · unfold qav
   split
   · exact hs
   · split
     · exact qc9
     · unfold qbo
       split
       · split
         · exact qc9
         · split
           · exact qc9
           · split
             · exact hs
             · refine qoh ?_ _ _ _
               exact ⟨hs.1,qwj _⟩
       · split
         · exact qc9
         · refine qoh ?_ _ _ _
           exact ⟨qu7 _,hs.2⟩
 · split
   · exact qv0 hs b body _
   · exact hs
structure qgw (L:(Nat→Prop) × (Nat→Prop)) (w:World) (s:RS) (fa ga la:Option Addr) (lc:Nat):Prop where
 m:RMem L.1 w s fa ga la lc
 l:∀ y,la=some y→s.ck.line≠[]→L.2 y.block
theorem qgw.keep {L:(Nat→Prop) × (Nat→Prop)} {w w':World} {s:RS} {fa ga la:Option Addr} {lc:Nat} (h:qgw L w s fa ga la lc) (hb:Below w.heap.size w w'):qgw L w' s fa ga la lc:=⟨h.m.keep hb,h.l⟩
def StV (L:(Nat→Prop) × (Nat→Prop)) (s:RS) (w:World) (g:Nat):Prop:=∃ fa fc ga gc la lc,RVr w g (rowR s fa fc ga gc la lc)∧qgw L w s fa ga la lc
def AgS (L:(Nat→Prop) × (Nat→Prop)) (s:RS) (w:World) (v:Value):Prop:=∃ fa fc ga gc la lc,v = .agg (rowR s fa fc ga gc la lc)∧qgw L w s fa ga la lc
def PtV (x:NX) (w:World) (g:Nat):Prop:=∃ pa pc,PVr w g #[.int .i64 x.kind,.slice pa (List.length x.data) pc]∧qg w pa x.data pc
def AgP (x:NX) (w:World) (v:Value):Prop:=∃ pa pc,v = .agg #[.int .i64 x.kind,.slice pa (List.length x.data) pc]∧qg w pa x.data pc
def NxV (L:(Nat→Prop) × (Nat→Prop)) (x:NX) (w:World) (v:Value):Prop:=∃ fa fc ga gc la lc pa pc,v = .tuple #[.agg (rowR x.r fa fc ga gc la lc),.agg #[.int .i64 x.kind,.slice pa (List.length x.data) pc],.int .i64 x.n,.int .i64 x.er]∧qgw L w x.r fa ga la lc∧qg w pa x.data pc
def RNew (N:Nat) (w:World) (v:Value):Prop:=∃ g,v = .pointer (some ⟨g,0,none⟩)∧N≤g∧RVr w g zR
def PNew (N:Nat) (w:World) (v:Value):Prop:=∃ g,v = .pointer (some ⟨g,0,none⟩)∧N≤g∧PVr w g #[.int .i64 0,.slice none 0 0]
def RSt (N:Nat) (L:(Nat→Prop) × (Nat→Prop)) (s:RS) (w:World) (v:Value):Prop:=∃ g,v = .pointer (some ⟨g,0,none⟩)∧N≤g∧StV L s w g
def PSt (N:Nat) (x:NX) (w:World) (v:Value):Prop:=∃ g,v = .pointer (some ⟨g,0,none⟩)∧N≤g∧PtV x w g
theorem StV.keep {L:(Nat→Prop) × (Nat→Prop)} {s:RS} {w w':World} {g:Nat} (h:StV L s w g) (hb:Below w.heap.size w w'):StV L s w' g:=by
 obtain ⟨fa,fc,ga,gc,la,lc,h1,h2⟩:=h;exact ⟨fa,fc,ga,gc,la,lc,h1.keep hb,h2.keep hb⟩
theorem AgS.keep {L:(Nat→Prop) × (Nat→Prop)} {s:RS} {w w':World} {v:Value} (h:AgS L s w v) (hb:Below w.heap.size w w'):AgS L s w' v:=by
 obtain ⟨fa,fc,ga,gc,la,lc,h1,h2⟩:=h;exact ⟨fa,fc,ga,gc,la,lc,h1,h2.keep hb⟩
theorem PtV.keep {x:NX} {w w':World} {g:Nat} (h:PtV x w g) (hb:Below w.heap.size w w'):PtV x w' g:=by
 obtain ⟨pa,pc,h1,h2⟩:=h;exact ⟨pa,pc,h1.keep hb,h2.keep hb⟩
theorem AgP.keep {x:NX} {w w':World} {v:Value} (h:AgP x w v) (hb:Below w.heap.size w w'):AgP x w' v:=by
 obtain ⟨pa,pc,h1,h2⟩:=h;exact ⟨pa,pc,h1,h2.keep hb⟩
theorem NxV.keep {L:(Nat→Prop) × (Nat→Prop)} {x:NX} {w w':World} {v:Value} (h:NxV L x w v) (hb:Below w.heap.size w w'):NxV L x w' v:=by
 obtain ⟨fa,fc,ga,gc,la,lc,pa,pc,h1,h2,h3⟩:=h;exact ⟨fa,fc,ga,gc,la,lc,pa,pc,h1,h2.keep hb,h3.keep hb⟩
theorem StV.lt {L:(Nat→Prop) × (Nat→Prop)} {s:RS} {w:World} {g:Nat} (h:StV L s w g):g<w.heap.size:=by
 obtain ⟨_,_,_,_,_,_,h1,_⟩:=h;exact h1.lt
def Spec.srow (L:(Nat→Prop) × (Nat→Prop)) (s:RS):Spec:=⟨fun v w=>AgS L s w v,fun _ _ _ h hb=>h.keep hb⟩
def Spec.prow (x:NX):Spec:=⟨fun v w=>AgP x w v,fun _ _ _ h hb=>h.keep hb⟩
def Spec.nxt (L:(Nat→Prop) × (Nat→Prop)) (x:NX):Spec:=⟨fun v w=>NxV L x w v,fun _ _ _ h hb=>h.keep hb⟩
def Spec.rnew (N:Nat):Spec:=⟨fun v w=>RNew N w v,fun _ _ _ h hb=>by
 obtain ⟨g,h1,h2,h3⟩:=h;exact ⟨g,h1,h2,h3.keep hb⟩⟩
def Spec.pnew (N:Nat):Spec:=⟨fun v w=>PNew N w v,fun _ _ _ h hb=>by
 obtain ⟨g,h1,h2,h3⟩:=h;exact ⟨g,h1,h2,h3.keep hb⟩⟩
def Spec.rst (N:Nat) (L:(Nat→Prop) × (Nat→Prop)) (s:RS):Spec:=⟨fun v w=>RSt N L s w v,fun _ _ _ h hb=>by
 obtain ⟨g,h1,h2,h3⟩:=h;exact ⟨g,h1,h2,h3.keep hb⟩⟩
def Spec.pst (N:Nat) (x:NX):Spec:=⟨fun v w=>PSt N x w v,fun _ _ _ h hb=>by
 obtain ⟨g,h1,h2,h3⟩:=h;exact ⟨g,h1,h2,h3.keep hb⟩⟩
def qmg (cs:Array Value):Prop:=∀ (i:Nat) (b:ByteArray),cs[i]? = some (.string b)→b.size=0
theorem qql {cs:Array Value} (h:cs.toList.all (fun v=>match v with | .string b=>b.size == 0 | _=>true)=true):qmg cs:=fun i b e=>by
 have h1:=List.all_eq_true.1 h (.string b) (by
  have:cs.toList[i]? = some (.string b):=by rw [Array.getElem?_toList]; exact e
  exact List.mem_of_getElem? this)
 exact eq_of_beq h1
theorem qrf {w:World} {g:Nat} {cs:Array Value} {T:TypeId} {fz:Nat × Nat} (h:w.heap[g]? = some (.cells cs T fz)) (hn:qmg cs) {a:Option Addr} {l:List Fld} (hb:qm w a l) (hl:∀ f ∈ l,¬ f.1.size=0):∀ y,a=some y→l≠[]→y.block≠g:=by
 intro y hy hne hg;have h0:=List.length_pos_iff.2 hne;obtain ⟨x,hx,h5,_⟩:=hb 0 h0;rw [hy] at hx;obtain rfl:=Option.some.inj hx;have h6:w.heap[(y.add (0*2)).block]? = some (.cells cs T fz):=by rw [qgm,hg]; exact h
 unfold World.cell? at h5;rw [h6] at h5;simp only at h5
 split at h5
 · cases h5
 · exact hl l[0] (List.getElem_mem h0) (hn _ _ h5)
theorem RMem.rowZ {P:Nat→Prop} {w:World} {s:RS} {fa ga la:Option Addr} {lc q:Nat} {cs ds:Array Value} {T:TypeId} {fz:Nat × Nat} (h:RMem P w s fa ga la lc) (hm:NmS s) (hr:w.heap[q]? = some (.cells cs T fz)) (hs:qmg cs) (hu:NoU8 cs):RMem P (w.setRow q ds) s fa ga la lc :=
 ⟨qda h.f1 fun y e hx=>setRow_other _ _ _ _ (qrf hr hs h.f1 hm.1 y e hx),qda h.f2 fun y e hx=>setRow_other _ _ _ _ (qrf hr hs h.f2 hm.2 y e hx),jc hr hu h.ln,h.n1,h.n2⟩
theorem qgw.rowL {L:(Nat→Prop) × (Nat→Prop)} {q:Nat} {w:World} {s:RS} {fa ga la:Option Addr} {lc:Nat} {cs ds:Array Value} {T:TypeId} {fz:Nat × Nat} (h:qgw L w s fa ga la lc) (hq:¬ L.1 q) (hr:w.heap[q]? = some (.cells cs T fz)) (hu:NoU8 cs):qgw L (w.setRow q ds) s fa ga la lc :=
 ⟨⟨qda h.m.f1 fun y e hx=>setRow_other _ _ _ _ (fun e2=>hq (e2 ▸ h.m.n1 y e hx)),qda h.m.f2 fun y e hx=>setRow_other _ _ _ _ (fun e2=>hq (e2 ▸ h.m.n2 y e hx)),jc hr hu h.m.ln,h.m.n1,h.m.n2⟩,h.l⟩
theorem qgw.rowZ {L:(Nat→Prop) × (Nat→Prop)} {w:World} {s:RS} {fa ga la:Option Addr} {lc q:Nat} {cs ds:Array Value} {T:TypeId} {fz:Nat × Nat} (h:qgw L w s fa ga la lc) (hm:NmS s) (hr:w.heap[q]? = some (.cells cs T fz)) (hs:qmg cs) (hu:NoU8 cs):qgw L (w.setRow q ds) s fa ga la lc:=⟨h.m.rowZ hm hr hs hu,h.l⟩
theorem qxd {w:World} {g q:Nat} {cs ds:Array Value} (h1:RVr w g cs) (h2:PVr w q ds):g≠q:=fun e=>by
 subst e;unfold RVr at h1;unfold PVr at h2;rw [h1] at h2;injection h2 with h2;injection h2 with a b c;exact absurd b (by decide)
theorem qj8:qmg zR:=qql rfl
theorem qr2:qmg #[.int .i64 0,.slice none 0 0]:=qql rfl
theorem qfq:NoU8 zR:=qw rfl
theorem qqq:NoU8 #[.int .i64 0,.slice none 0 0]:=qw rfl
section
variable {L:(Nat→Prop) × (Nat→Prop)} {N q:Nat} {s:RS} {x:NX} {w:World} {v:Value} {cs ds:Array Value} {T:TypeId} {fz:Nat × Nat}
theorem NxV.rowZ (h:NxV L x w v) (hm:NmS x.r) (hr:w.heap[q]? = some (.cells cs T fz)) (hs:qmg cs) (hu:NoU8 cs):NxV L x (w.setRow q ds) v:=by
 obtain ⟨fa,fc,ga,gc,la,lc,pa,pc,h1,h2,h3⟩:=h;exact ⟨fa,fc,ga,gc,la,lc,pa,pc,h1,h2.rowZ hm hr hs hu,jc hr hu h3⟩
theorem AgP.rowZ (h:AgP x w v) (hr:w.heap[q]? = some (.cells cs T fz)) (hu:NoU8 cs):AgP x (w.setRow q ds) v:=by
 obtain ⟨pa,pc,h1,h2⟩:=h;exact ⟨pa,pc,h1,jc hr hu h2⟩
theorem AgS.rowZ (h:AgS L s w v) (hm:NmS s) (hr:w.heap[q]? = some (.cells cs T fz)) (hs:qmg cs) (hu:NoU8 cs):AgS L s (w.setRow q ds) v:=by
 obtain ⟨fa,fc,ga,gc,la,lc,h1,h2⟩:=h;exact ⟨fa,fc,ga,gc,la,lc,h1,h2.rowZ hm hr hs hu⟩
theorem StV.rowZ {g:Nat} (h:StV L s w g) (hm:NmS s) (hg:g≠q) (hr:w.heap[q]? = some (.cells cs T fz)) (hs:qmg cs) (hu:NoU8 cs):StV L s (w.setRow q ds) g:=by
 obtain ⟨fa,fc,ga,gc,la,lc,h1,h2⟩:=h;exact ⟨fa,fc,ga,gc,la,lc,(setRow_other _ _ _ _ hg).trans h1,h2.rowZ hm hr hs hu⟩
theorem StV.rowL {g:Nat} (h:StV L s w g) (hg:g≠q) (hq:¬ L.1 q) (hr:w.heap[q]? = some (.cells cs T fz)) (hu:NoU8 cs):StV L s (w.setRow q ds) g:=by
 obtain ⟨fa,fc,ga,gc,la,lc,h1,h2⟩:=h;exact ⟨fa,fc,ga,gc,la,lc,(setRow_other _ _ _ _ hg).trans h1,h2.rowL hq hr hu⟩
theorem PtV.rowZ {g:Nat} (h:PtV x w g) (hg:g≠q) (hr:w.heap[q]? = some (.cells cs T fz)) (hu:NoU8 cs):PtV x (w.setRow q ds) g:=by
 obtain ⟨pa,pc,h1,h2⟩:=h;exact ⟨pa,pc,(setRow_other _ _ _ _ hg).trans h1,jc hr hu h2⟩
end
section
variable {Q:Exit→Act→World→Prop} {a:Act} {w:World} {o:Oper} {s:Spec}
theorem qbd {y:Operand} (ho:o.op = .load 37 y) {L:(Nat→Prop) × (Nat→Prop)} {g:Nat} {r:RS} (hy:a.eval y = .pointer (some ⟨g,0,none⟩)) (h:StV L r w g) (hs:∀ v,AgS L r w v→s.p v w) :
  o.wp Tryz.prog a w (fun a' w'=>∃ v,a'=a.put o.dst v∧Below w.heap.size w w'∧s.p v w') Q:=by
 obtain ⟨fa,fc,ga,gc,la,lc,h1,h2⟩:=h;exact kw ho (by rw [hy]; exact qja _ _ _ h1 rfl) (hs _ ⟨fa,fc,ga,gc,la,lc,rfl,h2⟩)
theorem qlv {y:Operand} (ho:o.op = .extract y 0) {L:(Nat→Prop) × (Nat→Prop)} {x:NX} (h:NxV L x w (a.eval y)) (hs:∀ v,AgS L x.r w v→s.p v w) :
  o.wp Tryz.prog a w (fun a' w'=>∃ v,a'=a.put o.dst v∧Below w.heap.size w w'∧s.p v w') Q:=by
 obtain ⟨fa,fc,ga,gc,la,lc,pa,pc,h1,h2,h3⟩:=h;exact qbf ho h1 (hs _ ⟨fa,fc,ga,gc,la,lc,rfl,h2⟩)
theorem qht {y:Operand} (ho:o.op = .extract y 1) {L:(Nat→Prop) × (Nat→Prop)} {x:NX} (h:NxV L x w (a.eval y)) (hs:∀ v,AgP x w v→s.p v w) :
  o.wp Tryz.prog a w (fun a' w'=>∃ v,a'=a.put o.dst v∧Below w.heap.size w w'∧s.p v w') Q:=by
 obtain ⟨fa,fc,ga,gc,la,lc,pa,pc,h1,h2,h3⟩:=h;exact km ho h1 (hs _ ⟨pa,pc,rfl,h3⟩)
theorem qe1 {y:Operand} (ho:o.op = .extract y 2) {L:(Nat→Prop) × (Nat→Prop)} {x:NX} (h:NxV L x w (a.eval y)) (hs:s.p (.int .i64 x.n) w) :
  o.wp Tryz.prog a w (fun a' w'=>∃ v,a'=a.put o.dst v∧Below w.heap.size w w'∧s.p v w') Q:=by
 obtain ⟨fa,fc,ga,gc,la,lc,pa,pc,h1,h2,h3⟩:=h;exact kk ho h1 hs
theorem qdr {y:Operand} (ho:o.op = .extract y 3) {L:(Nat→Prop) × (Nat→Prop)} {x:NX} (h:NxV L x w (a.eval y)) (hs:s.p (.int .i64 x.er) w) :
  o.wp Tryz.prog a w (fun a' w'=>∃ v,a'=a.put o.dst v∧Below w.heap.size w w'∧s.p v w') Q:=by
 obtain ⟨fa,fc,ga,gc,la,lc,pa,pc,h1,h2,h3⟩:=h;exact kj ho h1 hs
theorem qma (ho:o.op = .alloc 37) {N:Nat} (hB:N≤w.heap.size) (hs:∀ v w',RNew N w' v→s.p v w') :
  o.wp Tryz.prog a w (fun a' w'=>∃ v,a'=a.put o.dst v∧Below w.heap.size w w'∧s.p v w') Q:=by
 have hz:(Tryz.prog.info? 37).bind (·.zero)=some (.agg zR):=by kernel_rfl
 refine j0 (v:=.pointer (some ⟨w.heap.size,0,none⟩)) (w':=w.alloc (.cells zR 37)) ?_ (qd _ _) (hs _ _ ⟨_,rfl,hB,heap_alloc_new _ _⟩);cases hq:Tryz.prog.info? 37 with
 | none=>rw [hq] at hz; cases hz
 | some i =>
  rw [hq] at hz;simp only [Option.bind_some] at hz;unfold execOp;simp [ho,Instr.alloc,zeroValue,typeInfo,hq,hz,newRow,newVar,Value.cells]
theorem qn8 (ho:o.op = .alloc 41) {N:Nat} (hB:N≤w.heap.size) (hs:∀ v w',PNew N w' v→s.p v w') :
  o.wp Tryz.prog a w (fun a' w'=>∃ v,a'=a.put o.dst v∧Below w.heap.size w w'∧s.p v w') Q:=by
 have hz:(Tryz.prog.info? 41).bind (·.zero)=some (.agg #[.int .i64 0,.slice none 0 0]):=by kernel_rfl
 refine j0 (v:=.pointer (some ⟨w.heap.size,0,none⟩)) (w':=w.alloc (.cells #[.int .i64 0,.slice none 0 0] 41)) ?_ (qd _ _) (hs _ _ ⟨_,rfl,hB,heap_alloc_new _ _⟩);cases hq:Tryz.prog.info? 41 with
 | none=>rw [hq] at hz; cases hz
 | some i =>
  rw [hq] at hz;simp only [Option.bind_some] at hz;unfold execOp;simp [ho,Instr.alloc,zeroValue,typeInfo,hq,hz,newRow,newVar,Value.cells]
theorem qj4 {y1 y2 y3 y4 y5:Operand} {ts:Array TypeId} (ho:o.op = .call { callee:=.value (.func 8),args:=#[y1,y2,y3,y4,y5],argTypes:=ts }) {L:(Nat→Prop) × (Nat→Prop)} {r:RS} {l:List UInt8} {most body room:Int} {mm:Int} (hok:HdOk w mm) (h1:AgS L r w (a.eval y1)) (h2:qcf w (a.eval y2) l) (h3:a.eval y3 = .int .i64 most) (h4:a.eval y4 = .int .i64 body) (h5:a.eval y5 = .int .i64 room)
  (hl:l.length≤1000000) (hr:OkN body r) (hb0:0≤body∧body≤1000000000) (hr0:-1000000000≤room∧room≤1000000000) (hL:∀ k,w.heap.size≤k→L.1 k∧L.2 k) (hs:∀ v w',NxV L (qbg r l most body room) w' v→s.p v w') :
  o.wp Tryz.prog a w (fun a' w'=>∃ v,a'=a.put o.dst v∧Below w.heap.size w w'∧s.p v w') Q:=by
 obtain ⟨fa,fc,ga,gc,la,lc,e1,hm⟩:=h1;obtain ⟨ba,bc,e2,hb⟩:=h2;refine jz (args:=[y1,y2,y3,y4,y5]) ho (by kernel_rfl) ?_;show Calls _ _ #[a.eval y1,a.eval y2,a.eval y3,a.eval y4,a.eval y5] _ _
 rw [e1,e2,h3,h4,h5];refine (qhz L.1 r l most body room ba bc fa ga la fc gc lc w mm hb hl hm.m hok hr hb0 hr0 (fun k hk=>(hL k hk).1)).mono ?_;rintro e w' ⟨fa',fc',ga',gc',la',lc',pa,pc,he,hm',hlf,hd,hbb⟩;exact ⟨_,he,hbb,hs _ _ ⟨fa',fc',ga',gc',la',lc',pa,pc,rfl,⟨hm',fun y e hx=>(hL _ (hlf y e hx)).2⟩,hd⟩⟩
theorem qyy {y1 y2 y3 y4 y5:Operand} {ts:Array TypeId} (ho:o.op = .call { callee:=.value (.func 9),args:=#[y1,y2,y3,y4,y5],argTypes:=ts }) {L:(Nat→Prop) × (Nat→Prop)} {r:RS} {l:List UInt8} {most body room:Int} (hLt:∀ k,L.2 k) (h1:AgS L r w (a.eval y1)) (h2:qcf w (a.eval y2) l) (h3:a.eval y3 = .int .i64 most) (h4:a.eval y4 = .int .i64 body) (h5:a.eval y5 = .int .i64 room)
  (hl:l.length≤1000000) (hr:OkN body r) (hb0:0≤body∧body≤1000000000) (hr0:-1000000000≤room∧room≤1000000000) (hL:∀ k,w.heap.size≤k→L.1 k∧L.2 k) (hs:∀ v w',NxV L (qbg r l most body room) w' v→s.p v w') :
  o.wp Tryz.prog a w (fun a' w'=>∃ v,a'=a.put o.dst v∧Below w.heap.size w w'∧s.p v w') Q:=by
 obtain ⟨fa,fc,ga,gc,la,lc,e1,hm⟩:=h1;obtain ⟨ba,bc,e2,hb⟩:=h2;refine jz (args:=[y1,y2,y3,y4,y5]) ho (by kernel_rfl) ?_;show Calls _ _ #[a.eval y1,a.eval y2,a.eval y3,a.eval y4,a.eval y5] _ _
 rw [e1,e2,h3,h4,h5];refine (qul L.1 r l most body room ba bc fa ga la fc gc lc w hb hl hm.m hr.ok hb0 hr0 (fun k hk=>(hL k hk).1)).mono ?_;rintro e w' ⟨fa',fc',ga',gc',la',lc',pa,pc,he,hm',hd,hbb⟩;exact ⟨_,he,hbb,hs _ _ ⟨fa',fc',ga',gc',la',lc',pa,pc,rfl,⟨hm',fun y _ _=>hLt _⟩,hd⟩⟩
theorem qp3 {K:Act→World→Prop} {y z:Operand} (ho:o.op = .store 37 y z) {N:Nat} {L:(Nat→Prop) × (Nat→Prop)} {r:RS} (h1:RNew N w (a.eval y)) (h2:AgS L r w (a.eval z)) (hm:NmS r) (hK:∀ g cs,a.eval y = .pointer (some ⟨g,0,none⟩)→N≤g→RVr w g zR→RSt N L r (w.setRow g cs) (a.eval y)→K (a.put o.dst undef) (w.setRow g cs)):o.wp Tryz.prog a w K Q:=by
 obtain ⟨g,e1,hN,hg⟩:=h1;obtain ⟨fa,fc,ga,gc,la,lc,e2,h3⟩:=h2;refine wp_store_row 37 _ _ ho g (rowR r fa fc ga gc la lc) e1 e2 37 _ hg jw rfl (qbl ..) ?_;refine hK g _ e1 hN hg ?_;rw [e1];exact ⟨g,rfl,hN,fa,fc,ga,gc,la,lc,setRow_heap _ _ _ _ _ _ hg,h3.rowZ hm hg qj8 qfq⟩
theorem qo1 {K:Act→World→Prop} {y z:Operand} (ho:o.op = .store 41 y z) {N:Nat} {x:NX} (h1:PNew N w (a.eval y)) (h2:AgP x w (a.eval z)) (hK:∀ g cs,a.eval y = .pointer (some ⟨g,0,none⟩)→N≤g→PVr w g #[.int .i64 0,.slice none 0 0]→PSt N x (w.setRow g cs) (a.eval y)→K (a.put o.dst undef) (w.setRow g cs)):o.wp Tryz.prog a w K Q:=by
 obtain ⟨g,e1,hN,hg⟩:=h1;obtain ⟨pa,pc,e2,h3⟩:=h2;refine wp_store_row 41 _ _ ho g #[.int .i64 x.kind,.slice pa (List.length x.data) pc] e1 e2 41 _ hg j1 rfl (qap ..) ?_;refine hK g _ e1 hN hg ?_;rw [e1];exact ⟨g,rfl,hN,pa,pc,setRow_heap _ _ _ _ _ _ hg,jc hg qqq h3⟩
theorem qjy {K:Act→World→Prop} {y z:Operand} (ho:o.op = .store 37 y z) {L:(Nat→Prop) × (Nat→Prop)} {g:Nat} {r r0:RS} (h1:a.eval y = .pointer (some ⟨g,0,none⟩)) (h0:StV L r0 w g) (hg:¬ L.1 g) (h2:AgS L r w (a.eval z)) (hK:∀ cs ds,RVr w g ds→NoU8 ds→StV L r (w.setRow g cs) g→K (a.put o.dst undef) (w.setRow g cs)):o.wp Tryz.prog a w K Q:=by
 obtain ⟨fa0,fc0,ga0,gc0,la0,lc0,hr0,_⟩:=h0;obtain ⟨fa,fc,ga,gc,la,lc,e2,h3⟩:=h2;refine wp_store_row 37 _ _ ho g (rowR r fa fc ga gc la lc) h1 e2 37 _ hr0 jw rfl (qbl ..) ?_;exact hK _ _ hr0 (qw rfl) ⟨fa,fc,ga,gc,la,lc,setRow_heap _ _ _ _ _ _ hr0,h3.rowL hg hr0 (qw rfl)⟩
end
end Go.Proofs.YtflhjpokjdjbpaaGreatDoor
namespace Go.Proofs.YtflhjpokjdjbpaaGreatDoor
open Go.RowKit
set_option linter.unusedVariables false
def akR:List UInt8:=[80,79,83,84,32,47,32,72,84,84,80,47,49,46,49,13,10,72,111,115,116,58,32,97,13,10,67,111,110,116,101,110,116,45,76,101,110,103,116,104,58,32,51,13,10,13,10,97,98,99,71,69,84]
def ak1:NX:=qbg zeroR akR 100 10 10
def ak2:NX:=qbg ak1.r (akR.drop 47) 100 10 10
def ak3:NX:=qbg ak2.r (akR.drop 50) 100 10 10
theorem jbm:ak1.er=0∧ak1.kind=1∧ak1.n=47∧ak1.r.fr=true:=by decide +kernel
theorem jbb:ak2.er=0∧ak2.kind=2∧ak2.n=3∧ak2.data=[97,98,99]:=by decide +kernel
theorem jer:ak3.er=0∧ak3.kind=3∧ak3.n=0:=by decide +kernel
theorem qwx:OkN 10 zeroR:=⟨jaw,.inl rfl,fun h=>absurd h (by decide),fun h=>absurd h (by decide),fun h=>absurd h (by decide),fun h=>absurd h (by decide)⟩
theorem jdy:OkN 10 ak1.r:=(ql6 (by decide) (by decide) qwx jbm.1).1
theorem jfm:OkN 10 ak2.r:=(ql6 (by decide) (by decide) jdy jbb.1).1
theorem jfo:NmS ak1.r:=qf8 qc9 _ _ _ _
theorem qxb:NmS ak2.r:=qf8 jfo _ _ _ _
theorem jeb:NmS ak3.r:=qf8 qxb _ _ _ _
section
variable {L:(Nat→Prop) × (Nat→Prop)} {N q:Nat} {s:RS} {x:NX} {w:World} {v:Value} {cs ds:Array Value} {T:TypeId} {fz:Nat × Nat}
theorem NxV.rowL (h:NxV L x w v) (hq:¬ L.1 q) (hr:w.heap[q]? = some (.cells cs T fz)) (hu:NoU8 cs):NxV L x (w.setRow q ds) v:=by
 obtain ⟨fa,fc,ga,gc,la,lc,pa,pc,h1,h2,h3⟩:=h;exact ⟨fa,fc,ga,gc,la,lc,pa,pc,h1,h2.rowL hq hr hu,jc hr hu h3⟩
theorem AgS.rowL (h:AgS L s w v) (hq:¬ L.1 q) (hr:w.heap[q]? = some (.cells cs T fz)) (hu:NoU8 cs):AgS L s (w.setRow q ds) v:=by
 obtain ⟨fa,fc,ga,gc,la,lc,h1,h2⟩:=h;exact ⟨fa,fc,ga,gc,la,lc,h1,h2.rowL hq hr hu⟩
theorem qxx (k:Int) (a:Option Addr) (n c:Nat):qmg #[.int .i64 k,.slice a n c]:=qql rfl
theorem qsp (k:Int) (a:Option Addr) (n c:Nat):NoU8 #[.int .i64 k,.slice a n c]:=qw rfl
end
theorem qoq {a:Act} {w:World} {o:Oper} {Q:Exit→Act→World→Prop} {K:Act→World→Prop} {y z:Operand} (ho:o.op = .store 41 y z) {g:Nat} {x x0:NX} (h1:a.eval y = .pointer (some ⟨g,0,none⟩)) (h0:PtV x0 w g) (h2:AgP x w (a.eval z)) (hK:∀ cs ds,PVr w g ds→NoU8 ds→qmg ds→PtV x (w.setRow g cs) g→K (a.put o.dst undef) (w.setRow g cs)):o.wp Tryz.prog a w K Q:=by
 obtain ⟨pa0,pc0,hr0,_⟩:=h0;obtain ⟨pa,pc,e2,h3⟩:=h2;refine wp_store_row 41 _ _ ho g #[.int .i64 x.kind,.slice pa (List.length x.data) pc] h1 e2 41 _ hr0 j1 rfl (qap ..) ?_;exact hK _ _ hr0 (qsp _ _ _ _) (qxx _ _ _ _) ⟨pa,pc,setRow_heap _ _ _ _ _ _ hr0,jc hr0 (qsp _ _ _ _) h3⟩
structure AwJ (w:World) (g2 g3:Nat) (s:RS) (y:NX) (W:World):Prop where
 st:StV (fun k=>k≠g2,fun _=>True) s W g2
 pt:PtV y W g3
 bt:qg W (some ⟨w.heap.size,0,none⟩) akR 53
 bl:Below w.heap.size w W
 ne:g3≠g2∧w.heap.size≤g2∧w.heap.size≤g3∧g2<W.heap.size∧g3<W.heap.size
theorem AwJ.keep {w:World} {g2 g3:Nat} {s:RS} {y:NX} {W W':World} (h:AwJ w g2 g3 s y W) (hb:Below W.heap.size W W'):AwJ w g2 g3 s y W' :=
 ⟨h.st.keep hb,h.pt.keep hb,h.bt.keep hb,qe h.bl hb,h.ne.1,h.ne.2.1,h.ne.2.2.1,Nat.lt_of_lt_of_le h.ne.2.2.2.1 hb.size,Nat.lt_of_lt_of_le h.ne.2.2.2.2 hb.size⟩
theorem qol (mm:Int) (w:World) (hm:HdOk w mm):Calls Tryz.prog 13 #[] w fun e w'=>e = .returned (.bool true)∧Below w.heap.size w w':=by
 have kc:=fun (w:World) (C:Array Value) (n c:Nat)=>Lib.run_convert_bytes_const (P:=Tryz.prog) w 23 5 C n c Tryz.underlying23 Tryz.underlying5;have HM:=Box.mk hm;clear hm;go_enter Tryz.func13,Tryz.ntmps13
 go_wp2_with fail;clear kc;obtain ⟨W1,hW1⟩ : ∃ W1,W1=w.alloc (.cells (j9 akR).toArray 5 (53,54)):=⟨_,rfl⟩;have HB1:=Box.mk (show Below w.heap.size w W1 by rw [hW1]; exact qd w _);have HBY:=Box.mk (show qg W1 (some ⟨w.heap.size,0,none⟩) akR 53 by rw [hW1]; exact qo4 (heap_alloc_new w (.cells (j9 akR).toArray 5 (53,54))) (by decide));change Calls _ _ _ (w.alloc (.cells (j9 akR).toArray 5 (53,54))) _;rw [← hW1];clear hW1;refine (qgx W1).mono ?_;rintro e w2 ⟨rfl,hb2⟩;have HBY2:=Box.mk (HBY.out.keep hb2);have HB2:=Box.mk (qe HB1.out hb2);clear hb2 HBY HB1;have HC:=Box.mk (show Calls Tryz.prog 8 #[.agg zR,.slice (some ⟨w.heap.size,0,none⟩) 53 53,.int .i64 100,.int .i64 10,.int .i64 10] w2 (RetX (fun _=>True) w2 ak1) from qs7 (fun _=>True) zeroR akR 100 10 10 (some ⟨w.heap.size,0,none⟩) 53 none none none 0 0 0 w2 mm HBY2.out (by decide) ⟨qm.nil _ _,qm.nil _ _,.inl ⟨rfl,rfl,rfl⟩,(fun y e=>by cases e),(fun y e=>by cases e)⟩ (HM.out.keep HB2.out) qwx (by decide) (by decide) (fun _ _=>trivial));go_wp2_with fail;refine HC.out.mono ?_;rintro e w3 ⟨f4,c4,g4,d4,l4,e4,pa,pc,he,hm3,hd3,hb3⟩;obtain ⟨cr,hcr⟩ : ∃ cr:Array Value,cr=(rowR ak1.r f4 c4 g4 d4 l4 e4):=⟨_,rfl⟩;obtain ⟨pr,hpr⟩ : ∃ pr:Array Value,pr=#[.int .i64 ak1.kind,.slice pa (List.length ak1.data) pc]:=⟨_,rfl⟩;rw [← hcr,← hpr,jbm.1,jbm.2.2.1] at he;subst he;have HCR:=Box.mk hcr;have HPR:=Box.mk hpr;have hcr22:cr.size=22:=by rw [hcr]; rfl
 have hcr1:cr.all (·.oneCell')=true:=by rw [hcr]; exact qbl ..
 have hpr2:pr.size=2:=by rw [hpr]; rfl
 have hpr1:pr.all (·.oneCell')=true:=by rw [hpr]; exact qap ..
 have HSR:=Box.mk (show (Tryz.prog.info? 37).map (·.size)=some cr.size by rw [hcr22]; exact jw);have HSP:=Box.mk (show (Tryz.prog.info? 41).map (·.size)=some pr.size by rw [hpr2]; exact j1);have HB3:=Box.mk (qe HB2.out hb3);have HBY3:=Box.mk (HBY2.out.keep hb3);have HR3:=Box.mk hm3;have HD3:=Box.mk hd3;have hw3:=HB3.out.size;clear hcr hpr hm3 hd3 hb3 HC HB2 HBY2;obtain ⟨W4,hW4⟩ : ∃ W4,W4=(w3.alloc (.cells zR 37)).alloc (.cells #[.int .i64 0,.slice none 0 0] 41):=⟨_,rfl⟩;have HV2:=Box.mk (show RVr W4 w3.heap.size zR by rw [hW4]; exact RVr.keep (heap_alloc_new w3 (.cells zR 37)) (qd _ _));have HV3:=Box.mk (show PVr W4 (w3.heap.size+1) #[.int .i64 0,.slice none 0 0] by
  have h:=heap_alloc_new (w3.alloc (.cells zR 37)) (.cells #[.int .i64 0,.slice none 0 0] 41);rw [World.size_alloc] at h;rw [hW4]; exact h)
 have HB4:=Box.mk (show Below w3.heap.size w3 W4 by rw [hW4]; exact qk (qd _ _) _);have HV3b:=Box.mk (show PVr (W4.setRow w3.heap.size cr) (w3.heap.size+1) #[.int .i64 0,.slice none 0 0] from (setRow_other _ _ _ _ (by omega)).trans HV3.out);rw [hW4] at HV2 HV3b;go_upto_region 3 with (first | refine wpList_store_row rfl 37 _ _ rfl w3.heap.size cr rfl rfl 37 _ HV2.out HSR.out (by rw [hcr22]; rfl) hcr1 ?_ | refine wpList_store_row rfl 41 _ _ rfl (w3.heap.size+1) pr rfl rfl 41 _ HV3b.out HSP.out (by rw [hpr2]; rfl) hpr1 ?_)
 rw [← hW4] at HV2 HV3b;rw [← hW4];clear hW4;obtain ⟨g2,hg2⟩ : ∃ g2,g2=w3.heap.size:=⟨_,rfl⟩;obtain ⟨g3,hg3⟩ : ∃ g3,g3=w3.heap.size+1:=⟨_,rfl⟩;obtain ⟨W5,hW5⟩ : ∃ W5,W5=(W4.setRow w3.heap.size cr).setRow (w3.heap.size+1) pr:=⟨_,rfl⟩;have hR5:RVr W5 g2 (rowR ak1.r f4 c4 g4 d4 l4 e4):=by rw [hW5,hg2,← HCR.out]; exact (setRow_other _ _ _ _ (by omega)).trans (setRow_heap _ _ _ _ _ _ HV2.out)
 have hP5:PVr W5 g3 #[.int .i64 ak1.kind,.slice pa (List.length ak1.data) pc]:=by rw [hW5,hg3,← HPR.out]; exact setRow_heap _ _ _ _ _ _ HV3b.out
 have hb35:Below w3.heap.size w3 W5:=by rw [hW5]; exact below_setRow (below_setRow HB4.out (Nat.le_refl _) _) (by omega) _
 have hm5:=HR3.out.keep hb35;have HJ:=Box.mk (show AwJ w g2 g3 ak1.r ak1 W5 from ⟨⟨f4,c4,g4,d4,l4,e4,hR5,⟨hm5.f1,hm5.f2,hm5.ln,fun y e hx=>by have:=HR3.out.f1.old e hx; show y.block≠g2; omega,fun y e hx=>by have:=HR3.out.f2.old e hx; show y.block≠g2; omega⟩,fun _ _ _=>trivial⟩,⟨pa,pc,hP5,HD3.out.keep hb35⟩,HBY3.out.keep hb35,qe HB3.out hb35,by omega,by omega,by omega,hR5.lt,(Array.getElem?_eq_some_iff.1 hP5).1⟩);have hk0:W5.cell? ⟨g3,0,none⟩=some (.int .i64 1):=by rw [cell_of_row _ _ _ _ _ _ hP5]; show some (Value.int .i64 ak1.kind)=_; rw [jbm.2.1]
 have hk7:W5.cell? ⟨g2,7,none⟩=some (.bool true):=by rw [RVr.cell hR5]; show some (Value.bool ak1.r.fr)=_; rw [jbm.2.2.2]
 rw [← hg3];rw [← hg3] at hW5;rw [← hg2];rw [← hg2] at hW5;rw [← hW5];clear hW5 hR5 hP5 hb35 hm5 HV2 HV3 HV3b HB4 HCR HPR HSR HSP hcr1 hpr1 hcr22 hpr2 HB3 HBY3 HR3 HD3 hg2 hg3 hw3;go_wp2_with fail;rename_i K hK;clear hk0 hk7;refine qz [9,10] (fun p=>match p with | 0=>[0,1,2,3,4,5,6,7,8] | 1=>[6,7,8] | _=>[7,8,11,12])
  (fun p=>match p with | 0=>[.srow (fun k=>k≠g2,fun _=>True) ak1.r,.val (.slice (some ⟨w.heap.size,0,none⟩) 53 53),.bytes (akR.drop 47),.nxt (fun k=>k≠g2,fun _=>True) ak2,.nxt (fun k=>k≠g2,fun _=>True) ak2,.srow (fun k=>k≠g2,fun _=>True) ak2.r,.prow ak2,.val (.int .i64 (ak2.n:Int)),.val (.int .i64 ak2.er),.any,.any,.nope,.nope] | 1=>[.any,.any,.any,.any,.nxt (fun k=>k≠g2,fun _=>True) ak2,.any,.prow ak2,.val (.int .i64 (ak2.n:Int)),.val (.int .i64 ak2.er),.any,.any,.nope,.nope] | _=>[.any,.any,.any,.any,.nxt (fun k=>k≠g2,fun _=>True) ak2,.any,.any,.val (.int .i64 (ak2.n:Int)),.val (.int .i64 ak2.er),.any,.any,.val (.int .i64 (ak2.n:Int)),.val (.int .i64 ak2.er)])
  (fun p=>match p with | 0=>AwJ w g2 g3 ak1.r ak1 | 1=>AwJ w g2 g3 ak2.r ak1 | _=>AwJ w g2 g3 ak2.r ak2)
  (by kernel_rfl) (by kernel_rfl) (by kernel_rfl) (by kernel_rfl) (by kernel_rfl) (by kernel_rfl) ?_ HJ.out ?_ ?_ ?_
 · intro p wa wb h hb
   match p,h with
   | 0,h=>exact AwJ.keep h hb
   | 1,h=>exact AwJ.keep h hb
   | (_+2),h=>exact AwJ.keep h hb
 · intro p hp
   match p,hp with
   | 0,_ =>
    refine ⟨?_,?_,?_,?_,?_,?_,?_,?_,?_,trivial⟩ <;> intro a1 wx hv hf hd
    · exact ⟨qb rfl,qbd rfl (hf.base 2 rfl) hv.st fun v h=>h⟩
    · exact ⟨qb rfl,qi rfl (hf.base 1 rfl)⟩
    · exact ⟨qb rfl,qgq rfl (l:=akR) (i:=47) ⟨_,_,hd 1 rfl,hv.bt⟩ rfl (by decide) fun v h=>h⟩
    · exact ⟨qb rfl,qj4 rfl (HM.out.keep hv.bl) (hd 0 rfl) (hd 2 rfl) rfl rfl rfl (by decide) jdy (by decide) (by decide) (fun k hk=>⟨by have:=hv.ne.2.2.2.1; show k≠g2; omega,trivial⟩) fun v w' h=>h⟩
    · exact ⟨qb rfl,qi rfl (hd 3 rfl)⟩
    · exact ⟨qb rfl,qlv rfl (hd 4 rfl) fun v h=>h⟩
    · exact ⟨qb rfl,qht rfl (hd 4 rfl) fun v h=>h⟩
    · exact ⟨qb rfl,qe1 rfl (hd 4 rfl) rfl⟩
    · exact ⟨qb rfl,qdr rfl (hd 4 rfl) rfl⟩
   | 1,_ =>
    refine ⟨?_,?_,?_,trivial⟩ <;> intro a1 wx hv hf hd
    · exact ⟨qb rfl,qht rfl (hd 4 rfl) fun v h=>h⟩
    · exact ⟨qb rfl,qe1 rfl (hd 4 rfl) rfl⟩
    · exact ⟨qb rfl,qdr rfl (hd 4 rfl) rfl⟩
   | 2,_ =>
    refine ⟨?_,?_,?_,?_,trivial⟩ <;> intro a1 wx hv hf hd
    · exact ⟨qb rfl,qe1 rfl (hd 4 rfl) rfl⟩
    · exact ⟨qb rfl,qdr rfl (hd 4 rfl) rfl⟩
    · exact ⟨qb rfl,qr rfl (hd 7 rfl)⟩
    · exact ⟨qb rfl,qr rfl (hd 8 rfl)⟩
 · intro p hp
   match p,hp with
   | 0,_ =>
    intro a2 wx hv hf hd;refine ⟨qb rfl,qjy rfl (hf.base 2 rfl) hv.st (fun e=>e rfl) (hd 5 rfl) fun cs ds hr hu hst=>?_⟩;have hsz:(wx.setRow g2 cs).heap.size=wx.heap.size:=by simp [World.setRow]
    exact ⟨undef,rfl,⟨hst,hv.pt.rowZ hv.ne.1 hr hu,jc hr hu hv.bt,below_setRow hv.bl hv.ne.2.1 _,hv.ne.1,hv.ne.2.1,hv.ne.2.2.1,by rw [hsz]; exact hv.ne.2.2.2.1,by rw [hsz]; exact hv.ne.2.2.2.2⟩,trivial,⟨.inr fun _ _ _=>trivial,.inr fun _ _ _=>trivial,.inr fun _ _ _=>trivial,.inr fun _ _ _=>trivial,.inr fun _ _ h=>NxV.rowL h (fun e=>e rfl) hr hu,.inr fun _ _ _=>trivial,.inr fun _ _ h=>AgP.rowZ h hr hu,.inr fun _ _ h=>h,.inr fun _ _ h=>h,.inl rfl,.inr fun _ _ _=>trivial,.inr fun _ _ h=>h.elim,.inr fun _ _ h=>h.elim,trivial⟩⟩
   | 1,_ =>
    intro a2 wx hv hf hd;refine ⟨qb rfl,qoq rfl (hf.base 3 rfl) hv.pt (hd 6 rfl) fun cs ds hr hu hs hpt=>?_⟩;have hsz:(wx.setRow g3 cs).heap.size=wx.heap.size:=by simp [World.setRow]
    exact ⟨undef,rfl,⟨hv.st.rowZ qxb (fun e=>hv.ne.1 e.symm) hr hs hu,hpt,jc hr hu hv.bt,below_setRow hv.bl hv.ne.2.2.1 _,hv.ne.1,hv.ne.2.1,hv.ne.2.2.1,by rw [hsz]; exact hv.ne.2.2.2.1,by rw [hsz]; exact hv.ne.2.2.2.2⟩,trivial,⟨.inr fun _ _ _=>trivial,.inr fun _ _ _=>trivial,.inr fun _ _ _=>trivial,.inr fun _ _ _=>trivial,.inr fun _ _ h=>NxV.rowZ h qxb hr hs hu,.inr fun _ _ _=>trivial,.inr fun _ _ _=>trivial,.inr fun _ _ h=>h,.inr fun _ _ h=>h,.inr fun _ _ _=>trivial,.inl rfl,.inr fun _ _ h=>h.elim,.inr fun _ _ h=>h.elim,trivial⟩⟩
 · intro a2 w9 hv hf hh
   have e4:a2.eval (.tmp 4) = .int .i64 (ak2.n:Int):=hh 11 (by decide);have e5:a2.eval (.tmp 5) = .int .i64 ak2.er:=hh 12 (by decide);clear hh;rw [jl hf];clear hf;simp only [kg,e4,e5];generalize a2.eval (.tmp 34)=u34;generalize a2.eval (.tmp 35)=u35;generalize a2.eval (.tmp 36)=u36;generalize a2.eval (.tmp 37)=u37;generalize a2.eval (.tmp 33)=u33;generalize a2.eval (.tmp 38)=u38;generalize a2.eval (.tmp 39)=u39;generalize a2.eval (.tmp 40)=u40;generalize a2.eval (.tmp 41)=u41;clear e4 e5 a2;simp only [Act.put,List.setIfInBounds_toArray,List.set_cons_succ,List.set_cons_zero];rw [jbb.1,jbb.2.2.1];refine hK _ _ ?_;clear hK;obtain ⟨pa,pc,hp,hd⟩:=hv.pt;have hk0:w9.cell? ⟨g3,0,none⟩=some (.int .i64 2):=by rw [cell_of_row _ _ _ _ _ _ hp]; show some (Value.int .i64 ak2.kind)=_; rw [jbb.2.1]
   have hk1:w9.cell? ⟨g3,1,none⟩=some (.slice pa (List.length ak2.data) pc):=by rw [cell_of_row _ _ _ _ _ _ hp]; rfl
   have hcv:=jr hd;rw [show (⟨ak2.data.toArray⟩ : ByteArray)=⟨#[97,98,99]⟩ by rw [jbb.2.2.2]] at hcv;have HV:=Box.mk hv;clear hv hp hd;go_wp2_with fail;rename_i K hK;clear hk0 hk1 hcv;refine qz [9] (fun p=>match p with | 0=>[0,1,2,3,4,5,6,7,8] | _=>[5,7,8,10,11])
    (fun p=>match p with | 0=>[.srow (fun k=>k≠g2,fun _=>True) ak2.r,.val (.slice (some ⟨w.heap.size,0,none⟩) 53 53),.bytes (akR.drop 50),.nxt (fun k=>k≠g2,fun _=>True) ak3,.nxt (fun k=>k≠g2,fun _=>True) ak3,.srow (fun k=>k≠g2,fun _=>True) ak3.r,.prow ak3,.val (.int .i64 (ak3.n:Int)),.val (.int .i64 ak3.er),.any,.nope,.nope] | _=>[.any,.any,.any,.any,.nxt (fun k=>k≠g2,fun _=>True) ak3,.srow (fun k=>k≠g2,fun _=>True) ak3.r,.any,.val (.int .i64 (ak3.n:Int)),.val (.int .i64 ak3.er),.any,.val (.int .i64 (ak3.n:Int)),.val (.int .i64 ak3.er)])
    (fun p=>match p with | 0=>AwJ w g2 g3 ak2.r ak2 | _=>AwJ w g2 g3 ak2.r ak3)
    (by kernel_rfl) (by kernel_rfl) (by kernel_rfl) (by kernel_rfl) (by kernel_rfl) (by kernel_rfl) ?_ HV.out ?_ ?_ ?_
   · intro p wa wb h hb
     match p,h with
     | 0,h=>exact AwJ.keep h hb
     | (_+1),h=>exact AwJ.keep h hb
   · intro p hp
     match p,hp with
     | 0,_ =>
      refine ⟨?_,?_,?_,?_,?_,?_,?_,?_,?_,trivial⟩ <;> intro a1 wx hv hf hd
      · exact ⟨qb rfl,qbd rfl (hf.base 2 rfl) hv.st fun v h=>h⟩
      · exact ⟨qb rfl,qi rfl (hf.base 1 rfl)⟩
      · exact ⟨qb rfl,qgq rfl (l:=akR) (i:=50) ⟨_,_,hd 1 rfl,hv.bt⟩ rfl (by decide) fun v h=>h⟩
      · exact ⟨qb rfl,qj4 rfl (HM.out.keep hv.bl) (hd 0 rfl) (hd 2 rfl) rfl rfl rfl (by decide) jfm (by decide) (by decide) (fun k hk=>⟨by have:=hv.ne.2.2.2.1; show k≠g2; omega,trivial⟩) fun v w' h=>h⟩
      · exact ⟨qb rfl,qi rfl (hd 3 rfl)⟩
      · exact ⟨qb rfl,qlv rfl (hd 4 rfl) fun v h=>h⟩
      · exact ⟨qb rfl,qht rfl (hd 4 rfl) fun v h=>h⟩
      · exact ⟨qb rfl,qe1 rfl (hd 4 rfl) rfl⟩
      · exact ⟨qb rfl,qdr rfl (hd 4 rfl) rfl⟩
     | 1,_ =>
      refine ⟨?_,?_,?_,?_,?_,trivial⟩ <;> intro a1 wx hv hf hd
      · exact ⟨qb rfl,qlv rfl (hd 4 rfl) fun v h=>h⟩
      · exact ⟨qb rfl,qe1 rfl (hd 4 rfl) rfl⟩
      · exact ⟨qb rfl,qdr rfl (hd 4 rfl) rfl⟩
      · exact ⟨qb rfl,qr rfl (hd 7 rfl)⟩
      · exact ⟨qb rfl,qr rfl (hd 8 rfl)⟩
   · intro p hp
     match p,hp with
     | 0,_ =>
      intro a2 wx hv hf hd;refine ⟨qb rfl,qoq rfl (hf.base 3 rfl) hv.pt (hd 6 rfl) fun cs ds hr hu hs hpt=>?_⟩;have hsz:(wx.setRow g3 cs).heap.size=wx.heap.size:=by simp [World.setRow]
      exact ⟨undef,rfl,⟨hv.st.rowZ qxb (fun e=>hv.ne.1 e.symm) hr hs hu,hpt,jc hr hu hv.bt,below_setRow hv.bl hv.ne.2.2.1 _,hv.ne.1,hv.ne.2.1,hv.ne.2.2.1,by rw [hsz]; exact hv.ne.2.2.2.1,by rw [hsz]; exact hv.ne.2.2.2.2⟩,trivial,⟨.inr fun _ _ _=>trivial,.inr fun _ _ _=>trivial,.inr fun _ _ _=>trivial,.inr fun _ _ _=>trivial,.inr fun _ _ h=>NxV.rowZ h jeb hr hs hu,.inr fun _ _ h=>AgS.rowZ h jeb hr hs hu,.inr fun _ _ _=>trivial,.inr fun _ _ h=>h,.inr fun _ _ h=>h,.inl rfl,.inr fun _ _ h=>h.elim,.inr fun _ _ h=>h.elim,trivial⟩⟩
   · intro a2 w9 hv hf hh
     have e4:a2.eval (.tmp 4) = .int .i64 (ak3.n:Int):=hh 10 (by decide);have e5:a2.eval (.tmp 5) = .int .i64 ak3.er:=hh 11 (by decide);clear hh;rw [jl hf];clear hf;simp only [kg,e4,e5];generalize a2.eval (.tmp 60)=u60;generalize a2.eval (.tmp 61)=u61;generalize a2.eval (.tmp 62)=u62;generalize a2.eval (.tmp 63)=u63;generalize a2.eval (.tmp 59)=u59;generalize a2.eval (.tmp 64)=u64;generalize a2.eval (.tmp 65)=u65;generalize a2.eval (.tmp 66)=u66;generalize a2.eval (.tmp 67)=u67;clear e4 e5 a2;simp only [Act.put,List.setIfInBounds_toArray,List.set_cons_succ,List.set_cons_zero];rw [jer.1,jer.2.2];refine hK _ _ ?_;clear hK;obtain ⟨pa,pc,hp,hd⟩:=hv.pt;have hk0:w9.cell? ⟨g3,0,none⟩=some (.int .i64 3):=by rw [cell_of_row _ _ _ _ _ _ hp]; show some (Value.int .i64 ak3.kind)=_; rw [jer.2.1]
     have HB:=Box.mk hv.bl;clear hv hp hd;go_wp2_with fail;go_ret;exact ⟨rfl,HB.out⟩
end Go.Proofs.YtflhjpokjdjbpaaGreatDoor
namespace Go.Proofs.YtflhjpokjdjbpaaGreatDoor
open Go.RowKit
theorem qzg (z:Int) (n:Nat) (h0:0<n) (hn:n≤1000):∃ k:Nat,k<n∧(wrap64 (z.tmod n+n)).tmod n=(k:Int):=by
 have h1:z.tmod n<n:=Int.tmod_lt_of_pos z (by omega);have h2:-(n:Int)<z.tmod n:=Int.lt_tmod_of_pos z (by omega);generalize z.tmod n=y at *;have e:wrap64 (y+n)=y+n:=by simp only [wrap64]; omega
 rw [e,Int.tmod_eq_emod_of_nonneg (by omega)];exact ⟨((y+n) % n).toNat,by have:=Int.emod_lt_of_pos (y+n) (show (0:Int)<n by omega); have:=Int.emod_nonneg (y+n) (show (n:Int)≠0 by omega); omega,by have:=Int.emod_nonneg (y+n) (show (n:Int)≠0 by omega); omega⟩
theorem qz2 (z:Int) (n:Nat) (w:World) (h0:0<n) (hn:n≤1000) :
  Calls Tryz.prog 6 #[.int .i64 z,.int .i64 n] w fun e w'=>∃ k:Nat,k<n∧e = .returned (.int .i64 k)∧w=w':=by
 obtain ⟨k,hk,he⟩:=qzg z n h0 hn;go_enter Tryz.func6,Tryz.ntmps6
 go_wp2
 go_ret;exact ⟨k,hk,rfl,rfl⟩
theorem qny {P:Program} {fn:Func} {p1 p2:Tmp} {ty1 ty2:TypeId} (h:fn.results=#[.cell p1 ty1,.cell p2 ty2]) (tmps:Array Value) (w:World) (g1 g2:Nat) (t1 t2:TypeId) (c1 c2:Array Value) (f1 f2:Nat × Nat) (d1 d2:TypeDesc)
  (hp1:tmps.getD p1 undef = .pointer (some ⟨g1,0,none⟩)) (hp2:tmps.getD p2 undef = .pointer (some ⟨g2,0,none⟩)) (hg1:w.heap[g1]? = some (.cells c1 t1 f1)) (hg2:w.heap[g2]? = some (.cells c2 t2 f2))
  (hu1:P.underlying ty1=some d1) (hd1:(match d1 with | .struct _ | .array _ _=>true | _=>false)=true) (hi1:(P.info? ty1).map (·.size)=some c1.size)
  (hu2:P.underlying ty2=some d2) (hd2:(match d2 with | .struct _ | .array _ _=>true | _=>false)=true) (hi2:(P.info? ty2).map (·.size)=some c2.size) :
  (results fn tmps).run P w = .ok (.tuple #[.agg c1,.agg c2]) w:=by
 have hp1':tmps[p1]?.getD undef = .pointer (some ⟨g1,0,none⟩):=by simpa using hp1
 have hp2':tmps[p2]?.getD undef = .pointer (some ⟨g2,0,none⟩):=by simpa using hp2
 simp [results,h,hp1',hp2',asAddr,run_loadVar_row w g1 t1 ty1 c1 f1 d1 hg1 hu1 hd1 hi1,run_loadVar_row w g2 t2 ty2 c2 f2 d2 hg2 hu2 hd2 hi2]
theorem jbx (z:Int) (w:World):Calls Tryz.prog 7 #[.bool false,.int .i64 z] w fun e w'=>e = .returned (.tuple #[.agg zR,.agg zR])∧Below w.heap.size w w':=by
 obtain ⟨W1,hW1⟩ : ∃ W1,W1=(w.alloc (.cells zR 37)).alloc (.cells zR 37):=⟨_,rfl⟩;have HB1:=Box.mk (show Below w.heap.size w W1 by rw [hW1]; exact qk (qd _ _) _);have HX1:=Box.mk (show RVr W1 w.heap.size zR by rw [hW1]; exact RVr.keep (heap_alloc_new w (.cells zR 37)) (qd _ _));have HY1:=Box.mk (show RVr W1 (w.heap.size+1) zR by
  have h:=heap_alloc_new (w.alloc (.cells zR 37)) (.cells zR 37);rw [World.size_alloc] at h;rw [hW1]; exact h)
 have HW1:=Box.mk hW1;have hlw:w.heap.size+1<W1.heap.size:=HY1.out.lt;clear hW1;go_enter Tryz.func7,Tryz.ntmps7
 go_upto_region 1 with fail
 rw [← HW1.out];clear HW1;go_wp2_with fail;refine (qgx W1).mono ?_;rintro e w2 ⟨rfl,hb2⟩;have HX2:=Box.mk (HX1.out.keep hb2);have HY2:=Box.mk (HY1.out.keep hb2);have HB2:=Box.mk (qe HB1.out hb2);clear hb2 HX1 HY1 HB1;have HYN:=Box.mk (show RVr (w2.setRow w.heap.size zR) (w.heap.size+1) zR from (setRow_other _ _ _ _ (by omega)).trans HY2.out);go_wp2_with (first | refine wpList_store_row rfl 37 _ _ rfl w.heap.size zR rfl rfl 37 _ HX2.out jw rfl (qbl ..) ?_ | refine wpList_store_row rfl 37 _ _ rfl (w.heap.size+1) zR rfl rfl 37 _ HYN.out jw rfl (qbl ..) ?_)
 (try simp only [Exit.inBlock,Exit.then])
 refine bodyPost_ret (qny rfl _ _ w.heap.size (w.heap.size+1) 37 37 zR zR (0,0) (0,0) _ _ rfl rfl ((setRow_other _ _ _ _ (by omega)).trans (setRow_heap _ _ _ _ _ _ HX2.out)) (setRow_heap _ _ _ _ _ _ HYN.out) Tryz.underlying37 rfl jw Tryz.underlying37 rfl jw) rfl ?_;exact ⟨rfl,below_setRow (below_setRow HB2.out (Nat.le_refl _) _) (by omega) _⟩
theorem qyj (z:Int) (w:World):Calls Tryz.prog 7 #[.bool true,.int .i64 z] w fun e w'=>∃ p,e = .returned (.tuple #[.agg #[.bool true,.string p,.int .i64 0,.string ⟨#[]⟩,.string ⟨#[]⟩,.int .i64 0,.slice none 0 0,.bool false,.slice none 0 0,.int .i64 0,.string ⟨#[]⟩,.int .i64 0,.slice none 0 0,.slice none 0 0,.int .i64 0,.int .i64 0,.int .i64 0,.int .i64 0,.int .i64 0,.int .i64 0,.int .i64 0,.slice none 0 0],.agg #[.bool true,.string p,.int .i64 0,.string ⟨#[]⟩,.string ⟨#[]⟩,.int .i64 0,.slice none 0 0,.bool false,.slice none 0 0,.int .i64 0,.string ⟨#[]⟩,.int .i64 0,.slice none 0 0,.slice none 0 0,.int .i64 0,.int .i64 0,.int .i64 0,.int .i64 0,.int .i64 0,.int .i64 0,.int .i64 0,.slice none 0 0]])∧Below w.heap.size w w':=by
 obtain ⟨W1,hW1⟩ : ∃ W1,W1=(w.alloc (.cells zR 37)).alloc (.cells zR 37):=⟨_,rfl⟩;have HB1:=Box.mk (show Below w.heap.size w W1 by rw [hW1]; exact qk (qd _ _) _);have HX1:=Box.mk (show RVr W1 w.heap.size zR by rw [hW1]; exact RVr.keep (heap_alloc_new w (.cells zR 37)) (qd _ _));have HY1:=Box.mk (show RVr W1 (w.heap.size+1) zR by
  have h:=heap_alloc_new (w.alloc (.cells zR 37)) (.cells zR 37);rw [World.size_alloc] at h;rw [hW1]; exact h)
 have HW1:=Box.mk hW1;have hlw:w.heap.size+1<W1.heap.size:=HY1.out.lt;clear hW1;go_enter Tryz.func7,Tryz.ntmps7
 go_upto_region 1 with fail
 rw [← HW1.out];clear HW1;go_wp2_with fail;refine (qz2 z 3 _ (by decide) (by decide)).mono ?_;rintro e w2 ⟨k,hk,rfl,hww⟩;obtain ⟨p,hp⟩ : ∃ p,w2.cell? ⟨W1.heap.size,k,none⟩=some (.string p):=by
  rw [← hww]
  match k,hk with
  | 0,_=>exact ⟨_,(cell_of_row _ _ _ _ _ _ (heap_alloc_new W1 _)).trans rfl⟩
  | 1,_=>exact ⟨_,(cell_of_row _ _ _ _ _ _ (heap_alloc_new W1 _)).trans rfl⟩
  | 2,_=>exact ⟨_,(cell_of_row _ _ _ _ _ _ (heap_alloc_new W1 _)).trans rfl⟩
 have hb2:Below W1.heap.size W1 w2:=by rw [← hww]; exact qd _ _
 have HX2:=Box.mk (HX1.out.keep hb2);have HY2:=Box.mk (HY1.out.keep hb2);have HB2:=Box.mk (qe HB1.out hb2);clear hb2 HX1 HY1 HB1 hww;go_wp2_with fail;refine (qst p w2).mono ?_;rintro e w3 ⟨rfl,hb3⟩;go_wp2_with fail;refine (qmw p w3).mono ?_;rintro e w4 ⟨rfl,hb4⟩;have hb24:=qe hb3 hb4;have HX4:=Box.mk (HX2.out.keep hb24);have HY4:=Box.mk (HY2.out.keep hb24);have HB4:=Box.mk (qe HB2.out hb24);clear hb24 hb3 hb4 HX2 HY2 HB2 hp;have HYN:=Box.mk (show RVr (w4.setRow w.heap.size #[.bool true,.string p,.int .i64 0,.string ⟨#[]⟩,.string ⟨#[]⟩,.int .i64 0,.slice none 0 0,.bool false,.slice none 0 0,.int .i64 0,.string ⟨#[]⟩,.int .i64 0,.slice none 0 0,.slice none 0 0,.int .i64 0,.int .i64 0,.int .i64 0,.int .i64 0,.int .i64 0,.int .i64 0,.int .i64 0,.slice none 0 0]) (w.heap.size+1) zR from (setRow_other _ _ _ _ (by omega)).trans HY4.out);go_wp2_with (first | refine wpList_store_row rfl 37 _ _ rfl w.heap.size #[.bool true,.string p,.int .i64 0,.string ⟨#[]⟩,.string ⟨#[]⟩,.int .i64 0,.slice none 0 0,.bool false,.slice none 0 0,.int .i64 0,.string ⟨#[]⟩,.int .i64 0,.slice none 0 0,.slice none 0 0,.int .i64 0,.int .i64 0,.int .i64 0,.int .i64 0,.int .i64 0,.int .i64 0,.int .i64 0,.slice none 0 0] rfl rfl 37 _ HX4.out jw rfl (qbl ..) ?_ | refine wpList_store_row rfl 37 _ _ rfl (w.heap.size+1) #[.bool true,.string p,.int .i64 0,.string ⟨#[]⟩,.string ⟨#[]⟩,.int .i64 0,.slice none 0 0,.bool false,.slice none 0 0,.int .i64 0,.string ⟨#[]⟩,.int .i64 0,.slice none 0 0,.slice none 0 0,.int .i64 0,.int .i64 0,.int .i64 0,.int .i64 0,.int .i64 0,.int .i64 0,.int .i64 0,.slice none 0 0] rfl rfl 37 _ HYN.out jw rfl (qbl ..) ?_)
 (try simp only [Exit.inBlock,Exit.then])
 refine bodyPost_ret (qny rfl _ _ w.heap.size (w.heap.size+1) 37 37 #[.bool true,.string p,.int .i64 0,.string ⟨#[]⟩,.string ⟨#[]⟩,.int .i64 0,.slice none 0 0,.bool false,.slice none 0 0,.int .i64 0,.string ⟨#[]⟩,.int .i64 0,.slice none 0 0,.slice none 0 0,.int .i64 0,.int .i64 0,.int .i64 0,.int .i64 0,.int .i64 0,.int .i64 0,.int .i64 0,.slice none 0 0] #[.bool true,.string p,.int .i64 0,.string ⟨#[]⟩,.string ⟨#[]⟩,.int .i64 0,.slice none 0 0,.bool false,.slice none 0 0,.int .i64 0,.string ⟨#[]⟩,.int .i64 0,.slice none 0 0,.slice none 0 0,.int .i64 0,.int .i64 0,.int .i64 0,.int .i64 0,.int .i64 0,.int .i64 0,.int .i64 0,.slice none 0 0] (0,0) (0,0) _ _ rfl rfl ((setRow_other _ _ _ _ (by omega)).trans (setRow_heap _ _ _ _ _ _ HX4.out)) (setRow_heap _ _ _ _ _ _ HYN.out) Tryz.underlying37 rfl jw Tryz.underlying37 rfl jw) rfl ?_;exact ⟨p,rfl,below_setRow (below_setRow HB4.out (Nat.le_refl _) _) (by omega) _⟩
theorem PNew.rowR {N g:Nat} {w:World} {v:Value} {cs ds:Array Value} (h:PNew N w v) (hr:RVr w g cs):PNew N (w.setRow g ds) v:=by
 obtain ⟨q,h1,h2,h3⟩:=h;exact ⟨q,h1,h2,(setRow_other _ _ _ _ (qxd hr h3).symm).trans h3⟩
theorem RSt.rowP {N g:Nat} {L:(Nat→Prop) × (Nat→Prop)} {s:RS} {w:World} {v:Value} {ds:Array Value} (h:RSt N L s w v) (hm:NmS s) (hr:PVr w g #[.int .i64 0,.slice none 0 0]):RSt N L s (w.setRow g ds) v:=by
 obtain ⟨q,h1,h2,h3⟩:=h;have hne:q≠g:=by
  obtain ⟨_,_,_,_,_,_,hq,_⟩:=h3;exact qxd hq hr
 exact ⟨q,h1,h2,h3.rowZ hm hne hr qr2 qqq⟩
theorem qpb {h r:List UInt8} (h1:endZ h=h.length) (h2:4≤h.length) (h3:h.length≤400):endS (h++r) 400=((h.length:Int),0):=by
 have h4:=jc2 (h++r) h.length;rw [List.take_left,h1] at h4;unfold endS
 split at h4
 · rw [if_pos (by omega),← h4]
 · omega
theorem qp2 {h:List UInt8} (h0:(qa0 h).1=0):endZ h=h.length∧4≤h.length:=by
 unfold qa0 at h0
 split at h0
 · rename_i l0 ls hL
   unfold qa5 at hL
   split at hL
   · rename_i hc; exact hc
   · cases hL
 · cases h0
def begR (rep:Bool) (p:ByteArray):RS:={ zeroR with rep:=rep,meth:=p }
theorem jey (rep:Bool) (p:ByteArray) (body:Int):OkN body (begR rep p):=⟨⟨qq0,fun h=>absurd h (by show ¬ (0:Int)=2; decide),by show (0:Int)≤0∧(0:Int)≤1000000000; decide,⟨fun f hf=>absurd hf (by simp [begR,zeroR]),by show 0≤64; decide⟩,⟨fun f hf=>absurd hf (by simp [begR,zeroR]),by show 0≤64; decide⟩⟩,.inl rfl,fun h=>absurd h (by show ¬ (0:Int)=1; decide),fun h=>absurd h (by show ¬ (0:Int)=1; decide),fun h=>absurd h (by show ¬ (0:Int)=1; decide),fun h=>absurd h (by show ¬ (0:Int)=1; decide)⟩
theorem qvy {b:List UInt8} (h:b.length≤125):qfa b:=fun p h4 hp _=>by omega
theorem jf1 (rep:Bool) (p:ByteArray):NmS (begR rep p):=qc9
def reqT (fr ch:Bool) (z:Int) (l:List UInt8):List Fld:=if fr=true then (if ch=true∧z=1 then [((⟨#[84,114,97,110,115,102,101,114,45,69,110,99,111,100,105,110,103]⟩ : ByteArray),(⟨#[99,104,117,110,107,101,100]⟩ : ByteArray))] else [((⟨#[67,111,110,116,101,110,116,45,76,101,110,103,116,104]⟩ : ByteArray),fmtS 10 l.length)]) else []
def reqE (fr ch:Bool) (z:Int) (l:List UInt8):List UInt8:=if fr=true∧ch=true∧z=1 then qcq [l.take (l.length / 2),l.drop (l.length / 2)] else l
def reqH (m t:ByteArray) (z:Int) (x:List Fld) (fr ch:Bool) (l:List UInt8):List UInt8:=qa1 (jd m t z) (x++reqT fr ch z l)
def reqW (m t:ByteArray) (z:Int) (x:List Fld) (fr ch:Bool) (l:List UInt8):List UInt8:=reqH m t z x fr ch l++reqE fr ch z l
structure jff (m t:ByteArray) (z:Int) (x:List Fld) (fr ch:Bool) (l:List UInt8):Prop where
 lo:0<(reqH m t z x fr ch l).length
 hi:(reqH m t z x fr ch l).length≤1000
 len:(reqW m t z x fr ch l).length≤1800
 sm:qbe (x++reqT fr ch z l)
 hq:(jd m t z).size≤4000000000
 good:∀ r:List UInt8,r.length≤30→qfa (reqW m t z x fr ch l++r)
 got:∀ r:List UInt8,r.length≤30 → ∃ s,CW zeroR (reqW m t z x fr ch l++r) = .got 0 s l (reqW m t z x fr ch l).length∧s.m=m∧s.t=t∧s.fr=fr
theorem qus (m t:ByteArray) (z:Int) (x:List Fld) (fr ch:Bool) (l:List UInt8) (fa ba:Option Addr) (fc bc:Nat) (w:World) (hm:m.size≤1000000000) (ht:t.size≤1000000000) (hx:qfo w fa x fc) (hd:qg w ba l bc) (hxl:x.length≤900) (hl:l.length≤60000) (hz:z=0∨z=1) (h:jff m t z x fr ch l) :
  Calls Tryz.prog 15 #[.agg #[.string m,.string t,.int .i64 z,.slice fa x.length fc,.bool fr,.slice ba l.length bc],.bool ch] w fun e w'=>∃ v,e = .returned v∧OwnM w.heap.size w' v (reqW m t z x fr ch l)∧Below w.heap.size w w':=by
 have h0:=h.lo;have h1:=h.hi;have h2:=h.sm;have h3:=h.hq;unfold reqW;unfold reqH at h0 h1 ⊢;cases fr with
 | false =>
  have e1:x++reqT false ch z l=x:=List.append_nil x;have e2:reqE false ch z l=l:=if_neg (fun h=>by cases h.1);rw [e1] at h0 h1 h2 ⊢;rw [e2];exact jb9 m t z x l fa ba fc bc ch w hm ht hx hd hxl (by omega) h2 h3 h0 (Nat.le_trans h1 (by decide))
 | true =>
  by_cases hc:ch=true∧z=1
  · obtain ⟨rfl,rfl⟩:=hc
    exact jbj m t 1 x l fa ba fc bc true w hm ht hx hd hxl (by omega) h2 h3 h0 (Nat.le_trans h1 (by decide)) rfl rfl (l.length / 2) (reqE true true 1 l) rfl rfl hl
  · have e1:reqT true ch z l=[((⟨#[67,111,110,116,101,110,116,45,76,101,110,103,116,104]⟩ : ByteArray),fmtS 10 l.length)]:=by unfold reqT; rw [if_pos rfl,if_neg hc]
    have e2:reqE true ch z l=l:=if_neg (fun h=>hc h.2);rw [e1] at h0 h1 h2 ⊢;rw [e2];exact jaa m t z x l fa ba fc bc ch w hm ht hx hd hxl (by omega) h2 h3 h0 (Nat.le_trans h1 (by decide)) (fun h h2=>hc ⟨h,h2⟩)
theorem qwl:(qh0.all fun s=>!qab s clN && !qab s teN && !qab s hostN)=true:=by decide +kernel
theorem SrcF.fold {f:Fld} (h:SrcF f):qab f.1 clN=false∧qab f.1 teN=false∧qab f.1 hostN=false:=by
 obtain ⟨s,hs,v,hv,rfl⟩:=h;have:=List.all_eq_true.1 qwl s hs;simp only [Bool.and_eq_true,Bool.not_eq_true'] at this;exact ⟨this.1.1,this.1.2,this.2⟩
theorem qcu (x y:List Fld) (n:ByteArray):qj (x++y) n=qj x n++qj y n:=by
 unfold qj; rw [List.filter_append,List.map_append]
theorem qaw {x:List Fld} {n:ByteArray} (h:∀ f ∈ x,qab f.1 n=false):qj x n=[]:=by
 unfold qj;rw [List.filter_eq_nil_iff.2 (fun f hf=>by rw [h f hf]; decide)];rfl
theorem qp6 {x:List Fld} {n:ByteArray} (h:∀ f ∈ x,qab f.1 n=false):hasL x n=false:=by
 unfold hasL;rw [List.any_eq_false];exact fun f hf=>by rw [h f hf]; decide
theorem qfc (x y:List Fld):(kz (x++y)).length=(kz x).length+(kz y).length:=by
 unfold kz; rw [List.flatMap_append,List.length_append]
theorem jaj {s:ByteArray} (h:IdOk s):(kz [qik s]).length=33:=by
 have h1:(qcx++s).data.toList=qcx.data.toList++s.data.toList:=jt _ _;have h2:s.data.toList.length=16:=by rw [Array.length_toList]; exact h.1
 show (qjl (qik s)++[]).length=33
 rw [List.append_nil];unfold qjl;show (_++_++(qcx++s).data.toList++_).length=33
 rw [h1];simp only [List.length_append,h2];rfl
def qqo (x:List Fld) (n:Nat):Prop:=(∀ f ∈ x,qab f.1 clN=false∧qab f.1 teN=false)∧(qj x hostN).length=1∧(kz x).length≤n
theorem qqo.add {x:List Fld} {n k:Nat} {f:Fld} (h:qqo x n) (h1:qab f.1 clN=false) (h2:qab f.1 teN=false) (h3:qab f.1 hostN=false) (h4:(kz [f]).length=k):qqo (x++[f]) (n+k):=by
 refine ⟨fun g hg=>?_,?_,?_⟩
 · rcases List.mem_append.1 hg with h5 | h5
   · exact h.1 g h5
   · obtain rfl:=List.mem_singleton.1 h5; exact ⟨h1,h2⟩
 · rw [qcu,List.length_append,h.2.1,qaw (x:=[f]) (fun g hg=>by obtain rfl:=List.mem_singleton.1 hg; exact h3)]; rfl
 · rw [qfc,h4]; have:=h.2.2; omega
theorem RF1.ok {x:List Fld} (h:RF1 x):qqo x 201:=by
 obtain ⟨y,h1,h2,rfl⟩:=h;refine ⟨fun f hf=>?_,?_,?_⟩
 · rcases List.mem_append.1 hf with h | h
   · exact ⟨(h1 f h).fold.1,(h1 f h).fold.2.1⟩
   · obtain rfl:=List.mem_singleton.1 h; exact ⟨by decide +kernel,by decide +kernel⟩
 · rw [qcu,List.length_append,qaw (x:=y) (fun f hf=>(h1 f hf).fold.2.2)]
   have:(qj [hostF] hostN).length=1:=by decide +kernel
   rw [this]; rfl
 · have h3:=qhl y (fun f hf=>(h1 f hf).tiny)
   have h4:(kz [hostF]).length=9:=by decide
   rw [qfc,h4]; omega
theorem RF3.ok {x:List Fld} (h:RF3 x):qqo x 260:=by
 have h2:∀ {y:List Fld},RF2 y→qqo y 234:=fun {y} h=>by
  rcases h with h | ⟨y,s,h1,h2,rfl⟩
  · exact ⟨h.ok.1,h.ok.2.1,Nat.le_trans h.ok.2.2 (by decide)⟩
  · exact h1.ok.add (f:=qik s) (by show qab ⟨#[67,111,111,107,105,101]⟩ clN=false; decide +kernel) (by show qab ⟨#[67,111,111,107,105,101]⟩ teN=false; decide +kernel) (by show qab ⟨#[67,111,111,107,105,101]⟩ hostN=false; decide +kernel) (jaj h2)
 rcases h with h | ⟨y,h1,rfl⟩
 · exact ⟨(h2 h).1,(h2 h).2.1,Nat.le_trans (h2 h).2.2 (by decide)⟩
 · have h3:=(h2 h1).add (f:=expF) (k:=22) (by decide +kernel) (by decide +kernel) (by decide +kernel) (by decide)
   exact ⟨h3.1,h3.2.1,Nat.le_trans h3.2.2 (by decide)⟩
theorem qy8 {x:List Fld} {n:Nat} (h:qqo x n) (z:Int):j3 z x 1=(1,0,0) :=
 qhh (qp6 fun f hf=>(h.1 f hf).2) (qaw fun f hf=>(h.1 f hf).1)
theorem jcg {x:List Fld} {n:Nat} (h:qqo x n) (z:Int) (k:Nat) (hk:k≤30):j3 z (x++[((⟨#[67,111,110,116,101,110,116,45,76,101,110,103,116,104]⟩ : ByteArray),fmtS 10 (k:Int))]) 1=(2,(k:Int),0):=by
 have hp:∀ j:Fin 31,qo 10 1000000000 (fmtS 10 (j.val:Int))=((j.val:Int),0):=by decide +kernel
 have h1:qab ⟨#[67,111,110,116,101,110,116,45,76,101,110,103,116,104]⟩ clN=true:=by decide +kernel
 have h2:qab ⟨#[67,111,110,116,101,110,116,45,76,101,110,103,116,104]⟩ teN=false:=by decide +kernel
 have hv:qj (x++[((⟨#[67,111,110,116,101,110,116,45,76,101,110,103,116,104]⟩ : ByteArray),fmtS 10 (k:Int))]) clN=[fmtS 10 (k:Int)]:=by
  rw [qcu,qaw fun f hf=>(h.1 f hf).1];unfold qj;simp [h1]
 rw [qgj (qp6 fun f hf=>by
  rcases List.mem_append.1 hf with h3 | h3
  · exact (h.1 f h3).2
  · obtain rfl:=List.mem_singleton.1 h3; exact h2) hv,hp ⟨k,by omega⟩]
 rw [if_neg (by simp),if_pos rfl]
theorem qsy {x:List Fld} {n:Nat} (h:qqo x n):j3 1 (x++[((⟨#[84,114,97,110,115,102,101,114,45,69,110,99,111,100,105,110,103]⟩ : ByteArray),(⟨#[99,104,117,110,107,101,100]⟩ : ByteArray))]) 1=(3,0,0):=by
 have h1:qab ⟨#[84,114,97,110,115,102,101,114,45,69,110,99,111,100,105,110,103]⟩ teN=true:=by decide +kernel
 have h2:qab ⟨#[84,114,97,110,115,102,101,114,45,69,110,99,111,100,105,110,103]⟩ clN=false:=by decide +kernel
 have hv:qj (x++[((⟨#[84,114,97,110,115,102,101,114,45,69,110,99,111,100,105,110,103]⟩ : ByteArray),(⟨#[99,104,117,110,107,101,100]⟩ : ByteArray))]) teN=[⟨#[99,104,117,110,107,101,100]⟩]:=by
  rw [qcu,qaw fun f hf=>(h.1 f hf).2];unfold qj;simp [h1]
 have hc:qj (x++[((⟨#[84,114,97,110,115,102,101,114,45,69,110,99,111,100,105,110,103]⟩ : ByteArray),(⟨#[99,104,117,110,107,101,100]⟩ : ByteArray))]) clN=[]:=qaw fun f hf=>by
  rcases List.mem_append.1 hf with h3 | h3
  · exact (h.1 f h3).1
  · obtain rfl:=List.mem_singleton.1 h3; exact h2
 have hb:qcs (qbh [⟨#[99,104,117,110,107,101,100]⟩])=true:=by decide +kernel
 rw [qm1 (by unfold hasL; rw [List.any_append]; simp [h1]),hv,hc,hb,if_neg (by simp)]
theorem qmi:∀ (l:List UInt8) (i q:Nat),(l.drop q).take 4=crlf2→qb7 i l≤((i+q+4:Nat):Int)
 | [],i,q,h=>by
  rw [List.drop_nil,List.take_nil] at h;exact absurd h (by decide)
 | x :: r,i,q,h=>by
  rw [qdg];by_cases hc:(x :: r).take 4=crlf2
  · rw [if_pos hc]; omega
  · rw [if_neg hc]
    cases q with
    | zero=>exact absurd h hc
    | succ q =>
     have:=qmi r (i+1) q h;omega
theorem qvm {h r:List UInt8} (h1:endZ h=h.length) (h2:4≤h.length) (h3:h.length≤400) (h4:r.length≤100):qfa (h++r):=fun p hp hpl hw=>by
 have hE:=(qxs (qpb (r:=r) h1 h2 h3)).1;have h5:=qmi (h++r) 0 (p-4) hw;have h6:endZ (h++r)≤((0+(p-4)+4:Nat):Int):=h5;rw [hE] at h6;rw [List.length_append];omega
structure jem (T:List Fld):Prop where
 al:allB T=true
 ho:qj T hostN=[]
 li:(kz T).length≤28
 le:T.length≤1
 sm:qbe T
theorem jft (fr ch:Bool) (z:Int) (l:List UInt8) (hl:l.length≤30):jem (reqT fr ch z l):=by
 have hp:∀ j:Fin 31,fldB ⟨#[67,111,110,116,101,110,116,45,76,101,110,103,116,104]⟩ (fmtS 10 (j.val:Int))=true∧(fmtS 10 (j.val:Int)).size≤3:=by decide +kernel
 have hk:=hp ⟨l.length,by omega⟩;unfold reqT
 split
 · split
   · exact ⟨by decide +kernel,by decide +kernel,by decide,by decide,fun f hf=>by obtain rfl:=List.mem_singleton.1 hf; exact ⟨by decide,by decide⟩⟩
   · refine ⟨?_,?_,?_,Nat.le_refl _,fun f hf=>?_⟩
     · unfold allB
       simp only [List.all_cons,List.all_nil,Bool.and_true];exact hk.1
     · exact qaw fun f hf=>by obtain rfl:=List.mem_singleton.1 hf; show qab ⟨#[67,111,110,116,101,110,116,45,76,101,110,103,116,104]⟩ hostN=false; decide +kernel
     · show (qjl _++[]).length≤28
       rw [List.append_nil];unfold qjl;have h2:(fmtS 10 (l.length:Int)).data.toList.length≤3:=by rw [Array.length_toList]; exact hk.2
       simp only [List.length_append];have h3:(⟨#[67,111,110,116,101,110,116,45,76,101,110,103,116,104]⟩ : ByteArray).data.toList.length=14:=rfl;rw [h3];simp only [List.length_cons,List.length_nil];omega
     · obtain rfl:=List.mem_singleton.1 hf
       exact ⟨by show 14≤1048576; decide,Nat.le_trans hk.2 (by decide)⟩
 · exact ⟨rfl,rfl,by decide,by decide,fun f hf=>by cases hf⟩
theorem jdg {m t:ByteArray} {z:Int} {x T:List Fld} (hm:m ∈ qih) (ht:t ∈ qib) (hz:z=0∨z=1) (hx:RF3 x) (hT:jem T) :
  qa0 (qa1 (jd m t z) (x++T))=(0,m,t,z,x++T)∧4≤(qa1 (jd m t z) (x++T)).length∧(qa1 (jd m t z) (x++T)).length≤400:=by
 have hal:allB (x++T)=true:=by
  unfold allB;rw [List.all_append,Bool.and_eq_true];exact ⟨ql4 fun f hf=>(hx.made.1 f hf).1,hT.al⟩
 have hho:(qj (x++T) hostN).length=1:=by rw [qcu,hT.ho,List.append_nil,hx.ok.2.1]
 obtain ⟨h0,h1⟩:=ql9 hm ht hz;have hb:=qer (s:=jd m t z) (x:=x++T) (by omega) hal;have hlen:(qa1 (jd m t z) (x++T)).length=(jd m t z).size+2+((kz x).length+(kz T).length)+2:=by
  have h3:(jd m t z).data.toList.length=(jd m t z).size:=by rw [Array.length_toList]; rfl
  rw [hb];simp only [List.length_append,List.length_cons,List.length_nil,qfc,h3]
 refine ⟨?_,?_,?_⟩
 · rw [qzl (qlw hm).1 (qlp ht).1 hz hal,if_neg (by rw [List.length_append]; have:=hx.made.2; have:=hT.le; omega),hho,if_neg (by omega)]
 · rw [hlen]; omega
 · rw [hlen]; have:=hx.ok.2.2; have:=hT.li; omega
theorem qta (p q:List UInt8) (hp:p.length≤15) (hq:q.length≤15):(qcq [p,q]).length≤45:=by
 have hd:∀ j:Fin 16,(digs 16 j.val).length≤1:=by decide +kernel
 have h1:=hd ⟨p.length,by omega⟩;have h2:=hd ⟨q.length,by omega⟩;simp only at h1 h2;rw [qgo];by_cases e1:p=[] <;> by_cases e2:q=[] <;> simp [encL,e1,e2] <;> omega
theorem jbi {h e r:List UInt8} {m t:ByteArray} {z:Int} {xs:List Fld} {k j:Int} (hh:qa0 h=(0,m,t,z,xs)) (h4:h.length≤400) (hf:j3 z xs 1=(k,j,0)) (hj:j≤100) :
  ∃ s:RS,s.m=m∧s.t=t∧s.fr=(!decide (k=1))∧s.fk=k∧s.left=j∧s.size=0∧s.ck=zeroC∧¬ s.ph=0∧CW zeroR (h++(e++r))=(qzv s (e++r)).add [] h.length:=by
 obtain ⟨h1,h2⟩:=qp2 (h:=h) (by rw [hh]);have hE:=qpb (r:=e++r) h1 h2 h4;obtain ⟨s,hs⟩ : ∃ s:RS,s = { zeroR with m:=m,t:=t,z:=z,xs:=xs,fr:=!decide (k=1),fk:=k,fl:=j,left:=j,size:=0,ck:=zeroC,ph:=1 }:=⟨_,rfl⟩;have hx:qbo zeroR h 100=⟨0,s,1,[],h.length⟩:=by
  unfold qbo;rw [if_neg (show ¬ zeroR.rep=true from by decide),hh,if_neg (by show ¬ (0:Int)≠0; decide)];dsimp only;rw [hf];unfold finX;rw [if_neg (by show ¬ (0:Int)≠0; decide),if_neg (by show ¬ (k=2∧(100:Int)<j); omega),hs]
 refine ⟨s,by rw [hs],by rw [hs],by rw [hs],by rw [hs],by rw [hs],by rw [hs],by rw [hs],by rw [hs]; show ¬ (1:Int)=0; decide,?_⟩;rw [jeh rfl hE,List.take_left,List.drop_left,hx,if_neg (fun h=>h rfl)];rw [jfb (by rw [hs]; show ¬ (1:Int)=0; decide)]
theorem qjg (m t:ByteArray) (z:Int) (x:List Fld) (fr ch:Bool) (l:List UInt8) (hm:m ∈ qih) (ht:t ∈ qib) (hz:z=0∨z=1) (hx:RF3 x) (hl:l.length≤30) (hfr:fr=false→l=[]):jff m t z x fr ch l:=by
 have hT:=jft fr ch z l hl;obtain ⟨hh,h4,h400⟩:=jdg hm ht hz hx hT;obtain ⟨he1,he2⟩:=qp2 (h:=qa1 (jd m t z) (x++reqT fr ch z l)) (by rw [hh]);have hE:(reqE fr ch z l).length≤45:=by
  unfold reqE
  split
  · exact qta _ _ (by rw [List.length_take]; omega) (by rw [List.length_drop]; omega)
  · omega
 refine ⟨?_,?_,?_,?_,?_,?_,?_⟩
 · unfold reqH; omega
 · unfold reqH; omega
 · unfold reqW reqH; rw [List.length_append]; omega
 · intro f hf
   rcases List.mem_append.1 hf with h | h
   · exact hx.tiny.small f h
   · exact hT.sm f h
 · have:=(ql9 hm ht hz).2; omega
 · intro r hr
   unfold reqW reqH;rw [List.append_assoc];exact qvm he1 he2 h400 (by rw [List.length_append]; omega)
 · intro r hr
   unfold reqW reqH;rw [List.append_assoc,List.length_append];cases fr with
   | false =>
    have hl0:=hfr rfl;subst hl0;have hf:j3 z (x++reqT false ch z []) 1=(1,0,0):=by
     rw [show x++reqT false ch z []=x from List.append_nil x]; exact qy8 hx.ok z
    obtain ⟨s,s1,s2,s3,s4,s5,_,_,_,hcw⟩:=jbi (e:=reqE false ch z []) (r:=r) hh h400 hf (by decide);have hre:reqE false ch z []=[]:=if_neg (fun h=>by cases h.1);refine ⟨s,?_,s1,s2,by rw [s3]; rfl⟩;rw [hcw];unfold qzv;rw [if_pos (.inl s4),s5,if_pos (show Int.toNat 0≤_ from Nat.zero_le _),hre];rfl
   | true =>
    by_cases hc:ch=true∧z=1
    · obtain ⟨rfl,rfl⟩:=hc
      obtain ⟨s,s1,s2,s3,s4,s5,_,s7,_,hcw⟩:=jbi (e:=reqE true true 1 l) (r:=r) hh h400 (qsy hx.ok) (by decide);have hfe:=qq2 r [l.take (l.length / 2),l.drop (l.length / 2)] [] 0 (fun d hd=>by
       simp only [List.mem_cons,List.not_mem_nil,or_false] at hd;rcases hd with rfl | rfl
       · rw [List.length_take]; omega
       · rw [List.length_drop]; omega)
      rw [← qgo,List.nil_append,Nat.zero_add,show [l.take (l.length / 2),l.drop (l.length / 2)].flatten=l by simp] at hfe;refine ⟨s,?_,s1,s2,by rw [s3]; rfl⟩;rw [hcw];unfold qzv;rw [if_neg (by rw [s4]; decide),if_pos s4,s7,show reqE true true 1 l=qcq [l.take (l.length / 2),l.drop (l.length / 2)] from rfl,hfe,if_pos rfl,if_pos rfl];rfl
    · have hT2:reqT true ch z l=[((⟨#[67,111,110,116,101,110,116,45,76,101,110,103,116,104]⟩ : ByteArray),fmtS 10 (l.length:Int))]:=by unfold reqT; rw [if_pos rfl,if_neg hc]
      have hre:reqE true ch z l=l:=if_neg (fun h=>hc h.2);obtain ⟨s,s1,s2,s3,s4,s5,_,s7,_,hcw⟩:=jbi (e:=reqE true ch z l) (r:=r) hh h400 (by rw [hT2]; exact jcg hx.ok z l.length hl) (by omega);refine ⟨s,?_,s1,s2,by rw [s3]; rfl⟩;rw [hcw];unfold qzv;rw [if_pos (.inr s4),s5,hre,Int.toNat_natCast,if_pos (by rw [List.length_append]; omega),List.take_left];rfl
def mis (a b c d:UInt8):Nat:=(if a=13 then 0 else 1)+(if b=10 then 0 else 1)+(if c=13 then 0 else 1)+(if d=10 then 0 else 1)
def winH:List UInt8→Bool
 | a :: b :: c :: d :: _=>decide (2≤mis a b c d)
 | _=>true
def winB:Nat→List UInt8→Bool
 | 0,_=>true
 | _+1,[]=>true
 | n+1,a :: l=>winH (a :: l) && winB n l
theorem quo:∀ (n:Nat) (l:List UInt8) (q:Nat),winB n l=true→q<n→winH (l.drop q)=true
 | 0,_,_,_,h=>by omega
 | n+1,[],q,_,_=>by rw [List.drop_nil]; rfl
 | n+1,a :: l,0,h,_=>by
  unfold winB at h;rw [Bool.and_eq_true] at h;exact h.1
 | n+1,a :: l,q+1,h,hq=>by
  unfold winB at h;rw [Bool.and_eq_true] at h;exact quo n l q h.2 (by omega)
theorem qv1 {a b c d x:UInt8} (h:2≤mis a b c d):∀ j,j<4→[a,b,c,d].set j x≠crlf2:=by
 intro j hj e;have h2:∀ {p q r s:UInt8},[p,q,r,s]=crlf2→p=13∧q=10∧r=13∧s=10:=fun e=>by
  simpa [crlf2] using e
 unfold mis at h
 match j,hj with
 | 0,_=>obtain ⟨_,e1,e2,e3⟩:=h2 e; rw [if_pos e1,if_pos e2,if_pos e3] at h; split at h <;> omega
 | 1,_=>obtain ⟨e0,_,e2,e3⟩:=h2 e; rw [if_pos e0,if_pos e2,if_pos e3] at h; split at h <;> omega
 | 2,_=>obtain ⟨e0,e1,_,e3⟩:=h2 e; rw [if_pos e0,if_pos e1,if_pos e3] at h; split at h <;> omega
 | 3,_=>obtain ⟨e0,e1,e2,_⟩:=h2 e; rw [if_pos e0,if_pos e1,if_pos e2] at h; split at h <;> omega
theorem qwp {a b c d:UInt8} (h:2≤mis a b c d):[a,b,c,d]≠crlf2:=fun e=>by
 have:=qv1 (x:=a) h 0 (by omega);exact this e
theorem jb4 {b:List UInt8} {n:Nat} (h:winB n b=true) (hl:b.length≤n+104) (i:Nat) (x:UInt8):qfa (b.set i x):=fun p h4 hp hw=>by
 rw [List.length_set] at hp ⊢;by_cases hq:p-4<n
 · exfalso
   have hwin:=quo n b (p-4) h hq;obtain ⟨a0,a1,a2,a3,r,hr⟩ : ∃ a0 a1 a2 a3 r,b.drop (p-4)=a0 :: a1 :: a2 :: a3 :: r:=by
    have hl2:4≤(b.drop (p-4)).length:=by rw [List.length_drop]; omega
    match hb:b.drop (p-4),hl2 with
    | a0 :: a1 :: a2 :: a3 :: r,_=>exact ⟨a0,a1,a2,a3,r,rfl⟩
   rw [hr] at hwin;have hm:2≤mis a0 a1 a2 a3:=of_decide_eq_true hwin;by_cases hi:p-4≤i∧i<p
   · have e:((b.set i x).drop (p-4)).take 4=[a0,a1,a2,a3].set (i-(p-4)) x:=by
      rw [List.drop_set,if_neg (by omega),hr];obtain ⟨j,hj,hj4⟩ : ∃ j,i-(p-4)=j∧j<4:=⟨_,rfl,by omega⟩;rw [hj]
      match j,hj4 with
      | 0,_=>rfl
      | 1,_=>rfl
      | 2,_=>rfl
      | 3,_=>rfl
     rw [e] at hw;exact qv1 hm _ (by omega) hw
   · have e:((b.set i x).drop (p-4)).take 4=[a0,a1,a2,a3]:=by
      rw [List.drop_set]
      split
      · rw [hr]; rfl
      · rw [hr]
        obtain ⟨j,hj⟩ : ∃ j,i-(p-4)=j+4:=⟨i-(p-4)-4,by omega⟩;rw [hj]; rfl
     rw [e] at hw;exact qwp hm hw
 · exact .inr (by omega)
end Go.Proofs.YtflhjpokjdjbpaaGreatDoor

/- The windows of a made head. A made head with one byte changed: no end but its own. The stream of a request: one byte of it another. What a made reply's bytes look like: plain mathematics. The reply that the source makes: its start. Writing messages: Make and Text of package writer. The reply that the source makes: its first statement. stream of the laws on readers: a message's bytes, what follows it, one byte set. The law ReaderPieces. The reference's SameReader. Laws for the regions of ReaderNext. -/
import Derived.Test.YtflhjpokjdjbpaaGreatDoorPq15
import Derived.MakeChecks
set_option linter.unusedVariables false
set_option linter.unusedSimpArgs false
set_option maxRecDepth 100000
set_option maxHeartbeats 4000000
namespace Go.Proofs.YtflhjpokjdjbpaaGreatDoor
open Go.RowKit
set_option linter.unusedVariables false
def plB (w:List UInt8):Bool:=w.all fun c=>!(c == 13) && !(c == 10)
theorem qj0 {c:UInt8} {w:List UInt8} (h:plB (c :: w)=true):¬ c=13∧¬ c=10∧plB w=true:=by
 unfold plB at h ⊢;rw [List.all_cons,Bool.and_eq_true,Bool.and_eq_true] at h;exact ⟨fun e=>by rw [e] at h; exact absurd h.1.1 (by decide),fun e=>by rw [e] at h; exact absurd h.1.2 (by decide),h.2⟩
theorem qg5 {a b:UInt8} {r:List UInt8} (ha:¬ a=13) (hb:¬ b=10):winH (a :: b :: r)=true:=by
 match r with
 | []=>rfl
 | [_]=>rfl
 | c :: d :: r =>
  show decide (2≤mis a b c d)=true
  rw [decide_eq_true_eq];unfold mis;rw [if_neg ha,if_neg hb];omega
theorem qxc {a b c d:UInt8} {r:List UInt8} (hc:¬ c=13) (hd:¬ d=10):winH (a :: b :: c :: d :: r)=true:=by
 show decide (2≤mis a b c d)=true
 rw [decide_eq_true_eq];unfold mis;rw [if_neg hc,if_neg hd];omega
theorem qlh (R:List UInt8) (n:Nat) (h:winB n (13 :: R)=true):∀ w:List UInt8,plB w=true→winB (w.length+n) (w++13 :: R)=true
 | [],_=>by simpa using h
 | [a],hw=>by
  obtain ⟨h1,_,_⟩:=qj0 hw;rw [show [a].length+n=n+1 by simp; omega];show (winH (a :: 13 :: R) && winB n (13 :: R))=true
  rw [qg5 h1 (by decide),h]; rfl
 | a :: b :: w,hw=>by
  obtain ⟨h1,_,h3⟩:=qj0 hw;obtain ⟨_,h5,_⟩:=qj0 h3;have ih:=qlh R n h (b :: w) h3;rw [show (a :: b :: w).length+n=((b :: w).length+n)+1 by simp; omega];show (winH (a :: b :: (w++13 :: R)) && winB _ ((b :: w)++13 :: R))=true
  rw [qg5 h1 h5,ih]; rfl
theorem jbn {c d:UInt8} {r:List UInt8} {n:Nat} (hc1:¬ c=13) (hc2:¬ c=10) (hd:¬ d=10) (h:winB n (c :: d :: r)=true):winB (n+2) (13 :: 10 :: c :: d :: r)=true:=by
 show (winH (13 :: 10 :: c :: d :: r) && (winH (10 :: c :: d :: r) && winB n (c :: d :: r)))=true
 rw [qxc hc1 hd,qg5 (by decide) hc2,h]; rfl
def qfe (ws:List (List UInt8)):List UInt8:=ws.flatMap fun w=>w++[13,10]
theorem qk0 (w:List UInt8) (ws:List (List UInt8)) (S:List UInt8):qfe (w :: ws)++S=w++13 :: 10 :: (qfe ws++S):=by
 unfold qfe; simp
theorem qhu (w:List UInt8) (ws:List (List UInt8)):(qfe (w :: ws)).length=w.length+2+(qfe ws).length:=by
 unfold qfe; simp; omega
theorem qnb (S:List UInt8):∀ (ws:List (List UInt8)),ws≠[]→(∀ w ∈ ws,plB w=true∧2≤w.length)→winB ((qfe ws).length-2) (qfe ws++13 :: 10 :: S)=true
 | [],h,_=>absurd rfl h
 | [w],_,h=>by
  have h1:=h w (List.mem_cons_self ..);rw [qk0,qhu,show w.length+2+(qfe []).length-2=w.length+0 from by show w.length+2+0-2=_; omega];exact qlh _ 0 rfl w h1.1
 | w :: v :: ws,_,h=>by
  have h1:=h w (List.mem_cons_self ..);have h2:=h v (List.mem_cons_of_mem _ (List.mem_cons_self ..));have ih:=qnb S (v :: ws) (by simp) (fun u hu=>h u (List.mem_cons_of_mem _ hu));have h3:2≤(qfe (v :: ws)).length:=by rw [qhu]; omega
  rw [qk0,qhu,show w.length+2+(qfe (v :: ws)).length-2=w.length+(((qfe (v :: ws)).length-2)+2) by omega];refine qlh _ _ ?_ w h1.1;obtain ⟨c,d,v2,rfl⟩ : ∃ c d v2,v=c :: d :: v2:=by
   match v,h2.2 with
   | c :: d :: v2,_=>exact ⟨c,d,v2,rfl⟩
  obtain ⟨p1,p2,p3⟩:=qj0 h2.1;obtain ⟨_,p4,_⟩:=qj0 p3;rw [qk0] at ih ⊢;exact jbn p1 p2 p4 ih
theorem qzh {ws:List (List UInt8)} (h0:ws≠[]) (h:∀ w ∈ ws,plB w=true∧2≤w.length) (S:List UInt8) (hS:S.length≤100) (i:Nat) (x:UInt8):qfa ((qfe ws++13 :: 10 :: S).set i x):=by
 refine jb4 (qnb S ws h0 h) ?_ i x;rw [List.length_append,List.length_cons,List.length_cons];omega
theorem qxl {w:List UInt8} (h:noCL w):plB w=true:=by
 unfold plB;rw [List.all_eq_true];intro c hc;obtain ⟨h1,h2⟩:=h c hc;simp [h1,h2]
theorem qu6 (ws:List (List UInt8)):qbc ws=qfe ws:=rfl
theorem qsw {s:ByteArray} {x:List Fld} (hs:noCL s.data.toList) (h2:2≤s.size) (hx:allB x=true) :
  qa1 s x=qfe (s.data.toList :: x.map qes)++[13,10] ∧ ∀ w ∈ s.data.toList :: x.map qes,plB w=true∧2≤w.length:=by
 refine ⟨?_,fun w hw=>?_⟩
 · rw [qer (by omega) hx,← qu6,qbq,qgi x]
   simp
 · rcases List.mem_cons.1 hw with rfl | hw
   · exact ⟨qxl hs,by rw [Array.length_toList]; exact h2⟩
   · obtain ⟨f,hf,rfl⟩:=List.mem_map.1 hw
     have h3:=hx;unfold allB at h3;refine ⟨qxl (qx0 (List.all_eq_true.1 h3 f hf)).1,?_⟩;unfold qes;simp only [List.length_append,List.length_cons,List.length_nil];omega
theorem qoa {s:ByteArray} {x:List Fld} (hs:noCL s.data.toList) (h2:2≤s.size) (hx:allB x=true) (S:List UInt8) (hS:S.length≤100) (i:Nat) (c:UInt8):qfa ((qa1 s x++S).set i c):=by
 obtain ⟨h1,h3⟩:=qsw hs h2 hx;rw [h1,List.append_assoc];exact qzh (by simp) h3 S hS i c
theorem qzd {b:List UInt8} {n:Nat} (h:∀ q,22≤q→q<n→winH (b.drop q)=true) (hl:b.length≤n+104) (i:Nat) (x:UInt8):qfa (b.set i x):=fun p h4 hp hw=>by
 rw [List.length_set] at hp ⊢;by_cases h25:p≤25
 · exact .inl h25
 by_cases hq:p-4<n
 · exfalso
   have hwin:=h (p-4) (by omega) hq;obtain ⟨a0,a1,a2,a3,r,hr⟩ : ∃ a0 a1 a2 a3 r,b.drop (p-4)=a0 :: a1 :: a2 :: a3 :: r:=by
    have hl2:4≤(b.drop (p-4)).length:=by rw [List.length_drop]; omega
    match hb:b.drop (p-4),hl2 with
    | a0 :: a1 :: a2 :: a3 :: r,_=>exact ⟨a0,a1,a2,a3,r,rfl⟩
   rw [hr] at hwin;have hm:2≤mis a0 a1 a2 a3:=of_decide_eq_true hwin;by_cases hi:p-4≤i∧i<p
   · have e:((b.set i x).drop (p-4)).take 4=[a0,a1,a2,a3].set (i-(p-4)) x:=by
      rw [List.drop_set,if_neg (by omega),hr];obtain ⟨j,hj,hj4⟩ : ∃ j,i-(p-4)=j∧j<4:=⟨_,rfl,by omega⟩;rw [hj]
      match j,hj4 with
      | 0,_=>rfl
      | 1,_=>rfl
      | 2,_=>rfl
      | 3,_=>rfl
     rw [e] at hw;exact qv1 hm _ (by omega) hw
   · have e:((b.set i x).drop (p-4)).take 4=[a0,a1,a2,a3]:=by
      rw [List.drop_set]
      split
      · rw [hr]; rfl
      · rw [hr]
        obtain ⟨j,hj⟩ : ∃ j,i-(p-4)=j+4:=⟨i-(p-4)-4,by omega⟩;rw [hj]; rfl
     rw [e] at hw;exact qwp hm hw
 · exact .inr (by omega)
def qft:List UInt8:=[72,84,84,80,47,49,46,49,32,49,48,48,32,67,111,110,116,105,110,117,101,13,10,13,10]
theorem qmo {s:ByteArray} {x:List Fld} (hs:noCL s.data.toList) (h2:2≤s.size) (hx:allB x=true) (S:List UInt8) (hS:S.length≤100) (i:Nat) (c:UInt8):qfa ((qft++(qa1 s x++S)).set i c):=by
 obtain ⟨h1,h3⟩:=qsw hs h2 hx;have hw:=qnb S (s.data.toList :: x.map qes) (by simp) h3;obtain ⟨a,b,r,hr⟩ : ∃ a b r,s.data.toList=a :: b :: r:=by
  have hl:2≤s.data.toList.length:=by rw [Array.length_toList]; exact h2
  match hd:s.data.toList,hl with
  | a :: b :: r,_=>exact ⟨a,b,r,rfl⟩
 have ha:=hs a (by rw [hr]; exact List.mem_cons_self ..);have hb:=hs b (by rw [hr]; exact List.mem_cons_of_mem _ (List.mem_cons_self ..));have hB:∃ r2,qa1 s x++S=a :: b :: r2:=by
  rw [h1,hr];exact ⟨_,rfl⟩
 have hlen:(qa1 s x++S).length=(qfe (s.data.toList :: x.map qes)).length+2+S.length:=by
  rw [h1]; simp only [List.length_append,List.length_cons,List.length_nil]
 have hf2:2≤(qfe (s.data.toList :: x.map qes)).length:=by rw [qhu]; omega
 have hw2:winB ((qfe (s.data.toList :: x.map qes)).length-2) (qa1 s x++S)=true:=by
  rw [h1,List.append_assoc]; exact hw
 refine qzd (n:=25+((qfe (s.data.toList :: x.map qes)).length-2)) (fun q hq hqn=>?_) (by rw [List.length_append,hlen]; show 25+_≤_; omega) i c;by_cases h25:25≤q
 · obtain ⟨p,rfl⟩ : ∃ p,q=25+p:=⟨q-25,by omega⟩
   rw [show qft++(qa1 s x++S)=qft++(qa1 s x++S) from rfl,← List.drop_drop,show (qft++(qa1 s x++S)).drop 25=qa1 s x++S from rfl];exact quo _ _ p hw2 (by omega)
 · obtain ⟨r2,hB⟩:=hB
   rw [hB];have h4:q=22∨q=23∨q=24:=by omega
   rcases h4 with rfl | rfl | rfl
   · exact qg5 (by decide) (by decide)
   · exact qxc ha.1 hb.2
   · exact qg5 (by decide) ha.2
theorem qzq {m t:ByteArray} {z:Int} (hm:tokS m=true) (ht:jx t=true) (hz:z=0∨z=1):2≤(jd m t z).size:=by
 unfold jd;rw [if_pos ⟨hm,ht,by omega,by omega⟩];simp only [ByteArray.size_append];have e1:qkp.size=8:=rfl;omega
theorem jco {x T:List Fld} (hx:RF3 x) (hT:jem T):allB (x++T)=true:=by
 unfold allB;rw [List.all_append,Bool.and_eq_true];exact ⟨ql4 fun f hf=>(hx.made.1 f hf).1,hT.al⟩
theorem ja0 {m t:ByteArray} {z:Int} {x:List Fld} {fr ch:Bool} {l:List UInt8} (hm:m ∈ qih) (ht:t ∈ qib) (hz:z=0∨z=1) (hx:RF3 x) (hl:l.length≤30) (S:List UInt8) (hS:S.length≤30) (i:Nat) (c:UInt8):qfa ((reqW m t z x fr ch l++S).set i c):=by
 have hT:=jft fr ch z l hl;have hE:(reqE fr ch z l).length≤45:=by
  unfold reqE
  split
  · exact qta _ _ (by rw [List.length_take]; omega) (by rw [List.length_drop]; omega)
  · omega
 unfold reqW reqH;rw [List.append_assoc];exact qoa (qly (qlw hm).1 (qlp ht).1 hz).1 (qzq (qlw hm).1 (qlp ht).1 hz) (jco hx hT) _ (by rw [List.length_append]; omega) i c
theorem qgn {st z:Int} {r:ByteArray} (h0:100≤st) (h1:st≤599) (hz:z=0∨z=1) (hr:visS r=true):2≤(qad st r z).size:=by
 unfold qad;rw [if_pos ⟨h0,h1,by omega,by omega,hr⟩];simp only [ByteArray.size_append];have e1:2≤qgf.size:=by decide
 omega
theorem jbd {st z:Int} {r:ByteArray} {x:List Fld} (h0:100≤st) (h1:st≤599) (hz:z=0∨z=1) (hr:visS r=true) (hx:allB x=true) (S:List UInt8) (hS:S.length≤100) (i:Nat) (c:UInt8) :
  qfa ((qa1 (qad st r z) x++S).set i c)∧qfa ((qft++(qa1 (qad st r z) x++S)).set i c) :=
 ⟨qoa (qhm h0 h1 hz hr) (qgn h0 h1 hz hr) hx S hS i c,qmo (qhm h0 h1 hz hr) (qgn h0 h1 hz hr) hx S hS i c⟩
theorem quv {b:List UInt8} (h:∀ i c,qfa (b.set i c)):qfa b:=by
 have:=h b.length 0
 rwa [List.set_eq_of_length_le (Nat.le_refl _)] at this
def jcw:List UInt8:=[72,84,84,80,47,49,46,49,32,50,120,48,32,110,111,13,10,13,10]
structure RepP (st z:Int) (r:ByteArray) (x:List Fld):Prop where
 lo:100≤st
 hi:st≤599
 zz:z=0∨z=1
 vi:visS r=true
 al:allB x=true
 sz:(qad st r z).size≤40
 li:(kz x).length≤300
 sm:qbe x
 xl:x.length≤10
def RepF (b:List UInt8):Prop:=b=jcw ∨ ∃ st z r x e,RepP st z r x∧e.length≤60∧(b=qa1 (qad st r z) x++e∨b=qft++(qa1 (qad st r z) x++e))
theorem RepP.len {st z:Int} {r:ByteArray} {x:List Fld} (h:RepP st z r x):2≤(qa1 (qad st r z) x).length∧(qa1 (qad st r z) x).length≤400:=by
 have h2:=qgn h.lo h.hi h.zz h.vi;have h3:(qad st r z).data.toList.length=(qad st r z).size:=by rw [Array.length_toList]; rfl
 have h4:=h.sz;have h5:=h.li;rw [qer (by omega) h.al];simp only [List.length_append,List.length_cons,List.length_nil];omega
theorem RepF.len {b:List UInt8} (h:RepF b):0<b.length∧b.length≤500:=by
 rcases h with rfl | ⟨st,z,r,x,e,hp,he,rfl | rfl⟩
 · exact ⟨by decide,by decide⟩
 · have:=hp.len
   rw [List.length_append]; omega
 · have:=hp.len
   have e1:qft.length=25:=rfl;rw [List.length_append,List.length_append,e1]; omega
theorem RepF.good {b:List UInt8} (h:RepF b) (S:List UInt8) (hS:S.length≤30) (i:Nat) (c:UInt8):qfa ((b++S).set i c):=by
 rcases h with rfl | ⟨st,z,r,x,e,hp,he,rfl | rfl⟩
 · refine qvy ?_
   have e1:jcw.length=19:=rfl;rw [List.length_set,List.length_append,e1]; omega
 · rw [List.append_assoc]
   exact (jbd hp.lo hp.hi hp.zz hp.vi hp.al (e++S) (by rw [List.length_append]; omega) i c).1
 · rw [List.append_assoc,List.append_assoc]
   exact qmo (qhm hp.lo hp.hi hp.zz hp.vi) (qgn hp.lo hp.hi hp.zz hp.vi) hp.al (e++S) (by rw [List.length_append]; omega) i c
def StrF (b:List UInt8):Prop:=RepF b ∨ ∃ m t z x fr ch l,m ∈ qih∧t ∈ qib∧(z=0∨z=1)∧RF3 x∧l.length≤30∧(fr=false→l=[])∧b=reqW m t z x fr ch l
theorem StrF.good {b:List UInt8} (h:StrF b) (S:List UInt8) (hS:S.length≤30) (i:Nat) (c:UInt8):qfa ((b++S).set i c):=by
 rcases h with h | ⟨m,t,z,x,fr,ch,l,hm,ht,hz,hx,hl,hfr,rfl⟩
 · exact h.good S hS i c
 · exact ja0 hm ht hz hx hl S hS i c
theorem StrF.good0 {b:List UInt8} (h:StrF b) (S:List UInt8) (hS:S.length≤30):qfa (b++S):=quv fun i c=>h.good S hS i c
theorem StrF.len {b:List UInt8} (h:StrF b):b.length≤1800:=by
 rcases h with h | ⟨m,t,z,x,fr,ch,l,hm,ht,hz,hx,hl,hfr,rfl⟩
 · have:=h.len; omega
 · exact (qjg m t z x fr ch l hm ht hz hx hl hfr).len
def stF:List Int:=[200,200,200,404,500,503,204,304]
def ql0:List ByteArray:=[⟨#[79,75]⟩,⟨#[]⟩,⟨#[97,32,98]⟩]
theorem jfk:(stF.all fun st=>decide (100≤st∧st≤599) && ql0.all fun r=>visS r && decide ((qad st r 0).size≤40) && decide ((qad st r 1).size≤40))=true:=by decide +kernel
structure AddR (T:List Fld):Prop where
 al:allB T=true
 li:(kz T).length≤60
 le:T.length≤2
 sm:qbe T
theorem qgd {st z:Int} {r:ByteArray} {y T:List Fld} (hs:st ∈ stF) (hr:r ∈ ql0) (hz:z=0∨z=1) (hy:∀ f ∈ y,SrcF f) (hl:y.length≤2) (hT:AddR T):RepP st z r (y++T):=by
 have h1:=List.all_eq_true.1 jfk st hs;rw [Bool.and_eq_true,decide_eq_true_eq] at h1;have h2:=List.all_eq_true.1 h1.2 r hr;simp only [Bool.and_eq_true,decide_eq_true_eq] at h2;refine ⟨h1.1.1,h1.1.2,hz,h2.1.1,?_,?_,?_,fun f hf=>?_,?_⟩
 · unfold allB
   rw [List.all_append,Bool.and_eq_true];exact ⟨ql4 fun f hf=>((hy f hf).made).1,hT.al⟩
 · rcases hz with rfl | rfl
   · exact h2.1.2
   · exact h2.2
 · have h3:=qhl y fun f hf=>(hy f hf).tiny
   have:=hT.li;rw [qfc]; omega
 · rcases List.mem_append.1 hf with h | h
   · have:=(hy f h).tiny
     exact ⟨by omega,by omega⟩
   · exact hT.sm f h
 · have:=hT.le
   rw [List.length_append]; omega
theorem qxq:AddR []:=⟨rfl,by decide,by decide,fun f hf=>by cases hf⟩
def twoCL:List Fld:=[((⟨#[67,111,110,116,101,110,116,45,76,101,110,103,116,104]⟩ : ByteArray),(⟨#[49]⟩ : ByteArray)),((⟨#[67,111,110,116,101,110,116,45,76,101,110,103,116,104]⟩ : ByteArray),(⟨#[50]⟩ : ByteArray))]
theorem jda:AddR twoCL:=⟨by decide +kernel,by decide,by decide,fun f hf=>by
 unfold twoCL at hf;simp only [List.mem_cons,List.not_mem_nil,or_false] at hf;rcases hf with rfl | rfl <;> exact ⟨by decide,by decide⟩⟩
def teF:List Fld:=[((⟨#[84,114,97,110,115,102,101,114,45,69,110,99,111,100,105,110,103]⟩ : ByteArray),(⟨#[99,104,117,110,107,101,100]⟩ : ByteArray))]
theorem jeu:AddR teF:=⟨by decide +kernel,by decide,by decide,fun f hf=>by
 unfold teF at hf;obtain rfl:=List.mem_singleton.1 hf; exact ⟨by decide,by decide⟩⟩
theorem jev:∀ j:Fin 41,(fldB ⟨#[67,111,110,116,101,110,116,45,76,101,110,103,116,104]⟩ (fmtS 10 (j.val:Int)) && decide ((fmtS 10 (j.val:Int)).size≤3))=true:=by decide +kernel
def clF (n:Nat):List Fld:=[((⟨#[67,111,110,116,101,110,116,45,76,101,110,103,116,104]⟩ : ByteArray),fmtS 10 (n:Int))]
theorem jef {n:Nat} (h:n≤40):AddR (clF n):=by
 have hk:=jev ⟨n,by omega⟩;simp only [Bool.and_eq_true,decide_eq_true_eq] at hk;refine ⟨?_,?_,by show 1≤2; decide,fun f hf=>?_⟩
 · unfold allB clF
   simp only [List.all_cons,List.all_nil,Bool.and_true];exact hk.1
 · show (qjl _++[]).length≤60
   rw [List.append_nil];unfold qjl;have h2:(fmtS 10 (n:Int)).data.toList.length≤3:=by rw [Array.length_toList]; exact hk.2
   simp only [List.length_append];have h3:(⟨#[67,111,110,116,101,110,116,45,76,101,110,103,116,104]⟩ : ByteArray).data.toList.length=14:=rfl;rw [h3];simp only [List.length_cons,List.length_nil];omega
 · unfold clF at hf
   obtain rfl:=List.mem_singleton.1 hf;exact ⟨by show 14≤_; decide,Nat.le_trans hk.2 (by decide)⟩
theorem jew (p:List UInt8) (hp:p.length≤40):(qcq [p]).length≤60:=by
 have hd:∀ j:Fin 41,(digs 16 j.val).length≤2:=by decide +kernel
 have h1:=hd ⟨p.length,by omega⟩;simp only at h1;rw [qgo];by_cases e1:p=[] <;> simp [encL,e1] <;> omega
def qpf:Array Value:=#[.int .i64 200,.int .i64 200,.int .i64 200,.int .i64 404,.int .i64 500,.int .i64 503,.int .i64 204,.int .i64 304]
theorem qla:∀ k:Fin 8,∃ st ∈ stF,qpf[k.val]? = some (.int .i64 st):=by
 intro k
 match k with
 | ⟨0,_⟩=>exact ⟨200,by decide,rfl⟩
 | ⟨1,_⟩=>exact ⟨200,by decide,rfl⟩
 | ⟨2,_⟩=>exact ⟨200,by decide,rfl⟩
 | ⟨3,_⟩=>exact ⟨404,by decide,rfl⟩
 | ⟨4,_⟩=>exact ⟨500,by decide,rfl⟩
 | ⟨5,_⟩=>exact ⟨503,by decide,rfl⟩
 | ⟨6,_⟩=>exact ⟨204,by decide,rfl⟩
 | ⟨7,_⟩=>exact ⟨304,by decide,rfl⟩
def StI (B:Nat) (w:World) (v:Value):Prop:=∃ b,v = .slice (some ⟨b,0,none⟩) 8 8∧B≤b∧w.heap[b]? = some (.cells qpf 3 (0,0))
def StP (B:Nat) (w:World) (v:Value):Prop:=∃ b k,v = .pointer (some ⟨b,k,none⟩)∧B≤b∧k<8∧w.heap[b]? = some (.cells qpf 3 (0,0))
def FldS (B:Nat) (w:World) (v:Value):Prop:=∃ y,OwnF B w v y∧y.length≤2 ∧ ∀ f ∈ y,SrcF f
def AggA (B:Nat) (w:World) (v:Value):Prop:=∃ st r y fa fc,v = .agg #[.int .i64 st,.string r,.int .i64 1,.slice fa (List.length y) fc,.slice none 0 0]∧st ∈ stF∧r ∈ ql0∧OwnF B w (.slice fa y.length fc) y∧y.length≤2 ∧ ∀ f ∈ y,SrcF f
def qt0 (B:Nat) (w:World) (v:Value):Prop:=∃ q,v = .pointer (some ⟨q,0,none⟩)∧B≤q∧w.heap[q]? = some (.cells #[.int .i64 0,.string ⟨#[]⟩,.int .i64 0,.slice none 0 0,.slice none 0 0] 31 (0,0))
theorem StI.grow {B:Nat} {w w':World} {v:Value} {row:Option Nat} (h:StI B w v) (hg:w.grownBy w' row) (hr:∀ k,row=some k→k<B):StI B w' v:=by
 obtain ⟨b,h1,h2,h3⟩:=h;exact ⟨b,h1,h2,(hg.block b (qok h3) (fun e=>by have:=hr b e.symm; omega)).trans h3⟩
theorem StP.grow {B:Nat} {w w':World} {v:Value} {row:Option Nat} (h:StP B w v) (hg:w.grownBy w' row) (hr:∀ k,row=some k→k<B):StP B w' v:=by
 obtain ⟨b,k,h1,h2,h4,h3⟩:=h;exact ⟨b,k,h1,h2,h4,(hg.block b (qok h3) (fun e=>by have:=hr b e.symm; omega)).trans h3⟩
theorem FldS.grow {B:Nat} {w w':World} {v:Value} {row:Option Nat} (h:FldS B w v) (hg:w.grownBy w' row) (hr:∀ k,row=some k→k<B):FldS B w' v:=by
 obtain ⟨y,h1,h2,h3⟩:=h;exact ⟨y,h1.grown hg (fun k hk e=>by have:=(h1.lt hk).1; have:=hr k e.symm; omega),h2,h3⟩
theorem qt0.grow {B:Nat} {w w':World} {v:Value} {row:Option Nat} (h:qt0 B w v) (hg:w.grownBy w' row) (hr:∀ k,row=some k→k<B):qt0 B w' v:=by
 obtain ⟨b,h1,h2,h3⟩:=h;exact ⟨b,h1,h2,(hg.block b (qok h3) (fun e=>by have:=hr b e.symm; omega)).trans h3⟩
theorem qbn.growR {B b:Nat} {w w':World} {l:List ByteArray} {row:Option Nat} (h:qbn w (some ⟨b,0,none⟩) l) (hb:B≤b) (hg:w.grownBy w' row) (hr:∀ k,row=some k→k<B):qbn w' (some ⟨b,0,none⟩) l:=fun j hj=>by
 obtain ⟨x,e,hc⟩:=h j hj;obtain rfl:=Option.some.inj e;refine ⟨_,rfl,?_⟩;have hlt:=qbk hc;have e2:((⟨b,0,none⟩ : Addr).add j).block=b:=qcp _ _;rw [World.cell?_of_block (hg.block _ hlt (by rw [e2]; intro e; have:=hr b e.symm; omega))];exact hc
def Spec.stI (B:Nat):Spec:=⟨fun v w=>StI B w v,fun _ _ _ h hb=>h.grow (j5 (row:=none) hb) (fun k e=>by cases e)⟩
def Spec.stP (B:Nat):Spec:=⟨fun v w=>StP B w v,fun _ _ _ h hb=>h.grow (j5 (row:=none) hb) (fun k e=>by cases e)⟩
def Spec.fldS (B:Nat):Spec:=⟨fun v w=>FldS B w v,fun _ _ _ h hb=>h.grow (j5 (row:=none) hb) (fun k e=>by cases e)⟩
def Spec.arowS (B:Nat):Spec:=⟨fun v w=>qt0 B w v,fun _ _ _ h hb=>h.grow (j5 (row:=none) hb) (fun k e=>by cases e)⟩
def Spec.aggA (B:Nat):Spec:=⟨fun v w=>AggA B w v,fun _ _ _ h hb=>by
 obtain ⟨st,r,y,fa,fc,h1,h2,h3,h4,h5⟩:=h;exact ⟨st,r,y,fa,fc,h1,h2,h3,h4.keep hb,h5⟩⟩
def Spec.natB (m:Nat):Spec:=⟨fun v _=>∃ k:Nat,k<m∧v = .int .i64 k,fun _ _ _ h _=>h⟩
def Spec.stV:Spec:=⟨fun v _=>∃ st ∈ stF,v = .int .i64 st,fun _ _ _ h _=>h⟩
section
variable {Q:Exit→Act→World→Prop} {act:Act} {w:World} {o:Oper} {s:Spec} {K:Act→World→Prop}
theorem qig (ho:o.op = .buildSlice 22 8 #[(0,.const (.int .i64 200)),(1,.const (.int .i64 200)),(2,.const (.int .i64 200)),(3,.const (.int .i64 404)),(4,.const (.int .i64 500)),(5,.const (.int .i64 503)),(6,.const (.int .i64 204)),(7,.const (.int .i64 304))]) {B:Nat} (hB:B≤w.heap.size) (hs:∀ v w',StI B w' v→s.p v w') :
  o.wp Tryz.prog act w (fun a' w'=>∃ v,a'=act.put o.dst v∧Below w.heap.size w w'∧s.p v w') Q:=by
 obtain ⟨i0,hi,hz0,hz1,hz2⟩:=info_parts (show (Tryz.prog.info? 3).map (fun i=>(i.zero,i.size,i.bytes))=some (some (.int .i64 0),1,8) by kernel_rfl);have hrun:=run_buildSlice (P:=Tryz.prog) w 22 3 8 #[(0,.int .i64 200),(1,.int .i64 200),(2,.int .i64 200),(3,.int .i64 404),(4,.int .i64 500),(5,.int .i64 503),(6,.int .i64 204),(7,.int .i64 304)] qpf i0 _ Tryz.underlying22 hi hz0 (by rw [hz1]; decide) (by rw [hz1]; decide) (by rw [hz1]; simp [Instr.fill,Value.cells,Array.range_succ,qpf,show Array.range 0=#[] from rfl]);refine j0 (v:=.slice (some ⟨w.heap.size,0,none⟩) 8 8) (w':=w.alloc (.cells qpf 3)) ?_ (qd _ _) (hs _ _ ⟨_,rfl,hB,heap_alloc_new _ _⟩);unfold execOp;simp only [ho,List.map_toArray,List.map_cons,List.map_nil];rw [Sem.run_bind];exact congrArg (fun r=>Result.andThen r fun u w'=>Sem.run Tryz.prog (pure (Next.value u)) w') hrun
theorem qf5 (ho:o.op = .alloc 31) {B:Nat} (hB:B≤w.heap.size) (hs:∀ v w',qt0 B w' v→s.p v w') :
  o.wp Tryz.prog act w (fun a' w'=>∃ v,a'=act.put o.dst v∧Below w.heap.size w w'∧s.p v w') Q:=by
 have hz:(Tryz.prog.info? 31).bind (·.zero)=some (.agg #[.int .i64 0,.string ⟨#[]⟩,.int .i64 0,.slice none 0 0,.slice none 0 0]):=by kernel_rfl
 refine j0 (v:=.pointer (some ⟨w.heap.size,0,none⟩)) (w':=w.alloc (.cells #[.int .i64 0,.string ⟨#[]⟩,.int .i64 0,.slice none 0 0,.slice none 0 0] 31)) ?_ (qd _ _) (hs _ _ ⟨_,rfl,hB,heap_alloc_new _ _⟩);cases hq:Tryz.prog.info? 31 with
 | none=>rw [hq] at hz; cases hz
 | some i =>
  rw [hq] at hz;simp only [Option.bind_some] at hz;unfold execOp;simp [ho,Instr.alloc,zeroValue,typeInfo,hq,hz,newRow,newVar,Value.cells]
theorem qvk {x y z:Operand} (ho:o.op = .build 31 #[(0,x),(1,y),(2,.const (.int .i64 1)),(3,z)]) {st:Int} {r:ByteArray} {ad:Option Addr} {n c:Nat} (hx:act.eval x = .int .i64 st) (hy:act.eval y = .string r) (hz:act.eval z = .slice ad n c)
  (hs:s.p (.agg #[.int .i64 st,.string r,.int .i64 1,.slice ad n c,.slice none 0 0]) w) :
  o.wp Tryz.prog act w (fun a' w'=>∃ v,a'=act.put o.dst v∧Below w.heap.size w w'∧s.p v w') Q:=by
 refine j0 (v:=.agg #[.int .i64 st,.string r,.int .i64 1,.slice ad n c,.slice none 0 0]) ?_ (Below.refl _ _) hs;have hb:=run_build (P:=Tryz.prog) w 31 #[(0,.int .i64 st),(1,.string r),(2,.int .i64 1),(3,.slice ad n c)] #[.int .i64 st,.string r,.int .i64 1,.slice ad n c,.slice none 0 0] (by kernel_rfl);unfold execOp;simp only [ho,List.map_toArray,List.map_cons,List.map_nil,hx,hy,hz];rw [Sem.run_bind];exact congrArg (fun r=>Result.andThen r fun u w'=>Sem.run Tryz.prog (pure (Next.value u)) w') hb
end
structure RpK (B g:Nat) (a:Option Addr) (n c:Nat) (w0:World) (q:Nat) (vF:Value) (x:List Fld) (cs:Array Value) (w:World):Prop where
 row:w.heap[q]? = some (.cells cs 31 (0,0))
 own:OwnF B w vF x
 src:Src w g a n c
 grown:w0.grownBy w (some g)
structure RpN (B g:Nat) (a:Option Addr) (n:Nat) (w0:World) (q:Nat):Prop where
 lo:g<B
 src:∀ x,a=some x→0<n→x.block<B
 eq:B=w0.heap.size
 q:B≤q
theorem qut {B:Nat} {w:World} {v:Value} {l:List Fld} {q:Nat} {cs:Array Value} {fz:Nat × Nat} (h:OwnF B w v l) (hr:w.heap[q]? = some (.cells cs 31 fz)):v.ownBlock≠some q:=fun e=>by
 rcases h.2 with ⟨h1,_⟩ | ⟨g',cap,cur,h1,h2,h3,_⟩
 · rw [h1] at e; cases e
 · rw [h1] at e
   obtain rfl:g'=q:=Option.some.inj e;rw [hr] at h3;have:=Option.some.inj h3;injection this with _ h4;exact absurd h4 (by decide)
theorem RpK.keep {B g:Nat} {a:Option Addr} {n c:Nat} {w0:World} {q:Nat} {vF:Value} {x:List Fld} {cs:Array Value} {w w':World} (h:RpK B g a n c w0 q vF x cs w) (hb:Below w.heap.size w w'):RpK B g a n c w0 q vF x cs w' :=
 ⟨(hb.block q (qok h.row)).trans h.row,h.own.keep hb,h.src.keep hb,qh h.grown (j5 hb)⟩
theorem RpK.next {B g:Nat} {a:Option Addr} {n c:Nat} {w0:World} {q:Nat} {vF:Value} {x:List Fld} {cs:Array Value} {w w':World} (h:RpK B g a n c w0 q vF x cs w) (N:RpN B g a n w0 q) (hg:w.grownBy w' (some g)) (hs:Src w' g a n c):RpK B g a n c w0 q vF x cs w':=by
 have n1:=N.lo;have n2:=N.q;exact ⟨(hg.block q (qok h.row) (fun e=>by have:=Option.some.inj e; omega)).trans h.row,h.own.grown hg (fun k hk e=>by have:=(h.own.lt hk).1; have:=Option.some.inj e; omega),hs,qh h.grown hg⟩
theorem RpK.set {B g:Nat} {a:Option Addr} {n c:Nat} {w0:World} {q:Nat} {vF:Value} {x:List Fld} {cs:Array Value} {w:World} (h:RpK B g a n c w0 q vF x cs w) (N:RpN B g a n w0 q) (i:Nat) (v:Value):RpK B g a n c w0 q vF x (cs.setIfInBounds i v) (w.setCell ⟨q,i,none⟩ v):=by
 have n1:=N.lo;have n2:=N.q;have n3:=N.eq;have hg:w.grownBy (w.setCell ⟨q,i,none⟩ v) (some q):=qa9;exact ⟨heap_setCell_same w q i cs 31 v h.row,h.own.grown hg (fun k hk e=>qut h.own h.row (hk.trans e)),h.src.other hg (by omega) (fun y e h0=>by have:=N.src y e h0; omega),ku h.grown hg (fun j e=>by have:=Option.some.inj e; omega)⟩
theorem RpK.app {B g:Nat} {a:Option Addr} {n c:Nat} {w0:World} {q:Nat} {vF vG:Value} {x x2:List Fld} {cs:Array Value} {w w':World} (h:RpK B g a n c w0 q vF x cs w) (N:RpN B g a n w0 q) (ho:OwnF B w' vG x2) (hg:w.grownBy w' vF.ownBlock):RpK B g a n c w0 q vG x2 cs w':=by
 have n1:=N.lo;have n2:=N.q;have n3:=N.eq;have hr:∀ k,vF.ownBlock=some k→B≤k:=fun k hk=>(h.own.lt hk).1;exact ⟨(hg.block q (qok h.row) (fun e=>qut h.own h.row e.symm)).trans h.row,ho,h.src.grown hg (fun e=>by have:=hr g e.symm; omega) (fun y e h0 e2=>by have:=hr _ e2.symm; have:=N.src y e h0; omega),ku h.grown hg (fun j e=>by have:=hr j e; omega)⟩
def RpS0 (B g:Nat) (a:Option Addr) (n c:Nat) (w0:World) (q:Nat) (w:World):Prop:=∃ st r y fa fc,st ∈ stF∧r ∈ ql0∧List.length y≤2∧(∀ f ∈ y,SrcF f)∧RpK B g a n c w0 q (.slice fa y.length fc) y #[.int .i64 st,.string r,.int .i64 1,.slice fa y.length fc,.slice none 0 0] w
end Go.Proofs.YtflhjpokjdjbpaaGreatDoor
namespace Go.Proofs.YtflhjpokjdjbpaaGreatDoor
open Go.RowKit
set_option linter.unusedVariables false
theorem qvr (w:World) (a b c d:ByteArray):qm (w.alloc (.cells #[.string a,.string b,.string c,.string d] 78)) (some ⟨w.heap.size,0,none⟩) [(a,b),(c,d)]:=fun j hj=>by
 match j,hj with
 | 0,_=>exact ⟨_,rfl,by rw [Addr.add_lit,jm]; rfl,by rw [Addr.add_lit,jm]; rfl⟩
 | 1,_=>exact ⟨_,rfl,by rw [Addr.add_lit,jm]; rfl,by rw [Addr.add_lit,jm]; rfl⟩
theorem qsc {B:Nat} {l:List ByteArray} {w w':World} {v:Value} {row:Option Nat} (h:(Spec.strsNew B l).p v w) (hg:w.grownBy w' row) (hr:∀ k,row=some k→k<B):(Spec.strsNew B l).p v w':=by
 obtain ⟨b,h1,h2,h3⟩:=h;exact ⟨b,h1,h2,h3.growR h2 hg hr⟩
theorem OwnF.lowR {B B':Nat} {w:World} {v:Value} {l:List Fld} (h:OwnF B w v l) (hB:B'≤B):OwnF B' w v l:=by
 rcases h with ⟨h0,h1 | ⟨g',cap,cur,e,hg,hc⟩⟩
 · exact ⟨h0,.inl h1⟩
 · exact ⟨h0,.inr ⟨g',cap,cur,e,Nat.le_trans hB hg,hc⟩⟩
theorem RpS0.keep {B g:Nat} {a:Option Addr} {n c:Nat} {w0:World} {q:Nat} {w w':World} (h:RpS0 B g a n c w0 q w) (hb:Below w.heap.size w w'):RpS0 B g a n c w0 q w':=by
 obtain ⟨st,r,y,fa,fc,h1,h2,h3,h4,h5⟩:=h;exact ⟨st,r,y,fa,fc,h1,h2,h3,h4,h5.keep hb⟩
def Spec.rps (g:Nat) (a:Option Addr) (n c:Nat) (w0:World):Spec:=⟨fun v w=>∃ q,v = .pointer (some ⟨q,0,none⟩)∧w0.heap.size≤q∧RpS0 w0.heap.size g a n c w0 q w,fun _ _ _ h hb=>by
 obtain ⟨q,h1,h2,h3⟩:=h;exact ⟨q,h1,h2,h3.keep hb⟩⟩
def RpS1 (B g:Nat) (a:Option Addr) (n c:Nat) (w0:World) (q:Nat) (w:World):Prop:=∃ st z r y vF,st ∈ stF∧r ∈ ql0∧(z=0∨z=1)∧List.length y≤2∧(∀ f ∈ y,SrcF f)∧RpK B g a n c w0 q vF y #[.int .i64 st,.string r,.int .i64 z,vF,.slice none 0 0] w
def jg9 (B g:Nat) (a:Option Addr) (n c:Nat) (w0:World) (q:Nat) (w:World) (vB vP:Value):Prop:=∃ st z r x vF e,RepP st z r x∧RpK B g a n c w0 q vF x #[.int .i64 st,.string r,.int .i64 z,vF,.slice none 0 0] w ∧
 (∃ bA bc,vB = .slice bA (List.length e) bc∧qg w bA e bc ∧ ∀ y,bA=some y→e≠[]→vP.ownBlock≠some y.block)∧e.length≤60∧(vP = .slice none 0 0∨OwnM B w vP qft)
def jen (w:World) (g:Nat) (a:Option Addr) (n c:Nat) (e:Ending) (w':World):Prop:=∃ v b,e = .returned v∧OwnM w.heap.size w' v b∧RepF b∧Src w' g a n c∧w.grownBy w' (some g)
theorem qxj {B C:Nat} {w:World} {v u:Value} {l:List UInt8} {x:List Fld} (h:Own B w v l) (k:OwnF C w u x) {j:Nat} (hj:v.ownBlock=some j):u.ownBlock≠some j:=fun e=>by
 rcases h.2 with ⟨h1,_⟩ | ⟨g',cap,cur,h1,h2,h3,_⟩
 · rw [h1] at hj; cases hj
 · rw [h1] at hj
   obtain rfl:g'=j:=Option.some.inj hj;rcases k.2 with ⟨h4,_⟩ | ⟨g2,cap2,cur2,h4,h5,h6,_⟩
   · rw [h4] at e; cases e
   · rw [h4] at e
     obtain rfl:g2=g':=Option.some.inj e;rw [h6] at h3;have:=Option.some.inj h3;injection this with _ h7;exact absurd h7 (by decide)
theorem qwm {B:Nat} {w:World} {v:Value} {l:List UInt8} {q:Nat} {cs:Array Value} {fz:Nat × Nat} (h:Own B w v l) (hr:w.heap[q]? = some (.cells cs 31 fz)):v.ownBlock≠some q:=fun e=>by
 rcases h.2 with ⟨h1,_⟩ | ⟨g',cap,cur,h1,h2,h3,_⟩
 · rw [h1] at e; cases e
 · rw [h1] at e
   obtain rfl:g'=q:=Option.some.inj e;rw [hr] at h3;have:=Option.some.inj h3;injection this with _ h4;exact absurd h4 (by decide)
theorem qh6 {w w':World} {a:Option Addr} {l:List UInt8} {c:Nat} {row:Option Nat} (h:qg w a l c) (hg:w.grownBy w' row) (hne:∀ y,a=some y→l≠[]→row≠some y.block):qg w' a l c:=by
 refine h.same fun y e hl=>?_;rcases h with ⟨rfl,_,_⟩ | ⟨x,h1,_,_,hc⟩
 · cases e
 · obtain rfl:=Option.some.inj (e.symm.trans h1)
   have h0:0<l.length:=List.length_pos_iff.2 hl;have hlt:=qbk (hc 0 h0);rw [qcp] at hlt;exact hg.block _ hlt fun e2=>hne y e hl e2.symm
def Spec.rpa (B g:Nat) (a:Option Addr) (n c:Nat) (w0:World) (q:Nat) (x:List Fld) (cs:Array Value) (vB:Value) (d:List UInt8):Spec:=⟨fun v wx=>RpK B g a n c w0 q v x cs wx∧Own B wx vB d,fun _ _ _ h hb=>⟨h.1.keep hb,h.2.keep hb⟩⟩
theorem RpK.added {B g:Nat} {a:Option Addr} {n c:Nat} {w0:World} {q:Nat} {vF vG:Value} {x x2:List Fld} {st z:Int} {r:ByteArray} {w w':World} (h:RpK B g a n c w0 q vF x #[.int .i64 st,.string r,.int .i64 z,vF,.slice none 0 0] w) (N:RpN B g a n w0 q) (ho:OwnF B w' vG x2) (hg:w.grownBy w' vF.ownBlock) :
  RpK B g a n c w0 q vG x2 #[.int .i64 st,.string r,.int .i64 z,vG,.slice none 0 0] (w'.setCell ⟨q,3,none⟩ vG):=(h.app N ho hg).set N 3 vG
theorem Own.added {B:Nat} {g:Nat} {a:Option Addr} {n c:Nat} {w0:World} {q:Nat} {vF vG vB:Value} {x x2:List Fld} {d:List UInt8} {cs:Array Value} {w w':World} (h:Own B w vB d) (k:RpK B g a n c w0 q vF x cs w) (k2:RpK B g a n c w0 q vG x2 cs w') (hg:w.grownBy w' vF.ownBlock) (v:Value):Own B (w'.setCell ⟨q,3,none⟩ v) vB d:=by
 have h1:Own B w' vB d:=h.grown hg fun j hj e=>qxj h k.own hj e.symm;exact h1.grown qa9 fun j hj e=>qwm h1 k2.row (hj.trans e)
theorem qyr (g:Nat) (a:Option Addr) (n c:Nat) (w:World) (h:Src w g a n c) :
  Calls Tryz.prog 14 #[.pointer (some ⟨g,0,none⟩)] w (jen w g a n c):=by
 have H0:=Box.mk h;have HLOW:=Box.mk h.low;have HB0:=Box.mk h.lt;clear h;go_enter Tryz.func14,Tryz.ntmps14
 go_wp2_with fail;rename_i K hK;refine qco [2,7,9,12] (fun p=>match p with | 0=>[0,1,5,6,8,11] | 1=>[0,3,4,5,6,8,11] | 2=>[0,3,4,8,11] | 3=>[0,3,4,10,11] | _=>[])
  (fun p=>match p with
   | 0=>[.stI w.heap.size,.val (.pointer (some ⟨g,0,none⟩)),.nope,.nope,.nope,.val (.pointer (some ⟨g,0,none⟩)),.strsNew w.heap.size ql0,.nope,.val (.pointer (some ⟨g,0,none⟩)),.nope,.nope,.arowS w.heap.size,.any]
   | 1=>[.stI w.heap.size,.any,.natB 8,.stP w.heap.size,.stV,.val (.pointer (some ⟨g,0,none⟩)),.strsNew w.heap.size ql0,.nope,.val (.pointer (some ⟨g,0,none⟩)),.nope,.nope,.arowS w.heap.size,.any]
   | 2=>[.stI w.heap.size,.any,.natB 8,.stP w.heap.size,.stV,.any,.any,.strOf ql0,.val (.pointer (some ⟨g,0,none⟩)),.nope,.nope,.arowS w.heap.size,.any]
   | 3=>[.stI w.heap.size,.any,.natB 8,.stP w.heap.size,.stV,.any,.any,.strOf ql0,.any,.fldS w.heap.size,.aggA w.heap.size,.arowS w.heap.size,.any]
   | _=>[.any,.any,.any,.any,.any,.any,.any,.any,.any,.any,.any,.rps g a n c w,.any])
  (fun p=>match p with | 4=>fun wx=>True | _=>fun wx=>Src wx g a n c∧w.grownBy wx (some g))
  (by kernel_rfl) (by kernel_rfl) (by kernel_rfl) (by kernel_rfl) (by kernel_rfl) (by kernel_rfl) ?_ ⟨H0.out,qr7 _ _⟩ ?_ ?_ ?_
 · intro ph w1' w2' h hb
   match ph,h with
   | 0,h=>exact ⟨h.1.keep hb,qh h.2 (j5 hb)⟩
   | 1,h=>exact ⟨h.1.keep hb,qh h.2 (j5 hb)⟩
   | 2,h=>exact ⟨h.1.keep hb,qh h.2 (j5 hb)⟩
   | 3,h=>exact ⟨h.1.keep hb,qh h.2 (j5 hb)⟩
   | 4,_=>exact trivial
   | (_+5),h=>exact ⟨h.1.keep hb,qh h.2 (j5 hb)⟩
 · intro ph hph
   match ph,hph with
   | 0,_ =>
    refine ⟨?_,?_,?_,?_,?_,?_,trivial⟩ <;> intro a1 w1' hv hf hd
    · exact ⟨qb rfl,qig rfl (by have:=hv.2.size; omega) fun v w' h=>h⟩
    · exact ⟨qb rfl,qi rfl (hf.base 0 rfl)⟩
    · exact ⟨qb rfl,qi rfl (hf.base 0 rfl)⟩
    · exact ⟨qb rfl,qrw ql0 rfl rfl (by simp only [List.map_toArray,List.map_cons,List.map_nil]; rfl) (by decide) (by decide) (by kernel_rfl) fun h=>⟨_,rfl,hv.2.size,h⟩⟩
    · exact ⟨qb rfl,qi rfl (hf.base 0 rfl)⟩
    · exact ⟨qb rfl,qf5 rfl hv.2.size fun v w' h=>h⟩
   | 1,_ =>
    refine ⟨?_,?_,?_,?_,?_,?_,?_,trivial⟩ <;> intro a1 w1' hv hf hd
    · exact ⟨qb rfl,qig rfl (by have:=hv.2.size; omega) fun v w' h=>h⟩
    · obtain ⟨b,e6,hb1,hb2⟩:=hd 0 rfl
      obtain ⟨k,hk,e8⟩:=hd 2 rfl;exact ⟨qb rfl,qhi rfl e6 e8 hk ⟨b,k,by rw [Addr.add_lit,Nat.zero_add],hb1,hk,hb2⟩⟩
    · obtain ⟨b,k,e9,hb1,hk,hb2⟩:=hd 3 rfl
      obtain ⟨st,hst,hc⟩:=qla ⟨k,hk⟩;exact ⟨qb rfl,jg rfl e9 (by rw [cell_of_row _ _ _ _ _ _ hb2]; exact hc) (qay _) ⟨st,hst,rfl⟩⟩
    · exact ⟨qb rfl,qi rfl (hf.base 0 rfl)⟩
    · exact ⟨qb rfl,qrw ql0 rfl rfl (by simp only [List.map_toArray,List.map_cons,List.map_nil]; rfl) (by decide) (by decide) (by kernel_rfl) fun h=>⟨_,rfl,hv.2.size,h⟩⟩
    · exact ⟨qb rfl,qi rfl (hf.base 0 rfl)⟩
    · exact ⟨qb rfl,qf5 rfl hv.2.size fun v w' h=>h⟩
   | 2,_ =>
    refine ⟨?_,?_,?_,?_,?_,trivial⟩ <;> intro a1 w1' hv hf hd
    · exact ⟨qb rfl,qig rfl (by have:=hv.2.size; omega) fun v w' h=>h⟩
    · obtain ⟨b,e6,hb1,hb2⟩:=hd 0 rfl
      obtain ⟨k,hk,e8⟩:=hd 2 rfl;exact ⟨qb rfl,qhi rfl e6 e8 hk ⟨b,k,by rw [Addr.add_lit,Nat.zero_add],hb1,hk,hb2⟩⟩
    · obtain ⟨b,k,e9,hb1,hk,hb2⟩:=hd 3 rfl
      obtain ⟨st,hst,hc⟩:=qla ⟨k,hk⟩;exact ⟨qb rfl,jg rfl e9 (by rw [cell_of_row _ _ _ _ _ _ hb2]; exact hc) (qay _) ⟨st,hst,rfl⟩⟩
    · exact ⟨qb rfl,qi rfl (hf.base 0 rfl)⟩
    · exact ⟨qb rfl,qf5 rfl hv.2.size fun v w' h=>h⟩
   | 3,_ =>
    refine ⟨?_,?_,?_,?_,?_,trivial⟩ <;> intro a1 w1' hv hf hd
    · exact ⟨qb rfl,qig rfl (by have:=hv.2.size; omega) fun v w' h=>h⟩
    · obtain ⟨b,e6,hb1,hb2⟩:=hd 0 rfl
      obtain ⟨k,hk,e8⟩:=hd 2 rfl;exact ⟨qb rfl,qhi rfl e6 e8 hk ⟨b,k,by rw [Addr.add_lit,Nat.zero_add],hb1,hk,hb2⟩⟩
    · obtain ⟨b,k,e9,hb1,hk,hb2⟩:=hd 3 rfl
      obtain ⟨st,hst,hc⟩:=qla ⟨k,hk⟩;exact ⟨qb rfl,jg rfl e9 (by rw [cell_of_row _ _ _ _ _ _ hb2]; exact hc) (qay _) ⟨st,hst,rfl⟩⟩
    · obtain ⟨st,hst,e10⟩:=hd 4 rfl
      obtain ⟨r,hr,e13⟩:=hd 7 rfl;obtain ⟨y,ho,hl,hs⟩:=hd 9 rfl;obtain ⟨fa,fc,e15,_⟩:=OwnF.shape ho;rw [e15] at ho;exact ⟨qb rfl,qvk rfl e10 e13 e15 ⟨st,r,y,fa,fc,rfl,hst,hr,ho,hl,hs⟩⟩
    · exact ⟨qb rfl,qf5 rfl hv.2.size fun v w' h=>h⟩
   | 4,_=>exact trivial
 · intro ph hph
   match ph,hph with
   | 0,_ =>
    intro a2 w2 hv hf hd;refine ⟨qb rfl,qgl rfl (by kernel_rfl) ?_⟩;show Calls _ _ #[a2.eval (.tmp 7),.int .i64 8] w2 _
    rw [show a2.eval (.tmp 7)=_ from hd 1 rfl];refine (qbi g 8 a n c w2 hv.1 (by decide) (by decide)).mono ?_;rintro e w' ⟨k,hk,rfl,hs,hg⟩;exact ⟨_,rfl,_,rfl,⟨hs,qh hv.2 hg⟩,⟨k,hk,rfl⟩,⟨.inr fun _ _ h=>StI.grow h hg (fun k e=>by have:=Option.some.inj e; have:=HB0.out; omega),.inr fun _ _ _=>trivial,.inl rfl,.inr fun _ _ h=>h.elim,.inr fun _ _ h=>h.elim,.inr fun _ _ h=>h,.inr fun _ _ h=>qsc h hg (fun k e=>by have:=Option.some.inj e; have:=HB0.out; omega),.inr fun _ _ h=>h.elim,.inr fun _ _ h=>h,.inr fun _ _ h=>h.elim,.inr fun _ _ h=>h.elim,.inr fun _ _ h=>qt0.grow h hg (fun k e=>by have:=Option.some.inj e; have:=HB0.out; omega),.inr fun _ _ _=>trivial,trivial⟩⟩
   | 1,_ =>
    intro a2 w2 hv hf hd;obtain ⟨b,e12,hb1,hb2⟩:=hd 6 rfl;refine ⟨qb rfl,qgl rfl (by kernel_rfl) ?_⟩;show Calls _ _ #[a2.eval (.tmp 11),a2.eval (.tmp 12)] w2 _
    rw [show a2.eval (.tmp 11)=_ from hd 5 rfl,show a2.eval (.tmp 12)=_ from e12];refine (of_n g b 3 ql0 3 a n c w2 hv.1 hb2 (by have:=HB0.out; omega) rfl (by decide) (by decide)).mono ?_;rintro e w' ⟨r,hr,rfl,hs,hg⟩;exact ⟨_,rfl,_,rfl,⟨hs,qh hv.2 hg⟩,⟨r,hr,rfl⟩,⟨.inr fun _ _ h=>StI.grow h hg (fun k e=>by have:=Option.some.inj e; have:=HB0.out; omega),.inr fun _ _ _=>trivial,.inr fun _ _ h=>h,.inr fun _ _ h=>StP.grow h hg (fun k e=>by have:=Option.some.inj e; have:=HB0.out; omega),.inr fun _ _ h=>h,.inr fun _ _ _=>trivial,.inr fun _ _ _=>trivial,.inl rfl,.inr fun _ _ h=>h,.inr fun _ _ h=>h.elim,.inr fun _ _ h=>h.elim,.inr fun _ _ h=>qt0.grow h hg (fun k e=>by have:=Option.some.inj e; have:=HB0.out; omega),.inr fun _ _ _=>trivial,trivial⟩⟩
   | 2,_ =>
    intro a2 w2 hv hf hd;refine ⟨qb rfl,qgl rfl (by kernel_rfl) ?_⟩;show Calls _ _ #[a2.eval (.tmp 14),.int .i64 2] w2 _
    rw [show a2.eval (.tmp 14)=_ from hd 8 rfl];refine (qh3 g 2 a n c w2 hv.1 (by decide)).mono ?_;rintro e w' ⟨v,y,rfl,ho,hl,hsf,hs,hg⟩;exact ⟨_,rfl,_,rfl,⟨hs,qh hv.2 hg⟩,⟨y,ho.lowR hv.2.size,hl,hsf⟩,⟨.inr fun _ _ h=>StI.grow h hg (fun k e=>by have:=Option.some.inj e; have:=HB0.out; omega),.inr fun _ _ _=>trivial,.inr fun _ _ h=>h,.inr fun _ _ h=>StP.grow h hg (fun k e=>by have:=Option.some.inj e; have:=HB0.out; omega),.inr fun _ _ h=>h,.inr fun _ _ _=>trivial,.inr fun _ _ _=>trivial,.inr fun _ _ h=>h,.inr fun _ _ _=>trivial,.inl rfl,.inr fun _ _ h=>h.elim,.inr fun _ _ h=>qt0.grow h hg (fun k e=>by have:=Option.some.inj e; have:=HB0.out; omega),.inr fun _ _ _=>trivial,trivial⟩⟩
   | 3,_ =>
    intro a2 w2 hv hf hd;obtain ⟨q,e3,hq,hrow⟩:=hd 11 rfl;obtain ⟨st,r,y,fa,fc,e16,hst,hr,ho,hl,hsf⟩:=hd 10 rfl;refine ⟨qb rfl,wp_store_row 31 _ _ rfl q #[.int .i64 st,.string r,.int .i64 1,.slice fa (List.length y) fc,.slice none 0 0] e3 e16 31 _ hrow ko rfl (by simp [Value.oneCell']) ?_⟩;refine ⟨undef,rfl,trivial,trivial,⟨.inr fun _ _ _=>trivial,.inr fun _ _ _=>trivial,.inr fun _ _ _=>trivial,.inr fun _ _ _=>trivial,.inr fun _ _ _=>trivial,.inr fun _ _ _=>trivial,.inr fun _ _ _=>trivial,.inr fun _ _ _=>trivial,.inr fun _ _ _=>trivial,.inr fun _ _ _=>trivial,.inr fun _ _ _=>trivial,.inr fun v hq2 _=>⟨q,(hq2 _ _ rfl rfl).trans e3,hq,⟨st,r,y,fa,fc,hst,hr,hl,hsf,
      ⟨setRow_heap _ _ _ _ _ _ hrow,OwnF.same ho fun k hk=>setRow_other _ _ _ _ (fun e=>qut ho hrow (by rw [hk,e])),hv.1.other (jy w2 q _) (by have:=HB0.out; omega) (fun y e h0=>by have:=HLOW.out y e h0; omega),js hv.2 hq _⟩⟩⟩,.inl rfl,trivial⟩⟩
 · intro a2 w2 hv hf hh
   obtain ⟨q,e3,hq,hst⟩ : ∃ q,a2.eval (.tmp 3) = .pointer (some ⟨q,0,none⟩)∧w.heap.size≤q∧RpS0 w.heap.size g a n c w q w2:=hh 11 (by decide);clear hh hv;rw [jl hf];clear hf;simp only [kg,e3];generalize a2.eval (.tmp 6)=u6;generalize a2.eval (.tmp 7)=u7;generalize a2.eval (.tmp 8)=u8;generalize a2.eval (.tmp 9)=u9;generalize a2.eval (.tmp 10)=u10;generalize a2.eval (.tmp 11)=u11;generalize a2.eval (.tmp 12)=u12;generalize a2.eval (.tmp 13)=u13;generalize a2.eval (.tmp 14)=u14;generalize a2.eval (.tmp 15)=u15;generalize a2.eval (.tmp 16)=u16;clear e3 a2;simp only [Act.put,List.setIfInBounds_toArray,List.set_cons_succ,List.set_cons_zero];have HN:=Box.mk (show RpN w.heap.size g a n w q from ⟨HB0.out,HLOW.out,rfl,hq⟩);obtain ⟨st,r,y,fa,fc,hst,hr,hl,hsf,hk⟩:=hst;have HA:=Box.mk (And.intro hst (And.intro hr (And.intro hl hsf)));have HK:=Box.mk hk;clear hst hr hl hsf hk hq H0;refine hK _ _ ?_;clear hK;go_wp2_with fail;refine (qbi g 8 a n c w2 HK.out.src (by decide) (by decide)).mono ?_;rintro e w3 ⟨k,hk,rfl,hs3,hg3⟩;have HK3:=Box.mk (HK.out.next HN.out hg3 hs3);clear hs3 hg3 HK hk;go_upto_if 19 with fail
   go_cut [] (fun wx=>Box (RpS1 w.heap.size g a n c w q wx))
   case first =>
    have hfz:=frozen_of_row w3 q 2 _ _ HK3.out.row;have hc2:w3.cell? ⟨q,2,none⟩=some (.int .i64 1):=by rw [cell_of_row _ _ _ _ _ _ HK3.out.row]; rfl
    by_cases hk0:k=0
    · have e0:(((k:Nat):Int) == 0)=true:=by rw [hk0]; rfl
      clear hk0;go_wp2_with fail;go_meet
      exact ⟨⟨st,0,r,y,_,HA.out.1,HA.out.2.1,.inl rfl,HA.out.2.2.1,HA.out.2.2.2,HK3.out.set HN.out 2 _⟩⟩
    · have e0:(((k:Nat):Int) == 0)=false:=by rw [beq_eq_false_iff_ne]; omega
      clear hk0;go_wp2_with fail;go_meet
      exact ⟨⟨st,1,r,y,_,HA.out.1,HA.out.2.1,.inr rfl,HA.out.2.2.1,HA.out.2.2.2,HK3.out⟩⟩
   case rest =>
    obtain ⟨st,z,r,y,vF,h1,h2,h3,h4,h5,h6⟩:=hcut.out;have HA2:=Box.mk (And.intro h1 (And.intro h2 (And.intro h3 (And.intro h4 h5))));have HKC:=Box.mk h6;clear h1 h2 h3 h4 h5 h6 hcut HK3 HA;go_wp2_with fail;refine (qg0 g 40 a n c wc HKC.out.src (by decide)).mono ?_;rintro e w4 ⟨vB,d,rfl,hB,hdl,hs4,hg4⟩;have HK4:=Box.mk (HKC.out.next HN.out hg4 hs4);have HB4:=Box.mk (And.intro (hB.mono (show w.heap.size≤wc.heap.size from HKC.out.grown.size)) hdl);clear hB hdl hs4 hg4 HKC;obtain ⟨bA,bC,rfl,_⟩:=HB4.out.1.bytesL;go_wp2_with fail;refine (qbi g 12 a n c w4 HK4.out.src (by decide) (by decide)).mono ?_;rintro e w5 ⟨k,hk,rfl,hs5,hg5⟩;have HK5:=Box.mk (HK4.out.next HN.out hg5 hs5);have HB5:=Box.mk (And.intro (HB4.out.1.grown hg5 (fun k2 hk2 e=>by have:=(HB4.out.1.lt hk2).1; have:=Option.some.inj e; have:=HN.out.lo; omega)) HB4.out.2);have HKL:=Box.mk hk;clear hs5 hg5 HK4 HB4 hk;by_cases hk0:k=0
    · have kc:=fun (w:World) (C:Array Value) (n c:Nat)=>Lib.run_convert_bytes_const (P:=Tryz.prog) w 23 5 C n c Tryz.underlying23 Tryz.underlying5
      subst hk0;go_wp2_with fail;go_ret;have hrow:=heap_alloc_new w5 (.cells (j9 jcw).toArray 5 (19,20));exact ⟨_,jcw,rfl,⟨w5.heap.size,19,_,(19,20),rfl,HK5.out.grown.size,hrow,.inr (by decide),by decide,by decide,rfl,rfl⟩,.inl rfl,HK5.out.src.keep (qd _ _),qh HK5.out.grown (j5 (qd _ _))⟩
    · have b0:(((k:Nat):Int) == 0)=false:=by rw [beq_eq_false_iff_ne]; omega
      have hfz:=frozen_of_row w5 q 3 _ _ HK5.out.row;have hc3:w5.cell? ⟨q,3,none⟩=some vF:=by rw [cell_of_row _ _ _ _ _ _ HK5.out.row]; rfl
      go_upto_block 0 with fail
      go_cut [4,5] (fun s4 s5 wx=>Box (jg9 w.heap.size g a n c w q wx s4 s5))
      case first =>
       have hle:w.heap.size≤w5.heap.size:=HK5.out.grown.size;have HBY:=Box.mk (show ∃ bA2 bC2,Value.slice bA d.length bC = .slice bA2 (List.length d) bC2∧qg w5 bA2 d bC2 from HB5.out.1.bytesL);by_cases hk1:k=1
       · have kc:=fun (w:World) (C:Array Value) (n c:Nat)=>Lib.run_convert_bytes_const (P:=Tryz.prog) w 23 5 C n c Tryz.underlying23 Tryz.underlying5
         subst hk1;clear b0;go_wp2_with fail;go_meet
         obtain ⟨bA2,bC2,e2,hib⟩:=HBY.out;obtain ⟨rfl,_,rfl⟩:=Value.slice.inj e2;have hp:=qgd (T:=[]) HA2.out.1 HA2.out.2.1 HA2.out.2.2.1 HA2.out.2.2.2.2 HA2.out.2.2.2.1 qxq;rw [List.append_nil] at hp;exact ⟨st,z,r,y,vF,d,hp,HK5.out.keep (qd _ _),⟨_,_,rfl,hib.keep (qd _ _),fun y2 e3 _ e4=>by
           have h5:=(HB5.out.1.lt (k:=y2.block) (by rw [e3]; rfl)).2;have h6:w5.heap.size=y2.block:=Option.some.inj e4;omega⟩,by have:=HB5.out.2; omega,
          .inr ⟨w5.heap.size,25,_,(25,26),rfl,hle,heap_alloc_new w5 (.cells (j9 qft).toArray 5 (25,26)),.inr (by decide),by decide,by decide,rfl,rfl⟩⟩
       · have b1:(((k:Nat):Int) == 1)=false:=by rw [beq_eq_false_iff_ne]; omega
         by_cases hk2:k=2
         · subst hk2
           clear b0 b1;have HO6:=Box.mk (HK5.out.own.keep (qd w5 (.cells #[.string ⟨#[67,111,110,116,101,110,116,45,76,101,110,103,116,104]⟩,.string ⟨#[49]⟩,.string ⟨#[67,111,110,116,101,110,116,45,76,101,110,103,116,104]⟩,.string ⟨#[50]⟩] 78)));have HF6:=Box.mk (show qfo (w5.alloc (.cells #[.string ⟨#[67,111,110,116,101,110,116,45,76,101,110,103,116,104]⟩,.string ⟨#[49]⟩,.string ⟨#[67,111,110,116,101,110,116,45,76,101,110,103,116,104]⟩,.string ⟨#[50]⟩] 78)) (some ⟨w5.heap.size,0,none⟩) twoCL 2 from ⟨qvr w5 _ _ _ _,fun e=>by cases e⟩);have HL6:=Box.mk (show y.length+twoCL.length≤4398046511104 by have:=HA2.out.2.2.2.1; show _+2≤_; omega);have HS6:=Box.mk (show w.heap.size≤(w5.alloc (.cells #[.string ⟨#[67,111,110,116,101,110,116,45,76,101,110,103,116,104]⟩,.string ⟨#[49]⟩,.string ⟨#[67,111,110,116,101,110,116,45,76,101,110,103,116,104]⟩,.string ⟨#[50]⟩] 78)).heap.size by rw [World.size_alloc]; omega);have HK6:=Box.mk (HK5.out.keep (qd w5 (.cells #[.string ⟨#[67,111,110,116,101,110,116,45,76,101,110,103,116,104]⟩,.string ⟨#[49]⟩,.string ⟨#[67,111,110,116,101,110,116,45,76,101,110,103,116,104]⟩,.string ⟨#[50]⟩] 78)));have HB6:=Box.mk (HB5.out.1.keep (qd w5 (.cells #[.string ⟨#[67,111,110,116,101,110,116,45,76,101,110,103,116,104]⟩,.string ⟨#[49]⟩,.string ⟨#[67,111,110,116,101,110,116,45,76,101,110,103,116,104]⟩,.string ⟨#[50]⟩] 78)));go_wp2_with (at_builtin; refine qdn _ rfl _ _ rfl rfl HO6.out rfl HF6.out HL6.out HS6.out ?c1)
           case c1 =>
            intro v7 w7 ho7 hg7;have hk7:=HK6.out.app HN.out ho7 hg7;have HK8:=Box.mk (HK6.out.added HN.out ho7 hg7);have HB8:=Box.mk (HB6.out.added HK6.out hk7 hg7 v7);obtain ⟨sa,sc,e7,_⟩:=OwnF.shape ho7;obtain ⟨N7,hN7⟩ : ∃ N7,N7=List.length (y++twoCL):=⟨_,rfl⟩;rw [← hN7] at e7;have hfz7:=frozen_of_row w7 q 3 _ _ hk7.row;have hc7:w7.cell? ⟨q,3,none⟩=some vF:=by rw [cell_of_row _ _ _ _ _ _ hk7.row]; rfl
            subst e7;clear ho7 hg7 hk7 HK6 HB6 HO6 HF6 HL6 HS6 hc3 hfz hN7;go_wp2_with fail;go_meet
            obtain ⟨bA2,bC2,e2,hib⟩:=HB8.out.bytesL;obtain ⟨rfl,_,rfl⟩:=Value.slice.inj e2;exact ⟨st,z,r,y++twoCL,_,d,qgd HA2.out.1 HA2.out.2.1 HA2.out.2.2.1 HA2.out.2.2.2.2 HA2.out.2.2.2.1 jda,HK8.out,⟨_,_,rfl,hib,fun y2 e3 _ e4=>by cases e4⟩,by have:=HB5.out.2; omega,.inl rfl⟩
         · have b2:(((k:Nat):Int) == 2)=false:=by rw [beq_eq_false_iff_ne]; omega
           by_cases hk3:k=3∨k=4∨k=5
           · clear b0 b1 b2
             have HO6:=Box.mk (HK5.out.own.keep (qd w5 (.cells #[.string ⟨#[84,114,97,110,115,102,101,114,45,69,110,99,111,100,105,110,103]⟩,.string ⟨#[99,104,117,110,107,101,100]⟩] 78)));have HF6:=Box.mk (show qfo (w5.alloc (.cells #[.string ⟨#[84,114,97,110,115,102,101,114,45,69,110,99,111,100,105,110,103]⟩,.string ⟨#[99,104,117,110,107,101,100]⟩] 78)) (some ⟨w5.heap.size,0,none⟩) teF 1 from ⟨qjv w5 _ _,fun e=>by cases e⟩);have HL6:=Box.mk (show y.length+teF.length≤4398046511104 by have:=HA2.out.2.2.2.1; show _+1≤_; omega);have HS6:=Box.mk (show w.heap.size≤(w5.alloc (.cells #[.string ⟨#[84,114,97,110,115,102,101,114,45,69,110,99,111,100,105,110,103]⟩,.string ⟨#[99,104,117,110,107,101,100]⟩] 78)).heap.size by rw [World.size_alloc]; omega);have HK6:=Box.mk (HK5.out.keep (qd w5 (.cells #[.string ⟨#[84,114,97,110,115,102,101,114,45,69,110,99,111,100,105,110,103]⟩,.string ⟨#[99,104,117,110,107,101,100]⟩] 78)));have HB6:=Box.mk (HB5.out.1.keep (qd w5 (.cells #[.string ⟨#[84,114,97,110,115,102,101,114,45,69,110,99,111,100,105,110,103]⟩,.string ⟨#[99,104,117,110,107,101,100]⟩] 78)));rcases hk3 with rfl | rfl | rfl
             all_goals
              go_wp2_with (at_builtin; refine qdn _ rfl _ _ rfl rfl HO6.out rfl HF6.out HL6.out HS6.out ?c1)
              case c1 =>
               intro v7 w7 ho7 hg7;have hk7:=HK6.out.app HN.out ho7 hg7;have hk8:=HK6.out.added HN.out ho7 hg7;have hb8:=HB6.out.added HK6.out hk7 hg7 v7;obtain ⟨sa,sc,e7,_⟩:=OwnF.shape ho7;obtain ⟨N7,hN7⟩ : ∃ N7,N7=List.length (y++teF):=⟨_,rfl⟩;rw [← hN7] at e7;have hfz7:=frozen_of_row w7 q 3 _ _ hk7.row;have hc7:w7.cell? ⟨q,3,none⟩=some vF:=by rw [cell_of_row _ _ _ _ _ _ hk7.row]; rfl
               subst e7;have HK8:=Box.mk hk8;have HB8:=Box.mk hb8;clear ho7 hg7 hk7 hk8 hb8 HK6 HB6 HO6 HF6 HL6 HS6 hc3 hfz hN7;go_upto_region 18 with fail
               generalize w7.setCell ⟨q,3,none⟩ (.slice sa N7 sc)=w8 at *;have HI8:=Box.mk (show qg w8 bA d bC by
                obtain ⟨bA2,bC2,e2,hib⟩:=HB8.out.bytesL;obtain ⟨rfl,_,rfl⟩:=Value.slice.inj e2;exact hib)
               clear hc7 hfz7;go_wp2_with fail;refine (qi7 [d] (some ⟨w8.heap.size,0,none⟩) 1 _ (qry HI8.out _ _) (by show 1≤_; decide) (fun l hl=>by obtain rfl:=List.mem_singleton.1 hl; have:=HB5.out.2; omega)).mono ?_;rintro e w9 ⟨ra,rl,rc,hrl,rfl,hib9,hb9⟩;have HR9:=Box.mk (And.intro hrl (And.intro hib9 (qe (qd w8 _) hb9)));clear hrl hib9 hb9;go_wp2_with fail;go_meet
               exact ⟨st,z,r,y++teF,_,rl,qgd HA2.out.1 HA2.out.2.1 HA2.out.2.2.1 HA2.out.2.2.2.2 HA2.out.2.2.2.1 jeu,HK8.out.keep HR9.out.2.2,⟨_,_,rfl,HR9.out.2.1,fun y2 e3 _ e4=>by cases e4⟩,by rw [HR9.out.1]; exact jew d HB5.out.2,.inl rfl⟩
           · have b3:(((k:Nat):Int) == 3)=false:=by rw [beq_eq_false_iff_ne]; omega
             have b4:(((k:Nat):Int) == 4)=false:=by rw [beq_eq_false_iff_ne]; omega
             have b5:(((k:Nat):Int) == 5)=false:=by rw [beq_eq_false_iff_ne]; omega
             by_cases hk6:k=6
             · have b6:(((k:Nat):Int) == 6)=true:=by rw [hk6]; rfl
               clear hk0 hk1 hk2 hk3 hk6;go_wp2_with fail;go_meet
               have hp:=qgd (T:=[]) HA2.out.1 HA2.out.2.1 HA2.out.2.2.1 HA2.out.2.2.2.2 HA2.out.2.2.2.1 qxq;rw [List.append_nil] at hp;obtain ⟨bA2,bC2,e2,hib⟩:=HBY.out;obtain ⟨rfl,_,rfl⟩:=Value.slice.inj e2;exact ⟨st,z,r,y,vF,d,hp,HK5.out,⟨_,_,rfl,hib,fun y2 e3 _ e4=>by cases e4⟩,by have:=HB5.out.2; omega,.inl rfl⟩
             · have b6:(((k:Nat):Int) == 6)=false:=by rw [beq_eq_false_iff_ne]; omega
               clear hk0 hk1 hk2 hk3 hk6;go_upto_region 7 with fail
               clear b0 b1 b2 b3 b4 b5 b6 hc3 hfz;have HCLF:=Box.mk (show clF d.length=[((⟨#[67,111,110,116,101,110,116,45,76,101,110,103,116,104]⟩ : ByteArray),fmtS 10 (d.length:Int))] from rfl);have HDL:=Box.mk HB5.out.2;refine qco [7,9] (fun p=>match p with | 0=>[0,1,2,3,4,5,6] | 1=>[8] | _=>[])
                (fun p=>match p with
                 | 0=>[.val (.pointer (some ⟨q,3,none⟩)),.val vF,.val (.slice bA d.length bC),.val (.int .i64 (d.length:Int)),.val (.string (fmtS 10 (d.length:Int))),.val (.agg #[.string ⟨#[67,111,110,116,101,110,116,45,76,101,110,103,116,104]⟩,.string (fmtS 10 (d.length:Int))]),.oneF (⟨#[67,111,110,116,101,110,116,45,76,101,110,103,116,104]⟩,fmtS 10 (d.length:Int)),.nope,.nope,.any]
                 | 1=>[.any,.any,.any,.any,.any,.any,.any,.rpa w.heap.size g a n c w q (y++clF d.length) #[.int .i64 st,.string r,.int .i64 z,vF,.slice none 0 0] (.slice bA d.length bC) d,.val (.pointer (some ⟨q,3,none⟩)),.any]
                 | _=>[.any,.any,.any,.any,.any,.any,.any,.any,.any,.any])
                (fun p=>match p with
                 | 0=>fun wx=>Below w5.heap.size w5 wx
                 | 1=>fun wx=>True
                 | _=>fun wx=>∃ vG,RpK w.heap.size g a n c w q vG (y++clF d.length) #[.int .i64 st,.string r,.int .i64 z,vG,.slice none 0 0] wx∧Own w.heap.size wx (.slice bA d.length bC) d)
                (by kernel_rfl) (by kernel_rfl) (by kernel_rfl) (by kernel_rfl) (by kernel_rfl) (by kernel_rfl) ?_ (Below.refl _ _) ?_ ?_ ?_
               · intro ph w1' w2' h hb
                 match ph,h with
                 | 0,h=>exact qe h hb
                 | 1,h=>exact trivial
                 | (_+2),h =>
                  obtain ⟨vG,h1,h2⟩:=h;exact ⟨vG,h1.keep hb,h2.keep hb⟩
               · intro ph hph
                 match ph,hph with
                 | 0,_ =>
                  refine ⟨?_,?_,?_,?_,?_,?_,?_,trivial⟩ <;> intro a1 w1' hv hf hd
                  · exact ⟨qb rfl,qeq rfl (hf.base 3 rfl) (by decide) rfl⟩
                  · exact ⟨qb rfl,jg rfl (hd 0 rfl) (by rw [cell_of_row _ _ _ _ _ _ (HK5.out.keep hv).row]; rfl) (qj7 _) rfl⟩
                  · exact ⟨qb rfl,qi rfl (hf.base 4 rfl)⟩
                  · exact ⟨qb rfl,qqr rfl (hd 2 rfl) rfl⟩
                  · refine ⟨qb rfl,jz rfl (by kernel_rfl) ?_⟩
                    show Calls _ _ #[a1.eval (.tmp 28)] w1' _
                    rw [show a1.eval (.tmp 28)=_ from hd 3 rfl];refine (qao (d.length:Int) w1' (by omega) (by have:=HDL.out; omega)).mono ?_;rintro e w' ⟨rfl,hb'⟩;exact ⟨_,rfl,hb',rfl⟩
                  · exact ⟨qb rfl,qjw rfl rfl (hd 4 rfl) rfl⟩
                  · exact ⟨qb rfl,qqj rfl (f:=(⟨#[67,111,110,116,101,110,116,45,76,101,110,103,116,104]⟩,fmtS 10 (d.length:Int))) (hd 5 rfl) fun w' h0 h1=>⟨_,rfl,⟨fun j hj=>by
                     match j,hj with
                     | 0,_=>exact ⟨_,rfl,by rw [Addr.add_lit]; exact h0,by rw [Addr.add_lit]; exact h1⟩,fun e=>by cases e⟩⟩⟩
                 | 1,_ =>
                  refine ⟨?_,trivial⟩;intro a1 w1' hv hf hd;exact ⟨qb rfl,qeq rfl (hf.base 3 rfl) (by decide) rfl⟩
                 | 2,_=>exact trivial
               · intro ph hph
                 match ph,hph with
                 | 0,_ =>
                  intro a2 w2' hv hf hd;obtain ⟨b,e1,h1⟩:=hd 6 rfl;have e26:a2.eval (.tmp 26)=vF:=hd 1 rfl;have hk:=HK5.out.keep hv;have hb:=HB5.out.1.keep hv;refine ⟨qb rfl,qmb rfl (B:=w.heap.size) (l:=y) (by show OwnF _ _ (a2.eval (.tmp 26)) _; rw [e26]; exact hk.own) (r:=[(⟨#[67,111,110,116,101,110,116,45,76,101,110,103,116,104]⟩,fmtS 10 (d.length:Int))]) e1 h1 (by have:=HA2.out.2.2.2.1; simp; omega) (Nat.le_trans hle hv.size) fun v' w' h2 h3=>?_⟩;rw [show a2.eval (.tmp 26)=vF from e26] at h3;exact ⟨v',rfl,trivial,⟨hk.app HN.out h2 h3,hb.grown h3 fun j hj e=>qxj hb hk.own hj e.symm⟩,⟨.inr fun _ _ _=>trivial,.inr fun _ _ _=>trivial,.inr fun _ _ _=>trivial,.inr fun _ _ _=>trivial,.inr fun _ _ _=>trivial,.inr fun _ _ _=>trivial,.inr fun _ _ _=>trivial,.inl rfl,.inr fun _ _ h=>h.elim,.inr fun _ _ _=>trivial,trivial⟩⟩
                 | 1,_ =>
                  intro a2 w2' hv hf hd;obtain ⟨hk,hb⟩:=hd 7 rfl;have e33:a2.eval (.tmp 33) = .pointer (some ⟨q,3,none⟩):=hd 8 rfl;obtain ⟨sa,sc,e32,_⟩:=OwnF.shape hk.own;refine ⟨qb rfl,qh4 (u:=vF) rfl e33 e32 (by kernel_rfl) (by rw [cell_of_row _ _ _ _ _ _ hk.row]; rfl) (frozen_of_row w2' q 3 _ _ hk.row) ?_⟩;rw [e32] at hk;exact ⟨undef,rfl,⟨_,hk.set HN.out 3 _,hb.grown qa9 fun j hj e=>qwm hb hk.row (hj.trans e)⟩,trivial,⟨.inr fun _ _ _=>trivial,.inr fun _ _ _=>trivial,.inr fun _ _ _=>trivial,.inr fun _ _ _=>trivial,.inr fun _ _ _=>trivial,.inr fun _ _ _=>trivial,.inr fun _ _ _=>trivial,.inr fun _ _ _=>trivial,.inr fun _ _ _=>trivial,.inl rfl,trivial⟩⟩
               · intro a2 w8 hv hf hh
                 have HV8:=Box.mk hv;clear hh hv;rw [jl hf];clear hf;simp only [kg];generalize a2.eval (.tmp 25)=u25;generalize a2.eval (.tmp 26)=u26;generalize a2.eval (.tmp 27)=u27;generalize a2.eval (.tmp 28)=u28;generalize a2.eval (.tmp 29)=u29;generalize a2.eval (.tmp 30)=u30;generalize a2.eval (.tmp 31)=u31;generalize a2.eval (.tmp 32)=u32;generalize a2.eval (.tmp 33)=u33;clear a2;simp only [Act.put,List.setIfInBounds_toArray,List.set_cons_succ,List.set_cons_zero]
                 rename (∀ (a':Act) (w':World),Met _ a' w'→_)=>hM
                 refine hM _ _ ?_;go_meet
                 obtain ⟨vG,hk,hb⟩:=HV8.out;obtain ⟨bA2,bC2,e2,hib⟩:=hb.bytesL;obtain ⟨rfl,_,rfl⟩:=Value.slice.inj e2;exact ⟨st,z,r,y++clF d.length,vG,d,qgd HA2.out.1 HA2.out.2.1 HA2.out.2.2.1 HA2.out.2.2.2.2 HA2.out.2.2.2.1 (jef HB5.out.2),hk,⟨_,_,rfl,hib,fun y2 e3 _ e4=>by cases e4⟩,by have:=HB5.out.2; omega,.inl rfl⟩
      case rest =>
       obtain ⟨st,z,r,x,vF,e,hp,hk,⟨bA,bC,rfl,hib,hne⟩,hel,hP⟩:=hcut.out;obtain ⟨fa,fc,rfl,hfx,_⟩:=OwnF.shape hk.own;have HP:=Box.mk hp;have HKC:=Box.mk hk;have HI:=Box.mk (And.intro hib (And.intro hne hel));have HPP:=Box.mk hP;have hpl:=hp.len;have HLEN:=Box.mk hpl;have HCALL:=Box.mk (qpq st r z x fa none fc 0 0 wc (by
        have h1:=hp.sz;unfold qad at h1;rw [if_pos ⟨hp.lo,hp.hi,by have:=hp.zz; omega,by have:=hp.zz; omega,hp.vi⟩] at h1;simp only [ByteArray.size_append] at h1;omega) hfx.1 hp.sm (by have:=hp.xl; omega) (by have:=hp.sz; omega))
       clear hp hk hib hne hel hP hfx hpl hcut HK5 HB5 HKL;go_wp2_with (refine wpList_load_row rfl 31 _ rfl q rfl 31 #[.int .i64 st,.string r,.int .i64 z,.slice fa (List.length x) fc,.slice none 0 0] (0,0) _ HKC.out.row Tryz.underlying31 rfl ko ?_)
       refine HCALL.out.mono ?_;rintro e6 w6 hret;obtain ⟨v6,rfl,ho6,hb6⟩:=hret.own (by have:=HLEN.out.1; omega) (by have:=HLEN.out.2; omega);obtain ⟨g6,c6,rfl,_,hib6⟩:=ho6.form;have HI6:=Box.mk hib6;have HK6:=Box.mk (HKC.out.keep hb6);have HE6:=Box.mk (HI.out.1.keep hb6);have HPP6:=Box.mk (HPP.out.imp id fun h=>h.keep hb6);have HB6:=Box.mk (show w.heap.size≤w6.heap.size from HK6.out.grown.size);have HLE:=Box.mk (And.intro HLEN.out.2 HI.out.2.2);clear hret ho6 hb6 hib6 HCALL HKC;generalize hhd:qa1 (qad st r z) x=hd at *;have HHD:=Box.mk hhd;have HSRC:∀ {w1 w2:World} {row:Option Nat},Src w1 g a n c→w.grownBy w1 (some g)→w1.grownBy w2 row→(∀ k,row=some k→w.heap.size≤k)→Src w2 g a n c∧w.grownBy w2 (some g):=fun h1 h2 h3 h4 =>
        ⟨h1.grown h3 (fun e=>by have:=h4 g e.symm; have:=HN.out.lo; omega) (fun y e h0 e2=>by have:=h4 _ e2.symm; have:=HN.out.src y e h0; omega),ku h2 h3 h4⟩
       have HSR:=Box.mk @HSRC;clear hhd HSRC;rcases HPP6.out with hnil | hpo
       · subst hnil
         have HL7:=Box.mk (show ([]:List UInt8).length+hd.length≤140737488355328 by have:=HLE.out.1; rw [List.length_nil]; omega);have HST:=Box.mk (Own.start w.heap.size w6);go_wp2_with (at_builtin; refine jq _ rfl _ _ rfl rfl HST.out rfl HI6.out HL7.out HB6.out ?c7)
         case c7 =>
          intro v7 w7 ho7 hg7 hn7;have HO7:=Box.mk (OwnM.of_own ho7 (by have:=HLEN.out.1; omega));have HS7:=Box.mk (HSR.out HK6.out.src HK6.out.grown hg7 (fun k e=>by cases e));have HE7:=Box.mk (qh6 HE6.out hg7 (fun y e1 h1 e2=>by cases e2));have HL8:=Box.mk (show hd.length+e.length≤1000000000 by have:=HLE.out.1; have:=HLE.out.2; omega);have HB7:=Box.mk (show w.heap.size≤w7.heap.size from HS7.out.2.size);clear ho7 hg7 hn7 HL7 HST HI6;go_wp2_with (at_builtin; refine qae _ rfl _ _ rfl rfl HO7.out rfl HE7.out HL8.out HB7.out ?c8)
          case c8 =>
           intro v8 w8 ho8 hg8 hn8;have HO8:=Box.mk ho8;have HS8:=Box.mk (HSR.out HS7.out.1 HS7.out.2 hg8 (fun k e=>(HO7.out.lt e).1));clear ho8 hg8 hn8;go_wp2_with fail;go_ret;exact ⟨v8,_,rfl,HO8.out,.inr ⟨st,z,r,x,e,HP.out,HI.out.2.2,.inl (by rw [HHD.out])⟩,HS8.out.1,HS8.out.2⟩
       · have HPO:=Box.mk hpo
         have HNE:=Box.mk HI.out.2.1;obtain ⟨gp,cp,rfl,_,_⟩:=hpo.form;have HL7:=Box.mk (show qft.length+hd.length≤1000000000 by have:=HLE.out.1; show 25+_≤_; omega);clear hpo;go_wp2_with (at_builtin; refine qae _ rfl _ _ rfl rfl HPO.out rfl HI6.out HL7.out HB6.out ?c7)
         case c7 =>
          intro v7 w7 ho7 hg7 hn7;have HO7:=Box.mk ho7;have HS7:=Box.mk (HSR.out HK6.out.src HK6.out.grown hg7 (fun k e=>(HPO.out.lt e).1));have HE7:=Box.mk (qh6 HE6.out hg7 (fun y e1 h1 e2=>HNE.out y e1 h1 e2));have HL8:=Box.mk (show (qft++hd).length+e.length≤1000000000 by have:=HLE.out.1; have:=HLE.out.2; rw [List.length_append]; show 25+_+_≤_; omega);have HB7:=Box.mk (show w.heap.size≤w7.heap.size from HS7.out.2.size);clear ho7 hg7 hn7 HL7 HI6;go_wp2_with (at_builtin; refine qae _ rfl _ _ rfl rfl HO7.out rfl HE7.out HL8.out HB7.out ?c8)
          case c8 =>
           intro v8 w8 ho8 hg8 hn8;have HO8:=Box.mk ho8;have HS8:=Box.mk (HSR.out HS7.out.1 HS7.out.2 hg8 (fun k e=>(HO7.out.lt e).1));clear ho8 hg8 hn8;go_wp2_with fail;go_ret;exact ⟨v8,_,rfl,HO8.out,.inr ⟨st,z,r,x,e,HP.out,HI.out.2.2,.inr (by rw [HHD.out])⟩,HS8.out.1,HS8.out.2⟩
def jfe (w:World) (e:Ending) (w':World):Prop:=∃ v b,e = .returned v∧OwnM w.heap.size w' v b∧qfa b∧b.length≤1900∧Below w.heap.size w w'
def qyu:List ByteArray:=[⟨#[]⟩,⟨#[71,69,84]⟩,⟨#[13,10]⟩]
theorem jcu:(qyu.all fun s=>decide (s.size≤3))=true:=by decide
theorem StrF.pos {b:List UInt8} (h:StrF b):0<b.length:=by
 rcases h with h | ⟨m,t,z,x,fr,ch,l,hm,ht,hz,hx,hl,hfr,rfl⟩
 · exact h.len.1
 · have:=(qjg m t z x fr ch l hm ht hz hx hl hfr).lo
   unfold reqW;rw [List.length_append]; omega
section
variable {ops:Array Oper} {rest:List Oper} {o:Oper} {act:Act} {Q:Exit→Act→World→Prop}
theorem qhr (w:World) (hgd:o.guard=none) (s x:Operand) (ho:o.op = .call { callee:=.builtin .append,args:=#[s,x],argTypes:=#[23,9] })
  {B:Nat} {v:Value} {l:List UInt8} (hs:act.eval s=v) (h:OwnM B w v l) {t:ByteArray} (hx:act.eval x = .string t) (hn:l.length+t.size≤1000000000) (hB:B≤w.heap.size)
  (K:∀ v' w',OwnM B w' v' (l++t.data.toList)→w.grownBy w' v.ownBlock→wpList Tryz.prog ops Q rest (act.put o.dst v') w'):wpList Tryz.prog ops Q (o :: rest) act w :=
 wpList_plain hgd fun K2 hK2=>qn1 ho (by rw [hs]; exact h) hx hn hB fun v' w' h1 h2 _=>hK2 _ _ (K v' w' h1 (by rw [hs] at h2; exact h2))
end
def StrS (w:World) (a:Option Addr) (n c:Nat) (w':World) (v:Value):Prop:=∃ b,StrF b∧qcf w' v b∧Src w' w.heap.size a n c∧Below w.heap.size w w'
theorem qz0 (a:Option Addr) (n c:Nat) (reply:Bool) (at_:Int) (x:UInt8) (w:World) (hi:qgu w a n) (hn:n≤maxLen) :
  Calls Tryz.prog 4 #[.slice a n c,.bool reply,.int .i64 at_,.int .u8 x.toNat] w (jfe w):=by
 have HS0:=Box.mk (jes (c:=c) hi hn);have HB0:=Box.mk (qd w (.cells #[.slice a n c,.int .i64 0] 51));clear hi hn;go_enter Tryz.func4,Tryz.ntmps4
 go_upto_if 14 with fail
 go_cut [10] (fun s10 wx=>Box (StrS w a n c wx s10))
 case first =>
  cases reply with
  | true =>
   go_wp2_with fail;refine (qyr w.heap.size a n c _ HS0.out).mono ?_;rintro e w1 ⟨v,b,rfl,ho,hf,hs,hg⟩;go_wp2_with fail;go_meet
   exact ⟨b,.inl hf,by obtain ⟨g,cc,h1,_,h2⟩:=ho.form; exact ⟨_,cc,h1,h2⟩,hs,qiw HB0.out hg⟩
  | false =>
   go_wp2_with fail;refine (qzt w.heap.size a n c _ HS0.out).mono ?_;rintro e w5 ⟨m,t,z,v5,y,fr,vB,bl,rfl,hm,ht,hz,ho5,hbo,hR3,hbl,hfr,hs5,hg5⟩;obtain ⟨fa,fc,rfl,hfc,_⟩:=ho5.shape;obtain ⟨ba,bc,rfl,hbv⟩:=hbo.val;have HM:=Box.mk (And.intro hm (And.intro ht (And.intro hz (And.intro hR3 (And.intro hbl hfr)))));have HO5:=Box.mk (And.intro ho5 hbo);have HS5:=Box.mk hs5;have HB5:=Box.mk (qiw HB0.out hg5);clear hm ht hz ho5 hbo hR3 hbl hfr hs5 hg5 hfc hbv HS0 HB0;go_wp2_with fail;refine (qbi w.heap.size 2 a n c _ HS5.out (by decide) (by decide)).mono ?_;rintro e w6 ⟨k,hk,rfl,hs6,hg6⟩;have HS6:=Box.mk hs6;have HB6:=Box.mk (qiw HB5.out hg6);have hf6:qfo w6 fa y fc:=by
    obtain ⟨fa2,fc2,e1,h1,_⟩:=(HO5.out.1.grown hg6 (fun q e1 e2=>by have:=(HO5.out.1.lt e1).1; have:=Option.some.inj e2; rw [World.size_alloc] at *; omega)).shape;obtain ⟨rfl,_,rfl⟩:=Value.slice.inj e1;exact h1
   have hd6:qg w6 ba bl bc:=by
    obtain ⟨ba2,bc2,e1,h1⟩:=(HO5.out.2.grown hg6 (fun q e1 e2=>by have:=(HO5.out.2.lt e1).1; have:=Option.some.inj e2; rw [World.size_alloc] at *; omega)).val;obtain ⟨rfl,_,rfl⟩:=Value.slice.inj e1;exact h1
   have HF6:=Box.mk hf6;have HD6:=Box.mk hd6;clear hs6 hg6 hf6 hd6 HS5 HB5 HO5;have HWI:=Box.mk (fun ch=>qus m t z y fr ch bl fa ba fc bc w6 (by have:=(qlw HM.out.1).2; omega) (by have:=(qlp HM.out.2.1).2; omega) HF6.out HD6.out (by have:=HM.out.2.2.2.1.made.2; omega) (by have:=HM.out.2.2.2.2.1; omega) HM.out.2.2.1 (qjg m t z y fr ch bl HM.out.1 HM.out.2.1 HM.out.2.2.1 HM.out.2.2.2.1 HM.out.2.2.2.2.1 HM.out.2.2.2.2.2));obtain ⟨ch,hch⟩ : ∃ ch:Bool,ch=((k:Int) == 0):=⟨_,rfl⟩;go_wp2_with fail;rw [← hch];clear hch;refine (HWI.out ch).mono ?_;rintro e w7 ⟨v,rfl,ho7,hb7⟩;have HR7:=Box.mk (And.intro ho7 hb7);clear ho7 hb7;go_wp2_with fail;go_meet
   exact ⟨_,.inr ⟨m,t,z,y,fr,ch,bl,HM.out.1,HM.out.2.1,HM.out.2.2.1,HM.out.2.2.2.1,HM.out.2.2.2.2.1,HM.out.2.2.2.2.2,rfl⟩,by obtain ⟨g,cc,h1,_,h2⟩:=HR7.out.1.form; exact ⟨_,cc,h1,h2⟩,HS6.out.keep HR7.out.2,qe HB6.out HR7.out.2⟩
 case rest =>
  have HST:=Box.mk hcut.out;clear hcut HS0 HB0;obtain ⟨b,hb,⟨va,vc,rfl,hby⟩,hs,hbl⟩:=HST.out;have HF:=Box.mk hb;have HBY:=Box.mk hby;have HS:=Box.mk hs;have HB:=Box.mk hbl;have HE:=Box.mk (AccB.empty wc);have HL:=Box.mk (show ([]:List UInt8).length+b.length≤140737488355328 by have:=hb.len; rw [List.length_nil]; omega);have HBY2:=Box.mk (HBY.out.keep HE.out.2);clear hb hby hs hbl HST;go_wp2_with (at_builtin; refine kn _ rfl _ _ rfl rfl HE.out rfl HBY2.out HL.out ?c1)
  case c1 =>
   intro v1 w1 hacc;have HA:=Box.mk hacc;have HS1:=Box.mk (HS.out.keep hacc.2);have HB1:=Box.mk (qe HB.out hacc.2);clear hacc HE HL HBY2;go_wp2_with fail;obtain ⟨W2,hW2⟩ : ∃ W2,W2=w1.alloc (.cells (qyu.map Value.string).toArray 9):=⟨_,rfl⟩;have HB2:=Box.mk (show Below w1.heap.size w1 W2 by rw [hW2]; exact qd w1 _);have HL2:=Box.mk (show qbn W2 (some ⟨w1.heap.size,0,none⟩) qyu by rw [hW2]; exact qch w1 qyu 9);change Calls _ _ _ (w1.alloc (.cells (qyu.map Value.string).toArray 9)) _;rw [← hW2];clear hW2;have hlt1:=HS1.out.lt;refine (of_n w.heap.size w1.heap.size 3 qyu 3 a n c W2 (HS1.out.keep HB2.out) HL2.out (by omega) rfl (by decide) (by decide)).mono ?_;rintro e w3 ⟨s,hs,rfl,hsrc,hg3⟩;have hltc:w.heap.size<wc.heap.size:=HS.out.lt;have hA1:Own wc.heap.size w1 v1 b:=HA.out.1;have hA2:Own wc.heap.size W2 v1 b:=Own.same hA1 fun k hk=>HB2.out.block k (Own.lt hA1 hk).2;have hown3:Own wc.heap.size w3 v1 b:=Own.grown hA2 hg3 (fun k hk e=>by have:=(Own.lt hA1 hk).1; have:=Option.some.inj e; omega);have HO3:=Box.mk ((OwnM.of_own hown3 HF.out.pos).low (Nat.le_of_lt hltc));have HB3:=Box.mk (qiw (qe HB1.out HB2.out) hg3);have hsz:=of_decide_eq_true (List.all_eq_true.1 jcu s hs);have HSZ:=Box.mk (show s.data.toList.length≤3 by rw [Array.length_toList]; exact hsz);have HL3:=Box.mk (show b.length+s.size≤1000000000 by have:=HF.out.len; omega);have HG3:=Box.mk (show w.heap.size≤w3.heap.size from HB3.out.size);clear hs hsrc hg3 hown3 hA1 hA2 hsz HA HB2 HL2 HS1 HB1 hlt1 hltc HS;go_wp2_with (at_builtin; refine qhr _ rfl _ _ rfl rfl HO3.out rfl HL3.out HG3.out ?c2)
   case c2 =>
    intro v4 w4 ho4 hg4;have HO4:=Box.mk ho4;have HB4:=Box.mk (HB3.out.grown hg4 HB3.out.size (fun k e=>(HO3.out.lt e).1));obtain ⟨g,cc,rfl,hgc,hby4⟩:=ho4.form;have HBY4:=Box.mk hby4;obtain ⟨l2,hl2⟩ : ∃ l2,l2=b++s.data.toList:=⟨_,rfl⟩;rw [← hl2] at HO4 HBY4 hgc ⊢;have HGD:=Box.mk (show qfa l2 ∧ ∀ i c,qfa (l2.set i c) from by
     rw [hl2]; exact ⟨HF.out.good0 _ (by have:=HSZ.out; omega),fun i c=>HF.out.good _ (by have:=HSZ.out; omega) i c⟩)
    have hlen:0<l2.length∧l2.length≤1900:=by
     have h1:=HF.out.pos;have h2:=HF.out.len;have h3:=HSZ.out;rw [hl2,List.length_append]; omega
    have hlo:=hlen.1;have hhi:=hlen.2;obtain ⟨zb,hzb,hz01⟩:=and1 at_;clear ho4 hg4 hby4 hl2 hlen HO3 HB3 HSZ HL3 HG3 HF HBY HB;rcases hz01 with rfl | rfl
    · go_wp2_with fail
      go_ret;exact ⟨_,l2,rfl,HO4.out,HGD.out.1,by omega,HB4.out⟩
    · go_wp2_with fail
      obtain ⟨q,hq,hqe⟩:=qci (at_ / 2) l2.length (by omega) (by omega);refine (qk2 _ l2.length _ (by omega) (by omega)).mono ?_;rintro e w11 ⟨he,rfl⟩;rw [hqe] at he;subst he;have hcell:=HBY4.out.cellAtH hq;have hfz:=HO4.out.thawed hq;have HST:=Box.mk (HO4.out.put8 q x);clear hqe;go_wp2_with fail;go_ret;exact ⟨_,l2.set q x,rfl,by have:=HST.out.1; exact this,HGD.out.2 q x,by rw [List.length_set]; omega,
       HB4.out.grown HST.out.2 HB4.out.size (fun r e=>by have:=Option.some.inj e; have:=(HO4.out.lt (k:=g) rfl).1; omega)⟩
end Go.Proofs.YtflhjpokjdjbpaaGreatDoor
namespace Go.Proofs.YtflhjpokjdjbpaaGreatDoor
open Go.RowKit
set_option linter.unusedVariables false
theorem jg0 (reply:Bool) (z:Int) (w:World):Calls Tryz.prog 7 #[.bool reply,.int .i64 z] w fun e w'=>∃ (p:ByteArray) (c0:Array Value),c0=#[.bool reply,.string p,.int .i64 0,.string ⟨#[]⟩,.string ⟨#[]⟩,.int .i64 0,.slice none 0 0,.bool false,.slice none 0 0,.int .i64 0,.string ⟨#[]⟩,.int .i64 0,.slice none 0 0,.slice none 0 0,.int .i64 0,.int .i64 0,.int .i64 0,.int .i64 0,.int .i64 0,.int .i64 0,.int .i64 0,.slice none 0 0]∧e = .returned (.tuple #[.agg c0,.agg c0])∧Below w.heap.size w w':=by
 cases reply
 · refine (jbx z w).mono ?_
   rintro e w' ⟨rfl,hb⟩;exact ⟨⟨#[]⟩,_,rfl,rfl,hb⟩
 · refine (qyj z w).mono ?_
   rintro e w' ⟨p,rfl,hb⟩;exact ⟨p,_,rfl,rfl,hb⟩
theorem qne (s:RS) (fa ga la fb gb lb:Option Addr) (fc gc lc fd gd ld:Nat) (w:World) (h1:qm w fa s.xs) (h2:qm w fb s.xs) (h3:qm w ga s.ys) (h4:qm w gb s.ys) (h5:qg w la s.ck.line lc) (h6:qg w lb s.ck.line ld) (hx:s.xs.length≤64) (hy:s.ys.length≤64) :
  Calls Tryz.prog 10 #[.agg (rowR s fa fc ga gc la lc),.agg (rowR s fb fd gb gd lb ld)] w fun e w'=>e = .returned (.bool true)∧Below w.heap.size w w':=by
 obtain ⟨cs,hcs⟩ : ∃ cs:Array Value,cs=(rowR s fa fc ga gc la lc):=⟨_,rfl⟩;have HCS:=Box.mk hcs;obtain ⟨ds,hds⟩ : ∃ ds:Array Value,ds=(rowR s fb fd gb gd lb ld):=⟨_,rfl⟩;have HDS:=Box.mk hds;rw [← hcs,← hds];clear hcs hds;obtain ⟨W1,hW1⟩ : ∃ W1,W1=(w.alloc (.cells cs 37)).alloc (.cells ds 37):=⟨_,rfl⟩;have HB1:=Box.mk (show Below w.heap.size w W1 by rw [hW1]; exact qk (qd _ _) _);have HX1:=Box.mk (show RVr W1 w.heap.size cs by rw [hW1]; exact RVr.keep (heap_alloc_new w (.cells cs 37)) (qd _ _));have HY1:=Box.mk (show RVr W1 (w.heap.size+1) ds by
  have h:=heap_alloc_new (w.alloc (.cells cs 37)) (.cells ds 37);rw [World.size_alloc] at h;rw [hW1]; exact h)
 have HW1:=Box.mk hW1;have HF:=Box.mk (And.intro (h1.keep HB1.out) (And.intro (h2.keep HB1.out) (And.intro (h3.keep HB1.out) (And.intro (h4.keep HB1.out) (And.intro (h5.keep HB1.out) (h6.keep HB1.out))))));have xc0:W1.cell? ⟨w.heap.size,0,none⟩=some (.bool s.rep):=by rw [RVr.cell HX1.out,HCS.out]; rfl
 have xc1:W1.cell? ⟨w.heap.size,1,none⟩=some (.string s.meth):=by rw [RVr.cell HX1.out,HCS.out]; rfl
 have xc2:W1.cell? ⟨w.heap.size,2,none⟩=some (.int .i64 s.ph):=by rw [RVr.cell HX1.out,HCS.out]; rfl
 have yc0:W1.cell? ⟨w.heap.size+1,0,none⟩=some (.bool s.rep):=by rw [RVr.cell HY1.out,HDS.out]; rfl
 have yc1:W1.cell? ⟨w.heap.size+1,1,none⟩=some (.string s.meth):=by rw [RVr.cell HY1.out,HDS.out]; rfl
 have yc2:W1.cell? ⟨w.heap.size+1,2,none⟩=some (.int .i64 s.ph):=by rw [RVr.cell HY1.out,HDS.out]; rfl
 have er:(s.rep == s.rep)=true:=by simp
 have em:(s.meth.toList == s.meth.toList)=true:=by simp
 have ep:(s.ph == s.ph)=true:=by simp
 have hfe:∀ W,(binOp BinOp.eql 33 (.agg #[.int .i64 s.fk,.int .i64 s.fl]) (.agg #[.int .i64 s.fk,.int .i64 s.fl])).run Tryz.prog W = .ok (.bool true) W:=fun W=>by
  have he:=jdd s.fk s.fl W;simp [binOp,Op.equal,he]
 have elf:(s.left == s.left)=true:=by simp
 have esz:(s.size == s.size)=true:=by simp
 have HQX:=Box.mk (show W1.rangeAt (w.heap.size) 3 [.string s.m,.string s.t,.int .i64 s.z,.slice fa (List.length s.xs) fc,.bool s.fr,.slice none 0 0] from fun j v hj=>by
  rw [RVr.cell HX1.out,HCS.out]
  match j,hj with
  | 0,hj=>exact hj
  | 1,hj=>exact hj
  | 2,hj=>exact hj
  | 3,hj=>exact hj
  | 4,hj=>exact hj
  | 5,hj=>exact hj
  | (j+6),hj=>simp at hj)
 have HQY:=Box.mk (show W1.rangeAt (w.heap.size+1) 3 [.string s.m,.string s.t,.int .i64 s.z,.slice fb (List.length s.xs) fd,.bool s.fr,.slice none 0 0] from fun j v hj=>by
  rw [RVr.cell HY1.out,HDS.out]
  match j,hj with
  | 0,hj=>exact hj
  | 1,hj=>exact hj
  | 2,hj=>exact hj
  | 3,hj=>exact hj
  | 4,hj=>exact hj
  | 5,hj=>exact hj
  | (j+6),hj=>simp at hj)
 clear h1 h2 h3 h4 h5 h6 hW1;go_enter Tryz.func10,Tryz.ntmps10
 go_upto_region 1 with fail
 rw [← HW1.out];clear HW1;go_wp2_with (refine qed rfl ?_; first | refine Go.wpList_load_mid rfl 29 _ rfl w.heap.size 3 rfl _ _ HQX.out Tryz.underlying29 rfl jo ?_ | refine Go.wpList_load_mid rfl 29 _ rfl (w.heap.size+1) 3 rfl _ _ HQY.out Tryz.underlying29 rfl jo ?_)
 refine (qux s.m s.t s.z s.fr s.xs [] fa fb none none fc fd 0 0 W1 HF.out.1 HF.out.2.1 (.inl ⟨rfl,rfl,rfl⟩) (.inl ⟨rfl,rfl,rfl⟩) (by omega)).mono ?_;rintro e w2 ⟨rfl,hb2⟩;have HX2:=Box.mk (HX1.out.keep hb2);have HY2:=Box.mk (HY1.out.keep hb2);have HAX:=Box.mk (show w2.rangeAt (w.heap.size) 9 [.int .i64 s.st,.string s.rs,.int .i64 s.z2,.slice ga (List.length s.ys) gc,.slice none 0 0] from fun j v hj=>by
  rw [RVr.cell HX2.out,HCS.out]
  match j,hj with
  | 0,hj=>exact hj
  | 1,hj=>exact hj
  | 2,hj=>exact hj
  | 3,hj=>exact hj
  | 4,hj=>exact hj
  | (j+5),hj=>simp at hj)
 have HAY:=Box.mk (show w2.rangeAt (w.heap.size+1) 9 [.int .i64 s.st,.string s.rs,.int .i64 s.z2,.slice gb (List.length s.ys) gd,.slice none 0 0] from fun j v hj=>by
  rw [RVr.cell HY2.out,HDS.out]
  match j,hj with
  | 0,hj=>exact hj
  | 1,hj=>exact hj
  | 2,hj=>exact hj
  | 3,hj=>exact hj
  | 4,hj=>exact hj
  | (j+5),hj=>simp at hj)
 have HF2:=Box.mk (And.intro (HF.out.2.2.1.keep hb2) (And.intro (HF.out.2.2.2.1.keep hb2) (And.intro (HF.out.2.2.2.2.1.keep hb2) (HF.out.2.2.2.2.2.keep hb2))));have HB2:=Box.mk (qe HB1.out hb2);clear hb2 HX1 HY1 HF HB1 HQX HQY xc0 xc1 xc2 yc0 yc1 yc2;go_wp2_with (refine qed rfl ?_; first | refine Go.wpList_load_mid rfl 31 _ rfl w.heap.size 9 rfl _ _ HAX.out Tryz.underlying31 rfl ko ?_ | refine Go.wpList_load_mid rfl 31 _ rfl (w.heap.size+1) 9 rfl _ _ HAY.out Tryz.underlying31 rfl ko ?_)
 refine (qvh s.st s.z2 s.rs s.ys [] ga gb none none gc gd 0 0 w2 HF2.out.1 HF2.out.2.1 (.inl ⟨rfl,rfl,rfl⟩) (.inl ⟨rfl,rfl,rfl⟩) (by omega)).mono ?_;rintro e w3 ⟨rfl,hb3⟩;have HX3:=Box.mk (HX2.out.keep hb3);have HY3:=Box.mk (HY2.out.keep hb3);have HKX:=Box.mk (show w3.rangeAt (w.heap.size) 14 [.int .i64 s.fk,.int .i64 s.fl] from fun j v hj=>by
  rw [RVr.cell HX3.out,HCS.out]
  match j,hj with
  | 0,hj=>exact hj
  | 1,hj=>exact hj
  | (j+2),hj=>simp at hj)
 have HKY:=Box.mk (show w3.rangeAt (w.heap.size+1) 14 [.int .i64 s.fk,.int .i64 s.fl] from fun j v hj=>by
  rw [RVr.cell HY3.out,HDS.out]
  match j,hj with
  | 0,hj=>exact hj
  | 1,hj=>exact hj
  | (j+2),hj=>simp at hj)
 have HCX:=Box.mk (show w3.rangeAt (w.heap.size) 18 [.int .i64 s.ck.ph,.int .i64 s.ck.left,.int .i64 s.ck.tr,.slice la (List.length s.ck.line) lc] from fun j v hj=>by
  rw [RVr.cell HX3.out,HCS.out]
  match j,hj with
  | 0,hj=>exact hj
  | 1,hj=>exact hj
  | 2,hj=>exact hj
  | 3,hj=>exact hj
  | (j+4),hj=>simp at hj)
 have HCY:=Box.mk (show w3.rangeAt (w.heap.size+1) 18 [.int .i64 s.ck.ph,.int .i64 s.ck.left,.int .i64 s.ck.tr,.slice lb (List.length s.ck.line) ld] from fun j v hj=>by
  rw [RVr.cell HY3.out,HDS.out]
  match j,hj with
  | 0,hj=>exact hj
  | 1,hj=>exact hj
  | 2,hj=>exact hj
  | 3,hj=>exact hj
  | (j+4),hj=>simp at hj)
 have xc16:w3.cell? ⟨w.heap.size,16,none⟩=some (.int .i64 s.left):=by rw [RVr.cell HX3.out,HCS.out]; rfl
 have xc17:w3.cell? ⟨w.heap.size,17,none⟩=some (.int .i64 s.size):=by rw [RVr.cell HX3.out,HCS.out]; rfl
 have yc16:w3.cell? ⟨w.heap.size+1,16,none⟩=some (.int .i64 s.left):=by rw [RVr.cell HY3.out,HDS.out]; rfl
 have yc17:w3.cell? ⟨w.heap.size+1,17,none⟩=some (.int .i64 s.size):=by rw [RVr.cell HY3.out,HDS.out]; rfl
 have HF3:=Box.mk (And.intro (HF2.out.2.2.1.keep hb3) (HF2.out.2.2.2.keep hb3));have HB3:=Box.mk (qe HB2.out hb3);clear hb3 HX2 HY2 HF2 HB2 HAX HAY;go_wp2_with (refine qed rfl ?_; first | refine Go.wpList_load_mid rfl 33 _ rfl w.heap.size 14 rfl _ _ HKX.out Tryz.underlying33 rfl jn ?_ | refine Go.wpList_load_mid rfl 33 _ rfl (w.heap.size+1) 14 rfl _ _ HKY.out Tryz.underlying33 rfl jn ?_ | refine Go.wpList_load_mid rfl 35 _ rfl w.heap.size 18 rfl _ _ HCX.out Tryz.underlying35 rfl j8 ?_ | refine Go.wpList_load_mid rfl 35 _ rfl (w.heap.size+1) 18 rfl _ _ HCY.out Tryz.underlying35 rfl j8 ?_)
 refine (qr4 s.ck.ph s.ck.left s.ck.tr s.ck.line la lb lc ld w3 HF3.out.1 HF3.out.2).mono ?_;rintro e w4 ⟨rfl,hb4⟩;have HB4:=Box.mk (qe HB3.out hb4);clear hb4;go_wp2_with fail;go_ret;exact ⟨rfl,HB4.out⟩
section
variable {Q:Exit→Act→World→Prop} {ops:Array Oper} {a:Act} {w:World} {o:Oper} {s:Spec}
theorem qy {j d:Nat} (h:o.guard=some (j,false)) (hd:(ops[j]?).bind (·.dst)=some d) (hv:a.eval (.tmp d) = .bool false):Region.wanted o (yielded ops a.tmps)=true:=by
 have e:a.tmps[d]? = some (.bool false):=by
  unfold Act.eval at hv;simp only [Array.getD_eq_getD_getElem?] at hv;cases hq:a.tmps[d]? with
  | none=>rw [hq] at hv; cases hv
  | some x=>rw [hq] at hv; simp at hv; rw [hv]
 unfold Region.wanted yielded;rw [h];simp [hd,e]
theorem qg9 {c x y:Operand} (ho:o.op = .pick c x y) (hc:a.eval c = .bool false) (hs:s.p (a.eval y) w):o.wp Tryz.prog a w (fun a' w'=>∃ v,a'=a.put o.dst v∧Below w.heap.size w w'∧s.p v w') Q :=
 j0 (by unfold execOp; rw [ho]; simp only [hc]; rfl) (Below.refl _ _) hs
theorem qws {x y:Operand} {t:TypeId} (ho:o.op = .binOp .neq 3 x y t) {n:Int} (hx:a.eval x = .int .i64 n) (hy:a.eval y = .int .i64 n) (hs:s.p (.bool false) w) :
  o.wp Tryz.prog a w (fun a' w'=>∃ v,a'=a.put o.dst v∧Below w.heap.size w w'∧s.p v w') Q :=
 j0 (v:=.bool false) (by
  unfold execOp;simp [ho,hx,hy,eqGuard,binOp,Op.intCmp]) (Below.refl _ _) hs
theorem jcp {x y:Operand} {t:TypeId} (ho:o.op = .binOp .neq 42 x y t) {n:Int} (hx:a.eval x = .int .i64 n) (hy:a.eval y = .int .i64 n) (hs:s.p (.bool false) w) :
  o.wp Tryz.prog a w (fun a' w'=>∃ v,a'=a.put o.dst v∧Below w.heap.size w w'∧s.p v w') Q :=
 j0 (v:=.bool false) (by
  unfold execOp;simp [ho,hx,hy,eqGuard,binOp,Op.intCmp]) (Below.refl _ _) hs
theorem jcl {x y:Operand} {t:TypeId} (ho:o.op = .binOp .neq 9 x y t) {b:ByteArray} (hx:a.eval x = .string b) (hy:a.eval y = .string b) (hs:s.p (.bool false) w) :
  o.wp Tryz.prog a w (fun a' w'=>∃ v,a'=a.put o.dst v∧Below w.heap.size w w'∧s.p v w') Q :=
 j0 (v:=.bool false) (by
  unfold execOp;simp [ho,hx,hy,eqGuard,binOp,Op.stringOp]) (Below.refl _ _) hs
theorem jcq {x y:Operand} {t:TypeId} (ho:o.op = .binOp .neq 4 x y t) {b:Bool} (hx:a.eval x = .bool b) (hy:a.eval y = .bool b) (hs:s.p (.bool false) w) :
  o.wp Tryz.prog a w (fun a' w'=>∃ v,a'=a.put o.dst v∧Below w.heap.size w w'∧s.p v w') Q :=
 j0 (v:=.bool false) (by
  unfold execOp;simp only [ho,hx,hy];have he:(Op.equalIn Op.maxDepth 4 (.bool b) (.bool b)).run Tryz.prog w = .ok true w:=by
   rw [show Op.maxDepth=9999+1 from rfl];unfold Op.equalIn;rw [Sem.run_bind,run_underlying Tryz.underlying4];cases b <;> rfl
  simp [eqGuard,binOp,Op.equal,he]) (Below.refl _ _) hs
theorem jd2 {x:Operand} {t:TypeId} (ho:o.op = .unOp .not t x) (hx:a.eval x = .bool true) (hs:s.p (.bool false) w) :
  o.wp Tryz.prog a w (fun a' w'=>∃ v,a'=a.put o.dst v∧Below w.heap.size w w'∧s.p v w') Q :=
 j0 (v:=.bool false) (by
  unfold execOp;simp [ho,hx,Op.unary]) (Below.refl _ _) hs
theorem qtl (w:World) (g i:Nat) (hi:i<2):(Instr.fieldAt 41 (.pointer (some ⟨g,0,none⟩)) i).run Tryz.prog w = .ok (.pointer (some ⟨g,i,none⟩)) w:=by
 match i,hi with
 | 0,_=>simp [Instr.fieldAt,run_underlying Tryz.underlying41,Instr.sureAddr,fieldPlace,Addr.add]
 | 1,_=>simp [Instr.fieldAt,run_underlying Tryz.underlying41,Instr.sureAddr,fieldPlace,Addr.add]
theorem qe4 {x:Operand} {i:Nat} (ho:o.op = .fieldAddr 41 x i) {g:Nat} (hx:a.eval x = .pointer (some ⟨g,0,none⟩)) (hi:i<2) (hs:s.p (.pointer (some ⟨g,i,none⟩)) w) :
  o.wp Tryz.prog a w (fun a' w'=>∃ v,a'=a.put o.dst v∧Below w.heap.size w w'∧s.p v w') Q :=
 j0 (v:=.pointer (some ⟨g,i,none⟩)) (by unfold execOp; rw [ho]; simp only [hx,Sem.run_bind,qtl _ _ _ hi,Result.andThen_ok,Sem.run_pure]) (Below.refl _ _) hs
end
structure NxS (w:World) (L:(Nat→Prop) × (Nat→Prop)) (g0 g1:Nat) (s:RS) (ba:Option Addr) (b:List UInt8) (bc:Nat) (body:Int) (W:World):Prop where
 x:StV L s W g0
 y:StV L s W g1
 by_:qg W ba b bc
 bl:Below w.heap.size w W
 ok:OkN body s
 nm:NmS s
 len:b.length≤1900
theorem qzk {s:RS} {b:List UInt8} {most body room:Int} (hb0:0≤body∧body≤1000000000) (hl:b.length≤1000000) (hs:OkN body s):(qbg s b most body room).r.xs.length≤64∧(qbg s b most body room).r.ys.length≤64:=by
 by_cases h0:(qbg s b most body room).er=0
 · have:=(ql6 hb0 hl hs h0).1.ok
   exact ⟨this.xs.2,this.ys.2⟩
 · obtain ⟨er,h1,_⟩:=qsg h0
   rw [h1];exact ⟨Nat.zero_le _,Nat.zero_le _⟩
theorem qgw.zeroN (L:(Nat→Prop) × (Nat→Prop)) (w:World) (rep:Bool) (p:ByteArray):qgw L w (begR rep p) none none none 0 :=
 ⟨⟨qm.nil _ _,qm.nil _ _,.inl ⟨rfl,rfl,rfl⟩,(fun y e=>by cases e),(fun y e=>by cases e)⟩,fun y e=>by cases e⟩
end Go.Proofs.YtflhjpokjdjbpaaGreatDoor

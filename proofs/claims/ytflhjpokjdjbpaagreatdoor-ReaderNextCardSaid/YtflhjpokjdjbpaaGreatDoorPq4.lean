/- Words of a line, rune by rune and byte by byte: plain mathematics. strings.Cut at any byte, strings.HasPrefix, strings.CutPrefix; Split and the versions, of package startline. Targets, reasons and versions, of package startline. The version of a line, of package startline. FormatRequestLine of the reference. FormatStatusLine of the reference. ParseStatusLine of the reference. The request line, parsed: package startline and the reference. The request line, parsed by the reference. -/
import Derived.Test.YtflhjpokjdjbpaaGreatDoorPq3
import Derived.Laws.RangeAny
import Derived.LoopTactic
set_option maxRecDepth 100000
set_option maxHeartbeats 4000000
namespace Go.Proofs.YtflhjpokjdjbpaaGreatDoor
open Go.RowKit
theorem qjo (sep:ByteArray) (h1:1≤sep.size) (save:Nat):∀ (k:Nat) (s:ByteArray),Lib.countB s sep≤k→Lib.splitB sep save k s=Lib.splitB sep save (Lib.countB s sep) s
 | 0,s,h=>by rw [Nat.le_zero.1 h]
 | k+1,s,h=>by
  rcases Lib.indexB_cases s sep with hix | ⟨i,hix,_⟩
  · rw [Lib.splitB_miss sep save _ s hix,Lib.splitB_miss sep save _ s hix]
  · have hc:=Lib.countB_hit s sep i h1 hix
    rw [hc,Nat.add_comm 1,Lib.splitB_hit sep save _ s i hix,Lib.splitB_hit sep save _ s i hix,qjo sep h1 save k _ (by omega)]
theorem qdm (sep:ByteArray) (h1:1≤sep.size) (save:Nat):∀ (k:Nat) (s:ByteArray),k≤Lib.countB s sep→(Lib.splitB sep save k s).length=k+1
 | 0,_,_=>rfl
 | k+1,s,h=>by
  rcases Lib.indexB_cases s sep with hix | ⟨i,hix,_⟩
  · rw [Lib.countB_miss s sep hix] at h; omega
  · have hc:=Lib.countB_hit s sep i h1 hix
    rw [Lib.splitB_hit sep save _ s i hix,List.length_cons,qdm sep h1 save k _ (by omega)]
def qh8 (s:ByteArray):List ByteArray:=Lib.splitB ⟨#[32]⟩ 0 (min 4 (s.size+1)-1) s
theorem qsx (s:ByteArray):qh8 s=jj 32 s∨(qh8 s).length=4∧(jj 32 s).length≠3:=by
 unfold qh8;rw [← qms];have hz:1≤(⟨#[32]⟩ : ByteArray).size:=by decide
 have hle:=Lib.countB_le ⟨#[32]⟩ hz s.size s (Nat.le_refl _);by_cases h:Lib.countB s ⟨#[32]⟩≤min 4 (s.size+1)-1
 · exact .inl (qjo _ hz _ _ s h)
 · right
   have e:min 4 (s.size+1)-1=3:=by omega
   rw [e];refine ⟨qdm _ hz _ 3 s (by omega),?_⟩;rw [qdm _ hz _ _ s (Nat.le_refl _)]; omega
theorem qur (s:ByteArray) (pos:Nat) (h:pos<s.size) (ha:128≤(s[pos]'h).toNat):pos+(Utf8.decode s pos).2≤s.size ∧ ∀ k,k<(Utf8.decode s pos).2 → ∀ hk:pos+k<s.size,128≤(s[pos+k]'hk).toNat:=by
 have hn:¬ (s[pos]'h).toNat<128:=by omega
 have hcont:∀ k,(decide (pos+k<s.size) && ((s.get! (pos+k)).toNat / 64 == 2))=true → ∃ hk:pos+k<s.size,128≤(s[pos+k]'hk).toNat:=fun k hk=>by
  simp only [Bool.and_eq_true,decide_eq_true_eq,beq_iff_eq] at hk;obtain ⟨h1,h2⟩:=hk;refine ⟨h1,?_⟩;have e:s.get! (pos+k)=s[pos+k]'h1:=by
   have:=get_at s (pos+k) h1;simpa using this
  rw [e] at h2; omega
 have one:pos+1≤s.size ∧ ∀ k,k<1 → ∀ hk:pos+k<s.size,128≤(s[pos+k]'hk).toNat:=⟨by omega,fun k hk hk2=>by
  obtain rfl:k=0:=by omega
  exact ha⟩
 simp only [Utf8.decode,get_at s pos h,hn,if_false]
 split
 · rename_i h1
   have h1':=(Bool.and_eq_true _ _ ▸ h1:_∧_).2;obtain ⟨k1,g1⟩:=hcont 1 h1'
   split
   · refine ⟨by show pos+2≤_; omega,fun k hk hk2=>?_⟩
     have hk':k<2:=hk
     match k,hk' with
     | 0,_=>exact ha
     | 1,_=>exact g1
   · exact one
 · split
   · rename_i h1
     simp only [Bool.and_eq_true] at h1;obtain ⟨k1,g1⟩:=hcont 1 (by simpa using h1.1.2);obtain ⟨k2,g2⟩:=hcont 2 (by simpa using h1.2)
     split
     · refine ⟨by show pos+3≤_; omega,fun k hk hk2=>?_⟩
       have hk':k<3:=hk
       match k,hk' with
       | 0,_=>exact ha
       | 1,_=>exact g1
       | 2,_=>exact g2
     · exact one
   · split
     · rename_i h1
       simp only [Bool.and_eq_true] at h1;obtain ⟨k1,g1⟩:=hcont 1 (by simpa using h1.1.1.2);obtain ⟨k2,g2⟩:=hcont 2 (by simpa using h1.1.2);obtain ⟨k3,g3⟩:=hcont 3 (by simpa using h1.2)
       split
       · refine ⟨by show pos+4≤_; omega,fun k hk hk2=>?_⟩
         have hk':k<4:=hk
         match k,hk' with
         | 0,_=>exact ha
         | 1,_=>exact g1
         | 2,_=>exact g2
         | 3,_=>exact g3
       · exact one
     · exact one
def cutS (d:UInt8) (s:ByteArray):ByteArray × ByteArray :=
 if 0≤idxI d s then (s.extract 0 (idxI d s).toNat,s.extract ((idxI d s).toNat+1) s.size) else (s,⟨#[]⟩)
theorem qfb {d:UInt8} {s:ByteArray} {k:Nat} (h:idxI d s=k):cutS d s=(s.extract 0 k,s.extract (k+1) s.size):=by unfold cutS; rw [h]; simp
theorem qfs {d:UInt8} {s:ByteArray} (h:idxI d s = -1):cutS d s=(s,⟨#[]⟩):=by unfold cutS; rw [h]; rfl
theorem qdk (d:UInt8) (s:ByteArray):idxI d s = -1 ∨ ∃ k:Nat,idxI d s=k∧k<s.size:=by
 have:=jah d s;by_cases h:idxI d s = -1
 · exact .inl h
 · refine .inr ⟨(idxI d s).toNat,by omega,jay d s (by omega)⟩
theorem qon (d:UInt8) (s:ByteArray):(cutS d s).1.size≤s.size:=by
 rcases qdk d s with h | ⟨k,h,hk⟩
 · rw [qfs h]; exact Nat.le_refl _
 · rw [qfb h]; exact qb4 _ _ _
theorem qnz (d:UInt8) (s:ByteArray):(cutS d s).2.size≤s.size:=by
 rcases qdk d s with h | ⟨k,h,hk⟩
 · rw [qfs h]; exact Nat.zero_le _
 · rw [qfb h]; exact qb4 _ _ _
theorem jdb (d:UInt8) (s:ByteArray) (h:(⟨#[d]⟩ : ByteArray)=s):idxI d s=0:=by
 subst h;exact jf7 d ⟨#[d]⟩ 0 (show 0<1 by decide) rfl (fun j hj=>absurd hj (Nat.not_lt_zero _))
theorem qkl (d:UInt8) (s c:ByteArray) (w:World) (hz:c.size=1) (h0:∀ h,c[0]'h=d) (hc:c=⟨#[d]⟩) :
  Calls Tryz.prog 170 #[.string s,.string c] w fun e w'=>e = .returned (.int .i64 (idxI d s))∧w=w':=by
 by_cases he:c=s
 · have HE:=Box.mk (jdb d s (by rw [← hc]; exact he))
   have h1:(c.toList == s.toList)=true:=by rw [toList_eq]; simp [he]
   clear he hc;go_enter Tryz.func170,Tryz.ntmps170
   go_wp2_with fail;go_ret;exact ⟨qbu HE.out.symm,rfl⟩
 · have h1:(c.toList == s.toList)=false:=by rw [toList_eq]; simp [he]
   clear he hc;go_enter Tryz.func170,Tryz.ntmps170
   go_wp2_with fail;refine (qcg s d _).mono ?_;rintro e w1 ⟨rfl,rfl⟩;go_wp2_with fail;go_ret;exact ⟨rfl,rfl⟩
theorem qrv (d:UInt8) (s c:ByteArray) (k:Nat) (w:World) (hs:s.size≤maxLen) (hz:c.size=1) (h0:∀ h,c[0]'h=d) (hc:c=⟨#[d]⟩) (hk:idxI d s=k) :
  Calls Tryz.prog 167 #[.string s,.string c] w fun e w'=>e = .returned (.tuple #[.string (s.extract 0 k),.string (s.extract (k+1) s.size),.bool true])∧Below w.heap.size w w':=by
 have hlt:=jay d s hk;unfold maxLen at hs;have HK:=Box.mk hk;have H0:=Box.mk (And.intro h0 hc);clear hk h0 hc;go_enter Tryz.func167,Tryz.ntmps167
 go_wp2_with fail;refine (qkl d s c _ hz H0.out.1 H0.out.2).mono ?_;rintro e w1 ⟨he,rfl⟩;rw [HK.out] at he;subst he;go_wp2_with fail;go_quiet (fail)
 go_wp2
 go_ret3;exact ⟨rfl,below_drewN (Below.refl _ _) _⟩
theorem qwk (d:UInt8) (s c:ByteArray) (w:World) (hz:c.size=1) (h0:∀ h,c[0]'h=d) (hc:c=⟨#[d]⟩) (hk:idxI d s = -1) :
  Calls Tryz.prog 167 #[.string s,.string c] w fun e w'=>e = .returned (.tuple #[.string s,.string ⟨#[]⟩,.bool false])∧Below w.heap.size w w':=by
 have HK:=Box.mk hk;have H0:=Box.mk (And.intro h0 hc);clear hk h0 hc;go_enter Tryz.func167,Tryz.ntmps167
 go_wp2_with fail;refine (qkl d s c _ hz H0.out.1 H0.out.2).mono ?_;rintro e w1 ⟨he,rfl⟩;rw [HK.out] at he;subst he;go_wp2_with fail;go_ret3;exact ⟨rfl,Below.refl _ _⟩
theorem qqc (d:UInt8) (s:ByteArray) (w:World) (hs:s.size≤maxLen) :
  Calls Tryz.prog 148 #[.string s,.string ⟨#[d]⟩] w fun e w'=>∃ b,e = .returned (.tuple #[.string (cutS d s).1,.string (cutS d s).2,.bool b])∧Below w.heap.size w w':=by
 rcases qdk d s with hk | ⟨k,hk,_⟩
 · have HK:=Box.mk hk
   have HC:=Box.mk (qfs hk);clear hk;go_enter Tryz.func148,Tryz.ntmps148
   go_wp2_with fail;refine (qwk d s _ _ rfl (fun _=>rfl) rfl HK.out).mono ?_;rintro e w1 ⟨rfl,hb⟩;have HB:=Box.mk hb;clear hb;go_wp2_with fail;go_ret3;exact ⟨false,by rw [HC.out]; rfl,HB.out⟩
 · have HK:=Box.mk hk
   have HC:=Box.mk (qfb hk);clear hk;go_enter Tryz.func148,Tryz.ntmps148
   go_wp2_with fail;refine (qrv d s _ k _ hs rfl (fun _=>rfl) rfl HK.out).mono ?_;rintro e w1 ⟨rfl,hb⟩;have HB:=Box.mk hb;clear hb;go_wp2_with fail;go_ret3;exact ⟨true,by rw [HC.out]; rfl,HB.out⟩
def qi8 (z:Int):ByteArray:=if z=0 then v10 else if z=1 then v11 else ⟨#[]⟩
theorem qde (c:Int) (w:World) (h0:0≤c) (h1:c≤255) :
  Calls Tryz.prog 178 #[.int .u8 c] w fun e w'=>e = .returned (.bool (digB c))∧w=w':=by
 go_enter Tryz.func178,Tryz.ntmps178
 go_wp2
 all_goals go_ret
 all_goals exact ⟨qq (by unfold digB; rw [Bool.eq_iff_iff]; simp; omega),rfl⟩
def qnd (n:Int):Bool:=decide (100≤n) && decide (n≤599)
theorem qfv (n:Int) (w:World) :
  Calls Tryz.prog 150 #[.int .i64 n] w fun e w'=>e = .returned (.bool (qnd n))∧w=w':=by
 go_enter Tryz.func150,Tryz.ntmps150
 go_wp2
 all_goals go_ret
 all_goals exact ⟨qq (by unfold qnd; rw [Bool.eq_iff_iff]; simp; omega),rfl⟩
def pfxB (p s:ByteArray):Bool:=decide (p.size≤s.size∧s.extract 0 p.size=p)
theorem qei (p s:ByteArray) (w:World) :
  Calls Tryz.prog 176 #[.string s,.string p] w fun e w'=>e = .returned (.bool (pfxB p s))∧w=w':=by
 by_cases h1:p.size≤s.size
 · by_cases h2:s.extract 0 p.size=p
   · have HR:=Box.mk (show pfxB p s=true by unfold pfxB; simp [h1,h2])
     have hb:((s.extract 0 p.size).toList == p.toList)=true:=by rw [toList_eq]; simp [h2]
     clear h2;go_enter Tryz.func176,Tryz.ntmps176
     go_wp2_with fail;go_ret;exact ⟨qq HR.out.symm,rfl⟩
   · have HR:=Box.mk (show pfxB p s=false by unfold pfxB; simp [h2])
     have hb:((s.extract 0 p.size).toList == p.toList)=false:=by rw [toList_eq]; simp [h2]
     clear h2;go_enter Tryz.func176,Tryz.ntmps176
     go_wp2_with fail;go_ret;exact ⟨qq HR.out.symm,rfl⟩
 · have HR:=Box.mk (show pfxB p s=false by unfold pfxB; simp [h1])
   have h1':s.size<p.size:=by omega
   clear h1;go_enter Tryz.func176,Tryz.ntmps176
   go_wp2_with fail;go_ret;exact ⟨qq HR.out.symm,rfl⟩
theorem qyv (p s:ByteArray) (w:World) :
  Calls Tryz.prog 161 #[.string s,.string p] w fun e w'=>e = .returned (.bool (pfxB p s))∧w=w':=by
 go_enter Tryz.func161,Tryz.ntmps161
 go_wp2_with fail;refine (qei p s _).mono ?_;rintro e w1 ⟨rfl,rfl⟩;go_wp2_with fail;go_ret;exact ⟨rfl,rfl⟩
theorem qjh (p s:ByteArray) (w:World) (h:pfxB p s=true) :
  Calls Tryz.prog 193 #[.string s,.string p] w fun e w'=>e = .returned (.tuple #[.string (s.extract p.size s.size),.bool true])∧w=w':=by
 have HP:=Box.mk h;have hle:p.size≤s.size:=by unfold pfxB at h; simp at h; exact h.1
 clear h;go_enter Tryz.func193,Tryz.ntmps193
 go_wp2_with fail;refine (qei p s _).mono ?_;rintro e w1 ⟨he,rfl⟩;rw [HP.out] at he;subst he;go_wp2_with fail;go_ret2;exact ⟨rfl,rfl⟩
theorem qkt (p s:ByteArray) (w:World) (h:pfxB p s=false) :
  Calls Tryz.prog 193 #[.string s,.string p] w fun e w'=>e = .returned (.tuple #[.string s,.bool false])∧w=w':=by
 have HP:=Box.mk h;clear h;go_enter Tryz.func193,Tryz.ntmps193
 go_wp2_with fail;refine (qei p s _).mono ?_;rintro e w1 ⟨he,rfl⟩;rw [HP.out] at he;subst he;go_wp2_with fail;go_ret2;exact ⟨rfl,rfl⟩
theorem qdd (p s:ByteArray) (w:World) (h:pfxB p s=true) :
  Calls Tryz.prog 177 #[.string s,.string p] w fun e w'=>e = .returned (.tuple #[.string (s.extract p.size s.size),.bool true])∧w=w':=by
 have HP:=Box.mk h;clear h;go_enter Tryz.func177,Tryz.ntmps177
 go_wp2_with fail;refine (qjh p s _ HP.out).mono ?_;rintro e w1 ⟨rfl,rfl⟩;go_wp2_with fail;go_ret2;exact ⟨rfl,rfl⟩
theorem qss (p s:ByteArray) (w:World) (h:pfxB p s=false) :
  Calls Tryz.prog 177 #[.string s,.string p] w fun e w'=>e = .returned (.tuple #[.string s,.bool false])∧w=w':=by
 have HP:=Box.mk h;clear h;go_enter Tryz.func177,Tryz.ntmps177
 go_wp2_with fail;refine (qkt p s _ HP.out).mono ?_;rintro e w1 ⟨rfl,rfl⟩;go_wp2_with fail;go_ret2;exact ⟨rfl,rfl⟩
theorem jb3 (s:ByteArray):pfxB ⟨#[47]⟩ s=(s.data.toList.head? == some 47):=by
 unfold pfxB;have h1:(⟨#[47]⟩ : ByteArray).size=1:=rfl;rw [h1];by_cases h:0<s.size
 · rw [qv4 s h]
   have hl:s.data.toList.length=s.size:=by rw [Array.length_toList]; rfl
   have e:(s.extract 0 1).data.toList=[s[0]]:=by
    rw [Lib.extract_from_zero];cases hq:s.data.toList with
    | nil=>rw [hq] at hl; simp at hl; omega
    | cons a t =>
     have:s.data.toList.head? = some s[0]:=qv4 s h;rw [hq] at this;simp at this;simp [this]
   rw [Bool.eq_iff_iff];simp only [decide_eq_true_eq,beq_iff_eq,Option.some.injEq];constructor
   · rintro ⟨_,h2⟩
     rw [h2] at e;simpa using e.symm
   · intro h2
     exact ⟨h,qd5 (by rw [e,h2])⟩
 · have hl:s.data.toList.length=s.size:=by rw [Array.length_toList]; rfl
   have e:s.data.toList=[]:=List.eq_nil_of_length_eq_zero (by omega);rw [e,Bool.eq_iff_iff];simp only [decide_eq_true_eq];constructor
   · rintro ⟨h2,_⟩; omega
   · intro h2; simp at h2
theorem qrd (P:UInt8→Bool) (s:ByteArray) (pos:Nat) (h:(s.data.toList.take pos).all P=true):∀ n,pos+n≤s.size→(∀ k,k<n → ∀ hk:pos+k<s.size,P (s[pos+k]'hk)=true)→(s.data.toList.take (pos+n)).all P=true
 | 0,_,_=>h
 | n+1,hle,hk=>by
  have ih:=qrd P s pos h n (by omega) (fun k hk1 hk2=>hk k (by omega) hk2);rw [← Nat.add_assoc,qan s (pos+n) (by omega),List.all_append,ih];simpa using hk n (by omega) (by omega)
theorem jc8 {c:UInt8} (h:128≤c.toNat):valB c=true:=by
 unfold valB; simp; right; omega
theorem qec (s:ByteArray) (w:World) :
  Calls Tryz.prog 139 #[.string s] w fun e w'=>e = .returned (.bool (jx s))∧Below w.heap.size w w':=by
 go_enter Tryz.func139,Tryz.ntmps139
 go_wp2_with fail;go_loopw [] (fun w'=>∃ pos:Nat,w'=w.iter s pos∧pos≤s.size∧Box ((s.data.toList.take pos).all tgB=true)) (fun w'=>s.size-w'.iterPos w.heap.size)
 case atStart=>exact ⟨0,rfl,Nat.zero_le _,⟨by simp⟩⟩
 case round =>
  obtain ⟨pos,rfl,hk,HP⟩:=hrel;by_cases hp:pos<s.size
  · by_cases ha:s[pos].toNat<128
    · have hnx:∀ ty,(Instr.next (.pointer (some ⟨w.heap.size,0,none⟩)) true ty).run Tryz.prog (w.iter s pos)=_:=fun ty=>run_next_ascii w s pos ty hp ha
      have hcase:Box (tgB s[pos]=true)∧33≤(s[pos].toNat:Int)∧(s[pos].toNat:Int)≤126∧((s[pos].toNat:Int) == 35)=false∨Box (tgB s[pos]=false)∧(s[pos].toNat:Int)<33
        ∨ Box (tgB s[pos]=false)∧33≤(s[pos].toNat:Int)∧126<(s[pos].toNat:Int)∨Box (tgB s[pos]=false)∧33≤(s[pos].toNat:Int)∧(s[pos].toNat:Int)≤126∧((s[pos].toNat:Int) == 35)=true:=by
       by_cases h1:33≤(s[pos].toNat:Int)
       · by_cases h2:(s[pos].toNat:Int)≤126
         · by_cases h3:(s[pos].toNat:Int)=35
           · exact .inr (.inr (.inr ⟨⟨by simp [tgB,h3]⟩,h1,h2,by simp [h3]⟩))
           · exact .inl ⟨⟨by simp [tgB,h1,h2,h3]⟩,h1,h2,by rw [beq_eq_false_iff_ne]; exact h3⟩
         · exact .inr (.inr (.inl ⟨⟨by simp [tgB,h2]⟩,h1,by omega⟩))
       · exact .inr (.inl ⟨⟨by simp [tgB,h1]⟩,by omega⟩)
      rcases hcase with ⟨HC,h1,h2,h3⟩ | ⟨HC,h1⟩ | ⟨HC,h1,h2⟩ | ⟨HC,h1,h2,h3⟩
      · go_wp2_with fail
        go_roundw
        case rel=>exact ⟨pos+1,rfl,by omega,⟨by rw [qan s pos hp,List.all_append,HP.out]; simpa using HC.out⟩⟩
        case measure=>simp; omega
      all_goals
       go_wp2_with fail;go_ret;exact ⟨qq (qji hp HC.out).symm,qd w _⟩
    · have hd:=(decode_high s pos hp (by omega)).1
      have hnx:∀ ty,(Instr.next (.pointer (some ⟨w.heap.size,0,none⟩)) true ty).run Tryz.prog (w.iter s pos)=_:=fun ty=>run_next_any w s pos ty hp;have HC:=Box.mk (show tgB s[pos]=false by unfold tgB; simp; omega);generalize (Utf8.decode s pos).1=r at *;generalize (Utf8.decode s pos).2=wd at *;clear ha;have h1:33≤(r:Int):=by omega
      have h2:126<(r:Int):=by omega
      go_wp2_with fail;go_ret;exact ⟨qq (qji hp HC.out).symm,qd w _⟩
  · have hnx:∀ ty,(Instr.next (.pointer (some ⟨w.heap.size,0,none⟩)) true ty).run Tryz.prog (w.iter s pos)=_:=fun ty=>run_next_end w s pos ty hp
    have HE:=Box.mk (qme hk hp HP.out);go_wp2_with fail;refine (qyv ⟨#[47]⟩ s _).mono ?_;rintro e w1 ⟨rfl,rfl⟩;go_wp2_with fail;go_ret;exact ⟨qq (by rw [HE.out]; exact jb3 s),qd w _⟩
theorem qk7 (s:ByteArray) (w:World) :
  Calls Tryz.prog 151 #[.string s] w fun e w'=>e = .returned (.bool (visS s))∧Below w.heap.size w w':=by
 go_enter Tryz.func151,Tryz.ntmps151
 go_wp2_with fail;go_loopw [] (fun w'=>∃ pos:Nat,w'=w.iter s pos∧pos≤s.size∧Box ((s.data.toList.take pos).all valB=true)) (fun w'=>s.size-w'.iterPos w.heap.size)
 case atStart=>exact ⟨0,rfl,Nat.zero_le _,⟨by simp⟩⟩
 case round =>
  obtain ⟨pos,rfl,hk,HP⟩:=hrel;by_cases hp:pos<s.size
  · by_cases ha:s[pos].toNat<128
    · have hnx:∀ ty,(Instr.next (.pointer (some ⟨w.heap.size,0,none⟩)) true ty).run Tryz.prog (w.iter s pos)=_:=fun ty=>run_next_ascii w s pos ty hp ha
      have hcase:Box (valB s[pos]=true)∧((s[pos].toNat:Int) != 9)=false∧((s[pos].toNat:Int) == 127)=false∨Box (valB s[pos]=true)∧((s[pos].toNat:Int) != 9)=true∧32≤(s[pos].toNat:Int)∧((s[pos].toNat:Int) == 127)=false
        ∨ Box (valB s[pos]=false)∧((s[pos].toNat:Int) != 9)=true∧(s[pos].toNat:Int)<32∨Box (valB s[pos]=false)∧((s[pos].toNat:Int) != 9)=true∧32≤(s[pos].toNat:Int)∧((s[pos].toNat:Int) == 127)=true:=by
       by_cases h9:(s[pos].toNat:Int)=9
       · exact .inl ⟨⟨by simp [valB,h9]⟩,by simp [h9],by simp [h9]⟩
       · have e9:((s[pos].toNat:Int) != 9)=true:=by rw [bne_iff_ne]; exact h9
         by_cases h32:32≤(s[pos].toNat:Int)
         · by_cases h127:(s[pos].toNat:Int)=127
           · exact .inr (.inr (.inr ⟨⟨by simp [valB,h127]⟩,e9,h32,by simp [h127]⟩))
           · exact .inr (.inl ⟨⟨by simp [valB,h127,h32]⟩,e9,h32,by rw [beq_eq_false_iff_ne]; exact h127⟩)
         · exact .inr (.inr (.inl ⟨⟨by simp [valB,h9,h32]⟩,e9,by omega⟩))
      rcases hcase with ⟨HC,h1,h2⟩ | ⟨HC,h1,h2,h3⟩ | ⟨HC,h1,h2⟩ | ⟨HC,h1,h2,h3⟩
      · go_wp2_with fail
        go_roundw
        case rel=>exact ⟨pos+1,rfl,by omega,⟨by rw [qan s pos hp,List.all_append,HP.out]; simpa using HC.out⟩⟩
        case measure=>simp; omega
      · go_wp2_with fail
        go_roundw
        case rel=>exact ⟨pos+1,rfl,by omega,⟨by rw [qan s pos hp,List.all_append,HP.out]; simpa using HC.out⟩⟩
        case measure=>simp; omega
      all_goals
       go_wp2_with fail;go_ret;exact ⟨qq (qv3 hp HC.out).symm,qd w _⟩
    · obtain ⟨hd,hwd⟩:=decode_high s pos hp (by omega)
      obtain ⟨hsk,hby⟩:=qur s pos hp (by omega);have hnx:∀ ty,(Instr.next (.pointer (some ⟨w.heap.size,0,none⟩)) true ty).run Tryz.prog (w.iter s pos)=_:=fun ty=>run_next_any w s pos ty hp;have HN:=Box.mk (qrd valB s pos HP.out _ hsk (fun k h1 h2=>jc8 (hby k h1 h2)));clear hby;generalize (Utf8.decode s pos).1=r at *;generalize (Utf8.decode s pos).2=wd at *;clear ha;have h1:((r:Int) != 9)=true:=by rw [bne_iff_ne]; omega
      have h2:32≤(r:Int):=by omega
      have h3:((r:Int) == 127)=false:=by rw [beq_eq_false_iff_ne]; omega
      go_wp2_with fail;go_roundw
      case rel=>exact ⟨pos+wd,rfl,hsk,HN⟩
      case measure=>simp; omega
  · have hnx:∀ ty,(Instr.next (.pointer (some ⟨w.heap.size,0,none⟩)) true ty).run Tryz.prog (w.iter s pos)=_:=fun ty=>run_next_end w s pos ty hp
    have HE:=Box.mk (qpx hk hp HP.out);go_wp2_with fail;go_ret;exact ⟨qq HE.out.symm,qd w _⟩
def qg4:ByteArray:=⟨#[72,84,84,80,47]⟩
def bAt (s:ByteArray) (k:Nat):UInt8:=s.data.toList.getD k 0
theorem qr0 (s:ByteArray) (k:Nat) (h:k<s.size):s[k]=bAt s k:=by
 unfold bAt;rw [List.getD_eq_getElem?_getD,List.getElem?_eq_getElem (by simpa using h)]; rfl
theorem qhe (s:ByteArray) (a b k:Nat) (h:k<(s.extract a b).size):(s.extract a b)[k]'h=bAt s (a+k):=by
 rw [qr0];unfold bAt;rw [Lib.extract_data];have h2:k<b-a:=by rw [ByteArray.size_extract] at h; omega
 rw [List.getD_eq_getElem?_getD,List.getD_eq_getElem?_getD,List.getElem?_take_of_lt h2,List.getElem?_drop]
def verB (s:ByteArray):Bool:=pfxB qg4 s && decide (s.size=8) && digB (bAt s 5).toNat && decide (bAt s 6=46) && digB (bAt s 7).toNat
theorem eq46 {c:UInt8} (h:c=46):((c.toNat:Int) == 46)=true:=by rw [h]; rfl
theorem ne46 {c:UInt8} (h:¬ c=46):((c.toNat:Int) == 46)=false:=by
 rw [Bool.eq_false_iff]; intro h2; exact h (UInt8.toNat_inj.1 (by simp at h2; show c.toNat=46; omega))
theorem qzp (c:UInt8):(c.toNat:Int)≤255:=by have:=c.toNat_lt; omega
theorem qia (s:ByteArray) (w:World) :
  Calls Tryz.prog 162 #[.string s] w fun e w'=>e = .returned (.bool (verB s))∧w=w':=by
 by_cases hp:pfxB qg4 s=true
 · have HP:=Box.mk hp
   have hle:5≤s.size:=by unfold pfxB at hp; simp at hp; exact hp.1
   clear hp;by_cases h8:s.size=8
   · have hg0:=qhe s 5 s.size 0
     have hg1:=qhe s 5 s.size 1;have hg2:=qhe s 5 s.size 2;have hz:(s.extract 5 s.size).size=3:=by rw [ByteArray.size_extract]; omega
     have HD:=Box.mk (show ∀ b:Bool,verB s=(digB (bAt s 5).toNat && decide (bAt s 6=46) && digB (bAt s 7).toNat) from fun _=>by unfold verB; rw [HP.out]; simp [h8]);simp only [Nat.add_zero,Nat.reduceAdd] at hg0 hg1 hg2;generalize bAt s 5=c5 at *;generalize bAt s 6=c6 at *;generalize bAt s 7=c7 at *;generalize hd:s.extract 5 s.size=d at *;have HDD:=Box.mk hd;have u5:=qzp c5;have u6:=qzp c6;have u7:=qzp c7;clear hd h8;by_cases q0:digB c5.toNat=true
     · have Q0:=Box.mk q0
       clear q0;by_cases q1:c6=46
       · have e1:=eq46 q1
         have Q1:=Box.mk q1;clear q1;go_enter Tryz.func162,Tryz.ntmps162
         go_wp2_with fail;refine (qdd qg4 s _ HP.out).mono ?_;rintro e w1 ⟨he,rfl⟩;change e = .returned (.tuple #[.string (s.extract 5 s.size),.bool true]) at he;rw [HDD.out] at he;subst he;go_wp2_with fail;refine (qde _ _ (by omega) u5).mono ?_;rintro e w1 ⟨he,rfl⟩;rw [Q0.out] at he;subst he;go_wp2_with fail;refine (qde _ _ (by omega) u7).mono ?_;rintro e w1 ⟨rfl,rfl⟩;generalize hq:digB c7.toNat=q;have HQ:=Box.mk hq;clear hq;go_wp2_with fail;go_ret;exact ⟨qq (by rw [HD.out true,Q0.out,Q1.out,HQ.out]; rfl),rfl⟩
       · have e1:=ne46 q1
         have Q1:=Box.mk q1;clear q1;go_enter Tryz.func162,Tryz.ntmps162
         go_wp2_with fail;refine (qdd qg4 s _ HP.out).mono ?_;rintro e w1 ⟨he,rfl⟩;change e = .returned (.tuple #[.string (s.extract 5 s.size),.bool true]) at he;rw [HDD.out] at he;subst he;go_wp2_with fail;refine (qde _ _ (by omega) u5).mono ?_;rintro e w1 ⟨he,rfl⟩;rw [Q0.out] at he;subst he;go_wp2_with fail;go_ret;exact ⟨qq (by rw [HD.out true,Q0.out,decide_eq_false Q1.out]; rfl),rfl⟩
     · have Q0:=Box.mk (show digB c5.toNat=false by simpa using q0)
       clear q0;go_enter Tryz.func162,Tryz.ntmps162
       go_wp2_with fail;refine (qdd qg4 s _ HP.out).mono ?_;rintro e w1 ⟨he,rfl⟩;change e = .returned (.tuple #[.string (s.extract 5 s.size),.bool true]) at he;rw [HDD.out] at he;subst he;go_wp2_with fail;refine (qde _ _ (by omega) u5).mono ?_;rintro e w1 ⟨he,rfl⟩;rw [Q0.out] at he;subst he;go_wp2_with fail;go_ret;exact ⟨qq (by rw [HD.out true,Q0.out]; rfl),rfl⟩
   · have HR:=Box.mk (show verB s=false by unfold verB; rw [decide_eq_false h8]; simp)
     have hz:((((s.extract 5 s.size).size:Nat):Int) == 3)=false:=by rw [beq_eq_false_iff_ne,ByteArray.size_extract]; omega
     generalize hd:s.extract 5 s.size=d at *;have HDD:=Box.mk hd;clear hd h8;go_enter Tryz.func162,Tryz.ntmps162
     go_wp2_with fail;refine (qdd qg4 s _ HP.out).mono ?_;rintro e w1 ⟨he,rfl⟩;change e = .returned (.tuple #[.string (s.extract 5 s.size),.bool true]) at he;rw [HDD.out] at he;subst he;go_wp2_with fail;go_ret;exact ⟨qq HR.out.symm,rfl⟩
 · have HP:=Box.mk (show pfxB qg4 s=false by simpa using hp)
   have HR:=Box.mk (show verB s=false by unfold verB; rw [HP.out]; rfl);clear hp;go_enter Tryz.func162,Tryz.ntmps162
   go_wp2_with fail;refine (qss qg4 s _ HP.out).mono ?_;rintro e w1 ⟨rfl,rfl⟩;go_wp2_with fail;go_ret;exact ⟨qq HR.out.symm,rfl⟩
def verZ (s:ByteArray):Int × Int:=if s=v10 then (0,0) else if s=v11 then (1,0) else if verB s then (0,6) else (0,2)
theorem qd7 (s:ByteArray) (w:World) :
  Calls Tryz.prog 140 #[.string s] w fun e w'=>e = .returned (.tuple #[.int .i64 (verZ s).1,.int .i64 (verZ s).2])∧w=w':=by
 by_cases h0:s=v10
 · have HR:=Box.mk (show verZ s=(0,0) by unfold verZ; rw [if_pos h0])
   have h1:(s.toList == [72,84,84,80,47,49,46,48])=true:=by rw [jdk,toList_eq]; simp; exact h0
   clear h0;go_enter Tryz.func140,Tryz.ntmps140
   go_wp2_with fail;go_ret2;exact ⟨by rw [HR.out]; rfl,rfl⟩
 · have h1:(s.toList == [72,84,84,80,47,49,46,48])=false:=by rw [jdk,toList_eq]; simp; exact h0
   by_cases h2:s=v11
   · have HR:=Box.mk (show verZ s=(1,0) by unfold verZ; rw [if_neg h0,if_pos h2])
     have h3:(s.toList == [72,84,84,80,47,49,46,49])=true:=by rw [jcs,toList_eq]; simp; exact h2
     clear h0 h2;go_enter Tryz.func140,Tryz.ntmps140
     go_wp2_with fail;go_ret2;exact ⟨by rw [HR.out]; rfl,rfl⟩
   · have h3:(s.toList == [72,84,84,80,47,49,46,49])=false:=by rw [jcs,toList_eq]; simp; exact h2
     by_cases h4:verB s=true
     · have HR:=Box.mk (show verZ s=(0,6) by unfold verZ; rw [if_neg h0,if_neg h2,if_pos h4])
       have H4:=Box.mk h4;clear h0 h2 h4;go_enter Tryz.func140,Tryz.ntmps140
       go_wp2_with fail;refine (qia s _).mono ?_;rintro e w1 ⟨he,rfl⟩;rw [H4.out] at he;subst he;go_wp2_with fail;go_ret2;exact ⟨by rw [HR.out]; rfl,rfl⟩
     · have HR:=Box.mk (show verZ s=(0,2) by unfold verZ; rw [if_neg h0,if_neg h2,if_neg h4])
       have H4:=Box.mk (show verB s=false by simpa using h4);clear h0 h2 h4;go_enter Tryz.func140,Tryz.ntmps140
       go_wp2_with fail;refine (qia s _).mono ?_;rintro e w1 ⟨he,rfl⟩;rw [H4.out] at he;subst he;go_wp2_with fail;go_ret2;exact ⟨by rw [HR.out]; rfl,rfl⟩
def qij (s:ByteArray):Int:=if s.size=3 then (qo 10 599 s).1 else 0
theorem qqi (s:ByteArray) (w:World) (hs:s.size≤maxLen) :
  Calls Tryz.prog 149 #[.string s] w fun e w'=>e = .returned (.int .i64 (qij s))∧w=w':=by
 by_cases h3:s.size=3
 · have HR:=Box.mk (show qij s=(qo 10 599 s).1 by unfold qij; rw [if_pos h3])
   have hb:(((s.size:Nat):Int) != 3)=false:=by rw [h3]; rfl
   clear h3;go_enter Tryz.func149,Tryz.ntmps149
   go_wp2_with fail;refine (qfn s 599 _ hs (by decide) (by decide)).mono ?_;rintro e w1 ⟨he,rfl⟩;generalize hq:qo 10 599 s=q at he;have HQ:=Box.mk hq;clear hq;subst he;go_wp2_with fail;go_ret;exact ⟨qbu (by rw [HR.out,HQ.out]),rfl⟩
 · have HR:=Box.mk (show qij s=0 by unfold qij; rw [if_neg h3])
   have hb:(((s.size:Nat):Int) != 3)=true:=by rw [bne_iff_ne]; omega
   clear h3;go_enter Tryz.func149,Tryz.ntmps149
   go_wp2_with fail;go_ret;exact ⟨qbu HR.out.symm,rfl⟩
section
variable {Q:Exit→Act→World→Prop} {a:Act} {w:World} {o:Oper} {s:Spec}
theorem qb8 {x y:Operand} {t:TypeId} (ho:o.op = .binOp .add 9 x y t) {b c:ByteArray} (hx:a.eval x = .string b) (hy:a.eval y = .string c) (hn:b.size+c.size≤4000000000) (hs:s.p (.string (b++c)) w) :
  o.wp Tryz.prog a w (fun a' w'=>∃ v,a'=a.put o.dst v∧Below w.heap.size w w'∧s.p v w') Q :=
 j0 (v:=.string (b++c)) (by
  have h:=run_string_add_sum (P:=Tryz.prog) (w:=w) b c (by omega);unfold execOp;simp [ho,hx,hy,eqGuard,binOp,h,Result.andThen]) (Below.refl _ _) hs
theorem jg {x:Operand} {t:TypeId} (ho:o.op = .load t x) {p:Addr} (hx:a.eval x = .pointer (some p)) {v:Value} (hc:w.cell? p=some v) (ht:(isAgg t).run Tryz.prog w = .ok false w) (hs:s.p v w) :
  o.wp Tryz.prog a w (fun a' w'=>∃ v,a'=a.put o.dst v∧Below w.heap.size w w'∧s.p v w') Q :=
 kw ho (v:=v) (by
  rw [hx];simp [Instr.loadAt,Instr.sureAddr,loadVar,hc,ht]) hs
theorem qbx (w:World):(isAgg 9).run Tryz.prog w = .ok false w:=by
 unfold isAgg; rw [Sem.run_bind,run_underlying Tryz.underlying9 w]; rfl
theorem qay (w:World):(isAgg 3).run Tryz.prog w = .ok false w:=by
 unfold isAgg; rw [Sem.run_bind,run_underlying Tryz.underlying3 w]; rfl
theorem qz5 (W:World) (g i:Nat) (h:i<6):(Instr.fieldAt 29 (.pointer (some ⟨g,0,none⟩)) i).run Tryz.prog W = .ok (.pointer (some ⟨g,i,none⟩)) W:=by
 match i,h with
 | 0,_=>simp [Instr.fieldAt,run_underlying Tryz.underlying29,Instr.sureAddr,fieldPlace,Addr.add]
 | 1,_=>simp [Instr.fieldAt,run_underlying Tryz.underlying29,Instr.sureAddr,fieldPlace,Addr.add]
 | 2,_=>simp [Instr.fieldAt,run_underlying Tryz.underlying29,Instr.sureAddr,fieldPlace,Addr.add]
 | 3,_=>simp [Instr.fieldAt,run_underlying Tryz.underlying29,Instr.sureAddr,fieldPlace,Addr.add]
 | 4,_=>simp [Instr.fieldAt,run_underlying Tryz.underlying29,Instr.sureAddr,fieldPlace,Addr.add]
 | 5,_=>simp [Instr.fieldAt,run_underlying Tryz.underlying29,Instr.sureAddr,fieldPlace,Addr.add]
theorem qdf {x:Operand} {i:Nat} (ho:o.op = .fieldAddr 29 x i) {g:Nat} (hx:a.eval x = .pointer (some ⟨g,0,none⟩)) (hi:i<6) (hs:s.p (.pointer (some ⟨g,i,none⟩)) w) :
  o.wp Tryz.prog a w (fun a' w'=>∃ v,a'=a.put o.dst v∧Below w.heap.size w w'∧s.p v w') Q :=
 j0 (v:=.pointer (some ⟨g,i,none⟩)) (by unfold execOp; rw [ho]; simp only [hx,Sem.run_bind,qz5 _ _ _ hi,Result.andThen_ok,Sem.run_pure]) (Below.refl _ _) hs
end
def qkp:ByteArray:=⟨#[32,72,84,84,80,47,49,46]⟩
def jd (m t:ByteArray) (z:Int):ByteArray :=
 if tokS m=true∧jx t=true∧0≤z∧z≤1 then m++⟨#[32]⟩++t++qkp++fmtS 10 z else ⟨#[]⟩
theorem qoe {z:Int} (h0:0≤z) (h1:z≤1):(fmtS 10 z).size≤1000:=by
 have:z=0∨z=1:=by omega
 rcases this with rfl | rfl
 · decide +kernel
 · decide +kernel
theorem qkw (m t:ByteArray) (z:Int) (fa ba:Option Addr) (fn fc bn bc:Nat) (fr:Bool) (w:World) (hm:m.size≤1000000000) (ht:t.size≤1000000000) :
  Calls Tryz.prog 55 #[.agg #[.string m,.string t,.int .i64 z,.slice fa fn fc,.bool fr,.slice ba bn bc]] w fun e w'=>e = .returned (.string (jd m t z))∧Below w.heap.size w w':=by
 have HB0:=Box.mk (qd w (.cells #[.string m,.string t,.int .i64 z,.slice fa fn fc,.bool fr,.slice ba bn bc] 29));have hml:m.size≤maxLen:=by unfold maxLen; omega
 have htl:t.size≤maxLen:=by unfold maxLen; omega
 by_cases h1:tokS m=true
 · by_cases h2:jx t=true
   · by_cases h3:0≤z∧z≤1
     · have HR:=Box.mk (show jd m t z=m++⟨#[32]⟩++t++qkp++fmtS 10 z by unfold jd; rw [if_pos ⟨h1,h2,h3⟩])
       obtain ⟨z0,z1⟩:=h3;have HD:=Box.mk (qoe z0 z1);have HRow:=Box.mk (show (w.alloc (.cells #[.string m,.string t,.int .i64 z,.slice fa fn fc,.bool fr,.slice ba bn bc] 29)).heap[w.heap.size]? = some (.cells #[.string m,.string t,.int .i64 z,.slice fa fn fc,.bool fr,.slice ba bn bc] 29 (0,0)) from heap_alloc_new _ _);go_enter Tryz.func55,Tryz.ntmps55
       go_wp2_with fail;refine (qai m _ hml).mono ?_;rintro e w1 ⟨rfl,rfl⟩;go_wp2_with fail;refine (qca t _ htl).mono ?_;rintro e w1 ⟨rfl,rfl⟩;go_wp2_with fail;have HRW:=HRow;generalize (w.alloc (.cells #[.string m,.string t,.int .i64 z,.slice fa fn fc,.bool fr,.slice ba bn bc] 29))=W at *;generalize hg:w.heap.size=g at *;have HG:=Box.mk hg;clear hg;rename_i K hK;have s1:(m++⟨#[32]⟩).size=m.size+1:=by rw [ByteArray.size_append]; rfl
       have s2:(m++⟨#[32]⟩++t).size=m.size+1+t.size:=by rw [ByteArray.size_append,s1]
       have s3:(m++⟨#[32]⟩++t++qkp).size=m.size+1+t.size+8:=by rw [ByteArray.size_append,s2]; rfl
       refine qas (S:=[.val (.pointer (some ⟨g,0,none⟩)),.val (.string m),.val (.string (m++⟨#[32]⟩)),.val (.pointer (some ⟨g,1,none⟩)),.val (.string t),.val (.string (m++⟨#[32]⟩++t)),.val (.string (m++⟨#[32]⟩++t++qkp)),
        .val (.pointer (some ⟨g,2,none⟩)),.val (.int .i64 z),.val (.string (fmtS 10 z)),.val (.string (m++⟨#[32]⟩++t++qkp++fmtS 10 z)),.val (.string (m++⟨#[32]⟩++t++qkp++fmtS 10 z))])
        (by kernel_rfl) (by kernel_rfl) (by kernel_rfl) ?_ ?_
       · have cell:∀ w' i v,Below W.heap.size W w'→(#[.string m,.string t,.int .i64 z,.slice fa fn fc,.bool fr,.slice ba bn bc]:Array Value)[i]? = some v→w'.cell? ⟨g,i,none⟩=some v:=fun w' i v hb hv=>qp hb (by rw [cell_of_row _ _ _ _ _ _ HRW.out]; exact hv)
         refine ⟨?_,?_,?_,?_,?_,?_,?_,?_,?_,?_,?_,?_,trivial⟩ <;> intro a w3 hb hf hd
         · exact ⟨qb rfl,qdf rfl (hf.base 1 rfl) (by decide) rfl⟩
         · exact ⟨qb rfl,jg rfl (hd 0 rfl) (cell w3 0 _ hb rfl) (qbx _) rfl⟩
         · exact ⟨qb rfl,qb8 rfl (hd 1 rfl) rfl (by show m.size+1≤_; omega) rfl⟩
         · exact ⟨qb rfl,qdf rfl (hf.base 1 rfl) (by decide) rfl⟩
         · exact ⟨qb rfl,jg rfl (hd 3 rfl) (cell w3 1 _ hb rfl) (qbx _) rfl⟩
         · exact ⟨qb rfl,qb8 rfl (hd 2 rfl) (hd 4 rfl) (by rw [s1]; omega) rfl⟩
         · exact ⟨qb rfl,qb8 (c:=qkp) rfl (hd 5 rfl) rfl (by rw [s2]; show _+8≤_; omega) rfl⟩
         · exact ⟨qb rfl,qdf rfl (hf.base 1 rfl) (by decide) rfl⟩
         · exact ⟨qb rfl,jg rfl (hd 7 rfl) (cell w3 2 _ hb rfl) (qay _) rfl⟩
         · refine ⟨qb rfl,jz rfl (by kernel_rfl) ?_⟩
           show Calls _ _ #[a.eval (.tmp 31)] w3 _
           rw [show a.eval (.tmp 31) = .int .i64 z from hd 8 rfl];refine (qao z w3 (by omega) (by omega)).mono ?_;rintro e w' ⟨rfl,hb'⟩;exact ⟨_,rfl,hb',rfl⟩
         · exact ⟨qb rfl,qb8 rfl (hd 6 rfl) (hd 9 rfl) (by rw [s3]; have:=HD.out; omega) rfl⟩
         · exact ⟨qb rfl,qr rfl (hd 10 rfl)⟩
       · intro a w3 hb hf hh
         refine hK a w3 ?_;go_wp2_with fail;exact qlu rfl hf.defers (show a.eval (.tmp 2) = .string (m++⟨#[32]⟩++t++qkp++fmtS 10 z) from hh 11 (by decide)) ⟨qb6 HR.out.symm,by have:=HG.out; have h9:=HB0.out; rw [← this] at h9; exact qe h9 hb⟩
     · have HR:=Box.mk (show jd m t z=⟨#[]⟩ by unfold jd; rw [if_neg (fun h=>h3 h.2.2)])
       have hz:z<0∨0≤z∧1<z:=by omega
       clear h3;rcases hz with hz | ⟨hz0,hz1⟩
       all_goals
        go_enter Tryz.func55,Tryz.ntmps55
        go_wp2_with fail;refine (qai m _ hml).mono ?_;rintro e w1 ⟨rfl,rfl⟩;go_wp2_with fail;refine (qca t _ htl).mono ?_;rintro e w1 ⟨rfl,rfl⟩;go_wp2_with fail;go_ret;exact ⟨qb6 HR.out.symm,HB0.out⟩
   · have h2':jx t=false:=by simpa using h2
     have HR:=Box.mk (show jd m t z=⟨#[]⟩ by unfold jd; rw [if_neg (fun h=>h2 h.2.1)]);clear h2;go_enter Tryz.func55,Tryz.ntmps55
     go_wp2_with fail;refine (qai m _ hml).mono ?_;rintro e w1 ⟨rfl,rfl⟩;go_wp2_with fail;refine (qca t _ htl).mono ?_;rintro e w1 ⟨rfl,rfl⟩;go_wp2_with fail;go_ret;exact ⟨qb6 HR.out.symm,HB0.out⟩
 · have h1':tokS m=false:=by simpa using h1
   have HR:=Box.mk (show jd m t z=⟨#[]⟩ by unfold jd; rw [if_neg (fun h=>h1 h.1)]);clear h1;go_enter Tryz.func55,Tryz.ntmps55
   go_wp2_with fail;refine (qai m _ hml).mono ?_;rintro e w1 ⟨rfl,rfl⟩;go_wp2_with fail;go_ret;exact ⟨qb6 HR.out.symm,HB0.out⟩
end Go.Proofs.YtflhjpokjdjbpaaGreatDoor
namespace Go.Proofs.YtflhjpokjdjbpaaGreatDoor
open Go.RowKit
section
variable {Q:Exit→Act→World→Prop} {a:Act} {w:World} {o:Oper} {s:Spec}
theorem qyx (W:World) (g i:Nat) (h:i<5):(Instr.fieldAt 31 (.pointer (some ⟨g,0,none⟩)) i).run Tryz.prog W = .ok (.pointer (some ⟨g,i,none⟩)) W:=by
 match i,h with
 | 0,_=>simp [Instr.fieldAt,run_underlying Tryz.underlying31,Instr.sureAddr,fieldPlace,Addr.add]
 | 1,_=>simp [Instr.fieldAt,run_underlying Tryz.underlying31,Instr.sureAddr,fieldPlace,Addr.add]
 | 2,_=>simp [Instr.fieldAt,run_underlying Tryz.underlying31,Instr.sureAddr,fieldPlace,Addr.add]
 | 3,_=>simp [Instr.fieldAt,run_underlying Tryz.underlying31,Instr.sureAddr,fieldPlace,Addr.add]
 | 4,_=>simp [Instr.fieldAt,run_underlying Tryz.underlying31,Instr.sureAddr,fieldPlace,Addr.add]
theorem qeq {x:Operand} {i:Nat} (ho:o.op = .fieldAddr 31 x i) {g:Nat} (hx:a.eval x = .pointer (some ⟨g,0,none⟩)) (hi:i<5) (hs:s.p (.pointer (some ⟨g,i,none⟩)) w) :
  o.wp Tryz.prog a w (fun a' w'=>∃ v,a'=a.put o.dst v∧Below w.heap.size w w'∧s.p v w') Q :=
 j0 (v:=.pointer (some ⟨g,i,none⟩)) (by unfold execOp; rw [ho]; simp only [hx,Sem.run_bind,qyx _ _ _ hi,Result.andThen_ok,Sem.run_pure]) (Below.refl _ _) hs
end
def qgf:ByteArray:=⟨#[72,84,84,80,47,49,46]⟩
def qad (st:Int) (r:ByteArray) (z:Int):ByteArray :=
 if 100≤st∧st≤599∧0≤z∧z≤1∧visS r=true then qgf++fmtS 10 z++⟨#[32]⟩++fmtS 10 st++⟨#[32]⟩++r else ⟨#[]⟩
theorem ja8 {z:Int} (h0:0≤z) (h1:z≤599):(fmtS 10 z).size≤1000:=by
 obtain ⟨k,rfl⟩ : ∃ k:Nat,z=k:=⟨z.toNat,by omega⟩;have hk:k<600:=by omega
 have h:∀ m:Fin 600,(fmtS 10 (m.val:Int)).size≤1000:=by decide +kernel
 exact h ⟨k,hk⟩
theorem qku (st:Int) (r:ByteArray) (z:Int) (fa ba:Option Addr) (fn fc bn bc:Nat) (w:World) (hr:r.size≤1000000000) :
  Calls Tryz.prog 52 #[.agg #[.int .i64 st,.string r,.int .i64 z,.slice fa fn fc,.slice ba bn bc]] w fun e w'=>e = .returned (.string (qad st r z))∧Below w.heap.size w w':=by
 have HB0:=Box.mk (qd w (.cells #[.int .i64 st,.string r,.int .i64 z,.slice fa fn fc,.slice ba bn bc] 31));have hrl:r.size≤maxLen:=by unfold maxLen; omega
 by_cases h0:(100≤st∧st≤599)∧0≤z∧z≤1
 · obtain ⟨⟨t0,t1⟩,z0,z1⟩:=h0
   by_cases h1:visS r=true
   · have HR:=Box.mk (show qad st r z=qgf++fmtS 10 z++⟨#[32]⟩++fmtS 10 st++⟨#[32]⟩++r by unfold qad; rw [if_pos ⟨t0,t1,z0,z1,h1⟩])
     have HD:=Box.mk (And.intro (qoe z0 z1) (ja8 (by omega) t1));have HRow:=Box.mk (show (w.alloc (.cells #[.int .i64 st,.string r,.int .i64 z,.slice fa fn fc,.slice ba bn bc] 31)).heap[w.heap.size]? = some (.cells #[.int .i64 st,.string r,.int .i64 z,.slice fa fn fc,.slice ba bn bc] 31 (0,0)) from heap_alloc_new _ _);go_enter Tryz.func52,Tryz.ntmps52
     go_wp2_with fail;refine (qax r _ hrl).mono ?_;rintro e w1 ⟨rfl,rfl⟩;go_wp2_with fail;have HRW:=HRow;generalize (w.alloc (.cells #[.int .i64 st,.string r,.int .i64 z,.slice fa fn fc,.slice ba bn bc] 31))=W at *;generalize hg:w.heap.size=g at *;have HG:=Box.mk hg;clear hg;rename_i K hK;have s1:(qgf++fmtS 10 z).size≤1007:=by rw [ByteArray.size_append]; show 7+_≤_; have:=HD.out.1; omega
     have s2:(qgf++fmtS 10 z++⟨#[32]⟩).size≤1008:=by rw [ByteArray.size_append]; show _+1≤_; omega
     have s3:(qgf++fmtS 10 z++⟨#[32]⟩++fmtS 10 st).size≤2008:=by rw [ByteArray.size_append]; have:=HD.out.2; omega
     have s4:(qgf++fmtS 10 z++⟨#[32]⟩++fmtS 10 st++⟨#[32]⟩).size≤2009:=by rw [ByteArray.size_append]; show _+1≤_; omega
     refine qas (S:=[.val (.pointer (some ⟨g,2,none⟩)),.val (.int .i64 z),.val (.string (fmtS 10 z)),.val (.string (qgf++fmtS 10 z)),.val (.string (qgf++fmtS 10 z++⟨#[32]⟩)),
      .val (.pointer (some ⟨g,0,none⟩)),.val (.int .i64 st),.val (.string (fmtS 10 st)),.val (.string (qgf++fmtS 10 z++⟨#[32]⟩++fmtS 10 st)),.val (.string (qgf++fmtS 10 z++⟨#[32]⟩++fmtS 10 st++⟨#[32]⟩)),
      .val (.pointer (some ⟨g,1,none⟩)),.val (.string r),.val (.string (qgf++fmtS 10 z++⟨#[32]⟩++fmtS 10 st++⟨#[32]⟩++r)),.val (.string (qgf++fmtS 10 z++⟨#[32]⟩++fmtS 10 st++⟨#[32]⟩++r))])
      (by kernel_rfl) (by kernel_rfl) (by kernel_rfl) ?_ ?_
     · have cell:∀ w' i v,Below W.heap.size W w'→(#[.int .i64 st,.string r,.int .i64 z,.slice fa fn fc,.slice ba bn bc]:Array Value)[i]? = some v→w'.cell? ⟨g,i,none⟩=some v:=fun w' i v hb hv=>qp hb (by rw [cell_of_row _ _ _ _ _ _ HRW.out]; exact hv)
       refine ⟨?_,?_,?_,?_,?_,?_,?_,?_,?_,?_,?_,?_,?_,?_,trivial⟩ <;> intro a w3 hb hf hd
       · exact ⟨qb rfl,qeq rfl (hf.base 1 rfl) (by decide) rfl⟩
       · exact ⟨qb rfl,jg rfl (hd 0 rfl) (cell w3 2 _ hb rfl) (qay _) rfl⟩
       · refine ⟨qb rfl,jz rfl (by kernel_rfl) ?_⟩
         show Calls _ _ #[a.eval (.tmp 28)] w3 _
         rw [show a.eval (.tmp 28) = .int .i64 z from hd 1 rfl];refine (qao z w3 (by omega) (by omega)).mono ?_;rintro e w' ⟨rfl,hb'⟩;exact ⟨_,rfl,hb',rfl⟩
       · exact ⟨qb rfl,qb8 (b:=qgf) rfl rfl (hd 2 rfl) (by show 7+_≤_; have:=HD.out.1; omega) rfl⟩
       · exact ⟨qb rfl,qb8 rfl (hd 3 rfl) rfl (by show _+1≤_; omega) rfl⟩
       · exact ⟨qb rfl,qeq rfl (hf.base 1 rfl) (by decide) rfl⟩
       · exact ⟨qb rfl,jg rfl (hd 5 rfl) (cell w3 0 _ hb rfl) (qay _) rfl⟩
       · refine ⟨qb rfl,jz rfl (by kernel_rfl) ?_⟩
         show Calls _ _ #[a.eval (.tmp 33)] w3 _
         rw [show a.eval (.tmp 33) = .int .i64 st from hd 6 rfl];refine (qao st w3 (by omega) (by omega)).mono ?_;rintro e w' ⟨rfl,hb'⟩;exact ⟨_,rfl,hb',rfl⟩
       · exact ⟨qb rfl,qb8 rfl (hd 4 rfl) (hd 7 rfl) (by have:=HD.out.2; omega) rfl⟩
       · exact ⟨qb rfl,qb8 rfl (hd 8 rfl) rfl (by show _+1≤_; omega) rfl⟩
       · exact ⟨qb rfl,qeq rfl (hf.base 1 rfl) (by decide) rfl⟩
       · exact ⟨qb rfl,jg rfl (hd 10 rfl) (cell w3 1 _ hb rfl) (qbx _) rfl⟩
       · exact ⟨qb rfl,qb8 rfl (hd 9 rfl) (hd 11 rfl) (by omega) rfl⟩
       · exact ⟨qb rfl,qr rfl (hd 12 rfl)⟩
     · intro a w3 hb hf hh
       refine hK a w3 ?_;go_wp2_with fail;exact qlu rfl hf.defers (show a.eval (.tmp 2) = .string (qgf++fmtS 10 z++⟨#[32]⟩++fmtS 10 st++⟨#[32]⟩++r) from hh 13 (by decide)) ⟨qb6 HR.out.symm,by have:=HG.out; have h9:=HB0.out; rw [← this] at h9; exact qe h9 hb⟩
   · have h1':visS r=false:=by simpa using h1
     have HR:=Box.mk (show qad st r z=⟨#[]⟩ by unfold qad; rw [if_neg (fun h=>h1 h.2.2.2.2)]);clear h1;go_enter Tryz.func52,Tryz.ntmps52
     go_wp2_with fail;refine (qax r _ hrl).mono ?_;rintro e w1 ⟨rfl,rfl⟩;go_wp2_with fail;go_ret;exact ⟨qb6 HR.out.symm,HB0.out⟩
 · have HR:=Box.mk (show qad st r z=⟨#[]⟩ by unfold qad; rw [if_neg (fun h=>h0 ⟨⟨h.1,h.2.1⟩,h.2.2.1,h.2.2.2.1⟩)])
   have hz:st<100∨(100≤st∧599<st)∨(100≤st∧st≤599∧z<0)∨(100≤st∧st≤599∧0≤z∧1<z):=by omega
   clear h0;rcases hz with hz | ⟨t0,hz⟩ | ⟨t0,t1,hz⟩ | ⟨t0,t1,z0,hz⟩
   all_goals
    go_enter Tryz.func52,Tryz.ntmps52
    go_wp2_with fail;go_ret;exact ⟨qb6 HR.out.symm,HB0.out⟩
end Go.Proofs.YtflhjpokjdjbpaaGreatDoor
namespace Go.Proofs.YtflhjpokjdjbpaaGreatDoor
open Go.RowKit
def AVar (w:World) (g:Nat) (st:Int) (r:ByteArray) (z:Int):Prop:=w.heap[g]? = some (.cells #[.int .i64 st,.string r,.int .i64 z,.slice none 0 0,.slice none 0 0] 31 (0,0))
theorem AVar.keep {w w':World} {g:Nat} {st:Int} {r:ByteArray} {z:Int} (h:AVar w g st r z) (hb:Below w.heap.size w w'):AVar w' g st r z:=by
 unfold AVar at *;rw [hb.block g (Array.getElem?_eq_some_iff.1 h).1]; exact h
theorem ko:(Tryz.prog.info? 31).map (·.size)=some 5:=by kernel_rfl
theorem oneA (st:Int) (r:ByteArray) (z:Int):(#[.int .i64 st,.string r,.int .i64 z,.slice none 0 0,.slice none 0 0]:Array Value).all (·.oneCell')=true:=by simp [Value.oneCell']
def qow:Option (Int × ByteArray × Int)→Value
 | some f=>.tuple #[.agg #[.int .i64 f.1,.string f.2.1,.int .i64 f.2.2,.slice none 0 0,.slice none 0 0],.int .i64 0]
 | none=>.tuple #[.agg #[.int .i64 0,.string ⟨#[]⟩,.int .i64 0,.slice none 0 0,.slice none 0 0],.int .i64 2]
def qee (s:ByteArray):ByteArray:=if 12<s.size then s.extract 13 s.size else ⟨#[]⟩
def ks (s:ByteArray):Option (Int × ByteArray × Int) :=
 if 12≤s.size∧0≤jb (s.extract 0 8)∧s.data.toList[8]? = some 32∧(12<s.size→s.data.toList[12]? = some 32)∧(qo 10 599 (s.extract 9 12)).2=0∧100≤(qo 10 599 (s.extract 9 12)).1∧visS (qee s)=true then
  some ((qo 10 599 (s.extract 9 12)).1,qee s,jb (s.extract 0 8)) else none
theorem qi0 (w:World) (g:Nat) (st:Int) (r:ByteArray) (z:Int) (h:AVar w g st r z) :
  (Instr.loadAt 31 (.pointer (some ⟨g,0,none⟩))).run Tryz.prog w = .ok (.agg #[.int .i64 st,.string r,.int .i64 z,.slice none 0 0,.slice none 0 0]) w:=by
 unfold AVar at h;simp [Instr.loadAt,Instr.sureAddr,run_loadVar_row w g _ 31 _ _ _ h Tryz.underlying31 rfl ko]
theorem getL (s:ByteArray) {k:Nat} (h:k<s.size) {c:UInt8} (hc:s[k]=c):s.data.toList[k]? = some c:=by
 rw [List.getElem?_eq_getElem (by simpa using h),← hc]; rfl
theorem qxp (s:ByteArray) {k:Nat} (h:k<s.size) {c:UInt8} (hc:s.data.toList[k]? = some c):s[k]=c:=by
 rw [List.getElem?_eq_getElem (by simpa using h)] at hc;exact Option.some.inj hc
theorem jfh (s:ByteArray) {k:Nat} (h:k<s.size) (hc:¬ s[k]=32):((s[k].toNat:Int) != 32)=true:=by
 rw [bne_iff_ne]; intro e; exact hc (UInt8.toNat_inj.1 (by show s[k].toNat=32; omega))
theorem qlg (s:ByteArray) (w:World) (hs:s.size≤maxLen) :
  Calls Tryz.prog 65 #[.string s] w fun e w'=>e = .returned (qow (ks s))∧Below w.heap.size w w':=by
 have hs0:=Box.mk hs;have HZ:=Box.mk (Nat.le_trans (qb4 s 9 12) hs);unfold maxLen at hs;have HB:=Box.mk (qd w (.cells #[.int .i64 0,.string ⟨#[]⟩,.int .i64 0,.slice none 0 0,.slice none 0 0] 31));have HR:=Box.mk (show AVar (w.alloc (.cells #[.int .i64 0,.string ⟨#[]⟩,.int .i64 0,.slice none 0 0,.slice none 0 0] 31)) w.heap.size 0 ⟨#[]⟩ 0 from heap_alloc_new _ _);by_cases h12:s.size<12
 · have HP:=Box.mk (show ks s=none by unfold ks; rw [if_neg (fun h=>by omega)])
   go_enter Tryz.func65,Tryz.ntmps65
   go_wp2_with (refine wpList_store_row rfl 31 _ _ rfl w.heap.size #[.int .i64 0,.string ⟨#[]⟩,.int .i64 0,.slice none 0 0,.slice none 0 0] rfl rfl 31 _ HR.out ko rfl (oneA _ _ _) ?_)
   (try simp only [Exit.inBlock,Exit.then])
   refine bodyPost_ret (qf rfl _ _ w.heap.size _ _ _ _ rfl (setRow_heap _ _ _ _ _ _ HR.out) Tryz.underlying31 rfl ko) rfl ?_;exact ⟨by rw [HP.out]; rfl,below_setRow HB.out (Nat.le_refl _) _⟩
 · have h8:8<s.size:=by omega
   by_cases hm:jb (s.extract 0 8)<0
   · have HP:=Box.mk (show ks s=none by unfold ks; rw [if_neg (fun h=>by omega)])
     go_enter Tryz.func65,Tryz.ntmps65
     go_wp2_with fail;refine (j7 _ _).mono ?_;rintro e w1 ⟨rfl,rfl⟩;go_wp2_with (refine wpList_store_row rfl 31 _ _ rfl w.heap.size #[.int .i64 0,.string ⟨#[]⟩,.int .i64 0,.slice none 0 0,.slice none 0 0] rfl rfl 31 _ HR.out ko rfl (oneA _ _ _) ?_)
     (try simp only [Exit.inBlock,Exit.then])
     refine bodyPost_ret (qf rfl _ _ w.heap.size _ _ _ _ rfl (setRow_heap _ _ _ _ _ _ HR.out) Tryz.underlying31 rfl ko) rfl ?_;exact ⟨by rw [HP.out]; rfl,below_setRow HB.out (Nat.le_refl _) _⟩
   · by_cases hc:s[8]=32
     · have HC:=Box.mk (getL s h8 hc)
       have hb:((s[8].toNat:Int) != 32)=false:=by rw [hc]; rfl
       clear hc;by_cases h13:12<s.size
       · by_cases hd:s[12]=32
         · have HC2:=Box.mk (getL s h13 hd)
           have hb2:((s[12].toNat:Int) != 32)=false:=by rw [hd]; rfl
           clear hd;have HT:=Box.mk (show 12<s.size→s.data.toList[12]? = some 32 from fun _=>HC2.out);have HS:=Box.mk (show qee s=s.extract 13 s.size by unfold qee; rw [if_pos h13]);have HZ2:=Box.mk (Nat.le_trans (qb4 s 13 s.size) hs0.out);by_cases he:(qo 10 599 (s.extract 9 12)).2=0∧100≤(qo 10 599 (s.extract 9 12)).1
           · have HE:=Box.mk he
             clear he;by_cases hv:visS ((s.extract 13 s.size))=true
             · have HP:=Box.mk (show ks s=some ((qo 10 599 (s.extract 9 12)).1,(s.extract 13 s.size),jb (s.extract 0 8)) by unfold ks; rw [HS.out,if_pos ⟨by omega,by omega,HC.out,HT.out,HE.out.1,HE.out.2,hv⟩])
               have HV:=Box.mk hv;clear hv;go_enter Tryz.func65,Tryz.ntmps65
               go_wp2_with fail;refine (j7 _ _).mono ?_;rintro e w1 ⟨rfl,rfl⟩;go_wp2_with fail;refine (ka _ 599 _ HZ.out (by decide) (by decide)).mono ?_;rintro e w1 ⟨he,rfl⟩;rw [HE.out.1] at he;have hn:=HE.out.2;generalize hnn:(qo 10 599 (s.extract 9 12)).1=n at he hn;have HN:=Box.mk hnn;clear hnn;subst he;go_wp2_with fail;refine (j7 _ _).mono ?_;rintro e w1 ⟨rfl,rfl⟩;go_wp2_with fail;refine (qax _ _ HZ2.out).mono ?_;rintro e w1 ⟨he,rfl⟩;rw [HV.out] at he;subst he;have HR2:=Box.mk (HR.out.keep (qd _ (.cells #[.int .i64 n,.string (s.extract 13 s.size),.int .i64 (jb (s.extract 0 8)),.slice none 0 0,.slice none 0 0] 31)));have HB2:=Box.mk (qe HB.out (qd _ (.cells #[.int .i64 n,.string (s.extract 13 s.size),.int .i64 (jb (s.extract 0 8)),.slice none 0 0,.slice none 0 0] 31)));have hrow:=heap_alloc_new (w.alloc (.cells #[.int .i64 0,.string ⟨#[]⟩,.int .i64 0,.slice none 0 0,.slice none 0 0] 31)) (.cells #[.int .i64 n,.string (s.extract 13 s.size),.int .i64 (jb (s.extract 0 8)),.slice none 0 0,.slice none 0 0] 31);have hload:=qi0 _ _ _ _ _ hrow;clear hrow;go_wp2_with (refine wpList_store_row rfl 31 _ _ rfl w.heap.size #[.int .i64 n,.string (s.extract 13 s.size),.int .i64 (jb (s.extract 0 8)),.slice none 0 0,.slice none 0 0] rfl rfl 31 _ HR2.out ko rfl (oneA _ _ _) ?_)
               (try simp only [Exit.inBlock,Exit.then])
               refine bodyPost_ret (qf rfl _ _ w.heap.size _ _ _ _ rfl (setRow_heap _ _ _ _ _ _ HR2.out) Tryz.underlying31 rfl ko) rfl ?_;exact ⟨by rw [HP.out]; rw [HN.out]; rfl,below_setRow HB2.out (Nat.le_refl _) _⟩
             · have HP:=Box.mk (show ks s=none by unfold ks; rw [HS.out,if_neg (fun h=>hv h.2.2.2.2.2.2)])
               have HV:=Box.mk (show visS ((s.extract 13 s.size))=false by simpa using hv);clear hv;go_enter Tryz.func65,Tryz.ntmps65
               go_wp2_with fail;refine (j7 _ _).mono ?_;rintro e w1 ⟨rfl,rfl⟩;go_wp2_with fail;refine (ka _ 599 _ HZ.out (by decide) (by decide)).mono ?_;rintro e w1 ⟨he,rfl⟩;rw [HE.out.1] at he;have hn:=HE.out.2;generalize hnn:(qo 10 599 (s.extract 9 12)).1=n at he hn;have HN:=Box.mk hnn;clear hnn;subst he;go_wp2_with fail;refine (j7 _ _).mono ?_;rintro e w1 ⟨rfl,rfl⟩;go_wp2_with fail;refine (qax _ _ HZ2.out).mono ?_;rintro e w1 ⟨he,rfl⟩;rw [HV.out] at he;subst he;have HR2:=Box.mk (HR.out.keep (qd _ (.cells #[.int .i64 n,.string (s.extract 13 s.size),.int .i64 (jb (s.extract 0 8)),.slice none 0 0,.slice none 0 0] 31)));have HB2:=Box.mk (qe HB.out (qd _ (.cells #[.int .i64 n,.string (s.extract 13 s.size),.int .i64 (jb (s.extract 0 8)),.slice none 0 0,.slice none 0 0] 31)));have hrow:=heap_alloc_new (w.alloc (.cells #[.int .i64 0,.string ⟨#[]⟩,.int .i64 0,.slice none 0 0,.slice none 0 0] 31)) (.cells #[.int .i64 n,.string (s.extract 13 s.size),.int .i64 (jb (s.extract 0 8)),.slice none 0 0,.slice none 0 0] 31);have hload:=qi0 _ _ _ _ _ hrow;clear hrow;go_wp2_with (refine wpList_store_row rfl 31 _ _ rfl w.heap.size #[.int .i64 0,.string ⟨#[]⟩,.int .i64 0,.slice none 0 0,.slice none 0 0] rfl rfl 31 _ HR2.out ko rfl (oneA _ _ _) ?_)
               (try simp only [Exit.inBlock,Exit.then])
               refine bodyPost_ret (qf rfl _ _ w.heap.size _ _ _ _ rfl (setRow_heap _ _ _ _ _ _ HR2.out) Tryz.underlying31 rfl ko) rfl ?_;exact ⟨by rw [HP.out]; rfl,below_setRow HB2.out (Nat.le_refl _) _⟩
           · have HP:=Box.mk (show ks s=none by unfold ks; rw [if_neg (fun h=>he ⟨h.2.2.2.2.1,h.2.2.2.2.2.1⟩)])
             have HE:=Box.mk (show ¬ (qo 10 599 (s.extract 9 12)).2=0∨(qo 10 599 (s.extract 9 12)).2=0∧(qo 10 599 (s.extract 9 12)).1<100 by omega);clear he;go_enter Tryz.func65,Tryz.ntmps65
             go_wp2_with fail;refine (j7 _ _).mono ?_;rintro e w1 ⟨rfl,rfl⟩;go_wp2_with fail;refine (ka _ 599 _ HZ.out (by decide) (by decide)).mono ?_;rintro e w1 ⟨he,rfl⟩;have hn:=HE.out;generalize (qo 10 599 (s.extract 9 12)).1=n at he hn;generalize (qo 10 599 (s.extract 9 12)).2=q at he hn;subst he;rcases hn with hn | ⟨rfl,hn⟩
             all_goals
              go_wp2_with (refine wpList_store_row rfl 31 _ _ rfl w.heap.size #[.int .i64 0,.string ⟨#[]⟩,.int .i64 0,.slice none 0 0,.slice none 0 0] rfl rfl 31 _ HR.out ko rfl (oneA _ _ _) ?_)
              (try simp only [Exit.inBlock,Exit.then])
              refine bodyPost_ret (qf rfl _ _ w.heap.size _ _ _ _ rfl (setRow_heap _ _ _ _ _ _ HR.out) Tryz.underlying31 rfl ko) rfl ?_;exact ⟨by rw [HP.out]; rfl,below_setRow HB.out (Nat.le_refl _) _⟩
         · have HP:=Box.mk (show ks s=none by unfold ks; rw [if_neg (fun h=>hd (qxp s h13 (h.2.2.2.1 h13)))])
           have hb2:((s[12].toNat:Int) != 32)=true:=jfh s h13 hd;clear hd;go_enter Tryz.func65,Tryz.ntmps65
           go_wp2_with fail;refine (j7 _ _).mono ?_;rintro e w1 ⟨rfl,rfl⟩;go_wp2_with (refine wpList_store_row rfl 31 _ _ rfl w.heap.size #[.int .i64 0,.string ⟨#[]⟩,.int .i64 0,.slice none 0 0,.slice none 0 0] rfl rfl 31 _ HR.out ko rfl (oneA _ _ _) ?_)
           (try simp only [Exit.inBlock,Exit.then])
           refine bodyPost_ret (qf rfl _ _ w.heap.size _ _ _ _ rfl (setRow_heap _ _ _ _ _ _ HR.out) Tryz.underlying31 rfl ko) rfl ?_;exact ⟨by rw [HP.out]; rfl,below_setRow HB.out (Nat.le_refl _) _⟩
       · have HT:=Box.mk (show 12<s.size→s.data.toList[12]? = some 32 from fun h=>absurd h h13)
         have HS:=Box.mk (show qee s=⟨#[]⟩ by unfold qee; rw [if_neg h13]);have HZ2:=Box.mk (show (⟨#[]⟩ : ByteArray).size≤maxLen from Nat.zero_le _);by_cases he:(qo 10 599 (s.extract 9 12)).2=0∧100≤(qo 10 599 (s.extract 9 12)).1
         · have HE:=Box.mk he
           clear he;by_cases hv:visS (⟨#[]⟩)=true
           · have HP:=Box.mk (show ks s=some ((qo 10 599 (s.extract 9 12)).1,⟨#[]⟩,jb (s.extract 0 8)) by unfold ks; rw [HS.out,if_pos ⟨by omega,by omega,HC.out,HT.out,HE.out.1,HE.out.2,hv⟩])
             have HV:=Box.mk hv;clear hv;go_enter Tryz.func65,Tryz.ntmps65
             go_wp2_with fail;refine (j7 _ _).mono ?_;rintro e w1 ⟨rfl,rfl⟩;go_wp2_with fail;refine (ka _ 599 _ HZ.out (by decide) (by decide)).mono ?_;rintro e w1 ⟨he,rfl⟩;rw [HE.out.1] at he;have hn:=HE.out.2;generalize hnn:(qo 10 599 (s.extract 9 12)).1=n at he hn;have HN:=Box.mk hnn;clear hnn;subst he;go_wp2_with fail;refine (j7 _ _).mono ?_;rintro e w1 ⟨rfl,rfl⟩;go_wp2_with fail;refine (qax _ _ HZ2.out).mono ?_;rintro e w1 ⟨he,rfl⟩;rw [HV.out] at he;subst he;have HR2:=Box.mk (HR.out.keep (qd _ (.cells #[.int .i64 n,.string ⟨#[]⟩,.int .i64 (jb (s.extract 0 8)),.slice none 0 0,.slice none 0 0] 31)));have HB2:=Box.mk (qe HB.out (qd _ (.cells #[.int .i64 n,.string ⟨#[]⟩,.int .i64 (jb (s.extract 0 8)),.slice none 0 0,.slice none 0 0] 31)));have hrow:=heap_alloc_new (w.alloc (.cells #[.int .i64 0,.string ⟨#[]⟩,.int .i64 0,.slice none 0 0,.slice none 0 0] 31)) (.cells #[.int .i64 n,.string ⟨#[]⟩,.int .i64 (jb (s.extract 0 8)),.slice none 0 0,.slice none 0 0] 31);have hload:=qi0 _ _ _ _ _ hrow;clear hrow;go_wp2_with (refine wpList_store_row rfl 31 _ _ rfl w.heap.size #[.int .i64 n,.string ⟨#[]⟩,.int .i64 (jb (s.extract 0 8)),.slice none 0 0,.slice none 0 0] rfl rfl 31 _ HR2.out ko rfl (oneA _ _ _) ?_)
             (try simp only [Exit.inBlock,Exit.then])
             refine bodyPost_ret (qf rfl _ _ w.heap.size _ _ _ _ rfl (setRow_heap _ _ _ _ _ _ HR2.out) Tryz.underlying31 rfl ko) rfl ?_;exact ⟨by rw [HP.out]; rw [HN.out]; rfl,below_setRow HB2.out (Nat.le_refl _) _⟩
           · have HP:=Box.mk (show ks s=none by unfold ks; rw [HS.out,if_neg (fun h=>hv h.2.2.2.2.2.2)])
             have HV:=Box.mk (show visS (⟨#[]⟩)=false by simpa using hv);clear hv;go_enter Tryz.func65,Tryz.ntmps65
             go_wp2_with fail;refine (j7 _ _).mono ?_;rintro e w1 ⟨rfl,rfl⟩;go_wp2_with fail;refine (ka _ 599 _ HZ.out (by decide) (by decide)).mono ?_;rintro e w1 ⟨he,rfl⟩;rw [HE.out.1] at he;have hn:=HE.out.2;generalize hnn:(qo 10 599 (s.extract 9 12)).1=n at he hn;have HN:=Box.mk hnn;clear hnn;subst he;go_wp2_with fail;refine (j7 _ _).mono ?_;rintro e w1 ⟨rfl,rfl⟩;go_wp2_with fail;refine (qax _ _ HZ2.out).mono ?_;rintro e w1 ⟨he,rfl⟩;rw [HV.out] at he;subst he;have HR2:=Box.mk (HR.out.keep (qd _ (.cells #[.int .i64 n,.string ⟨#[]⟩,.int .i64 (jb (s.extract 0 8)),.slice none 0 0,.slice none 0 0] 31)));have HB2:=Box.mk (qe HB.out (qd _ (.cells #[.int .i64 n,.string ⟨#[]⟩,.int .i64 (jb (s.extract 0 8)),.slice none 0 0,.slice none 0 0] 31)));have hrow:=heap_alloc_new (w.alloc (.cells #[.int .i64 0,.string ⟨#[]⟩,.int .i64 0,.slice none 0 0,.slice none 0 0] 31)) (.cells #[.int .i64 n,.string ⟨#[]⟩,.int .i64 (jb (s.extract 0 8)),.slice none 0 0,.slice none 0 0] 31);have hload:=qi0 _ _ _ _ _ hrow;clear hrow;go_wp2_with (refine wpList_store_row rfl 31 _ _ rfl w.heap.size #[.int .i64 0,.string ⟨#[]⟩,.int .i64 0,.slice none 0 0,.slice none 0 0] rfl rfl 31 _ HR2.out ko rfl (oneA _ _ _) ?_)
             (try simp only [Exit.inBlock,Exit.then])
             refine bodyPost_ret (qf rfl _ _ w.heap.size _ _ _ _ rfl (setRow_heap _ _ _ _ _ _ HR2.out) Tryz.underlying31 rfl ko) rfl ?_;exact ⟨by rw [HP.out]; rfl,below_setRow HB2.out (Nat.le_refl _) _⟩
         · have HP:=Box.mk (show ks s=none by unfold ks; rw [if_neg (fun h=>he ⟨h.2.2.2.2.1,h.2.2.2.2.2.1⟩)])
           have HE:=Box.mk (show ¬ (qo 10 599 (s.extract 9 12)).2=0∨(qo 10 599 (s.extract 9 12)).2=0∧(qo 10 599 (s.extract 9 12)).1<100 by omega);clear he;go_enter Tryz.func65,Tryz.ntmps65
           go_wp2_with fail;refine (j7 _ _).mono ?_;rintro e w1 ⟨rfl,rfl⟩;go_wp2_with fail;refine (ka _ 599 _ HZ.out (by decide) (by decide)).mono ?_;rintro e w1 ⟨he,rfl⟩;have hn:=HE.out;generalize (qo 10 599 (s.extract 9 12)).1=n at he hn;generalize (qo 10 599 (s.extract 9 12)).2=q at he hn;subst he;rcases hn with hn | ⟨rfl,hn⟩
           all_goals
            go_wp2_with (refine wpList_store_row rfl 31 _ _ rfl w.heap.size #[.int .i64 0,.string ⟨#[]⟩,.int .i64 0,.slice none 0 0,.slice none 0 0] rfl rfl 31 _ HR.out ko rfl (oneA _ _ _) ?_)
            (try simp only [Exit.inBlock,Exit.then])
            refine bodyPost_ret (qf rfl _ _ w.heap.size _ _ _ _ rfl (setRow_heap _ _ _ _ _ _ HR.out) Tryz.underlying31 rfl ko) rfl ?_;exact ⟨by rw [HP.out]; rfl,below_setRow HB.out (Nat.le_refl _) _⟩
     · have HP:=Box.mk (show ks s=none by unfold ks; rw [if_neg (fun h=>hc (qxp s h8 h.2.2.1))])
       have hb:((s[8].toNat:Int) != 32)=true:=jfh s h8 hc;clear hc;go_enter Tryz.func65,Tryz.ntmps65
       go_wp2_with fail;refine (j7 _ _).mono ?_;rintro e w1 ⟨rfl,rfl⟩;go_wp2_with (refine wpList_store_row rfl 31 _ _ rfl w.heap.size #[.int .i64 0,.string ⟨#[]⟩,.int .i64 0,.slice none 0 0,.slice none 0 0] rfl rfl 31 _ HR.out ko rfl (oneA _ _ _) ?_)
       (try simp only [Exit.inBlock,Exit.then])
       refine bodyPost_ret (qf rfl _ _ w.heap.size _ _ _ _ rfl (setRow_heap _ _ _ _ _ _ HR.out) Tryz.underlying31 rfl ko) rfl ?_;exact ⟨by rw [HP.out]; rfl,below_setRow HB.out (Nat.le_refl _) _⟩
def RVar (w:World) (g:Nat) (m t:ByteArray) (z:Int):Prop:=w.heap[g]? = some (.cells #[.string m,.string t,.int .i64 z,.slice none 0 0,.bool false,.slice none 0 0] 29 (0,0))
theorem RVar.keep {w w':World} {g:Nat} {m t:ByteArray} {z:Int} (h:RVar w g m t z) (hb:Below w.heap.size w w'):RVar w' g m t z:=by
 unfold RVar at *;rw [hb.block g (Array.getElem?_eq_some_iff.1 h).1]; exact h
theorem jo:(Tryz.prog.info? 29).map (·.size)=some 6:=by kernel_rfl
theorem oneR (m t:ByteArray) (z:Int):(#[.string m,.string t,.int .i64 z,.slice none 0 0,.bool false,.slice none 0 0]:Array Value).all (·.oneCell')=true:=by simp [Value.oneCell']
def reqV:Option (ByteArray × ByteArray × Int) × Int→Value
 | (some f,_)=>.tuple #[.agg #[.string f.1,.string f.2.1,.int .i64 f.2.2,.slice none 0 0,.bool false,.slice none 0 0],.int .i64 0]
 | (none,e)=>.tuple #[.agg #[.string ⟨#[]⟩,.string ⟨#[]⟩,.int .i64 0,.slice none 0 0,.bool false,.slice none 0 0],.int .i64 e]
def qbb:List ByteArray→Option (ByteArray × ByteArray × Int) × Int
 | [m,t,v]=>if tokS m=true∧jx t=true then (if (verZ v).2=0 then (some (m,t,(verZ v).1),0) else (none,(verZ v).2)) else (none,2)
 | _=>(none,2)
theorem ql5 {l:List ByteArray} (h:¬ l.length=3):qbb l=(none,2):=by
 unfold qbb
 split
 · exact absurd rfl h
 · rfl
theorem qpn {m t v:ByteArray} (h1:tokS m=true) (h2:jx t=true) (h4:(verZ v).2=0):qbb [m,t,v]=(some (m,t,(verZ v).1),0):=by
 show (if tokS m=true∧jx t=true then (if (verZ v).2=0 then (some (m,t,(verZ v).1),0) else (none,(verZ v).2)) else (none,2))=(_:Option (ByteArray × ByteArray × Int) × Int)
 rw [if_pos ⟨h1,h2⟩,if_pos h4]
theorem qds {m t v:ByteArray} (h1:tokS m=true) (h2:jx t=true) (h4:¬ (verZ v).2=0):qbb [m,t,v]=(none,(verZ v).2):=by
 show (if tokS m=true∧jx t=true then (if (verZ v).2=0 then (some (m,t,(verZ v).1),0) else (none,(verZ v).2)) else (none,2))=(_:Option (ByteArray × ByteArray × Int) × Int)
 rw [if_pos ⟨h1,h2⟩,if_neg h4]
theorem qif {m t v:ByteArray} (h:¬ (tokS m=true∧jx t=true)):qbb [m,t,v]=(none,2):=by
 show (if tokS m=true∧jx t=true then (if (verZ v).2=0 then (some (m,t,(verZ v).1),0) else (none,(verZ v).2)) else (none,2))=(_:Option (ByteArray × ByteArray × Int) × Int)
 rw [if_neg h]
theorem qwi (s:ByteArray):qbb (qh8 s)=qbb (jj 32 s):=by
 rcases qsx s with h | ⟨h1,h2⟩
 · rw [h]
 · rw [ql5 (by omega),ql5 h2]
theorem jfz {l:List ByteArray} (h:l.length=3):∃ a b c,l=[a,b,c]:=by
 match l,h with
 | [a,b,c],_=>exact ⟨a,b,c,rfl⟩
theorem qti {s:ByteArray} (h:(qh8 s).length=3) (x:ByteArray) (hx:x ∈ qh8 s):x.size≤s.size:=by
 rcases qsx s with h1 | ⟨h1,_⟩
 · rw [h1] at hx; exact qd2 32 s x hx
 · omega
theorem qos (l:List ByteArray) (n j:Nat) (hj:j<l.length):(Lib.cellsOf l n)[j]? = some (.string l[j]):=by
 unfold Lib.cellsOf;rw [List.getElem?_toArray,List.getElem?_append_left (by simpa using hj)]; simp [hj]
theorem qyl (s:ByteArray) (w:World) (m:Int) (hs:s.size<4294967281) (hm:w.cell? ⟨0,0,none⟩=some (.int .i64 m)) :
  Calls Tryz.prog 122 #[.string s,.string ⟨#[32]⟩,.int .i64 4] w fun e w'=>∃ cap,e = .returned (.slice (some ⟨w.heap.size,0,none⟩) (qh8 s).length cap) ∧
   (∀ j (hj:j<(qh8 s).length),w'.cell? ⟨w.heap.size,j,none⟩=some (.string (qh8 s)[j]))∧Below w.heap.size w w':=by
 refine (Any.strings_SplitN { Tryz.laysM147 with } Tryz.laysM147.i9 s ⟨#[32]⟩ 4 m w hs hm (by decide) (by decide) (by decide)).mono ?_;rintro e w' ⟨he,hw⟩;refine ⟨_,he,fun j hj=>?_,by rw [hw]; exact (Below.refl _ _).alloc (Nat.le_refl _) _⟩;rw [hw,jm];exact qos _ _ j hj
section
variable {Q:Exit→Act→World→Prop} {a:Act} {w:World} {o:Oper} {s:Spec}
theorem qf1 {x y:Operand} (ho:o.op = .indexAddr 57 x y) {ad:Addr} {n c k:Nat} (hx:a.eval x = .slice (some ad) n c) (hy:a.eval y = .int .i64 k) (hk:k<n) (hs:s.p (.pointer (some (ad.add k))) w) :
  o.wp Tryz.prog a w (fun a' w'=>∃ v,a'=a.put o.dst v∧Below w.heap.size w w'∧s.p v w') Q :=
 j0 (v:=.pointer (some (ad.add k))) (by
  have es:(sizeOf (Tryz.prog.elem 57)).run Tryz.prog w = .ok 1 w:=by
   rw [show Tryz.prog.elem 57=9 by kernel_rfl];have h:(Tryz.prog.info? 9).map (·.size)=some 1:=by kernel_rfl
   cases hq:Tryz.prog.info? 9 with
   | none=>rw [hq] at h; cases h
   | some i=>rw [hq] at h; simp at h; simp [sizeOf,typeInfo,hq,h]
  have h:=run_indexAt_slice (P:=Tryz.prog) (w:=w) 57 ad n c .i64 (k:Int) (by kernel_rfl);rw [if_pos ⟨by omega,by omega⟩,es] at h;simp only [Result.andThen,Int.toNat_natCast,Nat.mul_one] at h;unfold execOp;simp only [ho,hx,hy,Sem.run_bind,h,Result.andThen_ok,Sem.run_pure]) (Below.refl _ _) hs
theorem qou {x y z:Operand} (ho:o.op = .build 29 #[(0,x),(1,y),(2,z)]) {m t:ByteArray} {n:Int} (hx:a.eval x = .string m) (hy:a.eval y = .string t) (hz:a.eval z = .int .i64 n)
  (hs:s.p (.agg #[.string m,.string t,.int .i64 n,.slice none 0 0,.bool false,.slice none 0 0]) w) :
  o.wp Tryz.prog a w (fun a' w'=>∃ v,a'=a.put o.dst v∧Below w.heap.size w w'∧s.p v w') Q:=by
 refine j0 (v:=.agg #[.string m,.string t,.int .i64 n,.slice none 0 0,.bool false,.slice none 0 0]) ?_ (Below.refl _ _) hs;have hb:=run_build (P:=Tryz.prog) w 29 #[(0,.string m),(1,.string t),(2,.int .i64 n)] #[.string m,.string t,.int .i64 n,.slice none 0 0,.bool false,.slice none 0 0] (by kernel_rfl);unfold execOp;simp only [ho,List.map_toArray,List.map_cons,List.map_nil,hx,hy,hz,Sem.run_bind,hb,Result.andThen_ok,Sem.run_pure]
end
theorem qkx (s:ByteArray) (w:World) (mm:Int) (hs:s.size<4294967281) (hm:w.cell? ⟨0,0,none⟩=some (.int .i64 mm)) :
  Calls Tryz.prog 125 #[.string s] w fun e w'=>e = .returned (reqV (qbb (jj 32 s)))∧Below w.heap.size w w':=by
 have HW:=Box.mk (qwi s);have HB:=Box.mk (qd w (.cells #[.string ⟨#[]⟩,.string ⟨#[]⟩,.int .i64 0,.slice none 0 0,.bool false,.slice none 0 0] 29));have HR:=Box.mk (show RVar (w.alloc (.cells #[.string ⟨#[]⟩,.string ⟨#[]⟩,.int .i64 0,.slice none 0 0,.bool false,.slice none 0 0] 29)) w.heap.size ⟨#[]⟩ ⟨#[]⟩ 0 from heap_alloc_new _ _);have HM:=Box.mk (qp HB.out hm);have HSM:=Box.mk (fun h=>qti (s:=s) h);clear hm;go_enter Tryz.func125,Tryz.ntmps125
 go_wp2_with fail;refine (qyl s _ mm hs HM.out).mono ?_;rintro e w1 ⟨cap,rfl,hcell,hb1⟩;have HB1:=Box.mk (qe HB.out hb1);have HR1:=Box.mk (HR.out.keep hb1);have HC:=Box.mk hcell;have hg1:(w.alloc (.cells #[.string ⟨#[]⟩,.string ⟨#[]⟩,.int .i64 0,.slice none 0 0,.bool false,.slice none 0 0] 29)).heap.size=w.heap.size+1:=World.size_alloc _ _;rw [hg1] at HC ⊢;clear hb1 hcell HM HB HR hg1;generalize hws:qh8 s=ws at *;clear hws;by_cases h3:ws.length=3
 · obtain ⟨m,t,v,rfl⟩:=jfz h3
   have hc0:=HC.out 0 (by simp);have hc1:=HC.out 1 (by simp);have hc2:=HC.out 2 (by simp);simp only [List.getElem_cons_zero,List.getElem_cons_succ] at hc0 hc1 hc2;have HZ:=Box.mk (show m.size≤maxLen by have:=HSM.out rfl m (by simp); unfold maxLen; omega);clear h3 HC HSM;rw [show ([m,t,v]:List ByteArray).length=3 from rfl];by_cases h1:tokS m=true
   · have H1:=Box.mk h1
     clear h1;by_cases h2:jx t=true
     · have H2:=Box.mk h2
       clear h2;by_cases h4:(verZ v).2=0
       · have HP:=Box.mk (show qbb (jj 32 s)=(some (m,t,(verZ v).1),0) by rw [← HW.out]; exact qpn H1.out H2.out h4)
         have H4:=Box.mk h4;clear h4;go_wp2_with fail;refine (qev m _ HZ.out).mono ?_;rintro e w2 ⟨he,rfl⟩;rw [H1.out] at he;subst he;go_wp2_with fail;refine (qec t _).mono ?_;rintro e w3 ⟨he,hb3⟩;rw [H2.out] at he;subst he;have HB3:=Box.mk (qe HB1.out hb3);have HR3:=Box.mk (HR1.out.keep hb3);have hd0:=qp hb3 hc0;have hd1:=qp hb3 hc1;have hd2:=qp hb3 hc2;clear hb3 hc0 hc1 hc2 HB1 HR1;go_wp2_with fail;refine (qd7 v _).mono ?_;rintro e w4 ⟨he,rfl⟩;rw [H4.out] at he;generalize hzz:(verZ v).1=z at *;clear hzz;subst he;go_wp2_with fail;generalize hg:w.heap.size=g at *;have HG:=Box.mk hg;clear hg;rename_i K hK;refine qfu (S:=[some (.val (.slice (some ⟨g+1,0,none⟩) 3 cap)),some (.val (.pointer (some ⟨g+1,0,none⟩))),some (.val (.string m)),some (.val (.slice (some ⟨g+1,0,none⟩) 3 cap)),some (.val (.pointer (some ⟨g+1,1,none⟩))),some (.val (.string t)),some (.val (.int .i64 z)),
          some (.val (.agg #[.string m,.string t,.int .i64 z,.slice none 0 0,.bool false,.slice none 0 0])),none,some (.val (.int .i64 0))]) 8 [9]
          (fun w'=>Below g w w'∧RVar w' g m t z) (by kernel_rfl) (by kernel_rfl) (by kernel_rfl) (by kernel_rfl) rfl rfl rfl ?_ ?_ ?_ ?_
         · refine ⟨?_,?_,?_,?_,?_,?_,?_,?_,?_,trivial⟩ <;> intro a w5 hb hf hd
           · exact ⟨qb rfl,qi rfl (hf.base 4 rfl)⟩
           · exact ⟨qb rfl,qf1 (k:=0) rfl (hd 0 rfl) rfl (by decide) rfl⟩
           · exact ⟨qb rfl,jg rfl (hd 1 rfl) (qp hb hd0) (qbx _) rfl⟩
           · exact ⟨qb rfl,qi rfl (hf.base 4 rfl)⟩
           · exact ⟨qb rfl,qf1 (k:=1) rfl (hd 3 rfl) rfl (by decide) rfl⟩
           · exact ⟨qb rfl,jg rfl (hd 4 rfl) (qp hb hd1) (qbx _) rfl⟩
           · exact ⟨qb rfl,qi rfl (hf.base 5 rfl)⟩
           · exact ⟨qb rfl,qou rfl (hd 2 rfl) (hd 5 rfl) (hd 6 rfl) rfl⟩
           · exact ⟨qb rfl,qr rfl rfl⟩
         · exact ⟨fun a w5 hf hd=>⟨qb rfl,qml rfl rfl⟩,trivial⟩
         · refine ⟨rfl,fun a w5 hb hf hd=>⟨qb rfl,?_⟩⟩
           refine wp_store_row 29 _ _ rfl g #[.string m,.string t,.int .i64 z,.slice none 0 0,.bool false,.slice none 0 0] (hf.base 2 rfl) (hd 7 rfl) 29 _ (HR3.out.keep hb) jo rfl (oneR _ _ _) ⟨rfl,?_,?_⟩
           · have h8:=HG.out
             exact below_setRow (HB3.out.trans (hb.mono (by have:=HB3.out.size; omega))) (Nat.le_refl _) _
           · exact setRow_heap _ _ _ _ _ _ (HR3.out.keep hb)
         · intro a w5 hp hf hh
           refine hK a w5 ?_;go_wp2_with fail;refine bodyPost_ret (qf rfl _ w5 g _ _ _ _ (hf.base 2 rfl) hp.2 Tryz.underlying29 rfl jo) hf.defers ?_;rw [show a.tmps.getD 3 undef = .int .i64 0 from hh 9 (by decide)];exact ⟨by rw [HP.out]; rfl,by rw [HG.out]; exact hp.1⟩
       · have HP:=Box.mk (show qbb (jj 32 s)=(none,(verZ v).2) by rw [← HW.out]; exact qds H1.out H2.out h4)
         have hb4:((verZ v).2 != 0)=true:=by rw [bne_iff_ne]; exact h4
         clear h4;go_wp2_with fail;refine (qev m _ HZ.out).mono ?_;rintro e w2 ⟨he,rfl⟩;rw [H1.out] at he;subst he;go_wp2_with fail;refine (qec t _).mono ?_;rintro e w3 ⟨he,hb3⟩;rw [H2.out] at he;subst he;have HB3:=Box.mk (qe HB1.out hb3);have HR3:=Box.mk (HR1.out.keep hb3);have hd2:=qp hb3 hc2;clear hb3 hc0 hc1 hc2 HB1 HR1;go_wp2_with fail;refine (qd7 v _).mono ?_;rintro e w4 ⟨he,rfl⟩;generalize (verZ v).1=z at *;generalize (verZ v).2=er at *;subst he;go_wp2_with (refine wpList_store_row rfl 29 _ _ rfl w.heap.size #[.string ⟨#[]⟩,.string ⟨#[]⟩,.int .i64 0,.slice none 0 0,.bool false,.slice none 0 0] rfl rfl 29 _ HR3.out jo rfl (oneR _ _ _) ?_)
         (try simp only [Exit.inBlock,Exit.then])
         refine bodyPost_ret (qf rfl _ _ w.heap.size _ _ _ _ rfl (setRow_heap _ _ _ _ _ _ HR3.out) Tryz.underlying29 rfl jo) rfl ?_;exact ⟨by rw [HP.out]; rfl,below_setRow HB3.out (Nat.le_refl _) _⟩
     · have H2:=Box.mk (show jx t=false by simpa using h2)
       have HP:=Box.mk (show qbb (jj 32 s)=(none,2) by rw [← HW.out]; exact qif (fun h=>h2 h.2));clear h2;go_wp2_with fail;refine (qev m _ HZ.out).mono ?_;rintro e w2 ⟨he,rfl⟩;rw [H1.out] at he;subst he;go_wp2_with fail;refine (qec t _).mono ?_;rintro e w3 ⟨he,hb3⟩;rw [H2.out] at he;subst he;have HB3:=Box.mk (qe HB1.out hb3);have HR3:=Box.mk (HR1.out.keep hb3);clear hb3 hc0 hc1 hc2 HB1 HR1;go_wp2_with (refine wpList_store_row rfl 29 _ _ rfl w.heap.size #[.string ⟨#[]⟩,.string ⟨#[]⟩,.int .i64 0,.slice none 0 0,.bool false,.slice none 0 0] rfl rfl 29 _ HR3.out jo rfl (oneR _ _ _) ?_)
       (try simp only [Exit.inBlock,Exit.then])
       refine bodyPost_ret (qf rfl _ _ w.heap.size _ _ _ _ rfl (setRow_heap _ _ _ _ _ _ HR3.out) Tryz.underlying29 rfl jo) rfl ?_;exact ⟨by rw [HP.out]; rfl,below_setRow HB3.out (Nat.le_refl _) _⟩
   · have H1:=Box.mk (show tokS m=false by simpa using h1)
     have HP:=Box.mk (show qbb (jj 32 s)=(none,2) by rw [← HW.out]; exact qif (fun h=>h1 h.1));clear h1;go_wp2_with fail;refine (qev m _ HZ.out).mono ?_;rintro e w2 ⟨he,rfl⟩;rw [H1.out] at he;subst he;go_wp2_with (refine wpList_store_row rfl 29 _ _ rfl w.heap.size #[.string ⟨#[]⟩,.string ⟨#[]⟩,.int .i64 0,.slice none 0 0,.bool false,.slice none 0 0] rfl rfl 29 _ HR1.out jo rfl (oneR _ _ _) ?_)
     (try simp only [Exit.inBlock,Exit.then])
     refine bodyPost_ret (qf rfl _ _ w.heap.size _ _ _ _ rfl (setRow_heap _ _ _ _ _ _ HR1.out) Tryz.underlying29 rfl jo) rfl ?_;exact ⟨by rw [HP.out]; rfl,below_setRow HB1.out (Nat.le_refl _) _⟩
 · have HP:=Box.mk (show qbb (jj 32 s)=(none,2) by rw [← HW.out]; exact ql5 h3)
   have hb3:(((ws.length:Nat):Int) != 3)=true:=by rw [bne_iff_ne]; omega
   clear h3 HC HSM;go_wp2_with (refine wpList_store_row rfl 29 _ _ rfl w.heap.size #[.string ⟨#[]⟩,.string ⟨#[]⟩,.int .i64 0,.slice none 0 0,.bool false,.slice none 0 0] rfl rfl 29 _ HR1.out jo rfl (oneR _ _ _) ?_)
   (try simp only [Exit.inBlock,Exit.then])
   refine bodyPost_ret (qf rfl _ _ w.heap.size _ _ _ _ rfl (setRow_heap _ _ _ _ _ _ HR1.out) Tryz.underlying29 rfl jo) rfl ?_;exact ⟨by rw [HP.out]; rfl,below_setRow HB1.out (Nat.le_refl _) _⟩
end Go.Proofs.YtflhjpokjdjbpaaGreatDoor
namespace Go.Proofs.YtflhjpokjdjbpaaGreatDoor
open Go.RowKit
theorem qpv {v:ByteArray} (h:0≤jb v):verZ v=(jb v,0):=by
 unfold jb at *;unfold verZ;by_cases h0:v=v10
 · rw [if_pos h0,if_pos h0]
 · rw [if_neg h0] at h ⊢
   rw [if_neg h0];by_cases h1:v=v11
   · rw [if_pos h1,if_pos h1]
   · rw [if_neg h1] at h; omega
theorem qwy {v:ByteArray} (h:jb v<0) (hv:verB v=true):verZ v=(0,6):=by
 unfold jb at h;unfold verZ;by_cases h0:v=v10
 · rw [if_pos h0] at h; omega
 · rw [if_neg h0] at h ⊢
   by_cases h1:v=v11
   · rw [if_pos h1] at h; omega
   · rw [if_neg h1,if_pos hv]
theorem qjc {v:ByteArray} (h:jb v<0) (hv:verB v=false):verZ v=(0,2):=by
 unfold jb at h;unfold verZ;by_cases h0:v=v10
 · rw [if_pos h0] at h; omega
 · rw [if_neg h0] at h ⊢
   by_cases h1:v=v11
   · rw [if_pos h1] at h; omega
   · rw [if_neg h1,if_neg (by rw [hv]; decide)]
theorem litH:([72,84,84,80,47]:List UInt8)=qg4.toList:=by rw [ByteArray.toList_eq]; rfl
theorem qld (s:ByteArray) (w:World) (hs:s.size≤4000000000) :
  Calls Tryz.prog 68 #[.string s] w fun e w'=>e = .returned (reqV (qbb (jj 32 s)))∧Below w.heap.size w w':=by
 have HB:=Box.mk (qd w (.cells #[.string ⟨#[]⟩,.string ⟨#[]⟩,.int .i64 0,.slice none 0 0,.bool false,.slice none 0 0] 29));have HR:=Box.mk (show RVar (w.alloc (.cells #[.string ⟨#[]⟩,.string ⟨#[]⟩,.int .i64 0,.slice none 0 0,.bool false,.slice none 0 0] 29)) w.heap.size ⟨#[]⟩ ⟨#[]⟩ 0 from heap_alloc_new _ _);have HSM:=Box.mk (fun x h=>qd2 32 s x h);go_enter Tryz.func68,Tryz.ntmps68
 go_wp2_with fail;refine (qg3 s 32 _ hs).mono ?_;rintro e w1 ⟨g1,cap,rfl,hge,hlt,hcell,hb1⟩;have HB1:=Box.mk (qe HB.out hb1);have HR1:=Box.mk (HR.out.keep hb1);have HC:=Box.mk hcell;have HG1:=Box.mk (And.intro hge hlt);clear hb1 hcell hge hlt HB HR;generalize hws:jj 32 s=ws at *;have HW:=Box.mk hws;clear hws;by_cases h3:ws.length=3
 · obtain ⟨m,t,v,rfl⟩:=jfz h3
   have hc0:=HC.out 0 (by simp);have hc1:=HC.out 1 (by simp);have hc2:=HC.out 2 (by simp);simp only [List.getElem_cons_zero,List.getElem_cons_succ] at hc0 hc1 hc2;obtain ⟨b0,o0,e0,hc0⟩:=hc0;obtain ⟨b1,o1,e1,hc1⟩:=hc1;obtain ⟨b2,o2,e2,hc2⟩:=hc2;obtain ⟨rfl,rfl⟩ : g1=b0∧0=o0:=by injection e0 with e0; injection e0 with e0 e3; exact ⟨e0,e3⟩
   obtain ⟨rfl,rfl⟩ : g1=b1∧0=o1:=by injection e1 with e1; injection e1 with e1 e3; exact ⟨e1,e3⟩
   obtain ⟨rfl,rfl⟩ : g1=b2∧0=o2:=by injection e2 with e2; injection e2 with e2 e3; exact ⟨e2,e3⟩
   simp only [Nat.zero_add,Nat.add_zero] at hc0 hc1 hc2;have HZ:=Box.mk (show m.size≤maxLen∧t.size≤maxLen by have:=HSM.out m (by simp); have:=HSM.out t (by simp); unfold maxLen; omega);clear h3 HC HSM e0 e1 e2;rw [show ([m,t,v]:List ByteArray).length=3 from rfl];by_cases h1:tokS m=true
   · have H1:=Box.mk h1
     clear h1;by_cases h2:jx t=true
     · have H2:=Box.mk h2
       clear h2;go_wp2_with fail;refine (qai m _ HZ.out.1).mono ?_;rintro e w2 ⟨he,rfl⟩;rw [H1.out] at he;subst he;go_wp2_with fail;refine (qca t _ HZ.out.2).mono ?_;rintro e w3 ⟨he,rfl⟩;rw [H2.out] at he;subst he;by_cases h4:0≤jb v
       · have HV:=Box.mk (qpv h4)
         have HP:=Box.mk (show qbb [m,t,v]=(some (m,t,jb v),0) by rw [qpn H1.out H2.out (by rw [HV.out]),HV.out]);go_wp2_with fail;refine (j7 v _).mono ?_;rintro e w4 ⟨he,rfl⟩;generalize hz:jb v=z at *;have HZZ:=Box.mk hz;clear hz;subst he;go_wp2_with fail;generalize hg:w.heap.size=g at *;have HG:=Box.mk hg;clear hg;rename_i K hK;refine qfu (S:=[some (.val (.slice (some ⟨g1,0,none⟩) 3 cap)),some (.val (.pointer (some ⟨g1,0,none⟩))),some (.val (.string m)),some (.val (.slice (some ⟨g1,0,none⟩) 3 cap)),some (.val (.pointer (some ⟨g1,1,none⟩))),some (.val (.string t)),some (.val (.string v)),some (.val (.int .i64 z)),
          some (.val (.agg #[.string m,.string t,.int .i64 z,.slice none 0 0,.bool false,.slice none 0 0])),none,some (.val (.int .i64 0))]) 9 [10]
          (fun w'=>Below g w w'∧RVar w' g m t z) (by kernel_rfl) (by kernel_rfl) (by kernel_rfl) (by kernel_rfl) rfl rfl rfl ?_ ?_ ?_ ?_
         · refine ⟨?_,?_,?_,?_,?_,?_,?_,?_,?_,?_,trivial⟩ <;> intro a w5 hb hf hd
           · exact ⟨qb rfl,qi rfl (hf.base 4 rfl)⟩
           · exact ⟨qb rfl,qf1 (k:=0) rfl (hd 0 rfl) rfl (by decide) rfl⟩
           · exact ⟨qb rfl,jg rfl (hd 1 rfl) (qp hb hc0) (qbx _) rfl⟩
           · exact ⟨qb rfl,qi rfl (hf.base 4 rfl)⟩
           · exact ⟨qb rfl,qf1 (k:=1) rfl (hd 3 rfl) rfl (by decide) rfl⟩
           · exact ⟨qb rfl,jg rfl (hd 4 rfl) (qp hb hc1) (qbx _) rfl⟩
           · exact ⟨qb rfl,qi rfl (hf.base 5 rfl)⟩
           · refine ⟨qb rfl,jz rfl (by kernel_rfl) ?_⟩
             show Calls _ _ #[a.eval (.tmp 38)] w5 _
             rw [show a.eval (.tmp 38) = .string v from hd 6 rfl];refine (j7 v w5).mono ?_;rintro e w' ⟨rfl,rfl⟩;exact ⟨_,rfl,Below.refl _ _,by show Value.int .i64 (jb v)=_; rw [HZZ.out]⟩
           · exact ⟨qb rfl,qou rfl (hd 2 rfl) (hd 5 rfl) (hd 7 rfl) rfl⟩
           · exact ⟨qb rfl,qr rfl rfl⟩
         · exact ⟨fun a w5 hf hd=>⟨qb rfl,qml rfl rfl⟩,trivial⟩
         · refine ⟨rfl,fun a w5 hb hf hd=>⟨qb rfl,?_⟩⟩
           refine wp_store_row 29 _ _ rfl g #[.string m,.string t,.int .i64 z,.slice none 0 0,.bool false,.slice none 0 0] (hf.base 2 rfl) (hd 8 rfl) 29 _ (HR1.out.keep hb) jo rfl (oneR _ _ _) ⟨rfl,?_,?_⟩
           · have h8:=HG.out
             exact below_setRow (HB1.out.trans (hb.mono (by have:=HB1.out.size; omega))) (Nat.le_refl _) _
           · exact setRow_heap _ _ _ _ _ _ (HR1.out.keep hb)
         · intro a w5 hp hf hh
           refine hK a w5 ?_;go_wp2_with fail;refine bodyPost_ret (qf rfl _ w5 g _ _ _ _ (hf.base 2 rfl) hp.2 Tryz.underlying29 rfl jo) hf.defers ?_;rw [show a.tmps.getD 3 undef = .int .i64 0 from hh 10 (by decide)];exact ⟨by rw [HW.out,HP.out]; rfl,by rw [HG.out]; exact hp.1⟩
       · have h4':jb v<0:=by omega
         have HM:=Box.mk h4';clear h4 h4';by_cases h8:v.size=8
         · by_cases hp:pfxB qg4 v=true
           · have hb5:((v.extract 0 5).toList == [72,84,84,80,47])=true:=by
              rw [litH,toList_eq];unfold pfxB at hp;simp at hp ⊢;exact hp.2
             have hg5:=qr0 v 5;have hg6:=qr0 v 6;have hg7:=qr0 v 7;have HD:=Box.mk (show verB v=(digB (bAt v 5).toNat && decide (bAt v 6=46) && digB (bAt v 7).toNat) by unfold verB; rw [hp]; simp [h8]);generalize bAt v 5=c5 at *;generalize bAt v 6=c6 at *;generalize bAt v 7=c7 at *;have u5:=qzp c5;have u6:=qzp c6;have u7:=qzp c7;clear hp;by_cases q0:digB c5.toNat=true
             · have Q0:=Box.mk q0
               clear q0;by_cases q1:c6=46
               · have e1:=eq46 q1
                 have Q1:=Box.mk q1;clear q1;by_cases q2:digB c7.toNat=true
                 · have Q2:=Box.mk q2
                   have HV:=Box.mk (qwy HM.out (by rw [HD.out,Q0.out,Q1.out,Q2.out]; rfl));have HP:=Box.mk (show qbb [m,t,v]=(none,6) by rw [qds H1.out H2.out (by rw [HV.out]; decide),HV.out]);clear q2 HV HD;go_wp2_with fail;refine (j7 v _).mono ?_;rintro e w4 ⟨he,rfl⟩;have hz0:jb v<0:=HM.out;generalize jb v=z at *;subst he;go_wp2_with fail;refine (qdq _ _ (by omega) u5).mono ?_;rintro e w4 ⟨he,rfl⟩;rw [Q0.out] at he;subst he;go_wp2_with fail;refine (qdq _ _ (by omega) u7).mono ?_;rintro e w4 ⟨he,rfl⟩;rw [Q2.out] at he;subst he;go_wp2_with (refine wpList_store_row rfl 29 _ _ rfl w.heap.size #[.string ⟨#[]⟩,.string ⟨#[]⟩,.int .i64 0,.slice none 0 0,.bool false,.slice none 0 0] rfl rfl 29 _ HR1.out jo rfl (oneR _ _ _) ?_)
                   (try simp only [Exit.inBlock,Exit.then])
                   refine bodyPost_ret (qf rfl _ _ w.heap.size _ _ _ _ rfl (setRow_heap _ _ _ _ _ _ HR1.out) Tryz.underlying29 rfl jo) rfl ?_;exact ⟨by rw [HW.out,HP.out]; rfl,below_setRow HB1.out (Nat.le_refl _) _⟩
                 · have Q2:=Box.mk (show digB c7.toNat=false by simpa using q2)
                   have HV:=Box.mk (qjc HM.out (by rw [HD.out,Q2.out]; simp));have HP:=Box.mk (show qbb [m,t,v]=(none,2) by rw [qds H1.out H2.out (by rw [HV.out]; decide),HV.out]);clear q2 HV HD;go_wp2_with fail;refine (j7 v _).mono ?_;rintro e w4 ⟨he,rfl⟩;have hz0:jb v<0:=HM.out;generalize jb v=z at *;subst he;go_wp2_with fail;refine (qdq _ _ (by omega) u5).mono ?_;rintro e w4 ⟨he,rfl⟩;rw [Q0.out] at he;subst he;go_wp2_with fail;refine (qdq _ _ (by omega) u7).mono ?_;rintro e w4 ⟨he,rfl⟩;rw [Q2.out] at he;subst he;go_wp2_with (refine wpList_store_row rfl 29 _ _ rfl w.heap.size #[.string ⟨#[]⟩,.string ⟨#[]⟩,.int .i64 0,.slice none 0 0,.bool false,.slice none 0 0] rfl rfl 29 _ HR1.out jo rfl (oneR _ _ _) ?_)
                   (try simp only [Exit.inBlock,Exit.then])
                   refine bodyPost_ret (qf rfl _ _ w.heap.size _ _ _ _ rfl (setRow_heap _ _ _ _ _ _ HR1.out) Tryz.underlying29 rfl jo) rfl ?_;exact ⟨by rw [HW.out,HP.out]; rfl,below_setRow HB1.out (Nat.le_refl _) _⟩
               · have e1:=ne46 q1
                 have HV:=Box.mk (qjc HM.out (by rw [HD.out,decide_eq_false q1]; simp));have HP:=Box.mk (show qbb [m,t,v]=(none,2) by rw [qds H1.out H2.out (by rw [HV.out]; decide),HV.out]);clear q1 HV HD;go_wp2_with fail;refine (j7 v _).mono ?_;rintro e w4 ⟨he,rfl⟩;have hz0:jb v<0:=HM.out;generalize jb v=z at *;subst he;go_wp2_with fail;refine (qdq _ _ (by omega) u5).mono ?_;rintro e w4 ⟨he,rfl⟩;rw [Q0.out] at he;subst he;go_wp2_with (refine wpList_store_row rfl 29 _ _ rfl w.heap.size #[.string ⟨#[]⟩,.string ⟨#[]⟩,.int .i64 0,.slice none 0 0,.bool false,.slice none 0 0] rfl rfl 29 _ HR1.out jo rfl (oneR _ _ _) ?_)
                 (try simp only [Exit.inBlock,Exit.then])
                 refine bodyPost_ret (qf rfl _ _ w.heap.size _ _ _ _ rfl (setRow_heap _ _ _ _ _ _ HR1.out) Tryz.underlying29 rfl jo) rfl ?_;exact ⟨by rw [HW.out,HP.out]; rfl,below_setRow HB1.out (Nat.le_refl _) _⟩
             · have Q0:=Box.mk (show digB c5.toNat=false by simpa using q0)
               have HV:=Box.mk (qjc HM.out (by rw [HD.out,Q0.out]; rfl));have HP:=Box.mk (show qbb [m,t,v]=(none,2) by rw [qds H1.out H2.out (by rw [HV.out]; decide),HV.out]);clear q0 HV HD;go_wp2_with fail;refine (j7 v _).mono ?_;rintro e w4 ⟨he,rfl⟩;have hz0:jb v<0:=HM.out;generalize jb v=z at *;subst he;go_wp2_with fail;refine (qdq _ _ (by omega) u5).mono ?_;rintro e w4 ⟨he,rfl⟩;rw [Q0.out] at he;subst he;go_wp2_with (refine wpList_store_row rfl 29 _ _ rfl w.heap.size #[.string ⟨#[]⟩,.string ⟨#[]⟩,.int .i64 0,.slice none 0 0,.bool false,.slice none 0 0] rfl rfl 29 _ HR1.out jo rfl (oneR _ _ _) ?_)
               (try simp only [Exit.inBlock,Exit.then])
               refine bodyPost_ret (qf rfl _ _ w.heap.size _ _ _ _ rfl (setRow_heap _ _ _ _ _ _ HR1.out) Tryz.underlying29 rfl jo) rfl ?_;exact ⟨by rw [HW.out,HP.out]; rfl,below_setRow HB1.out (Nat.le_refl _) _⟩
           · have hb5:((v.extract 0 5).toList == [72,84,84,80,47])=false:=by
              rw [litH,toList_eq];unfold pfxB at hp;simp at hp ⊢;exact hp (by show 5≤_; omega)
             have HV:=Box.mk (qjc HM.out (by unfold verB; rw [show pfxB qg4 v=false by simpa using hp]; rfl));have HP:=Box.mk (show qbb [m,t,v]=(none,2) by rw [qds H1.out H2.out (by rw [HV.out]; decide),HV.out]);clear hp HV;go_wp2_with fail;refine (j7 v _).mono ?_;rintro e w4 ⟨he,rfl⟩;have hz0:jb v<0:=HM.out;generalize jb v=z at *;subst he;go_wp2_with (refine wpList_store_row rfl 29 _ _ rfl w.heap.size #[.string ⟨#[]⟩,.string ⟨#[]⟩,.int .i64 0,.slice none 0 0,.bool false,.slice none 0 0] rfl rfl 29 _ HR1.out jo rfl (oneR _ _ _) ?_)
             (try simp only [Exit.inBlock,Exit.then])
             refine bodyPost_ret (qf rfl _ _ w.heap.size _ _ _ _ rfl (setRow_heap _ _ _ _ _ _ HR1.out) Tryz.underlying29 rfl jo) rfl ?_;exact ⟨by rw [HW.out,HP.out]; rfl,below_setRow HB1.out (Nat.le_refl _) _⟩
         · have hb8:(((v.size:Nat):Int) == 8)=false:=by rw [beq_eq_false_iff_ne]; omega
           have HV:=Box.mk (qjc HM.out (by unfold verB; rw [decide_eq_false h8]; simp));have HP:=Box.mk (show qbb [m,t,v]=(none,2) by rw [qds H1.out H2.out (by rw [HV.out]; decide),HV.out]);clear h8 HV;go_wp2_with fail;refine (j7 v _).mono ?_;rintro e w4 ⟨he,rfl⟩;have hz0:jb v<0:=HM.out;generalize jb v=z at *;subst he;go_wp2_with (refine wpList_store_row rfl 29 _ _ rfl w.heap.size #[.string ⟨#[]⟩,.string ⟨#[]⟩,.int .i64 0,.slice none 0 0,.bool false,.slice none 0 0] rfl rfl 29 _ HR1.out jo rfl (oneR _ _ _) ?_)
           (try simp only [Exit.inBlock,Exit.then])
           refine bodyPost_ret (qf rfl _ _ w.heap.size _ _ _ _ rfl (setRow_heap _ _ _ _ _ _ HR1.out) Tryz.underlying29 rfl jo) rfl ?_;exact ⟨by rw [HW.out,HP.out]; rfl,below_setRow HB1.out (Nat.le_refl _) _⟩
     · have H2:=Box.mk (show jx t=false by simpa using h2)
       have HP:=Box.mk (show qbb [m,t,v]=(none,2) from qif (fun h=>h2 h.2));clear h2;go_wp2_with fail;refine (qai m _ HZ.out.1).mono ?_;rintro e w2 ⟨he,rfl⟩;rw [H1.out] at he;subst he;go_wp2_with fail;refine (qca t _ HZ.out.2).mono ?_;rintro e w3 ⟨he,rfl⟩;rw [H2.out] at he;subst he;go_wp2_with (refine wpList_store_row rfl 29 _ _ rfl w.heap.size #[.string ⟨#[]⟩,.string ⟨#[]⟩,.int .i64 0,.slice none 0 0,.bool false,.slice none 0 0] rfl rfl 29 _ HR1.out jo rfl (oneR _ _ _) ?_)
       (try simp only [Exit.inBlock,Exit.then])
       refine bodyPost_ret (qf rfl _ _ w.heap.size _ _ _ _ rfl (setRow_heap _ _ _ _ _ _ HR1.out) Tryz.underlying29 rfl jo) rfl ?_;exact ⟨by rw [HW.out,HP.out]; rfl,below_setRow HB1.out (Nat.le_refl _) _⟩
   · have H1:=Box.mk (show tokS m=false by simpa using h1)
     have HP:=Box.mk (show qbb [m,t,v]=(none,2) from qif (fun h=>h1 h.1));clear h1;go_wp2_with fail;refine (qai m _ HZ.out.1).mono ?_;rintro e w2 ⟨he,rfl⟩;rw [H1.out] at he;subst he;go_wp2_with (refine wpList_store_row rfl 29 _ _ rfl w.heap.size #[.string ⟨#[]⟩,.string ⟨#[]⟩,.int .i64 0,.slice none 0 0,.bool false,.slice none 0 0] rfl rfl 29 _ HR1.out jo rfl (oneR _ _ _) ?_)
     (try simp only [Exit.inBlock,Exit.then])
     refine bodyPost_ret (qf rfl _ _ w.heap.size _ _ _ _ rfl (setRow_heap _ _ _ _ _ _ HR1.out) Tryz.underlying29 rfl jo) rfl ?_;exact ⟨by rw [HW.out,HP.out]; rfl,below_setRow HB1.out (Nat.le_refl _) _⟩
 · have HP:=Box.mk (show qbb ws=(none,2) from ql5 h3)
   have hb3:(((ws.length:Nat):Int) != 3)=true:=by rw [bne_iff_ne]; omega
   clear h3 HC HSM;go_wp2_with (refine wpList_store_row rfl 29 _ _ rfl w.heap.size #[.string ⟨#[]⟩,.string ⟨#[]⟩,.int .i64 0,.slice none 0 0,.bool false,.slice none 0 0] rfl rfl 29 _ HR1.out jo rfl (oneR _ _ _) ?_)
   (try simp only [Exit.inBlock,Exit.then])
   refine bodyPost_ret (qf rfl _ _ w.heap.size _ _ _ _ rfl (setRow_heap _ _ _ _ _ _ HR1.out) Tryz.underlying29 rfl jo) rfl ?_;exact ⟨by rw [HW.out,HP.out]; rfl,below_setRow HB1.out (Nat.le_refl _) _⟩
end Go.Proofs.YtflhjpokjdjbpaaGreatDoor

/-
  Steps of the proof.
-/
import Derived.Test.YtfkhljmiehdgmaaGreatDoorCmAP
set_option maxRecDepth 100000
set_option maxHeartbeats 40000000
namespace Go.Proofs.YtfkhljmiehdgmaaGreatDoor
open Go.RowKit
theorem qre.kept{v:Value}{w w':World}{l:List (List UInt8×Int)}(h:qre v w l)(hb:Below w.heap.size w w'):qre v w' l:=by
 rcases h with h | ⟨g,hv,hc⟩
 ·exact .inl h
 ·refine .inr ⟨g,hv,fun k r hk=>?_⟩
  obtain⟨a,b⟩:=hc k r hk;have hg:g<w.heap.size:=by
   rcases Nat.lt_or_ge g w.heap.size with h' | h'
   ·exact h'
   ·simp[World.cell?,Array.getElem?_eq_none h']at a
  exact⟨(hb.cell (p:=⟨g,k*2,none⟩) hg).trans a,(hb.cell (p:=⟨g,k*2+1,none⟩) hg).trans b⟩
theorem qyg{m k:Nat}{b:UInt8}{r:List UInt8×Int}(hr:(Pl.qe1 m)[k]?=some r)(hn:((Pl.qe1 m).take k).find? (Pl.qgx b)=none)(h:Pl.qgx b r=true):Pl.tgt m b=r.2:=by
 unfold Pl.tgt;rw[Pl.qni _ k r hr hn h]
theorem qyf{m k:Nat}{b:UInt8}(hk:(Pl.qe1 m).length≤k)(hn:((Pl.qe1 m).take k).find? (Pl.qgx b)=none):Pl.tgt m b=m:=by
 rw[List.take_of_length_le hk]at hn;unfold Pl.tgt;rw[hn]
theorem qqe:∀m,m≤33→(Pl.qe1 m).length≤5∧∀r∈Pl.qe1 m,r.1.length≤60:=by decide +kernel
theorem qv7(m:Nat)(b:UInt8)(w:World)(hm:m≤33)(Hc:20≤m) :
  Calls Tryz.prog 170 #[.int .i64 m,.int .u8 b.toNat] w fun e w'=>e=.returned (.int .i64 (Pl.tgt m b))∧Below w.heap.size w w':=by
 have Ha:=qqe m hm;have HT:=hd (fun(k:Nat) (r:List UInt8×Int)=>@qyg m k b r);have hb:=hd (fun(k:Nat)=>@qyf m k b);generalize Pl.tgt m b=T at HT hb ⊢;have hi:(20:Int)≤(m:Int):=by omega
 have Hf:Pl.qe1 m=Pl.qlg m:=by unfold Pl.qe1;rw[if_pos Hc]
 go_enter Tryz.func170,Tryz.ntmps170
 go_wp2_with fail
 refine(qmy m hm _).mono ?_;rintro e w1 ⟨v0,rfl,_,He⟩;go_wp2_with fail
 refine(qsl m Hc hm _).mono ?_;rintro e w2 ⟨v,rfl,hv,hg⟩;have hw:=He.trans (hg.mono He.size);rw[←Hf]at hv;clear He hg Hf hi Hc;generalize Pl.qe1 m=L at hv Ha HT hb;have hL:=Ha.1;have HL:=hd Ha.2;clear Ha;rcases hv with ⟨rfl,rfl⟩ | ⟨g,rfl,hc⟩
 ·have HF:Hid (T=m):=hb.out 0 (Nat.le_refl _) rfl
  go_wp2_with fail
  go_loop [6] (fun i=>i=.int .i64 0) (fun _=>0)
  case atStart=>rfl
  case round=>
   subst hrel;go_wp2
   go_ret
   exact⟨qan (by rw[HF.out]),hw⟩
 ·have HC:=hd hc
  clear hc;go_wp2_with fail
  go_loop [6] (fun i=>∃k:Nat,k≤L.length∧i=.int .i64 k∧(L.take k).find? (Pl.qgx b)=none) (fun i=>L.length - (intOf i).toNat)
  case atStart=>exact⟨0,Nat.zero_le _,rfl,rfl⟩
  case round=>
   obtain⟨k,hk,rfl,hn⟩:=hrel;have HN:=hd hn;clear hn;by_cases Hg:k<L.length
   ·have hf:(k:Int)<(L.length:Int):=by omega
    obtain⟨r,hr⟩:∃r,L[k]?=some r:=⟨_,List.getElem?_eq_getElem Hg⟩;obtain⟨q0,q1⟩:=HC.out k r hr;have Hi:=HL.out r (List.mem_of_getElem? hr);have HR:=hd hr;clear hr;by_cases he:r.1=[]
    ·have Hb:(r.1==[])=true:=by rw[he];rfl
     have HV:Hid (T=r.2):=HT.out k r HR.out HN.out (by unfold Pl.qgx;rw[Hb];rfl);clear Hb;rw[he]at q0;go_wp2_with fail
     go_ret
     exact⟨qan (by rw[HV.out]),hw⟩
    ·have Hb:(r.1==[])=false:=beq_eq_false_iff_ne.2 he
     by_cases ha:Pl.among b r.1=true
     ·have HV:Hid (T=r.2):=HT.out k r HR.out HN.out (by unfold Pl.qgx;rw[ha,Bool.or_true])
      clear he;go_wp2_with (go_at_call 80;refine(qdu b _ r.1 _ rfl (by omega)).mono ?_;rintro e w' ⟨rfl,rfl⟩)
      go_ret
      exact⟨qan (by rw[HV.out]),hw⟩
     ·have ha:=Bool.eq_false_iff.2 ha
      have HX:Hid (Pl.qgx b r=false):=by show _=_;unfold Pl.qgx;rw[Hb,ha];rfl
      clear he;go_wp2_with (go_at_call 80;refine(qdu b _ r.1 _ rfl (by omega)).mono ?_;rintro e w' ⟨rfl,rfl⟩)
      go_round
      case rel=>exact⟨k+1,by omega,by go_num,Pl.qcz _ k r HR.out HN.out HX.out⟩
      case measure=>simp[intOf];omega
   ·have HF:Hid (T=m):=hb.out k (by omega) HN.out
    have hf:decide ((k:Int)<(L.length:Int))=false:=by rw[decide_eq_false_iff_not];omega
    go_wp2
    go_ret
    exact⟨qan (by rw[HF.out]),hw⟩
theorem qzx(m:Nat)(b:UInt8)(w:World)(hm:m≤33)(He:¬ 20≤m) :
  Calls Tryz.prog 170 #[.int .i64 m,.int .u8 b.toNat] w fun e w'=>e=.returned (.int .i64 (Pl.tgt m b))∧Below w.heap.size w w':=by
 have Ha:=qqe m hm;have HT:=hd (fun(k:Nat) (r:List UInt8×Int)=>@qyg m k b r);have hb:=hd (fun(k:Nat)=>@qyf m k b);generalize Pl.tgt m b=T at HT hb ⊢;have hi:decide ((20:Int)≤(m:Int))=false:=by rw[decide_eq_false_iff_not];omega
 have hf:Pl.qe1 m=Pl.qjr m:=by unfold Pl.qe1;rw[if_neg He]
 go_enter Tryz.func170,Tryz.ntmps170
 go_wp2_with fail
 refine(qmy m hm _).mono ?_;rintro e w1 ⟨v,rfl,hv,hw⟩;rw[←hf]at hv;clear hf He;generalize Pl.qe1 m=L at hv Ha HT hb;have hL:=Ha.1;have HL:=hd Ha.2;clear Ha;rcases hv with ⟨rfl,rfl⟩ | ⟨g,rfl,hc⟩
 ·have HF:Hid (T=m):=hb.out 0 (Nat.le_refl _) rfl
  go_wp2_with fail
  go_loop [6] (fun i=>i=.int .i64 0) (fun _=>0)
  case atStart=>rfl
  case round=>
   subst hrel;go_wp2
   go_ret
   exact⟨qan (by rw[HF.out]),hw⟩
 ·have HC:=hd hc
  clear hc;go_wp2_with fail
  go_loop [6] (fun i=>∃k:Nat,k≤L.length∧i=.int .i64 k∧(L.take k).find? (Pl.qgx b)=none) (fun i=>L.length - (intOf i).toNat)
  case atStart=>exact⟨0,Nat.zero_le _,rfl,rfl⟩
  case round=>
   obtain⟨k,hk,rfl,hn⟩:=hrel;have HN:=hd hn;clear hn;by_cases Hf:k<L.length
   ·have Hc:(k:Int)<(L.length:Int):=by omega
    obtain⟨r,hr⟩:∃r,L[k]?=some r:=⟨_,List.getElem?_eq_getElem Hf⟩;obtain⟨q0,q1⟩:=HC.out k r hr;have hg:=HL.out r (List.mem_of_getElem? hr);have HR:=hd hr;clear hr;by_cases he:r.1=[]
    ·have Hb:(r.1==[])=true:=by rw[he];rfl
     have HV:Hid (T=r.2):=HT.out k r HR.out HN.out (by unfold Pl.qgx;rw[Hb];rfl);clear Hb;rw[he]at q0;go_wp2_with fail
     go_ret
     exact⟨qan (by rw[HV.out]),hw⟩
    ·have Hb:(r.1==[])=false:=beq_eq_false_iff_ne.2 he
     by_cases ha:Pl.among b r.1=true
     ·have HV:Hid (T=r.2):=HT.out k r HR.out HN.out (by unfold Pl.qgx;rw[ha,Bool.or_true])
      clear he;go_wp2_with (go_at_call 80;refine(qdu b _ r.1 _ rfl (by omega)).mono ?_;rintro e w' ⟨rfl,rfl⟩)
      go_ret
      exact⟨qan (by rw[HV.out]),hw⟩
     ·have ha:=Bool.eq_false_iff.2 ha
      have HX:Hid (Pl.qgx b r=false):=by show _=_;unfold Pl.qgx;rw[Hb,ha];rfl
      clear he;go_wp2_with (go_at_call 80;refine(qdu b _ r.1 _ rfl (by omega)).mono ?_;rintro e w' ⟨rfl,rfl⟩)
      go_round
      case rel=>exact⟨k+1,by omega,by go_num,Pl.qcz _ k r HR.out HN.out HX.out⟩
      case measure=>simp[intOf];omega
   ·have HF:Hid (T=m):=hb.out k (by omega) HN.out
    have Hc:decide ((k:Int)<(L.length:Int))=false:=by rw[decide_eq_false_iff_not];omega
    go_wp2
    go_ret
    exact⟨qan (by rw[HF.out]),hw⟩
theorem qzy(m:Nat)(b:UInt8)(w:World)(hm:m≤33) :
  Calls Tryz.prog 170 #[.int .i64 m,.int .u8 b.toNat] w fun e w'=>e=.returned (.int .i64 (Pl.tgt m b))∧Below w.heap.size w w':=by
 by_cases h:20≤m
 ·exact qv7 m b w hm h
 ·exact qzx m b w hm h
end Go.Proofs.YtfkhljmiehdgmaaGreatDoor
namespace Go.Proofs.YtfkhljmiehdgmaaGreatDoor.Pl
def Mv(B:Nat→List It)(N:List (List UInt8))(P:List Pt)(i:Nat)(x:Sx)(j:Nat)(y:Sx):Prop:=∃p,P[i]?=some p ∧
 ((p.kind=1∧j=i+1∧y=qaw x p.text)∨(p.kind=2∧j=i+1∧y=x.behindHole)∨((p.kind=3∨p.kind=4)∧(j=i+1∨j=p.mate+1)∧y=x)∨(p.kind=6∧j=i+1∧((qca N p.text=none∧y=x)∨∃m,qca N p.text=some m∧Done B m x y)))
def Way(B:Nat→List It)(N:List (List UInt8))(P:List Pt):Nat→Nat→Sx→Nat→Sx→Prop
 | 0,i,x,j,z=>i=j∧x=z
 | n+1,i,x,j,z=>∃k y,Mv B N P i x k y∧Way B N P n k y j z
def At(N:List (List UInt8))(P:List Pt)(j m:Nat):Prop:=∃p,P[j]?=some p∧p.kind=6∧qca N p.text=some m
def Cl(B:Nat→List It)(N:List (List UInt8))(P:List Pt)(R:List Vt)(i:Nat)(x:Sx):Prop:=∀n j z m,Way B N P n i x j z→At N P j m→(m,z)∈R
section
variable {B:Nat→List It}{N:List (List UInt8)}{P:List Pt}{R R':List Vt}{i:Nat}{x:Sx}{p:Pt}
theorem Cl.mono(h:Cl B N P R i x)(hR:∀u∈R,u∈R'):Cl B N P R' i x:=fun n j z m hw ha=>hR _ (h n j z m hw ha)
theorem q4o(h0:∀m,At N P i m→(m,x)∈R)(h1:∀j y,Mv B N P i x j y→Cl B N P R j y):Cl B N P R i x:=by
 intro n j z m hw ha;cases n with
 | zero=>obtain⟨rfl,rfl⟩:=hw;exact h0 m ha
 | succ n=>obtain⟨k,y,hm,hw⟩:=hw;exact h1 k y hm n j z m hw ha
theorem q9k(h:P.length≤i):Cl B N P R i x:=by
 have hn:=List.getElem?_eq_none h;refine q4o (fun m hq=>?_) fun j y hq=>?_
 ·obtain⟨q,hq,_⟩:=hq;rw[hn]at hq;cases hq
 ·obtain⟨q,hq,_⟩:=hq;rw[hn]at hq;cases hq
theorem qmg(hp:P[i]?=some p)(h1:p.kind=1→Cl B N P R (i+1) (qaw x p.text))(h2:p.kind=2→Cl B N P R (i+1) x.behindHole)
  (h3:p.kind=3∨p.kind=4→Cl B N P R (i+1) x∧Cl B N P R (p.mate+1) x) (h6:p.kind=6→(qca N p.text=none→Cl B N P R (i+1) x)∧∀m,qca N p.text=some m→(m,x)∈R∧∀y,Done B m x y→Cl B N P R (i+1) y):Cl B N P R i x:=by
 refine q4o (fun m hq=>?_) fun j y hq=>?_
 ·obtain⟨q,hq,k,hi⟩:=hq
  rw[hp]at hq;obtain rfl:=Option.some.inj hq;exact((h6 k).2 m hi).1
 ·obtain⟨q,hq,hc⟩:=hq
  rw[hp]at hq;obtain rfl:=Option.some.inj hq;rcases hc with ⟨k,rfl,rfl⟩ | ⟨k,rfl,rfl⟩ | ⟨k,rfl | rfl,rfl⟩ | ⟨k,rfl,⟨hn,rfl⟩ | ⟨m,hm,hd⟩⟩
  ·exact h1 k
  ·exact h2 k
  ·exact(h3 k).1
  ·exact(h3 k).2
  ·exact(h6 k).1 hn
  ·exact((h6 k).2 m hm).2 y hd
theorem q9j(hp:P[i]?=some p)(hk:p.kind=1)(h:Cl B N P R (i+1) (qaw x p.text)):Cl B N P R i x:=qmg hp (fun _=>h) (fun k=>by omega) (fun k=>by omega) fun k=>by omega
theorem q9m(hp:P[i]?=some p)(hk:p.kind=2)(h:Cl B N P R (i+1) x.behindHole):Cl B N P R i x:=qmg hp (fun k=>by omega) (fun _=>h) (fun k=>by omega) fun k=>by omega
theorem zad(hp:P[i]?=some p)(hk:p.kind=3∨p.kind=4)(h:Cl B N P R (i+1) x)(h':Cl B N P R (p.mate+1) x):Cl B N P R i x:=qmg hp (fun k=>by omega) (fun k=>by omega) (fun _=>⟨h,h'⟩) fun k=>by omega
theorem q7n(hp:P[i]?=some p)(hk:p.kind=5):Cl B N P R i x:=qmg hp (fun k=>by omega) (fun k=>by omega) (fun k=>by omega) fun k=>by omega
theorem q9l(hp:P[i]?=some p)(hk:p.kind=6)(hn:qca N p.text=none)(h:Cl B N P R (i+1) x):Cl B N P R i x:=qmg hp (fun k=>by omega) (fun k=>by omega) (fun k=>by omega) fun _=>⟨fun _=>h,fun m hm=>by rw[hn]at hm;cases hm⟩
theorem q4p{m:Nat}(hp:P[i]?=some p)(hk:p.kind=6)(hm:qca N p.text=some m)(Ha:(m,x)∈R)(h:∀y,Done B m x y→Cl B N P R (i+1) y):Cl B N P R i x:=
 qmg hp (fun k=>by omega) (fun k=>by omega) (fun k=>by omega) fun _=>⟨fun hn=>(by rw[hm]at hn;cases hn),fun m' ha=>(by rw[hm]at ha;obtain rfl:=Option.some.inj ha;exact⟨Ha,h⟩)⟩
end
def nmOf(S:List Src):List (List UInt8):=(S.drop 1).map (·.name)
def bdOf(S:List Src)(n:Nat):List It:=its (nmOf S) (qab S (n+1))
abbrev ClS(S:List Src)(R:List Vt)(j i:Nat)(x:Sx):Prop:=Cl (bdOf S) (nmOf S) (qab S j) R i x
theorem qym(n:List UInt8):∀(l:List Src) (i:Nat),1≤i→(qfs n i l=0∧qca (l.map (·.name)) n=none)∨∃m,qfs n i l=i+m∧qca (l.map (·.name)) n=some m
 | [],i,_=>.inl ⟨rfl,rfl⟩
 | s::l,i,hi=>by
   unfold qfs qca;rw[List.map_cons,List.findIdx?_cons];by_cases h:s.name=n
   ·rw[if_pos h,if_pos (by simp[h])];exact .inr ⟨0,rfl,rfl⟩
   ·rw[if_neg h,if_neg (by simpa using h)]
    rcases qym n l (i+1) (by omega)with ⟨a,b⟩ | ⟨m,a,b⟩
    ·unfold qca at b;rw[b];exact .inl ⟨a,rfl⟩
    ·unfold qca at b;rw[b];exact .inr ⟨m+1,by rw[a];omega,rfl⟩
theorem qhw(S:List Src)(n:List UInt8):(qai S n=0∧qca (nmOf S) n=none)∨∃m,qai S n=m+1∧qca (nmOf S) n=some m:=by
 rcases qym n (S.drop 1) 1 (Nat.le_refl _)with h | ⟨m,a,b⟩
 ·exact .inl h
 ·exact .inr ⟨m,by unfold qai;rw[a];omega,b⟩
section
variable {B:Nat→List It}{N:List (List UInt8)}{P:List Pt}{R:List Vt}{i j m:Nat}{x y:Sx}
theorem Cl.next(h:Cl B N P R i x)(hm:Mv B N P i x j y):Cl B N P R j y:=fun n k z m hw ha=>h (n+1) k z m ⟨j,y,hm,hw⟩ ha
theorem Cl.here(h:Cl B N P R i x)(ha:At N P i m):(m,x)∈R:=h 0 i x m ⟨rfl,rfl⟩ ha
end
structure EndS(S:List Src)(R W:List Vt)(l:List (En×Sx)):Prop where
 in_:∀p∈l,(p.1.1 - 1,p.1.2)∈R
 no:∀p∈l,p.2.isNone=true→(p.1.1 - 1,p.1.2)∈W∨∀y,¬Done (bdOf S) (p.1.1 - 1) p.1.2 y
 yes:∀p∈l,p.2.isNone=false→Done (bdOf S) (p.1.1 - 1) p.1.2 p.2
theorem q6r{S:List Src}{R W:List Vt}{l:List (En×Sx)}(h:EndS S R W l){m:Nat}{x v:Sx}(ha:(m,x)∈R)(hn:v.isNone=true→(m,x)∈W∨∀y,¬Done (bdOf S) m x y)(hy:v.isNone=false→Done (bdOf S) m x v):EndS S R W (qa5 l (m+1,x) v):=
 ⟨fun p hp=>(qhk hp).elim (fun q=>by rw[q];exact ha) (h.in_ p),fun p hp=>(qhk hp).elim (fun q=>by rw[q];exact hn) (h.no p),fun p hp=>(qhk hp).elim (fun q=>by rw[q];exact hy) (h.yes p)⟩
theorem qt6:∀(l:List (En×Sx)),(∀p∈l,1≤p.1.1)→(l.map (·.1)).Nodup→(l.map fun p=>(p.1.1 - 1,p.1.2)).Nodup
 | [],_,_=>List.nodup_nil
 | p::l,hk,h=>by
   rw[List.map_cons,List.nodup_cons]at h ⊢;refine⟨fun q=>h.1 ?_,qt6 l (fun p hp=>hk p (List.mem_cons_of_mem _ hp)) h.2⟩;obtain⟨q,hq,e⟩:=List.mem_map.1 q;injection e with e1 e2;have h1:=hk p List.mem_cons_self;have h2:=hk q (List.mem_cons_of_mem _ hq);exact List.mem_map.2 ⟨q,hq,Prod.ext (by omega) e2⟩
theorem q4d{S:List Src}{R W:List Vt}{l:List (En×Sx)}(h:EndS S R W l)(hk:EndsOk S.length l){m:Nat}{x:Sx}(hg:qa1 l (m+1,x)=none)(ha:(m,x)∈R):l.length+1≤R.length:=by
 have Ha:((m,x)::l.map fun p=>(p.1.1 - 1,p.1.2)).Nodup:=by
  rw[List.nodup_cons];constructor
  ·intro q
   obtain⟨p,hp,e⟩:=List.mem_map.1 q;injection e with e1 e2;have:=(hk.key p hp).2.1;exact qik hg p hp (Prod.ext (by show p.1.1=m+1;omega) e2)
  ·have h1:=qih hk.one
   refine qt6 l (fun p hp=>(hk.key p hp).2.1) h1
 have:=qff _ R Ha (fun u hu=>by
  rcases List.mem_cons.1 hu with rfl | q
  ·exact ha
  ·obtain⟨p,hp,rfl⟩:=List.mem_map.1 q
   exact h.in_ p hp)
 simpa using this
def BehS(S:List Src)(R:List Vt)(beh:Sr→List UInt8→Sx→Sr×Sx)(l:Nat):Prop:=∀(s:Sr) (t:List UInt8) (x:Sx) (m:Nat) (W:List Vt),qca (nmOf S) t=some m→EndsOk S.length s.ends→EndS S R W s.ends→(m,x)∈R→SxFit x→(∀u∈W,Need (bdOf S) u (m,x))→l≤s.ends.length →
 EndS S R W (beh s t x).1.ends∧(beh s t x).1.fault=s.fault∧((beh s t x).2.isNone=true→∀y,¬Done (bdOf S) m x y)∧((beh s t x).2.isNone=false→Done (bdOf S) m x (beh s t x).2)
theorem qyt{α:Type}{l:List (En×α)}(h1:qji l){e:En}{v:α}{p:En×α}(h:p∈qa5 l e v):p=(e,v)∨(p∈l∧p.1≠e):=by
 rcases qhk h with q | q
 ·exact .inl q
 ·by_cases he:p.1=e
  ·have hm:(e,v)∈qa5 l e v:=qe4 (by rw[qeh,if_pos rfl])
   obtain⟨i,hi⟩:=List.getElem?_of_mem h;obtain⟨j,hj⟩:=List.getElem?_of_mem hm;have:=qkn h1 e v i j _ _ hi hj he;subst this;rw[hi]at hj;exact .inl (Option.some.inj hj)
  ·exact .inr ⟨q,he⟩
theorem q1w{o:Nat}{L:List Pt}(h:Wf o L):L=[]∨(∃p l,L=p::l∧(p.kind=1∨p.kind=2∨p.kind=6)∧Wf (o+1) l)∨∃p q b l,L=p::(b++q::l)∧(p.kind=3∨p.kind=4)∧p.mate=o+1+b.length∧Wf (o+b.length+2) l:=by
 cases h with
 | nil=>exact .inl rfl
 | leaf _ p l h1 h2=>exact .inr (.inl ⟨p,l,rfl,h1,h2⟩)
 | sec _ p q b l h1 _ h3 _ _ h6=>exact .inr (.inr ⟨p,q,b,l,by simp,h1,h3,h6⟩)
theorem qnt{B:Nat→List It}{n:Nat}{x y:Sx}(h:Done B n x y):Via B (B n) x y:=by
 obtain⟨h,q⟩:=h;cases h with
 | zero=>cases q
 | succ h=>exact⟨h,q⟩
theorem qyc{B:Nat→List It}{pre suf:List It}{n:Nat}{x z:Sx}(h:Via B pre x z)(hn:∀y,¬Done B n z y)(y:Sx):¬Via B (pre++.ca n::suf) x y:=by
 rintro⟨a,q⟩;rw[qh0]at q;cases hp:go (fin B a) pre x with
 | none=>rw[hp]at q;cases q
 | some z'=>
   rw[hp]at q;have ez:z'=z:=qk3 ⟨a,hp⟩ h;subst ez
   have q:(match fin B a n z' with
    | some y=>go (fin B a) suf y
    | none=>none)=some y:=q
   cases hf:fin B a n z' with
   | none=>rw[hf]at q;cases q
   | some t=>exact hn t ⟨a,hf⟩
theorem q9s{S:List Src}{R:List Vt}{beh:Sr→List UInt8→Sx→Sr×Sx}{l:Nat}(hb:BehS S R beh l)(He:∀s t x,qca (nmOf S) t=none→beh s t x=(s,x))(Hf:q9p S.length beh l)(P:List Pt)(x0:Sx)(W:List Vt)(hW:∀u∈W,∀pre n z suf,its (nmOf S) P=pre++.ca n::suf→Via (bdOf S) pre x0 z→Need (bdOf S) u (n,z)) :
  ∀(k a:Nat) (s:Sr) (x:Sx) (pre:List It),P.length<a+k→Wf a (P.drop a)→EndsOk S.length s.ends→EndS S R W s.ends→l≤s.ends.length→qp0 x→(x.isNone=true→∀y,¬Via (bdOf S) (its (nmOf S) P) x0 y) →
   (x.isNone=false→Via (bdOf S) pre x0 x∧its (nmOf S) P=pre++qdn (nmOf S) P a∧Cl (bdOf S) (nmOf S) P R a x) →
   EndS S R W (qde beh P k a s x).1.ends∧(qde beh P k a s x).1.fault=s.fault∧((qde beh P k a s x).2.isNone=true→∀y,¬Via (bdOf S) (its (nmOf S) P) x0 y)∧((qde beh P k a s x).2.isNone=false→Via (bdOf S) (its (nmOf S) P) x0 (qde beh P k a s x).2):=by
 intro k
 induction k with
 | zero=>
   intro a s x pre hk hw h hs hl hx Hc Hb;refine⟨hs,rfl,Hc,fun hn=>?_⟩;obtain⟨hv,hi,_⟩:=Hb hn;rw[qii (by omega),List.append_nil]at hi;rw[←hi]at hv;exact hv
 | succ k ih=>
   intro a s x pre hk hw h hs hl hx Hc Hb;unfold qde;by_cases hn:x.isNone=true
   ·rw[if_pos hn];exact⟨hs,rfl,Hc,fun q=>by rw[hn]at q;cases q⟩
   rw[if_neg hn];have hf:=qkr hx hn;have hn:=Bool.eq_false_iff.2 hn;obtain⟨hv,hi,hc⟩:=Hb hn;cases hp:P[a]? with
   | none=>
     refine⟨hs,rfl,Hc,fun _=>?_⟩;rw[qii (List.getElem?_eq_none_iff.1 hp),List.append_nil]at hi;rw[←hi]at hv;exact hv
   | some p=>
     simp only;have hg:=(List.getElem?_eq_some_iff.1 hp).1;have hd:P.drop a=p::P.drop (a+1):=by
      rw[List.drop_eq_getElem_cons hg,(List.getElem?_eq_some_iff.1 hp).2]
     have ha:(p.kind=1∨p.kind=2∨p.kind=6)→Wf (a+1) (P.drop (a+1)):=by
      intro hj;rcases q1w hw with q | ⟨p',l',q,_,q2⟩ | ⟨p',q',b,l',q,q1,_⟩
      ·rw[hd]at q;cases q
      ·rw[hd]at q;injection q with e1 e2;rw[e2];exact q2
      ·rw[hd]at q;injection q with e1 e2;rw[←e1]at q1;omega
     by_cases k1:p.kind=1
     ·rw[if_pos k1]
      have Ha:=qhd p.text x hf;refine ih (a+1) s _ (pre++[.tx p.text]) (by omega) (ha (.inl k1)) h hs hl (.inr Ha) (fun q=>by rw[qf6 Ha]at q;cases q) fun _=>⟨qe9 hv (q13 _ _ _),by rw[hi,qi6 hp k1,List.append_assoc];rfl,hc.next ⟨p,hp,.inl ⟨k1,rfl,rfl⟩⟩⟩
     rw[if_neg k1];by_cases k2:p.kind=2
     ·rw[if_pos k2]
      have Ha:=qij hf;refine ih (a+1) s _ (pre++[.ho]) (by omega) (ha (.inr (.inl k2))) h hs hl (.inr Ha) (fun q=>by rw[qf6 Ha]at q;cases q) fun _=>⟨qe9 hv (q15 _ _),by rw[hi,qi7 hp k2,List.append_assoc];rfl,hc.next ⟨p,hp,.inr (.inl ⟨k2,rfl,rfl⟩)⟩⟩
     rw[if_neg k2];by_cases k3:p.kind=3∨p.kind=4
     ·rw[if_pos k3]
      rcases q1w hw with q | ⟨p',l',q,q1,_⟩ | ⟨p',q',b,l',q,_,q2,q3⟩
      ·rw[hd]at q;cases q
      ·rw[hd]at q;injection q with e1 e2;rw[←e1]at q1;omega
      ·rw[hd]at q
       injection q with e1 e2;subst e1;have Hg:=congrArg List.length e2;rw[List.length_drop,List.length_append,List.length_cons]at Hg;refine ih (p.mate+1) s x pre (by omega) ?_ h hs hl hx Hc fun _=>⟨hv,by rw[hi,qko hp k3 (by omega)],hc.next ⟨p,hp,.inr (.inr (.inl ⟨k3,.inr rfl,rfl⟩))⟩⟩;have e3:P.drop (p.mate+1)=l':=by
        rw[show p.mate+1=(a+1)+(b.length+1) by omega,←List.drop_drop,e2,show b++q'::l'=(b++[q'])++l' by simp,List.drop_left' (by simp)]
       rw[e3,show p.mate+1=a+b.length+2 by omega];exact q3
     rw[if_neg k3];by_cases k6:p.kind=6
     ·rw[if_pos k6]
      rcases qhw S p.text with ⟨z0,z1⟩ | ⟨n,z0,z1⟩
      ·rw[He s p.text x z1]
       exact ih (a+1) s x pre (by omega) (ha (.inr (.inr k6))) h hs hl hx Hc fun _=>⟨hv,by rw[hi,qju hp (.inr ⟨k6,z1⟩)],hc.next ⟨p,hp,.inr (.inr (.inr ⟨k6,rfl,.inl ⟨z1,rfl⟩⟩))⟩⟩
      ·have he:=hi.trans (congrArg (pre++·) (qgo hp k6 z1))
       have Hi:(n,x)∈R:=hc.here ⟨p,hp,k6,z1⟩;obtain⟨e1,e2,e3,e4⟩:=hb s p.text x n W z1 h hs Hi hf (fun u hu=>hW u hu _ _ _ _ he hv) hl;obtain⟨g1,g2⟩:=Hf s p.text x h hl hf;have:=ih (a+1) (beh s p.text x).1 (beh s p.text x).2 (pre++[.ca n]) (by omega) (ha (.inr (.inr k6))) g1.ok e1 (Nat.le_trans hl g1.more) g2 (fun q=>by rw[he];exact qyc hv (e3 q)) fun q=>⟨qe9 hv (qte (e4 q)),by rw[hi,qgo hp k6 z1,List.append_assoc];rfl,hc.next ⟨p,hp,.inr (.inr (.inr ⟨k6,rfl,.inr ⟨n,z1,e4 q⟩⟩))⟩⟩;exact⟨this.1,this.2.1.trans e2,this.2.2⟩
     rw[if_neg k6];rcases q1w hw with q | ⟨p',l',q,q1,_⟩ | ⟨p',q',b,l',q,q1,_⟩
     ·rw[hd]at q;cases q
     ·rw[hd]at q;injection q with e1 e2;rw[←e1]at q1;omega
     ·rw[hd]at q;injection q with e1 e2;rw[←e1]at q1;omega
theorem behS{S:List Src}{R:List Vt}(hS:∀i,Wf 0 (qab S i))(hR:R.length≤256)(He:∀v∈R,ClS S R (v.1+1) 0 v.2):∀(k l:Nat),257≤l+k→BehS S R (behV S k) l:=by
 intro k
 induction k with
 | zero=>
   intro l hk s t x m W hi h hs ha hx hW hl;have:=h.few;omega
 | succ k ih=>
   intro l hk s t x m W hi h hs ha hx hW hl;obtain⟨z0,z1⟩ | ⟨n,z0,z1⟩:=qhw S t
   ·rw[z1]at hi;cases hi
   rw[hi]at z1;obtain rfl:=Option.some.inj z1;unfold behV;rw[z0,if_neg (by omega)];cases hg:qa1 s.ends (m+1,x) with
   | some e=>
     have hm:=qe4 hg;refine⟨hs,rfl,fun q=>?_,fun q=>hs.yes _ hm q⟩;rcases hs.no _ hm q with z | z
     ·exact Need.self (hW _ z)
     ·exact z
   | none=>
     simp only;have Hb:=q4d hs h hg ha;rw[if_neg (by omega)];have hf:(qa5 s.ends (m+1,x) Sx.none).length=s.ends.length+1:=by rw[qeg hg];simp
     have hc:=qe2 S t (by omega);rw[z0]at hc;have Ha:EndsOk S.length (qa5 s.ends (m+1,x) Sx.none):=qh1 h ⟨hx,hc⟩ qnn (by omega);have Hf:EndS S R ((m,x)::W) (qa5 s.ends (m+1,x) Sx.none):=q6r ⟨hs.in_,fun p hp q=>(hs.no p hp q).imp (List.mem_cons_of_mem _) id,hs.yes⟩ ha (fun _=>.inl List.mem_cons_self) (fun q=>by cases q);have hw:=q9s (ih (s.ends.length+1) (by omega)) (fun s t x ht=>by
       obtain⟨a,b⟩ | ⟨n,a,b⟩:=qhw S t
       ·cases k with
        | zero=>rfl
        | succ k=>unfold behV;rw[if_pos a]
       ·rw[ht]at b;cases b) (qga S k (s.ends.length+1) (by omega)) (qab S (m+1)) x ((m,x)::W) (fun u hu pre n z suf he hv=>(List.mem_cons.1 hu).elim (fun e=>by rw[e];exact qw0 he hv) fun q=>(hW u q).trans (qw0 he hv)) ((qab S (m+1)).length+1) 0 { s with ends:=qa5 s.ends (m+1,x) Sx.none } x [] (by omega) (hS (m+1)) Ha Hf (by show s.ends.length+1≤(qa5 _ _ _).length;omega) (.inr hx) (fun q=>by rw[qf6 hx]at q;cases q) fun _=>⟨qrn _ _,rfl,He (m,x) ha⟩
     have hb:=qk2 (qga S k (s.ends.length+1) (by omega)) (qab S (m+1)) ((qab S (m+1)).length+1) 0 { s with ends:=qa5 s.ends (m+1,x) Sx.none } x Ha (by show s.ends.length+1≤(qa5 _ _ _).length;omega) (.inr hx);generalize qde (behV S k) (qab S (m+1)) ((qab S (m+1)).length+1) 0 { s with ends:=qa5 s.ends (m+1,x) Sx.none } x=r at hw hb ⊢;refine⟨⟨fun p hp=>(qhk hp).elim (fun q=>by rw[q];exact ha) (hw.1.in_ p),fun p hp q=>?_,fun p hp q=>?_⟩,hw.2.1,fun q y hd=>hw.2.2.1 q y (qnt hd),fun q=>qro (hw.2.2.2 q)⟩
     ·rcases qyt hb.1.ok.one hp with rfl | ⟨hm,Hc⟩
      ·exact .inr fun y hd=>hw.2.2.1 q y (qnt hd)
      ·rcases hw.1.no p hm q with z | z
       ·rcases List.mem_cons.1 z with e | z
        ·injection e with e1 e2
         have:=(hb.1.ok.key p hm).2.1;exact absurd (Prod.ext (by show p.1.1=m+1;omega) e2) Hc
        ·exact .inl z
       ·exact .inr z
     ·rcases qyt hb.1.ok.one hp with rfl | ⟨hm,Hc⟩
      ·exact qro (hw.2.2.2 q)
      ·exact hw.1.yes p hm q
def ThD(S:List Src):Nat→Nat→Nat→Nat→Sx→List Vt→List Vt→Ft→Option Sx→Prop
 | 0,_,_,_,_,_,_,_,_=>False
 | n+1,j,i,stop,x,R,R',f,e=>
   (stop≤i∧R'=R∧f=Ft.none∧e=some x)∨∃p,i<stop∧(qab S j)[i]?=some p∧(
    (p.kind=1∧∃t,qbj x p.text=some t∧R'=R∧f=⟨3,14,qep S j,p.pos+t⟩∧e=Option.none) ∨
    (p.kind=1∧qbj x p.text=Option.none∧ThD S n j (i+1) stop (qaw x p.text) R R' f e) ∨
    (p.kind=2∧x.hole.2≠0∧R'=R∧f=⟨3,x.hole.2,qep S j,p.pos⟩∧e=Option.none) ∨
    (p.kind=2∧x.hole.2=0∧ThD S n j (i+1) stop x.behindHole R R' f e) ∨
    ((p.kind=3∨p.kind=4)∧∃R1 f1 e1,ThD S n j (i+1) p.mate x R R1 f1 e1 ∧
      ((f1.code≠0∧R'=R1∧f=f1∧e=Option.none)∨(f1.code=0∧(∃y,e1=some y∧y≠x)∧R'=R1∧f=⟨3,13,qep S j,p.pos⟩∧e=Option.none) ∨
        (f1.code=0∧(e1=Option.none∨e1=some x)∧p.mate<stop∧ThD S n j (p.mate+1) stop x R1 R' f e))) ∨
    (p.kind=6∧qca (nmOf S) p.text=Option.none∧ThD S n j (i+1) stop x R R' f e) ∨
    (p.kind=6∧∃m,qca (nmOf S) p.text=some m∧∃R1 f1,(((m,x)∈R∧R1=R∧f1=Ft.none)∨((m,x)∉R∧∃e1,ThD S n (m+1) 0 (qab S (m+1)).length x (R++[(m,x)]) R1 f1 e1)) ∧
     ((f1.code≠0∧R'=R1∧f=f1∧e=Option.none)∨(f1.code=0∧∃y,Done (bdOf S) m x y∧ThD S n j (i+1) stop y R1 R' f e)∨(f1.code=0∧(∀y,¬Done (bdOf S) m x y)∧R'=R1∧f=Ft.none∧e=Option.none))))
theorem q5a(S:List Src):∀(n j i stop:Nat) (x:Sx) (R R':List Vt) (f:Ft) (e:Option Sx),ThD S n j i stop x R R' f e→ThD S (n+1) j i stop x R R' f e:=by
 intro n
 induction n with
 | zero=>intro j i stop x R R' f e h;exact h.elim
 | succ n ih=>
   intro j i stop x R R' f e h;rcases h with h | ⟨p,hi,hp,h⟩
   ·exact .inl h
   refine .inr ⟨p,hi,hp,?_⟩;rcases h with h | ⟨a,b,h⟩ | h | ⟨a,b,h⟩ | ⟨a,R1,f1,e1,h1,h⟩ | ⟨a,b,h⟩ | ⟨a,m,b,R1,f1,h1,h⟩
   ·exact .inl h
   ·exact .inr (.inl ⟨a,b,ih _ _ _ _ _ _ _ _ h⟩)
   ·exact .inr (.inr (.inl h))
   ·exact .inr (.inr (.inr (.inl ⟨a,b,ih _ _ _ _ _ _ _ _ h⟩)))
   ·exact .inr (.inr (.inr (.inr (.inl ⟨a,R1,f1,e1,ih _ _ _ _ _ _ _ _ h1,h.imp id (Or.imp id fun q=>⟨q.1,q.2.1,q.2.2.1,ih _ _ _ _ _ _ _ _ q.2.2.2⟩)⟩))))
   ·exact .inr (.inr (.inr (.inr (.inr (.inl ⟨a,b,ih _ _ _ _ _ _ _ _ h⟩)))))
   ·exact .inr (.inr (.inr (.inr (.inr (.inr ⟨a,m,b,R1,f1,h1.imp id fun q=>⟨q.1,q.2.imp fun e1 z=>ih _ _ _ _ _ _ _ _ z⟩,h.imp id (Or.imp (fun q=>⟨q.1,q.2.imp fun y z=>⟨z.1,ih _ _ _ _ _ _ _ _ z.2⟩⟩) id)⟩)))))
theorem qng{S:List Src}{n n' j i stop:Nat}{x:Sx}{R R':List Vt}{f:Ft}{e:Option Sx}(h:ThD S n j i stop x R R' f e)(hn:n≤n'):ThD S n' j i stop x R R' f e:=by
 induction hn with
 | refl=>exact h
 | step _ ih=>exact q5a S _ _ _ _ _ _ _ _ _ ih
theorem qhs(S:List Src):∀(n j i stop:Nat) (x:Sx) (R R':List Vt) (f:Ft) (e:Option Sx),ThD S n j i stop x R R' f e→f=Ft.none∨f.code≠0:=by
 intro n
 induction n with
 | zero=>intro j i stop x R R' f e h;exact h.elim
 | succ n ih=>
   intro j i stop x R R' f e h;rcases h with ⟨_,_,h,_⟩ | ⟨p,hi,hp,h⟩
   ·exact .inl h
   rcases h with ⟨_,t,_,_,h,_⟩ | ⟨a,b,h⟩ | ⟨_,_,_,h,_⟩ | ⟨a,b,h⟩ | ⟨a,R1,f1,e1,h1,h⟩ | ⟨a,b,h⟩ | ⟨a,m,b,R1,f1,h1,h⟩
   ·rw[h];exact .inr (by simp)
   ·exact ih _ _ _ _ _ _ _ _ h
   ·rw[h];exact .inr (by simp)
   ·exact ih _ _ _ _ _ _ _ _ h
   ·rcases h with ⟨q,_,e,_⟩ | ⟨_,_,_,e,_⟩ | ⟨_,_,_,h⟩
    ·rw[e];exact .inr q
    ·rw[e];exact .inr (by simp)
    ·exact ih _ _ _ _ _ _ _ _ h
   ·exact ih _ _ _ _ _ _ _ _ h
   ·rcases h with ⟨q,_,e,_⟩ | ⟨_,y,_,h⟩ | ⟨_,_,_,e,_⟩
    ·rw[e];exact .inr q
    ·exact ih _ _ _ _ _ _ _ _ h
    ·exact .inl e
end Go.Proofs.YtfkhljmiehdgmaaGreatDoor.Pl

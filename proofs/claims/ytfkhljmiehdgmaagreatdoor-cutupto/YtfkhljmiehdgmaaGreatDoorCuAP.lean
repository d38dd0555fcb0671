/-
  Steps of the proof.
-/
import Derived.Test.YtfkhljmiehdgmaaGreatDoorCuAO
set_option maxRecDepth 100000
set_option maxHeartbeats 40000000
namespace Go.Proofs.YtfkhljmiehdgmaaGreatDoor
open Go.RowKit Go.Proofs.Tryz Pl
theorem qq1(kd:Int)(y:kd=1\/kd=3\/kd=4\/kd=5)(b:UInt8)(w:World)(z:Tabs w) :
  zC 143 #[zI kd,zJ b.toNat] w (zQ (.bool (qee kd b)) w):=by
 rcases y with rfl|rfl|rfl|rfl
 ·exact q1g b w z
 ·exact qvf b w z
 ·exact qxu b w z
 ·exact qxv b w z
theorem qt4(kd:Int)(z:kd=3\/kd=4\/kd=5)(B bl:Nat)(acc:zU)(b:UInt8)(w:World)(D:Tabs w)(I:9<B)(J:Lib.IsBuilderF 153 5 B bl (Lib.byteCells acc) w)(O:acc.length<=1000000000)(y:B<=w.heap.size) :
  zC 144 #[zP bl,zI kd,zJ b.toNat] w fun e w'=>e=.returned (.tuple #[])/\Lib.IsBuilderF 153 5 B bl (Lib.byteCells (acc++qhk kd b)) w'/\Below B w w':=by
 rcases z with rfl|rfl|rfl
 ·exact qpj B bl acc b w D I J O y
 ·exact qry B bl acc b w D I J O y
 ·exact qrz B bl acc b w D I J O y
theorem qv1{T e:TypeId}{B b:Nat}{bs:List Value}{w w':World}(h:Lib.IsBuilderF T e B b bs w)(J:zW w w'):Lib.IsBuilderF T e B b bs w':=by
 have lt:∀ {k:Nat} {o:Obj},w.heap[k]?=some o->w'.heap[k]?=some o:=by
  intro k o O;rw[J.block k (ya.1 O).1];exact O
 have one:∀p,Lib.BuilderAtF T e B b p bs w->Lib.BuilderAtF T e B b p bs w':=by
  rintro p ⟨U,v,D,⟨y,z⟩,I⟩;refine⟨U,v,lt D,⟨y,?_⟩,I⟩;rcases z with V|⟨g,cap,cur,fz,X,Y,Z,h4⟩
  ·exact .inl V
  ·exact .inr ⟨g,cap,cur,fz,X,Y,lt Z,h4⟩
 rcases h with h|h
 ·exact .inl (one _ h)
 ·exact .inr (one _ h)
theorem q4g(kd:Int)(s:zT)(k:Nat)(f t:zU)(w:World)(y:Tabs w)(h:qey kd (s.data.toList.drop k)=(f,t)) :
  zC 141 #[zI kd,.string (s.extract k s.size)] w (zR (.tuple #[.string ⟨f.toArray⟩,.string ⟨t.toArray⟩]) w):=by
 have e:(s.extract k s.size).data.toList=s.data.toList.drop k:=by
  rw[ByteArray.data_extract,Array.toList_extract,xA];apply yp;rw[yM,q84];omega
 have:=qz8 kd (s.extract k s.size) w y;rw[e,h]at this;exact this
theorem qpi(kd:Int)(hk:kd=1\/kd=3\/kd=4\/kd=5)(s:zT)(w:World)(ht:Tabs w)(hs:s.size<=100000000) :
  zC 100 #[zI kd,.string s] w (zR (.string ⟨(qgi kd s.data.toList).toArray⟩) w):=by
 have HK:Hid (kd=1\/kd=3\/kd=4\/kd=5):=hk;clear hk;have hB:=ht.lt;go_enter func100,ntmps100
 go_wp2_with fail
 refine(Builder_Grow_fresh w.heap.size w.heap.size s.size _ (yg _) (qte w) (by simp) (by omega)).mono ?_;rintro e W1 ⟨rfl,Ha,hb⟩;have J:zW w W1:=((xL _ w).alloc (yg _) _).trans hb;go_wp2
 go_loopw [6] (fun i wr=>∃(k:Nat) (acc:zU),k<=s.size/\i=zI k/\Lib.IsBuilderF 153 5 w.heap.size w.heap.size (Lib.byteCells acc) wr/\zW w wr/\acc++qgi kd (s.data.toList.drop k)=qgi kd s.data.toList/\acc.length<=6*k) (fun i _=>s.size - (intOf i).toNat)
 case atStart=>exact⟨0,[],yH _,rfl,Lib.IsBuilderF.of (Or.inr Ha),J,rfl,by simp⟩
 case round=>
  obtain⟨k,acc,hk,rfl,hI,D,I,Hc⟩:=hrel;have HA:Hid (acc++qgi kd (s.data.toList.drop k)=qgi kd s.data.toList):=I;clear I;have hz:=D.size;have X:=ht.kept D hB;by_cases O:k<s.size
  ·obtain⟨f,t,Y⟩:∃f t,qey kd (s.data.toList.drop k)=(f,t):=⟨_,_,rfl⟩
   have HS:Hid (qey kd (s.data.toList.drop k)=(f,t)):=Y;clear Y;go_wp2_with fail
   refine(q4g kd s k f t _ X HS.out).mono ?_;rintro e w2 ⟨rfl,b2⟩;have T:=qv1 hI b2;have y:=D.trans (b2.mono hz);have U:=y.size;have V:=ht.kept y hB;clear hI X D b2
   match f,HS with
   |c::f,HS=>
     obtain⟨e1,e2,e3⟩:=zc8 kd HK.out _ _ _ HS.out (by simp);have E1:Hid (acc++(t++qgi kd ((s.data.toList.drop k).drop (c::f).length))=qgi kd s.data.toList):=by show _=_;rw[<-e1];exact HA.out
     rw[yM,q84]at e2;clear e1;simp only[yK]at e2 e3;have Z:(ByteArray.mk t.toArray).size=t.length:=rfl;go_wp2_with fail
     refine(Builder_WriteString_k w.heap.size w.heap.size _ ⟨t.toArray⟩ _ T (by rw[Lib.byteCells_length,Z];omega) U).mono ?_;rintro e w3 ⟨rfl,h3,b3,_⟩;clear Z;go_wp2_with fail
     go_roundw
     case rel=>
      refine⟨k+(f.length+1),acc++t,by omega,by go_num,?_,y.trans b3,?_,by rw[yJ];omega⟩
      ·rw[Lib.byteCells_append];exact Or.inr h3
      ·rw[yq,<-E1.out,yD];rfl
     case measure=>simp[intOf];omega
   |[],HS=>
     have Hb:Hid (qey kd (s[k]::s.data.toList.drop (k+1))=([],t)):=by show _=_;rw[<-qj6 s k O];exact HS.out
     have E1:Hid (acc++((if qee kd s[k]=true then qhk kd s[k]else[s[k]])++qgi kd (s.data.toList.drop (k+1)))=qgi kd s.data.toList):=by
      show _=_;rw[<-zc9 kd HK.out _ _ _ Hb.out,<-qj6 s k O];exact HA.out
     by_cases z:qee kd s[k]=true
     ·have E2:Hid (acc++(qhk kd s[k]++qgi kd (s.data.toList.drop (k+1)))=qgi kd s.data.toList):=by
       show _=_;rw[<-E1.out,if_pos z]
      have ha:kd=3\/kd=4\/kd=5:=by
       rcases HK.out with rfl|h|h|h
       ·rw[qyy]at z;cases z
       ·exact .inl h
       ·exact .inr (.inl h)
       ·exact .inr (.inr h)
      have hc:Hid (kd=3\/kd=4\/kd=5):=ha;have he:=q6g kd s[k];clear ha;go_wp2_with fail
      refine cm (qq1 kd HK.out s[k] _ V) ?_;go_wp2_with fail
      refine(qt4 kd hc.out w.heap.size w.heap.size acc s[k] _ V hB T (by omega) U).mono ?_;rintro e w3 ⟨rfl,h3,b3⟩;go_wp2_with fail
      go_roundw
      case rel=>
       refine⟨k+1,acc++qhk kd s[k],by omega,by go_num,h3,y.trans b3,?_,by rw[yJ];omega⟩;rw[yq];exact E2.out
      case measure=>simp[intOf];omega
     ·have z:qee kd s[k]=false:=ye.2 z
      have E2:Hid (acc++([s[k]]++qgi kd (s.data.toList.drop (k+1)))=qgi kd s.data.toList):=by
       show _=_;rw[<-E1.out,if_neg (by simp[z])]
      go_wp2_with fail
      refine cm (qq1 kd HK.out s[k] _ V) ?_;go_wp2_with fail
      refine(Builder_WriteByte_k w.heap.size w.heap.size _ s[k].toNat _ T (by rw[Lib.byteCells_length];omega) U).mono ?_;rintro e w3 ⟨rfl,h3,b3,_⟩;go_wp2_with fail
      go_roundw
      case rel=>
       refine⟨k+1,acc++[s[k]],by omega,by go_num,?_,y.trans b3,?_,by simp;omega⟩
       ·rw[qkb];exact Or.inr h3
       ·rw[yq];exact E2.out
      case measure=>simp[intOf];omega
  ·have e0:Hid (acc=qgi kd s.data.toList):=by
    have:=HA.out;rw[qvt s k O,zf6,yw]at this;exact this
   go_wp2_with fail
   refine(Builder_String_any_k w.heap.size w.heap.size acc _ hI (by omega)).mono ?_;rintro e W2 ⟨rfl,_,b2,_⟩;go_wp2
   go_ret
   exact⟨qcl (by rw[e0.out]),D.trans b2⟩
namespace Pl
def q5f(p:zU):Bool:=p==[104,116,116,112] || (p==[104,116,116,112,115] || p==[109,97,105,108,116,111])
theorem q4t(c:zU)(k:Nat)(h:qb2 c=k+1):c[k]?=some 58:=by
 unfold qb2 at h;by_cases y:run c false=0
 ·rw[if_pos y]at h;omega
 rw[if_neg y]at h;by_cases z:c[run c false]?=some 58
 ·rw[if_pos z]at h
  have:run c false=k:=by omega
  rw[<-this];exact z
 ·rw[if_neg z]at h;omega
theorem qqu(c:zU)(k:Nat)(h:qb2 c=k+1):qfc (c.take (k+1))=qfc (c.take k)++[58]:=by
 have y:=q4t c k h;have z:=(yb.1 y).1;rw[yB z];have:c[k]=58:=by rw[yc z]at y;exact yk y
 rw[this];unfold qfc;rw[yG];rfl
theorem q56(c:zU)(h:qb2 c=0):qf3 c=qjy c:=by
 unfold qf3;rw[h,if_neg (by omega)];rfl
theorem q0f(p q:zU):(p++[58]=q++[58])↔p=q:=by
 constructor
 ·intro h;exact List.append_cancel_right h
 ·rintro rfl;rfl
theorem q55(c:zU)(k:Nat)(h:qb2 c=k+1)(y:q5f (qfc (c.take k))=true):qf3 c=c.take (k+1)++qjy (c.drop (k+1)):=by
 unfold qf3;rw[h,qqu c k h,if_neg];rintro⟨_,z,D,I⟩;simp only[q5f,yU,yF]at y;rcases y with q|q|q
 ·exact z (by rw[q];rfl)
 ·exact D (by rw[q];rfl)
 ·exact I (by rw[q];rfl)
theorem qvi(c:zU)(k:Nat)(h:qb2 c=k+1)(y:q5f (qfc (c.take k))=false):qf3 c=qv3:=by
 unfold qf3;rw[h,qqu c k h,if_pos];simp only[q5f,Bool.or_eq_false_iff,yf]at y;refine⟨by omega,?_,?_,?_⟩
 ·rw[show http=[104,116,116,112]++[58]from rfl];exact fun q=>y.1 ((q0f _ _).1 q)
 ·rw[show zhd=[104,116,116,112,115]++[58]from rfl];exact fun q=>y.2.1 ((q0f _ _).1 q)
 ·rw[show zd6=[109,97,105,108,116,111]++[58]from rfl];exact fun q=>y.2.2 ((q0f _ _).1 q)
theorem enc3(l:zU):qgi 3 l=qjy l:=rfl
end Pl
theorem q9p(c:zU)(w:World)(V:Tabs w)(X:c.length<=30000000) :
  zC 98 #[.string ⟨c.toArray⟩] w (zR (.string ⟨(qf3 c).toArray⟩) w):=by
 have y:(ByteArray.mk c.toArray).size=c.length:=rfl;have Y:=V.lt;by_cases Z:qb2 c=0
 ·have HV:Hid (qf3 c=qgi 3 c):=q56 c Z
  have HE:Hid (qej c=-1):=qf7 c Z;go_enter func98,ntmps98
  go_wp2_with fail
  refine cm (qiv ⟨c.toArray⟩ _ (by rw[y];omega)) ?_;rw[show(ByteArray.mk c.toArray).data.toList=c from rfl,HE.out];go_wp2_with fail
  refine(qpi 3 (.inr (.inl rfl)) ⟨c.toArray⟩ _ V (by rw[y];omega)).mono ?_;rintro e w2 ⟨rfl,D⟩;go_wp2_with fail
  go_ret
  exact⟨qcl (by rw[HV.out]),D⟩
 ·obtain⟨k,hk⟩:∃k,qb2 c=k+1:=⟨qb2 c - 1,by omega⟩
  have U:k+1<=c.length:=hk▸qso c;have HE:Hid (qej c=(k:Int)):=qk8 c k hk;have e1:=qui c k;by_cases ho:q5f (qfc (c.take k))=true
  ·have HV:Hid (qf3 c=c.take (k+1)++qgi 3 (c.drop (k+1))):=q55 c k hk ho
   have HO:Hid (q29 (c.take k)=true):=ho;clear hk Z ho;go_enter func98,ntmps98
   go_wp2_with fail
   refine cm (qiv ⟨c.toArray⟩ _ (by rw[y];omega)) ?_;rw[show(ByteArray.mk c.toArray).data.toList=c from rfl,HE.out];go_wp2_with fail
   refine(qtb ⟨(c.take k).toArray⟩ _ (by show(c.take k).toArray.size<=_;simp;omega) V).mono ?_;rintro e w1 ⟨rfl,z⟩;rw[show(ByteArray.mk (c.take k).toArray).data.toList=c.take k from rfl,HO.out];have I:=z.size;have J:=V.kept z Y;go_wp2_with fail
   have e2:∀w,(Instr.slice 9 (.string ⟨c.toArray⟩) none (some (zI ((k:Int)+1))) none).run prog w=.ok (.string ⟨(c.take (k+1)).toArray⟩) w:=by
    intro w;rw[run_slice_string_h (P:=prog) w 9 ⟨c.toArray⟩ underlying9 .i64 ((k:Int)+1) (by omega) (by rw[y];omega),<-qui c (k+1)];rfl
   have e3:∀w,(Instr.slice 9 (.string ⟨c.toArray⟩) (some (zI ((k:Int)+1))) none none).run prog w=.ok (.string ⟨(c.drop (k+1)).toArray⟩) w:=by
    intro w;rw[run_slice_string_l (P:=prog) w 9 ⟨c.toArray⟩ underlying9 .i64 ((k:Int)+1) (by omega) (by rw[y];omega),<-zdc c (k+1)];rfl
   have hl:(qgi 3 (c.drop (k+1))).length<=400000000:=by
    have:=qhe 6 qnq (c.drop (k+1));rw[yM]at this;rw[enc3];unfold qjy;omega
   have O:(k:Int)+1<=(c.length:Int):=by omega
   have T:0<=(k:Int)+1:=by omega
   have hw:IntKind.i64.wrap ((k:Int)+1)=(k:Int)+1:=by rw[IntKind.wrap_i64];omega
   go_region_with (go_at_call 100;refine(qpi 3 (.inr (.inl rfl)) ⟨(c.drop (k+1)).toArray⟩ _ (by exact J) (by show(c.drop (k+1)).toArray.size<=_;simp;omega)).mono ?_;rintro e w2 ⟨rfl,D⟩)
   go_wp2
   go_ret
   exact⟨qcl (by rw[HV.out,<-zhq]),z.drew.trans (D.mono I)⟩
  ·have ho:q5f (qfc (c.take k))=false:=ye.2 ho
   have HV:Hid (qf3 c=qv3):=qvi c k hk ho;have HO:Hid (q29 (c.take k)=false):=ho;clear hk Z ho;go_enter func98,ntmps98
   go_wp2_with fail
   refine cm (qiv ⟨c.toArray⟩ _ (by rw[y];omega)) ?_;rw[show(ByteArray.mk c.toArray).data.toList=c from rfl,HE.out];go_wp2_with fail
   refine(qtb ⟨(c.take k).toArray⟩ _ (by show(c.take k).toArray.size<=_;simp;omega) V).mono ?_;rintro e w1 ⟨rfl,z⟩;rw[show(ByteArray.mk (c.take k).toArray).data.toList=c.take k from rfl,HO.out];go_wp2_with fail
   go_ret
   exact⟨qcl (by rw[HV.out];rfl),z⟩
theorem ze5(c:zU):(ByteArray.mk c.toArray).size=c.length:=rfl
theorem qmc(kd:Int)(T:kd=1\/kd=3\/kd=4\/kd=5)(s:zT)(w:World)(U:Tabs w)(V:s.size<=10000000) :
  zC 64 #[zI kd,.string s] w (zR (.tuple #[.string ⟨(qgi kd (qd3 s.data.toList)).toArray⟩,zI 0]) w):=by
 have X:=qtq s.data.toList 10000000 V;have Y:=U.lt;generalize z:qd3 s.data.toList=c at X;have Z:Hid (qd3 s.data.toList=c):=z;have D:=ze5 c;clear z;rcases T with rfl|rfl|rfl|rfl
 all_goals
  go_enter func64,ntmps64
  go_wp2_with fail
  refine(qy2 s _ (by omega)).mono ?_;rintro e w1 ⟨rfl,y⟩;rw[Z.out];have I:=y.size;have J:=U.kept y Y;go_wp2_with fail
  refine(qpi _ (by omega) ⟨c.toArray⟩ _ J (by rw[D];omega)).mono ?_;rintro e w2 ⟨rfl,O⟩;go_wp2_with fail
  go_ret2
  exact⟨rfl,y.trans (O.mono I)⟩
theorem qzx(s:zT)(w:World)(O:Tabs w)(T:s.size<=10000000) :
  zC 64 #[zI 2,.string s] w (zR (.tuple #[.string ⟨(qf3 (qd3 s.data.toList)).toArray⟩,zI 0]) w):=by
 have U:=qtq s.data.toList 10000000 T;have V:=O.lt;generalize z:qd3 s.data.toList=c at U;have X:Hid (qd3 s.data.toList=c):=z;clear z;go_enter func64,ntmps64
 go_wp2_with fail
 refine(qy2 s _ (by omega)).mono ?_;rintro e w1 ⟨rfl,y⟩;rw[X.out];have D:=y.size;have I:=O.kept y V;go_wp2_with fail
 refine(q9p c _ I (by omega)).mono ?_;rintro e w2 ⟨rfl,J⟩;go_wp2_with fail
 go_ret2
 exact⟨rfl,y.trans (J.mono D)⟩
theorem qzw(kd:Int)(s:zT)(w:World)(h:kd<1\/5<kd) :
  zC 64 #[zI kd,.string s] w (zR (.tuple #[zS,zI 1]) w):=by
 have y:(kd==1)=false:=yf.2 (by omega);have z:(kd==2)=false:=yf.2 (by omega);have D:(kd==3)=false:=yf.2 (by omega);have I:(kd==4)=false:=yf.2 (by omega);have J:(kd==5)=false:=yf.2 (by omega);go_enter func64,ntmps64
 go_wp2_with fail
 go_ret2
 exact⟨rfl,xL _ _⟩
theorem q66(kd:Int)(s:zT)(w:World)(y:Tabs w)(z:s.size<=10000000) :
  zC 64 #[zI kd,.string s] w (zR (.tuple #[.string ⟨(qgn kd s.data.toList).toArray⟩,zI (qor kd)]) w):=by
 unfold qgn qor;by_cases D:kd=1
 ·subst D;exact qmc 1 (.inl rfl) s w y z
 by_cases I:kd=3
 ·subst I;exact qmc 3 (.inr (.inl rfl)) s w y z
 by_cases J:kd=2
 ·subst J;exact qzx s w y z
 by_cases O:kd=4
 ·subst O;exact qmc 4 (.inr (.inr (.inl rfl))) s w y z
 by_cases T:kd=5
 ·subst T;exact qmc 5 (.inr (.inr (.inr rfl))) s w y z
 rw[if_neg D,if_neg I,if_neg J,if_neg O,if_neg T,if_neg (by omega)];exact qzw kd s w (by omega)
namespace Pl
variable{S:List Src}{s s':Sr}
theorem qsb{beh:Sr->zU->Sx->Sr×Sx}(y:∀s t x,(beh s t x).1.vis=s.vis/\(beh s t x).1.nums=s.nums)(P:List Pt):∀(n a:Nat) (s:Sr) (x:Sx),(qd7 beh P n a s x).1.vis=s.vis/\(qd7 beh P n a s x).1.nums=s.nums:=by
 intro n
 induction n with
 |zero=>intro a s x;exact⟨rfl,rfl⟩
 |succ n ih=>
   intro a s x;unfold qd7;split
   ·exact⟨rfl,rfl⟩
   ·split
    ·exact⟨rfl,rfl⟩
    ·split
     ·exact ih _ _ _
     split
     ·exact ih _ _ _
     split
     ·exact ih _ _ _
     split
     ·rename_i p _ _ _ _ _
      have z:=y s p.text x;have D:=ih (a+1) (beh s p.text x).1 (beh s p.text x).2;exact⟨D.1.trans z.1,D.2.trans z.2⟩
     ·exact ih _ _ _
theorem qzc(S:List Src):∀(k:Nat) (s:Sr) (n:zU) (x:Sx),(behV S k s n x).1.vis=s.vis/\(behV S k s n x).1.nums=s.nums:=by
 intro k
 induction k with
 |zero=>intro s n x;exact⟨rfl,rfl⟩
 |succ k ih=>
   intro s n x;unfold behV;split
   ·exact⟨rfl,rfl⟩
   ·split
    ·exact⟨rfl,rfl⟩
    ·split
     ·exact⟨rfl,rfl⟩
     ·exact qsb ih _ _ _ _ _
structure Vk(S:List Src)(s:Sr):Prop where
 nums:∀p∈s.nums,p.2<s.vis.length
 vis:∀(i:Nat) (u:Nat×List Int),s.vis[i]?=some u->u.1<S.length/\u.2.length=(qah S u.1).length/\∀(a:Nat) (p:Pt) (m:Int),(qah S u.1)[a]?=some p->p.kind=6->u.2[a]?=some m->0<=m/\m<(s.vis.length:Nat)
structure Vs(s s':Sr):Prop where
 len:s.vis.length<=s'.vis.length
 same:∀(i:Nat) (u:Nat×List Int),s.vis[i]?=some u->∃u',s'.vis[i]?=some u'/\u'.1=u.1
theorem Vs.refl(s:Sr):Vs s s:=⟨yg _,fun _ u h=>⟨u,h,rfl⟩⟩
theorem Vs.trans{a b c:Sr}(h:Vs a b)(k:Vs b c):Vs a c:=⟨yh h.len k.len,fun i u y=>by
 obtain⟨u1,e1,e2⟩:=h.same i u y;obtain⟨u2,f1,f2⟩:=k.same i u1 e1;exact⟨u2,f1,f2.trans e2⟩⟩
theorem Vk.eq(h:Vk S s)(y:s'.vis=s.vis)(z:s'.nums=s.nums):Vk S s':=⟨by rw[y,z];exact h.nums,by rw[y];exact h.vis⟩
theorem Vs.eq(y:s'.vis=s.vis):Vs s s':=⟨by rw[y];exact yg _,fun i u z=>⟨u,by rw[y];exact z,rfl⟩⟩
theorem qu6(s:Sr)(v a:Nat)(m:Int):(s.mark v a m).vis.length=s.vis.length:=by unfold Sr.mark;simp
theorem Vs.mark(s:Sr)(v a:Nat)(m:Int):Vs s (s.mark v a m):=⟨by rw[qu6];exact yg _,fun i u y=>by
 show ∃u',(s.vis.modify v fun x=>(x.1,x.2.set a m))[i]?=some u'/\_;rw[List.getElem?_modify,y];by_cases h:v=i
 ·exact⟨(u.1,u.2.set a m),by simp[h],rfl⟩
 ·exact⟨u,by simp[h],rfl⟩⟩
theorem Vk.mark(h:Vk S s)(v a:Nat)(m:Int)(J:∀u p,s.vis[v]?=some u->(qah S u.1)[a]?=some p->p.kind=6->0<=m/\m<(s.vis.length:Nat)):Vk S (s.mark v a m):=by
 refine⟨by rw[qu6];exact h.nums,fun i u O=>?_⟩;rw[qu6];have y:(s.vis.modify v fun x=>(x.1,x.2.set a m))[i]?=some u:=O;rw[List.getElem?_modify]at y;cases T:s.vis[i]? with
 |none=>rw[T]at y;cases y
 |some x=>
   rw[T]at y;obtain⟨U,V,X⟩:=h.vis i x T
   replace y:some (if v=i then(x.1,x.2.set a m)else x)=some u:=y
   by_cases Y:v=i
   ·rw[if_pos Y]at y
    have e:(x.1,x.2.set a m)=u:=yk y;subst e;refine⟨U,by simpa using V,fun b p z Z hk hz=>?_⟩;have D:(x.2.set a m)[b]?=some z:=hz;rw[List.getElem?_set]at D;by_cases I:a=b
    ·subst I
     rw[if_pos rfl]at D;split at D
     ·obtain rfl:=yk D
      exact J x p (by rw[Y];exact T) Z hk
     ·cases D
    ·rw[if_neg I]at D
     exact X b p z Z hk D
   ·rw[if_neg Y]at y
    have e:x=u:=yk y;subst e;exact⟨U,V,X⟩
def NmVk(S:List Src)(nm:Sr->zU->Sx->Sr×Nat×Sx):Prop:=∀s t x,Vk S s->1<=s.vis.length->Vk S (nm s t x).1/\Vs s (nm s t x).1/\(nm s t x).2.1<(nm s t x).1.vis.length
theorem zhg{nm:Sr->zU->Sx->Sr×Nat×Sx}(I:NmVk S nm)(i v:Nat):∀(n a:Nat) (s:Sr) (x:Sx) (B:List (Sx×Nat)),Vk S s->(∃u,s.vis[v]?=some u/\u.1=i) ->
  Vk S (goV nm S i v (qah S i) n a s x B)/\Vs s (goV nm S i v (qah S i) n a s x B):=by
 intro n
 induction n with
 |zero=>intro a s x B h _;exact⟨h,Vs.refl _⟩
 |succ n ih=>
   intro a s x B h O;unfold goV;split
   ·exact⟨h,Vs.refl _⟩
   ·rename_i p T
    split
    ·split
     ·exact⟨h.eq rfl rfl,Vs.eq rfl⟩
     ·exact ih _ _ _ _ h O
    ·split
     ·rename_i k2
      split
      ·exact⟨h.eq rfl rfl,Vs.eq rfl⟩
      ·have U:=h.mark v a x.hole.1 (fun u q y z J=>by
        obtain⟨u',e1,e2⟩:=O;rw[e1]at y;obtain rfl:=yk y;rw[e2,T]at z;obtain rfl:=yk z;omega)
       have V:=Vs.mark s v a x.hole.1;obtain⟨u,e1,e2⟩:=O;obtain⟨u',e3,e4⟩:=V.same v u e1;have X:=ih (a+1) _ x.behindHole B U ⟨u',e3,e4.trans e2⟩;exact⟨X.1,V.trans X.2⟩
     ·split
      ·exact ih _ _ _ _ h O
      ·split
       ·split
        ·exact⟨h,Vs.refl _⟩
        ·split
         ·exact⟨h.eq rfl rfl,Vs.eq rfl⟩
         ·exact ih _ _ _ _ h O
       ·split
        ·rename_i k6
         obtain⟨u,e1,e2⟩:=O;have Y:1<=s.vis.length:=by have:=(yb.1 e1).1;omega
         obtain⟨g1,g2,g3⟩:=I s p.text x h Y;obtain⟨u1,e3,e4⟩:=g2.same v u e1;have U:=g1.mark v a ((nm s p.text x).2.1:Nat) (fun _ _ _ _ _=>⟨by omega,by omega⟩);have V:=Vs.mark (nm s p.text x).1 v a ((nm s p.text x).2.1:Nat);obtain⟨u2,e5,e6⟩:=V.same v u1 e3;have D:∃u,((nm s p.text x).1.mark v a ((nm s p.text x).2.1:Nat)).vis[v]?=some u/\u.1=i:=⟨u2,e5,e6.trans (e4.trans e2)⟩;have Z:=g2.trans V;dsimp only;split
         ·exact⟨U,Z⟩
         ·split
          ·have X:=ih (a+1) _ (nm s p.text x).2.2 B U D
           exact⟨X.1,Z.trans X.2⟩
          ·split
           ·exact⟨U,Z⟩
           ·rename_i b _
            have X:=ih b.2 _ b.1 B U D;exact⟨X.1,Z.trans X.2⟩
        ·exact ih _ _ _ _ h O
theorem qx5(h:Vk S s)(y:1<=s.vis.length)(e:En):qhc s e<s.vis.length:=by
 unfold qhc;cases D:qa9 s.nums e with
 |none=>exact y
 |some z=>exact h.nums _ (qg3 D)
theorem zbb(S:List Src):∀(k:Nat) (s:Sr) (e:En),Vk S s->e.1<S.length->Vk S (qev S k s e)/\Vs s (qev S k s e)/\(k≠0->∃u,(qev S k s e).vis[s.vis.length]?=some u/\u.1=e.1):=by
 intro k
 induction k with
 |zero=>intro s e h _;exact⟨h,Vs.refl _,fun q=>absurd rfl q⟩
 |succ k ih=>
   intro s e h T;have U:Vk S { s with nums:=qbi s.nums e s.vis.length,vis:=s.vis++[(e.1,List.replicate (qah S e.1).length 0)] }:=by
    refine⟨fun p V=>?_,fun i u X=>?_⟩
    ·show p.2<(s.vis++[_]).length
     rw[yJ];rcases qnp V with rfl|V
     ·show s.vis.length<_;simp
     ·have:=h.nums p V;omega
    ·have y:(s.vis++[(e.1,List.replicate (qah S e.1).length (0:Int))])[i]?=some u:=X
     have z:(s.vis++[(e.1,List.replicate (qah S e.1).length (0:Int))]).length=s.vis.length+1:=by simp
     by_cases Y:i<s.vis.length
     ·rw[yr Y]at y
      obtain⟨Z,h2,h3⟩:=h.vis i u y;refine⟨Z,h2,fun a p m V hk hm=>?_⟩;have:=h3 a p m V hk hm;show 0<=m/\m<((s.vis++[_]).length:Nat);rw[z];omega
     ·rw[yt (by omega)]at y
      have e1:u=(e.1,List.replicate (qah S e.1).length (0:Int)):=by
       cases hj:i - s.vis.length with
       |zero=>rw[hj]at y;simpa using y.symm
       |succ j=>rw[hj]at y;simp at y
      subst e1;refine⟨T,by simp,fun a p m V hk hm=>?_⟩;have I:(List.replicate (qah S e.1).length (0:Int))[a]?=some m:=hm;rw[List.getElem?_replicate]at I;split at I
      ·obtain rfl:=yk I
       show(0:Int)<=0/\(0:Int)<((s.vis++[_]).length:Nat);rw[z];omega
      ·cases I
   have Z:Vs s { s with nums:=qbi s.nums e s.vis.length,vis:=s.vis++[(e.1,List.replicate (qah S e.1).length 0)] }:=
    ⟨by show _<=(s.vis++[_]).length;simp,fun i u X=>⟨u,by show(s.vis++[_])[i]?=some u;rw[yr (yb.1 X).1];exact X,rfl⟩⟩
   unfold qev
   have O:NmVk S (fun(s:Sr) (n:zU) (x:Sx)=>
    let r:=behV S 257 s n x
    if qaj S n=0\/r.1.fault.code≠0 then(r.1,0,r.2)
    else if qhc r.1 (qaj S n,x)=0 then
     (qev S k r.1 (qaj S n,x),qhc (qev S k r.1 (qaj S n,x)) (qaj S n,x),r.2)
    else(r.1,qhc r.1 (qaj S n,x),r.2)):=by
    intro s n x h hl;have hb:=qzc S 257 s n x;have hk:Vk S (behV S 257 s n x).1:=h.eq hb.1 hb.2;have hs:Vs s (behV S 257 s n x).1:=Vs.eq hb.1;have J:1<=(behV S 257 s n x).1.vis.length:=by rw[hb.1];exact hl
    dsimp only;split
    ·exact⟨hk,hs,J⟩
    ·rename_i hn
     split
     ·have V:=(qfh S n (fun q=>hn (.inl q))).2
      obtain⟨g1,g2,_⟩:=ih (behV S 257 s n x).1 (qaj S n,x) hk V;exact⟨g1,hs.trans g2,qx5 g1 (yh J g2.len) _⟩
     ·exact⟨hk,hs,qx5 hk J _⟩
   have D:∃u,(s.vis++[(e.1,List.replicate (qah S e.1).length (0:Int))])[s.vis.length]?=some u/\u.1=e.1:=⟨_,by rw[yt (yg _),xz];rfl,rfl⟩;have h2:=zhg O e.1 s.vis.length ((qah S e.1).length+1) 0 _ e.2 [] U D;refine⟨h2.1,Z.trans h2.2,fun _=>?_⟩;obtain⟨u,e1,e2⟩:=D;obtain⟨u',e3,e4⟩:=h2.2.same _ u e1;exact⟨u',e3,e4.trans e2⟩
theorem zfm{len:Nat}(y:1<=S.length)(h:(qew S len).2.code=0):∃s:Sr,Vk S s/\s.vis=(qew S len).1/\s=qev S 258 ⟨[],[],[],Ft.none⟩ (0,Sx.start)/\(∃u,s.vis[0]?=some u/\u.1=0):=by
 have z:Vk S ⟨[],[],[],Ft.none⟩:=⟨fun p D=>(by cases D),fun i u I=>(by cases I)⟩;obtain⟨g1,g2,g3⟩:=zbb S 258 ⟨[],[],[],Ft.none⟩ (0,Sx.start) z y;refine⟨qev S 258 ⟨[],[],[],Ft.none⟩ (0,Sx.start),g1,?_,rfl,g3 (by decide)⟩;unfold qew at h |-;dsimp only at h |-;split at h
 ·rename_i q;exact absurd h q
 ·rename_i q
  rw[if_neg q];split at h
  ·cases h
  ·rename_i q2
   rw[if_neg q2];split at h
   ·rename_i q3;exact absurd h q3
   ·rename_i q3
    rw[if_neg q3];exact(qsb (qzc S 257) _ _ _ _ _).1.symm
theorem za1{o:Nat}{l:List Pt}(h:Wf o l):∀(i:Nat) (p:Pt),l[i]?=some p->p.kind=3\/p.kind=4->o+i<p.mate/\p.mate<o+l.length:=by
 induction h with
 |nil o=>intro i p y;simp at y
 |leaf o q l hk _ ih=>
   intro i p y D;cases i with
   |zero=>simp at y;subst y;omega
   |succ i=>
     have:=ih i p (by simpa using y) D;simp only[yK];omega
 |sec o q z b l hq hz h1 h2 hb _ ihb ihl=>
   intro i p y D;have e:q::b++z::l=q::(b++z::l):=by simp
   rw[e]at y |-;simp only[yK,yJ];cases i with
   |zero=>simp at y;subst y;omega
   |succ i=>
     simp only[yT]at y;rw[yI]at y;split at y
     ·have:=ihb i p y D;omega
     ·rename_i I
      cases J:i - b.length with
      |zero=>rw[J]at y;simp at y;subst y;omega
      |succ j=>
        rw[J]at y;have:=ihl j p (by simpa using y) D;omega
end Pl
section
variable {w0 w w':World}{g:Nat}{s s':Sx}
structure Sx2(w0 w:World)(s:Sx):Prop where
 sp:w.heap[w0.heap.size]?=zK (qaf s) 162
 res:w.heap[w0.heap.size+1]?=zK (qaf ⟨⟨0,[],[],0,0,false⟩,⟨false,0,0,0⟩⟩) 162
 low:zW w0 w
 tabs:PTabs w
theorem Sx2.lt(h:Sx2 w0 w s):w0.heap.size+1<w.heap.size:=(zL h.res)
theorem Sx2.kept(h:Sx2 w0 w s)(y:zW w w'):Sx2 w0 w' s:=by
 have:=h.lt;exact⟨(y.block _ (by omega)).trans h.sp,(y.block _ (by omega)).trans h.res,h.low.trans (y.mono (by omega)),h.tabs.kept y⟩
theorem Sx2.alloc(h:Sx2 w0 w s)(o:Obj):Sx2 w0 (w.alloc o) s:=h.kept ((xL _ w).alloc (yg _) o)
theorem Sx2.drew(h:Sx2 w0 w s):Sx2 w0 w.drew s:=h.kept (xL _ w).drew
theorem Sx2.put(h:Sx2 w0 w s)(y:PTabs w0)(j:Nat)(v:Value)(e:(qaf s).set! j v=qaf s'):Sx2 w0 (w.setCell (zO w0.heap.size j) v) s':=by
 refine⟨?_,(xJ _ _ _ _ (by show w0.heap.size+1≠w0.heap.size;omega)).trans h.res,h.low.setCell (yg _) _,y.kept (h.low.setCell (yg _) _)⟩;rw[<-e];exact xG w _ j _ _ _ h.sp
theorem Sx2.marks(h:Sx2 w0 w s)(y:PTabs w0)(e:Bool)(k:Mk):Sx2 w0 (setM w w0.heap.size (.bool k.ref) (.bool e) (zI k.hex) (zI k.pct) (zI k.far)) ⟨⟨s.st.mode,s.st.name,s.st.elem,s.st.kind,s.st.read,e⟩,k⟩:=by
 have z:=h.put (s':=⟨s.st,⟨k.ref,s.ma.hex,s.ma.pct,s.ma.far⟩⟩) y 5 (.bool k.ref) rfl;have D:=z.put (s':=⟨⟨s.st.mode,s.st.name,s.st.elem,s.st.kind,s.st.read,e⟩,⟨k.ref,s.ma.hex,s.ma.pct,s.ma.far⟩⟩) y 6 (.bool e) rfl;have I:=D.put (s':=⟨⟨s.st.mode,s.st.name,s.st.elem,s.st.kind,s.st.read,e⟩,⟨k.ref,k.hex,s.ma.pct,s.ma.far⟩⟩) y 7 (zI k.hex) rfl;have J:=I.put (s':=⟨⟨s.st.mode,s.st.name,s.st.elem,s.st.kind,s.st.read,e⟩,⟨k.ref,k.hex,k.pct,s.ma.far⟩⟩) y 8 (zI k.pct) rfl;exact J.put (s':=⟨⟨s.st.mode,s.st.name,s.st.elem,s.st.kind,s.st.read,e⟩,k⟩) y 9 (zI k.far) rfl
theorem Sx2.all(h:Sx2 w0 w s)(z:PTabs w0)(y:Sx):Sx2 w0 (qdf w w0.heap.size (zJ (y.st.mode:Int)) (.string ⟨y.st.name.toArray⟩) (.string ⟨y.st.elem.toArray⟩) (zI y.st.kind) (zI (y.st.read:Int)) (.bool y.ma.ref) (.bool y.st.esc) (zI y.ma.hex) (zI y.ma.pct) (zI y.ma.far)) y:=by
 have D:=h.put (s':=⟨⟨y.st.mode,s.st.name,s.st.elem,s.st.kind,s.st.read,s.st.esc⟩,s.ma⟩) z 0 (zJ (y.st.mode:Int)) rfl;have I:=D.put (s':=⟨⟨y.st.mode,y.st.name,s.st.elem,s.st.kind,s.st.read,s.st.esc⟩,s.ma⟩) z 1 (bs y.st.name) rfl;have J:=I.put (s':=⟨⟨y.st.mode,y.st.name,y.st.elem,s.st.kind,s.st.read,s.st.esc⟩,s.ma⟩) z 2 (bs y.st.elem) rfl;have O:=J.put (s':=⟨⟨y.st.mode,y.st.name,y.st.elem,y.st.kind,s.st.read,s.st.esc⟩,s.ma⟩) z 3 (zI y.st.kind) rfl;have T:=O.put (s':=⟨⟨y.st.mode,y.st.name,y.st.elem,y.st.kind,y.st.read,s.st.esc⟩,s.ma⟩) z 4 (zI (y.st.read:Int)) rfl;exact T.marks z y.st.esc y.ma
theorem Sx2.start(y:PTabs w0)(s:Sx):Sx2 w0 ((w0.alloc (.cells (qaf s) 162)).alloc (.cells (qaf ⟨⟨0,[],[],0,0,false⟩,⟨false,0,0,0⟩⟩) 162)) s:=
 ⟨(xI _ _ (by simp)).trans (xF w0 _),qap _ _ _ (by simp),(zB _).alloc (by simp) _,y.kept ((zB _).alloc (by simp) _)⟩
end
variable{m:Nat}{b:UInt8}
theorem qvk(x:Sx)(b:UInt8)(w:World)(y:x.st.esc=false) :
  zC 94 #[qar x,zJ b.toNat] w (zR (qu5 (qa7 x.st.mode x.st.esc b) (!x.st.esc)) w):=by
 have z:Hid (qa7 x.st.mode x.st.esc b=Mk.none):=by show _=_;unfold qa7;rw[if_pos y]
 rw[z.out];unfold qu5 qgg Mk.none qar qaf bs;rw[y];clear z y;go_enter func94,ntmps94
 go_wp2
 refine qb8 results94 (w.heap.size+1) _ _ underlying160 rfl rfl (zfz w _ _) (by kernel_rfl) rfl ?_;exact⟨rfl,(by repeat(first|refine Below.alloc ?_ (by simp<;>omega) _|exact xL _ _))⟩
theorem q1t(k:Nat)(r:Nat×Nat×zU×Int)(y:qfd[k]?=some r)(z:(qfd.take k).find? (qdp m b)=none)(h:qdp m b r=true):qa7 m true b=⟨false,r.2.2.2,0,0⟩:=by
 unfold qa7;rw[if_neg (by simp),qo9 _ k r y z h]
theorem qyg(y:(qfd.take 3).find? (qdp m b)=none):qa7 m true b=Mk.none:=by
 unfold qa7;rw[if_neg (by simp),show qfd=qfd.take 3 from rfl,y]
structure EscAt(w0 w:World)(g:Nat)(x:Sx):Prop where
 at':SxAt w g x
 res:qet 5 w (g+1)
 below:Below g w0 w
 eq:w0.heap.size=g
theorem EscAt.alloc{w0 w:World}{g:Nat}{x:Sx}(h:EscAt w0 w g x)(o:Obj):EscAt w0 (w.alloc o) g x:=
 ⟨h.at'.kept ((xL _ w).alloc (yg _) o) (by have:=h.res.lt;omega),h.res.alloc o,h.below.alloc (by have:=h.res.lt;omega) o,h.eq⟩
theorem qr7(x:Sx)(b:UInt8)(w:World)(Y:PTabs w)(Z:x.st.esc=true) :
  zC 94 #[qar x,zJ b.toNat] w (zR (qu5 (qa7 x.st.mode x.st.esc b) (!x.st.esc)) w):=by
 have HE:EscAt w ((w.alloc (.cells (qaf x) 162)).alloc (.cells #[.bool false,.bool false,zI 0,zI 0,zI 0] 160)) w.heap.size x:=
  ⟨(qkk w x _).kept (zB _) (by simp),q7v 5 _ _ _ _ (by simp) rfl,(zB _).alloc (by simp) _,rfl⟩
 have HE:=zH HE;rw[Z];have HX:=zH Z;have HT:=zH Y;clear Z Y;unfold qu5 qgg;unfold qar;unfold qaf bs at HE |-;rw[HX.out]at HE |-;go_enter func94,ntmps94
 go_wp2
 go_loopw [5,6,12] (fun _ _ i wr=>∃k:Nat,k<=3/\i=zI k/\Hid (EscAt w wr w.heap.size x/\(qfd.take k).find? (qdp x.st.mode b)=none)) (fun _ _ i _=>3 - (intOf i).toNat)
 case atStart=>exact⟨0,by omega,rfl,HE.out,rfl⟩
 case round=>
  obtain⟨k,hk,rfl,HR⟩:=hrel;clear HE;by_cases O:k<3
  ·obtain⟨r,hr⟩:∃r,qfd[k]?=some r:=⟨_,yc (show k<qfd.length from O)⟩
   have J:PTabs wr:=HT.out.kept HR.out.1.below;obtain⟨c0,c1,c2,c3⟩:=zcc J.le k r hr;rw[Nat.mul_comm 4 k]at c0 c1 c2 c3;unfold bs at c2;have HN:=zH HR.out.2;have z:=zH HR.out.1;have I:=zH hr;have T:(k:Int)<3:=by omega
   have q0:=fun o=>(HR.out.1.alloc o).at'.mode;clear J hr;by_cases h1:r.1<=x.st.mode
   ·have U:(r.1:Int)<=(x.st.mode:Int):=by omega
    by_cases h2:x.st.mode<=r.2.1
    ·have V:(x.st.mode:Int)<=(r.2.1:Int):=by omega
     by_cases h3:among b r.2.2.1=true
     ·have HV:=zH (q1t k r I.out HN.out (by unfold qdp;rw[yV h1,yV h2,h3];rfl))
      have y:=z.out.res;have D:=z.out.below;obtain⟨v0,p0⟩:=z.out.res.cellA 0 (by omega);obtain⟨v1,p1⟩:=z.out.res.cellA 1 (by omega);obtain⟨v2,p2⟩:=z.out.res.cellA 2 (by omega);obtain⟨v3,p3⟩:=z.out.res.cellA 3 (by omega);obtain⟨v4,p4⟩:=z.out.res.cellA 4 (by omega);have f0:=z.out.res.thawA 0;have f1:=z.out.res.thawA 1;have f2:=z.out.res.thawA 2;have f3:=z.out.res.thawA 3;have f4:=z.out.res.thawA 4;clear HR;go_wp2_with (go_at_call 130;refine(qb7 b _ r.2.2.1 _ rfl h3).mono ?_;rintro e w' ⟨x',X,rfl,rfl⟩)
      refine qi5 results94 (w.heap.size+1) _ underlying160 rfl (by kernel_rfl) rfl (y.alloc _) rfl _ _ _ _ _ ?_;rw[HV.out];exact⟨rfl,qn5 (D.alloc D.size _) (by omega) _ _ _ _ _⟩
     ·have h3:=ye.2 h3
      have HV:=zH (qdb (qdp x.st.mode b) k r I.out HN.out (by unfold qdp;rw[h3];simp));clear HR;go_wp2_with (go_at_call 130;refine cm (qci b _ r.2.2.1 _ rfl h3) ?_)
      go_roundw
      case rel=>exact⟨k+1,by omega,by go_num,z.out.alloc _,HV.out⟩
      case measure=>simp[intOf];omega
    ·have V:decide (x.st.mode<=r.2.1)=false:=yx h2
     have HV:=zH (qdb (qdp x.st.mode b) k r I.out HN.out (by unfold qdp;rw[yx h2];simp));clear HR h2;go_wp2
     go_roundw
     case rel=>exact⟨k+1,by omega,by go_num,z.out.alloc _,HV.out⟩
     case measure=>simp[intOf];omega
   ·have U:decide (r.1<=x.st.mode)=false:=yx h1
    have HV:=zH (qdb (qdp x.st.mode b) k r I.out HN.out (by unfold qdp;rw[yx h1];simp));clear HR h1;go_wp2
    go_roundw
    case rel=>exact⟨k+1,by omega,by go_num,z.out.alloc _,HV.out⟩
    case measure=>simp[intOf];omega
  ·obtain rfl:k=3:=by omega
   have HV:=zH (qyg HR.out.2);have y:=HR.out.1.res;have D:=HR.out.1.below;obtain⟨v0,p0⟩:=y.cell 0 (by omega);obtain⟨v1,p1⟩:=y.cell 1 (by omega);obtain⟨v2,p2⟩:=y.cell 2 (by omega);obtain⟨v3,p3⟩:=y.cell 3 (by omega);obtain⟨v4,p4⟩:=y.cell 4 (by omega);have f0:=y.thaw 0;have f1:=y.thaw 1;have f2:=y.thaw 2;have f3:=y.thaw 3;have f4:=y.thaw 4;clear HR;go_wp2
   refine qi5 results94 (w.heap.size+1) _ underlying160 rfl (by kernel_rfl) rfl y rfl _ _ _ _ _ ?_;rw[HV.out];exact⟨rfl,qn5 D (by omega) _ _ _ _ _⟩
theorem q1u(x:Sx)(b:UInt8)(w:World)(y:PTabs w) :
  zC 94 #[qar x,zJ b.toNat] w (zR (qu5 (qa7 x.st.mode x.st.esc b) (!x.st.esc)) w):=by
 by_cases z:x.st.esc=true
 ·exact qr7 x b w y z
 ·exact qvk x b w (ye.2 z)
section
variable {w0 w w':World}{g:Nat}{x:Sx}{k k':Mk}{t:TypeId}{fz:Nat×Nat}{u0 u1 u2 u3 u4:Value}
structure Mk3(w0 w:World)(x:Sx)(k:Mk):Prop where
 sp:w.heap[w0.heap.size]?=zK (qaf x) 162
 res:w.heap[w0.heap.size+1]?=zK (qgg ⟨false,0,0,0⟩ false) 160
 tt:w.heap[w0.heap.size+1+1]?=zK (qgg k false) 160
 low:zW w0 w
theorem Mk3.kept(h:Mk3 w0 w x k)(y:zW w w'):Mk3 w0 w' x k:=by
 have:=(ya.1 h.tt).1;exact⟨(y.block _ (by omega)).trans h.sp,(y.block _ (by omega)).trans h.res,(y.block _ (by omega)).trans h.tt,h.low.trans (y.mono (by omega))⟩
theorem Mk3.put(h:Mk3 w0 w x k)(j:Nat)(v:Value)(e:(qgg k false).set! j v=qgg k' false):Mk3 w0 (w.setCell (zO (w0.heap.size+1+1) j) v) x k':=by
 refine⟨(xJ _ _ _ _ (by show w0.heap.size≠w0.heap.size+1+1;omega)).trans h.sp,(xJ _ _ _ _ (by show w0.heap.size+1≠w0.heap.size+1+1;omega)).trans h.res,?_,h.low.setCell (by show w0.heap.size<=w0.heap.size+1+1;omega) _⟩;rw[<-e];exact xG w _ j _ _ _ h.tt
theorem Mk3.start(w0:World)(x:Sx)(k:Mk):Mk3 w0 (((w0.alloc (.cells (qaf x) 162)).alloc (.cells (qgg ⟨false,0,0,0⟩ false) 160)).alloc (.cells (qgg k false) 160)) x k:=
 ⟨(xI _ _ (by simp;omega)).trans ((xI _ _ (by simp)).trans (xF w0 _)),(xI _ _ (by simp)).trans (qap _ _ _ (by simp)),qap _ _ _ (by simp),((zB _).alloc (by simp) _).alloc (by simp;omega) _⟩
end
theorem q4l(x:Sx)(b:UInt8)(w:World)(U:-1000<=x.ma.hex/\x.ma.hex<=1000)(V:-1000<=x.ma.pct/\x.ma.pct<=1000) :
  zC 133 #[qar x,zJ b.toNat] w fun e w'=>e=.returned (qu5 (qch x.st.kind x.st.mode x.ma b) false)/\zW w w':=by
 have X:=fun w=>qkt x w;have Y:=fun w=>ql8 x.st.mode w;have z:=fun w=>q1r x b w;have Z:qch x.st.kind x.st.mode x.ma b=⟨if(qa0 x.st.mode==1)=true then b==38 || (x.ma.ref && qxy b)else false,qds x.ma.hex b,if qb4 x.st.kind x.st.mode=true then(if b=37 then 2 else qds x.ma.pct b)else 0,if qb4 x.st.kind x.st.mode=true then qdt x.st.kind x.st.mode x.ma.far b else 0⟩:=by
  unfold qch;simp only[yF]
 rw[Z];have H0:=zH (Mk3.start w x ⟨false,qds x.ma.hex b,0,0⟩);generalize qa0 x.st.mode=WA at Y |-;generalize qb4 x.st.kind x.st.mode=IL at X |-;generalize qdt x.st.kind x.st.mode x.ma.far b=FA at z |-;generalize hQ:(fun(e:Ending) (w':World)=>e=.returned (qu5 _ false)/\zW w w')=Q;have HQ:=zH hQ;have D:=zH (And.intro U V);clear Z hQ U V;unfold qgg at H0;unfold qar qaf bs at X z |-;unfold qaf bs at H0;have HI:=zH X;have HW:=zH Y;have T:=zH z;clear X Y z;go_enter func133,ntmps133
 go_upto_if 15 with(first|(go_at_call 182;refine(qyc _ b _ D.out.1.1 D.out.1.2).mono ?_;rintro e w' ⟨rfl,rfl⟩)|(go_at_call 154;refine(HW.out _).mono ?_;rintro e w' ⟨rfl,rfl⟩))
 generalize World.alloc _ _=w2 at H0 |-;go_cut [] (fun wx=>Hid (Mk3 w wx x ⟨if(WA==1)=true then b==38 || (x.ma.ref && qxy b)else false,qds x.ma.hex b,0,0⟩))
 case first=>
  cases I:WA==1
  ·have y:=zH I
   clear I;go_wp2
   go_meet
   rw[y.out,if_neg Bool.false_ne_true];exact H0
  have y:=zH I;have t0:=qaa H0.out.tt 0 _ rfl;have g0:=xH _ _ 0 _ _ H0.out.tt;have q5:=qaa H0.out.sp 5 _ rfl;have HP:Hid (∀v:Bool,Mk3 w (w2.setCell (zO (w.heap.size+1+1) 0) (.bool v)) x ⟨v,qds x.ma.hex b,0,0⟩):=fun v=>H0.out.put 0 _ (by rfl);clear I;rcases Bool.eq_false_or_eq_true (b==38)with hb|hb
  ·have J:((b.toNat:Int)==38)=true:=(qil b 38 (by omega)).trans hb
   have HB:=zH hb;clear hb;go_wp2
   go_meet
   rw[y.out,if_pos rfl,HB.out];exact HP.out true
  have J:((b.toNat:Int)==38)=false:=(qil b 38 (by omega)).trans hb;have HB:=zH hb;clear hb;rcases Bool.eq_false_or_eq_true x.ma.ref with hr|hr
  ·rw[hr]at q5
   have HR:=zH hr;clear hr;go_wp2_with (go_at_call 183;refine(q9c b _).mono ?_;rintro e w' ⟨rfl,rfl⟩)
   go_meet
   rw[y.out,if_pos rfl,HB.out,HR.out];exact HP.out _
  ·rw[hr]at q5
   have HR:=zH hr;clear hr;go_wp2
   go_meet
   rw[y.out,if_pos rfl,HB.out,HR.out];exact HP.out false
 case rest=>
 have H1:=zH hcut.out;clear hcut H0;generalize (if(WA==1)=true then b==38 || (x.ma.ref && qxy b)else false)=RF at H1 HQ;obtain⟨q0,q1,q2,q3,q4,q5,q6,q7,q8,q9⟩:=(show _/\_/\_/\_/\_/\_/\_/\_/\_/\_ from⟨qaa H1.out.sp 0 _ rfl,qaa H1.out.sp 1 _ rfl,qaa H1.out.sp 2 _ rfl,qaa H1.out.sp 3 _ rfl,qaa H1.out.sp 4 _ rfl,qaa H1.out.sp 5 _ rfl,qaa H1.out.sp 6 _ rfl,qaa H1.out.sp 7 _ rfl,qaa H1.out.sp 8 _ rfl,qaa H1.out.sp 9 _ rfl⟩);unfold bs at q1 q2;go_upto_if 29 with(go_at_call 153;refine(HI.out _).mono ?_;rintro e w' ⟨rfl,rfl⟩)
 have H2:=zH (H1.out.kept ((xL wc.heap.size wc).alloc (yg _) (.cells #[zJ (x.st.mode:Int),.string ⟨x.st.name.toArray⟩,.string ⟨x.st.elem.toArray⟩,zI x.st.kind,zI (x.st.read:Int),.bool x.ma.ref,.bool x.st.esc,zI x.ma.hex,zI x.ma.pct,zI x.ma.far] 162)));generalize World.alloc wc _=w3 at H2 |-;go_cut [] (fun wx=>Hid (Mk3 w wx x ⟨RF,qds x.ma.hex b,if IL=true then(if b=37 then 2 else qds x.ma.pct b)else 0,if IL=true then FA else 0⟩))
 case first=>
  cases IL
  ·go_wp2
   go_meet
   exact H2
  clear q0 q1 q2 q3 q4 q5 q6 q7 q8 q9 H1;have q8:=qaa H2.out.sp 8 _ rfl;have t3:=qaa H2.out.tt 3 _ rfl;have g3:=xH _ _ 3 _ _ H2.out.tt;go_upto_region 6 with(go_at_call 182;refine(qyc _ b _ D.out.2.1 D.out.2.2).mono ?_;rintro e w' ⟨rfl,rfl⟩)
  have H3:Hid (Mk3 w (w3.setCell (zO (w.heap.size+1+1) 3) (zI (qds x.ma.pct b))) x ⟨RF,qds x.ma.hex b,qds x.ma.pct b,0⟩):=H2.out.put 3 _ (by rfl);generalize World.setCell w3 _ _=w4 at H3 |-;clear q8 t3 g3;have t3:=qaa H3.out.tt 3 _ rfl;have g3:=xH _ _ 3 _ _ H3.out.tt;go_upto_if 37 with fail
  go_cut [] (fun wx=>Hid (Mk3 w wx x ⟨RF,qds x.ma.hex b,if b=37 then 2 else qds x.ma.pct b,0⟩))
  case first=>
   by_cases hb:b=37
   ·subst hb
    go_wp2
    go_meet
    exact H3.out.put 3 _ (by rfl)
   ·have J:((b.toNat:Int)==37)=false:=(qil b 37 (by omega)).trans (yf.2 hb)
    have HB:=zH hb;clear hb;go_wp2
    go_meet
    rw[if_neg HB.out];exact H3
  case rest=>
  have H4:=zH hcut.out;clear hcut H3 H2 t3 g3;obtain⟨q0,q1,q2,q3,q4,q5,q6,q7,q8,q9⟩:=(show _/\_/\_/\_/\_/\_/\_/\_/\_/\_ from⟨qaa H4.out.sp 0 _ rfl,qaa H4.out.sp 1 _ rfl,qaa H4.out.sp 2 _ rfl,qaa H4.out.sp 3 _ rfl,qaa H4.out.sp 4 _ rfl,qaa H4.out.sp 5 _ rfl,qaa H4.out.sp 6 _ rfl,qaa H4.out.sp 7 _ rfl,qaa H4.out.sp 8 _ rfl,qaa H4.out.sp 9 _ rfl⟩);unfold bs at q1 q2;go_wp2_with (go_at_call 184;refine(T.out _).mono ?_;rintro e w5 ⟨rfl,O⟩;have H5:=zH (H4.out.kept O);clear O;have t4:=qaa H5.out.tt 4 _ rfl;have g4:=xH _ _ 4 _ _ H5.out.tt)
  go_meet
  exact H5.out.put 4 _ (by rfl)
 case rest=>
 have H3:=zH hcut.out;clear hcut H2 H1 q0 q1 q2 q3 q4 q5 q6 q7 q8 q9;generalize (if IL=true then(if b=37 then 2 else qds x.ma.pct b)else 0)=PC at H3 HQ;generalize (if IL=true then FA else 0)=FR at H3 HQ;obtain⟨t0,t1,t2,t3,t4⟩:=zeh H3.out.tt;have r0:=zeh H3.out.res;have f0:=zh8 H3.out.res;go_wp2
 refine qi5 results133 (w.heap.size+1) _ underlying160 rfl (by kernel_rfl) rfl ⟨_,_,H3.out.res,rfl⟩ rfl _ _ _ _ _ ?_;rw[<-HQ.out];exact⟨rfl,qn5 H3.out.low (by simp) _ _ _ _ _⟩
variable{s:St}
theorem q05(h:s.mode=3):s.named=⟨3,[],qaw s.name,s.kind,s.read,s.esc⟩:=by
 unfold St.named;rw[if_pos h,if_neg (by omega),h]
theorem q5l(h:s.mode=5):s.named=⟨5,[],s.elem,qc1 s.name,s.read,s.esc⟩:=by
 unfold St.named;rw[if_neg (by omega),if_pos h,h]
theorem q06(h:¬s.mode=3)(y:¬s.mode=5):s.named=⟨s.mode,[],s.elem,s.kind,s.read,s.esc⟩:=by
 unfold St.named;rw[if_neg h,if_neg y]
theorem q8p(x:Sx)(w:World)(D:PTabs w) :
  zC 134 #[qar x] w fun e w'=>e=.returned (qar ⟨x.st.named,x.ma⟩)/\(w.alloc (.cells (qaf ⟨x.st.named,x.ma⟩) 162)).alloc (.cells (qaf ⟨x.st.named,x.ma⟩) 162)=w':=by
 obtain⟨s,k⟩:=x;unfold qar qaf bs;by_cases I:s.mode=3
 ·have J:Hid (s.named=_):=q05 I
  simp only;rw[I];go_enter func134,ntmps134
  go_wp2_with (go_at_call 185;refine cm (qvr s.name _ (by repeat(first|exact D|apply PTabs.alloc|apply PTabs.drew))) ?_)
  refine qb8 results134 (w.heap.size+1) _ _ underlying162 rfl rfl (qap _ _ _ (by simp)) (by kernel_rfl) rfl ?_;rw[J.out];exact⟨rfl,rfl⟩
 by_cases O:s.mode=5
 ·have J:Hid (s.named=_):=q5l O
  simp only;rw[O];go_enter func134,ntmps134
  go_wp2_with (go_at_call 186;refine cm (q5u s.name _ (by repeat(first|exact D|apply PTabs.alloc|apply PTabs.drew))) ?_)
  refine qb8 results134 (w.heap.size+1) _ _ underlying162 rfl rfl (qap _ _ _ (by simp)) (by kernel_rfl) rfl ?_;rw[J.out];exact⟨rfl,rfl⟩
 have y:((s.mode:Int)==3)=false:=by rw[yf];omega
 have z:((s.mode:Int)==5)=false:=by rw[yf];omega
 have J:Hid (s.named=_):=q06 I O;simp only;clear I O D;go_enter func134,ntmps134
 go_wp2
 refine qb8 results134 (w.heap.size+1) _ _ underlying162 rfl rfl (qap _ _ _ (by simp)) (by kernel_rfl) rfl ?_;rw[J.out];exact⟨rfl,rfl⟩
end Go.Proofs.YtfkhljmiehdgmaaGreatDoor

/-
  Steps of the proof.
-/
import Derived.Test.YtfkhljmiehdgmaaGreatDoorCuAG
import Derived.Test.YtfkhljmiehdgmaaGreatDoorTie
import Derived.Deep.DeepHandedRow
import Derived.Shelf.Vars
set_option maxRecDepth 100000
set_option maxHeartbeats 40000000
namespace Go.Proofs.YtfkhljmiehdgmaaGreatDoor
open Go.RowKit Go.Proofs.Tryz Pl
variable{l:List Step}{m k:Nat}{c:UInt8}{r:Step}
theorem qi2(hr:l[k]?=some r)(hn:(l.take k).find? (hit m c)=none)(h1:r.1=m)(h2:among c r.2.1=true):lookup l m c=r.2.2:=by
 unfold lookup;rw[qo9 _ k r hr hn (by simp[hit,h1,h2])]
theorem qi1(hk:l.length<=k)(hn:(l.take k).find? (hit m c)=none):lookup l m c=0:=by
 rw[yp hk]at hn;unfold lookup;rw[hn]
theorem qpe(h:¬r.1=m):hit m c r=false:=by simp[hit,h]
theorem qpd(h:among c r.2.1=false):hit m c r=false:=by simp[hit,h]
theorem q4j(m:Nat)(b:UInt8)(w:World)(ht:PTabs w)(Hb:m<19) :
  zC 95 #[zJ m,zJ b.toNat] w (zQ (zJ (qc6 m b:Nat)) w):=by
 have hT:=fun(k:Nat) (r:Step) (hk:qbs[k]?=some r)=>q2n ht.mt k r hk;have hc:(m:Int)<19:=by omega
 clear ht;by_cases hl:qbl b=true
 ·have HS:Hid (qc6 m b=lookup qbs m 97):=by show _=_;unfold qc6 qec;rw[if_pos Hb,if_pos hl]
  go_enter func95,ntmps95
  go_wp2_with (go_at_call 132;refine cm (qby b _) ?_)
  go_loop [5,12] (fun _ i=>∃k:Nat,k<=36/\i=zI k/\(qbs.take k).find? (hit m 97)=none) (fun _ i=>36 - (intOf i).toNat)
  case atStart=>exact⟨0,by omega,rfl,rfl⟩
  case round=>
   obtain⟨k,hk,rfl,hn⟩:=hrel;have HN:Hid ((qbs.take k).find? (hit m 97)=none):=hn;clear hn;by_cases ha:k<36
   ·obtain⟨r,hr⟩:∃r,qbs[k]?=some r:=⟨_,yc (show k<qbs.length from ha)⟩
    obtain⟨q0,q1,q2⟩:=hT k r hr;unfold bs at q1;have HR:Hid (qbs[k]?=some r):=hr;clear hr hT;by_cases hq:r.1=m
    ·have Ha:((r.1:Int)==(m:Int))=true:=by rw[hq];simp
     have HQ:Hid (r.1=m):=hq;clear hq;by_cases hb:among 97 r.2.1=true
     ·have HB:Hid (among 97 r.2.1=true):=hb
      clear hb;go_wp2_with (go_at_call 130;refine(qb7 97 _ r.2.1 _ rfl HB.out).mono ?_;rintro e w' ⟨x,hx,rfl,rfl⟩)
      go_ret
      exact⟨qal (by rw[HS.out,qi2 HR.out HN.out HQ.out HB.out]),rfl⟩
     ·have HB:Hid (among 97 r.2.1=false):=ye.2 hb
      clear hb;go_wp2_with (go_at_call 130;refine cm (qci 97 _ r.2.1 _ rfl HB.out) ?_)
      go_round
      case rel=>exact⟨k+1,by omega,by go_num,qdb _ k r HR.out HN.out (qpd HB.out)⟩
      case measure=>simp[intOf];omega
    ·have Ha:((r.1:Int)==(m:Int))=false:=by rw[yf];omega
     have HQ:Hid (¬r.1=m):=hq;clear hq;go_wp2
     go_round
     case rel=>exact⟨k+1,by omega,by go_num,qdb _ k r HR.out HN.out (qpe HQ.out)⟩
     case measure=>simp[intOf];omega
   ·have HE:Hid (lookup qbs m 97=0):=qi1 (show qbs.length<=k by show 36<=k;omega) HN.out
    clear hT;go_wp2
    go_ret
    exact⟨qal (by rw[HS.out,HE.out];rfl),rfl⟩
 ·have hl:=ye.2 hl
  have HS:Hid (qc6 m b=lookup qbs m b):=by show _=_;unfold qc6 qec;rw[if_pos Hb,hl];rfl
  go_enter func95,ntmps95
  go_wp2_with (go_at_call 132;refine cm (qby b _) ?_)
  go_loop [5,12] (fun _ i=>∃k:Nat,k<=36/\i=zI k/\(qbs.take k).find? (hit m b)=none) (fun _ i=>36 - (intOf i).toNat)
  case atStart=>exact⟨0,by omega,rfl,rfl⟩
  case round=>
   obtain⟨k,hk,rfl,hn⟩:=hrel;have HN:Hid ((qbs.take k).find? (hit m b)=none):=hn;clear hn;by_cases ha:k<36
   ·obtain⟨r,hr⟩:∃r,qbs[k]?=some r:=⟨_,yc (show k<qbs.length from ha)⟩
    obtain⟨q0,q1,q2⟩:=hT k r hr;unfold bs at q1;have HR:Hid (qbs[k]?=some r):=hr;clear hr hT;by_cases hq:r.1=m
    ·have Ha:((r.1:Int)==(m:Int))=true:=by rw[hq];simp
     have HQ:Hid (r.1=m):=hq;clear hq;by_cases hb:among b r.2.1=true
     ·have HB:Hid (among b r.2.1=true):=hb
      clear hb;go_wp2_with (go_at_call 130;refine(qb7 b _ r.2.1 _ rfl HB.out).mono ?_;rintro e w' ⟨x,hx,rfl,rfl⟩)
      go_ret
      exact⟨qal (by rw[HS.out,qi2 HR.out HN.out HQ.out HB.out]),rfl⟩
     ·have HB:Hid (among b r.2.1=false):=ye.2 hb
      clear hb;go_wp2_with (go_at_call 130;refine cm (qci b _ r.2.1 _ rfl HB.out) ?_)
      go_round
      case rel=>exact⟨k+1,by omega,by go_num,qdb _ k r HR.out HN.out (qpd HB.out)⟩
      case measure=>simp[intOf];omega
    ·have Ha:((r.1:Int)==(m:Int))=false:=by rw[yf];omega
     have HQ:Hid (¬r.1=m):=hq;clear hq;go_wp2
     go_round
     case rel=>exact⟨k+1,by omega,by go_num,qdb _ k r HR.out HN.out (qpe HQ.out)⟩
     case measure=>simp[intOf];omega
   ·have HE:Hid (lookup qbs m b=0):=qi1 (show qbs.length<=k by show 36<=k;omega) HN.out
    clear hT;go_wp2
    go_ret
    exact⟨qal (by rw[HS.out,HE.out];rfl),rfl⟩
theorem q0b(m:Nat)(b:UInt8)(w:World)(ht:PTabs w)(Hb:¬m<19) :
  zC 95 #[zJ m,zJ b.toNat] w (zQ (zJ (qc6 m b:Nat)) w):=by
 have hT:=fun(k:Nat) (r:Step) (hk:qbh[k]?=some r)=>q2n ht.ct k r hk;have hc:decide ((m:Int)<19)=false:=by rw[yO];omega
 clear ht;by_cases hl:qbl b=true
 ·have HS:Hid (qc6 m b=lookup qbh m 97):=by show _=_;unfold qc6 qec;rw[if_neg Hb,if_pos hl]
  go_enter func95,ntmps95
  go_wp2_with (go_at_call 132;refine cm (qby b _) ?_)
  go_loop [6,35] (fun _ i=>∃k:Nat,k<=22/\i=zI k/\(qbh.take k).find? (hit m 97)=none) (fun _ i=>22 - (intOf i).toNat)
  case atStart=>exact⟨0,by omega,rfl,rfl⟩
  case round=>
   obtain⟨k,hk,rfl,hn⟩:=hrel;have HN:Hid ((qbh.take k).find? (hit m 97)=none):=hn;clear hn;by_cases ha:k<22
   ·obtain⟨r,hr⟩:∃r,qbh[k]?=some r:=⟨_,yc (show k<qbh.length from ha)⟩
    obtain⟨q0,q1,q2⟩:=hT k r hr;unfold bs at q1;have HR:Hid (qbh[k]?=some r):=hr;clear hr hT;by_cases hq:r.1=m
    ·have Ha:((r.1:Int)==(m:Int))=true:=by rw[hq];simp
     have HQ:Hid (r.1=m):=hq;clear hq;by_cases hb:among 97 r.2.1=true
     ·have HB:Hid (among 97 r.2.1=true):=hb
      clear hb;go_wp2_with (go_at_call 130;refine(qb7 97 _ r.2.1 _ rfl HB.out).mono ?_;rintro e w' ⟨x,hx,rfl,rfl⟩)
      go_ret
      exact⟨qal (by rw[HS.out,qi2 HR.out HN.out HQ.out HB.out]),rfl⟩
     ·have HB:Hid (among 97 r.2.1=false):=ye.2 hb
      clear hb;go_wp2_with (go_at_call 130;refine cm (qci 97 _ r.2.1 _ rfl HB.out) ?_)
      go_round
      case rel=>exact⟨k+1,by omega,by go_num,qdb _ k r HR.out HN.out (qpd HB.out)⟩
      case measure=>simp[intOf];omega
    ·have Ha:((r.1:Int)==(m:Int))=false:=by rw[yf];omega
     have HQ:Hid (¬r.1=m):=hq;clear hq;go_wp2
     go_round
     case rel=>exact⟨k+1,by omega,by go_num,qdb _ k r HR.out HN.out (qpe HQ.out)⟩
     case measure=>simp[intOf];omega
   ·have HE:Hid (lookup qbh m 97=0):=qi1 (show qbh.length<=k by show 22<=k;omega) HN.out
    clear hT;go_wp2
    go_ret
    exact⟨qal (by rw[HS.out,HE.out];rfl),rfl⟩
 ·have hl:=ye.2 hl
  have HS:Hid (qc6 m b=lookup qbh m b):=by show _=_;unfold qc6 qec;rw[if_neg Hb,hl];rfl
  go_enter func95,ntmps95
  go_wp2_with (go_at_call 132;refine cm (qby b _) ?_)
  go_loop [6,35] (fun _ i=>∃k:Nat,k<=22/\i=zI k/\(qbh.take k).find? (hit m b)=none) (fun _ i=>22 - (intOf i).toNat)
  case atStart=>exact⟨0,by omega,rfl,rfl⟩
  case round=>
   obtain⟨k,hk,rfl,hn⟩:=hrel;have HN:Hid ((qbh.take k).find? (hit m b)=none):=hn;clear hn;by_cases ha:k<22
   ·obtain⟨r,hr⟩:∃r,qbh[k]?=some r:=⟨_,yc (show k<qbh.length from ha)⟩
    obtain⟨q0,q1,q2⟩:=hT k r hr;unfold bs at q1;have HR:Hid (qbh[k]?=some r):=hr;clear hr hT;by_cases hq:r.1=m
    ·have Ha:((r.1:Int)==(m:Int))=true:=by rw[hq];simp
     have HQ:Hid (r.1=m):=hq;clear hq;by_cases hb:among b r.2.1=true
     ·have HB:Hid (among b r.2.1=true):=hb
      clear hb;go_wp2_with (go_at_call 130;refine(qb7 b _ r.2.1 _ rfl HB.out).mono ?_;rintro e w' ⟨x,hx,rfl,rfl⟩)
      go_ret
      exact⟨qal (by rw[HS.out,qi2 HR.out HN.out HQ.out HB.out]),rfl⟩
     ·have HB:Hid (among b r.2.1=false):=ye.2 hb
      clear hb;go_wp2_with (go_at_call 130;refine cm (qci b _ r.2.1 _ rfl HB.out) ?_)
      go_round
      case rel=>exact⟨k+1,by omega,by go_num,qdb _ k r HR.out HN.out (qpd HB.out)⟩
      case measure=>simp[intOf];omega
    ·have Ha:((r.1:Int)==(m:Int))=false:=by rw[yf];omega
     have HQ:Hid (¬r.1=m):=hq;clear hq;go_wp2
     go_round
     case rel=>exact⟨k+1,by omega,by go_num,qdb _ k r HR.out HN.out (qpe HQ.out)⟩
     case measure=>simp[intOf];omega
   ·have HE:Hid (lookup qbh m b=0):=qi1 (show qbh.length<=k by show 22<=k;omega) HN.out
    clear hT;go_wp2
    go_ret
    exact⟨qal (by rw[HS.out,HE.out];rfl),rfl⟩
theorem q4k(m:Nat)(b:UInt8)(w:World)(ht:PTabs w) :
  zC 95 #[zJ m,zJ b.toNat] w (zQ (zJ (qc6 m b:Nat)) w):=by
 by_cases h:m<19
 ·exact q4j m b w ht h
 ·exact q0b m b w ht h
def rdBl:zT:=⟨#[9,10,12,13,32]⟩
theorem q8c:∀pos,pos<5->Utf8.decode rdBl pos=((rdBl.data.toList.getD pos 0).toNat,1)/\(rdBl.data.toList.getD pos 0).toNat<128:=by
 intro pos h;rcases(show pos=0\/pos=1\/pos=2\/pos=3\/pos=4 by omega)with rfl|rfl|rfl|rfl|rfl<;>decide +kernel
theorem qq4(w:World):zC 244 #[.string ⟨#[9,10,12,13,32]⟩,.int .i32 65533] w (zR (zI (-1)) w):=by
 obtain⟨D,hD⟩:∃D:zT,D=rdBl:=⟨_,rfl⟩;have Hb:(⟨#[9,10,12,13,32]⟩:zT)=D:=by rw[hD];rfl
 rw[Hb];have he:D.size=5:=by rw[hD];rfl
 have Ha:∀pos,pos<5->∃r:Nat,Utf8.decode D pos=(r,1)/\r<128:=fun pos h=>by
  rw[hD];obtain⟨h1,h2⟩:=q8c pos h;exact⟨_,h1,h2⟩
 clear hD Hb;go_enter func244,ntmps244
 go_wp2
 go_loopw [] (fun wr=>∃pos:Nat,wr.heap[w.heap.size]?=some (.stringIter D pos)/\zW w wr/\pos<=5) (fun wr=>5 - wr.iterPos w.heap.size)
 case atStart=>exact⟨0,World.iter_heap w D 0,zB _,by omega⟩
 case round=>
  obtain⟨pos,hit,hc,He⟩:=hrel;by_cases hp:pos<D.size
  ·obtain⟨r,h1,h2⟩:=Ha pos (by omega)
   have Hc:=fun ty=>Lib.run_next_any_at (P:=prog) wr w.heap.size D pos ty hit hp;rw[h1]at Hc;have ha:=Lib.iterAt_heap wr w.heap.size D pos (pos+1) hit;have hb:=Lib.below_iterAt hc (k:=w.heap.size) (by omega) D (pos+1);have hr:((r:Int)==65533)=false:=by rw[yf];omega
   clear h1;go_wp2
   go_roundw
   case rel=>exact⟨pos+1,ha,hb,by omega⟩
   case measure=>simp only[World.iterPos,ha,hit];omega
  ·have Hc:=fun ty=>Lib.run_next_end_at (P:=prog) wr w.heap.size D pos ty hit hp
   go_wp2
   go_ret
   exact⟨rfl,hc⟩
theorem qyj(r:Int)(h1:128<=r)(hv:Utf8.valid r=true):∃n:Nat,(Utf8.encode r).size=n+1/\1<=n/\n<=3/\∀h:n<(Utf8.encode r).size,128<=((Utf8.encode r)[n]'h).toNat:=by
 have Ha:¬r.toNat<0x80:=by omega
 have ha:∀c:Nat,128<=(UInt8.ofNat (0x80+c % 64)).toNat:=fun c=>by
  rw[UInt8.toNat_ofNat'];omega
 by_cases h2:r.toNat<0x800
 ·have e:Utf8.encode r=⟨#[UInt8.ofNat (0xC0+r.toNat / 64),UInt8.ofNat (0x80+r.toNat % 64)]⟩:=by
   unfold Utf8.encode;simp only[hv,if_true];rw[if_neg Ha,if_pos h2]
  generalize Utf8.encode r=E at e |-;subst e;exact⟨1,rfl,by omega,by omega,fun _=>ha _⟩
 ·by_cases h3:r.toNat<0x10000
  ·have e:Utf8.encode r=⟨#[UInt8.ofNat (0xE0+r.toNat / 4096),UInt8.ofNat (0x80+r.toNat / 64 % 64),UInt8.ofNat (0x80+r.toNat % 64)]⟩:=by
    unfold Utf8.encode;simp only[hv,if_true];rw[if_neg Ha,if_neg h2,if_pos h3]
   generalize Utf8.encode r=E at e |-;subst e;exact⟨2,rfl,by omega,by omega,fun _=>ha _⟩
  ·have e:Utf8.encode r=⟨#[UInt8.ofNat (0xF0+r.toNat / 262144),UInt8.ofNat (0x80+r.toNat / 4096 % 64),UInt8.ofNat (0x80+r.toNat / 64 % 64),UInt8.ofNat (0x80+r.toNat % 64)]⟩:=by
    unfold Utf8.encode;simp only[hv,if_true];rw[if_neg Ha,if_neg h2,if_neg h3]
   generalize Utf8.encode r=E at e |-;subst e;exact⟨3,rfl,by omega,by omega,fun _=>ha _⟩
theorem qpr(r:Int):Lib.validRune r=Utf8.valid r:=by
 unfold Lib.validRune Utf8.valid;rw[xi];simp only[yN,yU,yL];omega
theorem zag(r:Int)(w:World):(convert 21 9 (.int .i32 r)).run prog w=.ok (.string (Utf8.encode r)) w:=by
 unfold convert;simp[run_underlying underlying21,run_underlying underlying9,Conv.intToString,Result.andThen]
theorem q51(k:Nat)(c:UInt8)(hc:128<=c.toNat):Lib.indexByte (rdBl.extract k 5).data.toList c=-1:=by
 rcases qer (rdBl.extract k 5).data.toList c with⟨_,a⟩|⟨a,_⟩
 ·exfalso
  have hm:c∈(rdBl.extract k 5).data.toList:=List.contains_iff_mem.1 (by unfold among at a;simpa using a);rw[ByteArray.data_extract,Array.toList_extract,xB]at hm;have ha:c∈rdBl.data.toList:=List.mem_of_mem_drop (List.mem_of_mem_take hm);have:∀b∈rdBl.data.toList,b.toNat<128:=by decide
  have:=this c ha;omega
 ·exact a
theorem qr6(r:Int)(w:World)(h1:128<=r)(h2:r<=1114111)(h3:r≠65533):zC 244 #[.string ⟨#[9,10,12,13,32]⟩,.int .i32 r] w (zR (zI (-1)) w):=by
 obtain⟨D,hD⟩:∃D:zT,D=rdBl:=⟨_,rfl⟩;have Hb:(⟨#[9,10,12,13,32]⟩:zT)=D:=by rw[hD];rfl
 rw[Hb];have Hg:(D.size:Int)=5:=by rw[hD];rfl
 have hv:=fun w=>utf8_ValidRune r w;have c1:¬r<128:=by omega
 have c2:(r==65533)=false:=by rw[yf];exact h3
 have c3:(0:Int)<=r:=by omega
 rw[qpr]at hv;by_cases ha:Utf8.valid r=true
 rotate_left
 ·rw[ye.2 ha]at hv
  have HV:=zH hv;clear hv ha;go_enter func244,ntmps244
  go_wp2_with (go_at_call 253;refine(HV.out _).mono ?_;rintro e w' ⟨rfl,rfl⟩)
  go_ret
  exact⟨rfl,xM _ _⟩
 ·rw[ha]at hv
  obtain⟨n,e1,e2,e3,e4⟩:=qyj r h1 ha;have hc:=zag r;generalize Utf8.encode r=E at e1 e4 hc;have e5:n<E.size:=by omega
  have he:=e4 e5;have HV:=zH hv;have hE:(E.size:Int) - 1=(n:Int):=by omega
  have hi:(n:Int)<(E.size:Int):=by omega
  have Hc:n<D.size:=by omega
  have He:D[n].toNat<128:=by
   have h0:∀b∈rdBl.data.toList,b.toNat<128:=by decide
   refine h0 _ ?_;subst hD;exact yl (i:=n) (by rw[yc (by simpa using Hc)];rfl)
  have Hi:((D[n].toNat:Int) != (E[n].toNat:Int))=true:=by rw[bne_iff_ne];omega
  have hb:=fun w=>(strings_IndexByte (D.extract (n+1) D.size) (E[n].toNat:Int) w).mono (fun _ w' h=>(⟨h.1,h.2.symm⟩:_/\w=w'));have Ha:Lib.indexByte (D.extract (n+1) D.size).data.toList (E[n].toNat:Int).toNat.toUInt8=-1:=by
   subst hD;rw[show rdBl.size=5 from rfl,Int.toNat_natCast];refine q51 _ _ ?_;rw[show(E[n].toNat.toUInt8)=E[n]from by simp];exact he
  rw[Ha]at hb;have hf:=zH hb;have hj:(n:Int)<=3:=by omega
  have Hj:(1:Int)<=(n:Int):=by omega
  have Hf:(n:Int)<5:=by omega
  clear hb Ha He hD Hb;clear hv ha e4 e1 e2 e3 he h1 h2 h3;go_enter func244,ntmps244
  go_wp2_with (go_at_call 253;refine(HV.out _).mono ?_;rintro e w' ⟨rfl,rfl⟩)
  refine wp_scope_straight ?_;go_wp2
  have hg:(n:Int)<(D.size:Int):=by omega
  have hk:(0:Int)<=(n:Int)+1:=by omega
  have Hk:(n:Int)+1<=(D.size:Int):=by omega
  have hl:(n:Int)+1<=5:=by omega
  have Hl:((n:Int)+1).toNat=n+1:=by omega
  have hm:IntKind.i64.wrap ((n:Int)+1)=(n:Int)+1:=by rw[IntKind.wrap_i64];omega
  go_loopw [9] (fun i wr=>i=zI n/\wr=w') (fun _ _=>0)
  case atStart=>exact⟨rfl,rfl⟩
  case round=>
   obtain⟨rfl,rfl⟩:=hrel;go_wp2
   refine wp_scope_straight ?_;go_wp2
   go_quiet (fail)
   go_wp2
   go_region_with (go_at_call 130;refine(hf.out _).mono ?_;rintro e w'' ⟨rfl,rfl⟩)
   go_wp2
   show Exit.noGoto _ _ _ _;simp only[Exit.noGoto];go_wp2
   simp only[Exit.noGoto];go_wp2
   go_ret
   exact⟨rfl,qat (xM _ _) _⟩
theorem qn2(r:Int)(w:World)(h1:128<=r)(h2:r<=1114111):zC 233 #[.string ⟨#[9,10,12,13,32]⟩,.int .i32 r] w (zR (.bool false) w):=by
 have hi:∀w,zC 244 #[.string ⟨#[9,10,12,13,32]⟩,.int .i32 r] w (zR (zI (-1)) w):=fun w=>by
  by_cases h3:r=65533
  ·subst h3;exact qq4 w
  ·exact qr6 r w h1 h2 h3
 have HI:=zH hi;clear hi h1 h2;go_enter func233,ntmps233
 go_wp2_with (go_at_call 244;refine(HI.out _).mono ?_;rintro e w' ⟨rfl,hb⟩)
 go_ret
 exact⟨rfl,hb⟩
theorem qur(x:Nat)(h:x<128):decide (0<=Lib.indexByte rdBl.data.toList ((x:Int).toNat.toUInt8))=qcm x:=by
 have ha:∀x∈List.range 128,decide (0<=Lib.indexByte rdBl.data.toList ((x:Int).toNat.toUInt8))=qcm x:=by decide +kernel
 exact ha x (xh.2 h)
theorem q1h(x:Nat)(w:World)(h:x<=1114111):zC 228 #[.int .i32 x] w (zR (.bool (qcm x)) w):=by
 have hi:∀w,zC 233 #[.string ⟨#[9,10,12,13,32]⟩,.int .i32 x] w (zR (.bool (qcm x)) w):=fun w=>by
  by_cases hx:x<128
  ·rw[<-qur x hx]
   refine(strings_ContainsRune_ascii rdBl x w (by omega) (by omega)).mono ?_;rintro e w' ⟨rfl,rfl⟩;exact⟨rfl,xM _ _⟩
  ·have e:qcm x=false:=by unfold qcm;rw[yO];omega
   rw[e];exact qn2 x w (by omega) (by omega)
 have HI:=zH hi;clear hi h;go_enter func228,ntmps228
 go_wp2_with (go_at_call 233;refine(HI.out _).mono ?_;rintro e w' ⟨rfl,hb⟩)
 go_ret
 exact⟨rfl,hb⟩
section
open Go.ChangeShapes Go.WideShapes Go.ChangeAt
theorem gMt:prog.globalNamed "stencil/markup.markupSteps"=some 4:=by kernel_rfl
theorem gCt:prog.globalNamed "stencil/markup.contentSteps"=some 5:=by kernel_rfl
theorem gRd:prog.globalNamed "stencil/markup.readIn"=some 1:=by kernel_rfl
theorem gOt:prog.globalNamed "stencil/markup.others"=some 2:=by kernel_rfl
theorem gEs:prog.globalNamed "stencil/markup.escapes"=some 0:=by kernel_rfl
theorem gEl:prog.globalNamed "stencil/markup.elements"=some 6:=by kernel_rfl
theorem gAt:prog.globalNamed "stencil/markup.attributes"=some 10:=by kernel_rfl
theorem gLe:prog.globalNamed "stencil/markup.longEscapes"=some 3:=by kernel_rfl
theorem tLe:(prog.globals[3]?).map (·.type)=some 252:=by kernel_rfl
theorem pLe:qgl prog 4 252=true:=by kernel_rfl
theorem dLe:qgf 4 (Rows.laid_stencil_markup_longEscapes (H:=Unit))=qqw:=rfl
theorem tMt:(prog.globals[4]?).map (·.type)=some 255:=by kernel_rfl
theorem tCt:(prog.globals[5]?).map (·.type)=some 256:=by kernel_rfl
theorem tRd:(prog.globals[1]?).map (·.type)=some 216:=by kernel_rfl
theorem tOt:(prog.globals[2]?).map (·.type)=some 216:=by kernel_rfl
theorem tEs:(prog.globals[0]?).map (·.type)=some 213:=by kernel_rfl
theorem tEl:(prog.globals[6]?).map (·.type)=some 293:=by kernel_rfl
theorem tAt:(prog.globals[10]?).map (·.type)=some 327:=by kernel_rfl
theorem pMt:qgl prog 4 255=true:=by kernel_rfl
theorem pCt:qgl prog 4 256=true:=by kernel_rfl
theorem pRd:qgl prog 4 216=true:=by kernel_rfl
theorem pEs:qgl prog 4 213=true:=by kernel_rfl
theorem pEl:qgl prog 4 293=true:=by kernel_rfl
theorem pAt:qgl prog 4 327=true:=by kernel_rfl
theorem dMt:qgf 4 (Rows.laid_stencil_markup_markupSteps (H:=Unit))=qjj qbs:=rfl
theorem dCt:qgf 4 (Rows.laid_stencil_markup_contentSteps (H:=Unit))=qjj qbh:=rfl
theorem dRd:qgf 4 (Rows.laid_stencil_markup_readIn (H:=Unit))=qih qek:=rfl
theorem dOt:qgf 4 (Rows.laid_stencil_markup_others (H:=Unit))=qih qe1:=rfl
theorem dEs:qgf 4 (Rows.laid_stencil_markup_escapes (H:=Unit))=qm4 qa2:=rfl
theorem dEl:qgf 4 (Rows.laid_stencil_markup_elements (H:=Unit))=qra:=rfl
theorem dAt:qgf 4 (Rows.laid_stencil_markup_attributes (H:=Unit))=qrq:=rfl
theorem q8t{W:World}(h:W.ShapedOpen prog):qa3 W:=
 cell_of_shapedOpen_int (zero:=#[zI 0]) h (by decide +kernel) (by kernel_rfl) rfl (by kernel_rfl) (by kernel_rfl) underlying3
end
end Go.Proofs.YtfkhljmiehdgmaaGreatDoor

/-
  Steps of the proof.
-/
import Derived.Test.YtfkhljmiehdgmaaGreatDoorCuAA
set_option maxRecDepth 100000
set_option maxHeartbeats 40000000
namespace Go.Proofs.YtfkhljmiehdgmaaGreatDoor
open Go.RowKit Go.Proofs.Tryz Pl
theorem qja(b:UInt8)(w:World) :
  zC 131 #[zJ b.toNat] w (zQ (zJ (small b).toNat) w):=by
 by_cases h1:qh5 b=true
 ·have H:Hid ((small b).toNat=(b.toNat:Int)+32):=by
   show _=_;unfold small;rw[if_pos h1];simp only[qh5,yL,yN]at h1;exact add8 b h1.2
  have hb:b.toNat<=90:=by simp only[qh5,yL,yN]at h1;exact h1.2
  have hw:IntKind.u8.wrap ((b.toNat:Int)+32)=(b.toNat:Int)+32:=by rw[IntKind.wrap_u8];omega
  go_enter func131,ntmps131
  go_wp2_with (go_at_call 181;refine cm (qps b _) ?_)
  go_ret
  exact⟨qal (by rw[H.out]),rfl⟩
 ·have h1:qh5 b=false:=ye.2 h1
  have H:Hid (small b=b):=by show _=_;unfold small;rw[h1];rfl
  go_enter func131,ntmps131
  go_wp2_with (go_at_call 181;refine cm (qps b _) ?_)
  go_ret
  exact⟨qal (by rw[H.out]),rfl⟩
theorem zb4(x:UInt8)(w:World):(convert 82 9 (zF w.heap.size 1 1)).run prog (w.alloc (.cells #[zJ x.toNat] 5))=.ok (.string ⟨#[x]⟩) (w.alloc (.cells #[zJ x.toNat] 5)):=by
 refine run_convert_bytes_back _ 82 9 5 (zO w.heap.size 0) 1 [x] underlying82 underlying5 underlying9 ?_;intro j hj
 match j,hj with
 |0,_=>simp[Addr.add]
theorem q1b(n:zU)(b:UInt8)(w:World)(h9:n.length=9) :
  zC 135 #[zV n,zJ b.toNat] w (zQ (zV (qc8 n b)) w):=by
 have hz:(ByteArray.mk n.toArray).size=n.length:=by simp[ByteArray.size]
 have H:Hid (qc8 n b=n):=by show _=_;unfold qc8;rw[if_pos h9]
 go_enter func135,ntmps135
 go_wp2
 go_ret
 exact⟨qcl (by rw[H.out]),rfl⟩
theorem q1a(n:zU)(b:UInt8)(w:World)(hn:n.length<=9)(h9:¬n.length=9) :
  zC 135 #[zV n,zJ b.toNat] w fun e w'=>e=.returned (zV (qc8 n b))/\w.alloc (.cells #[zJ (small b).toNat] 5)=w':=by
 have hz:(ByteArray.mk n.toArray).size=n.length:=by simp[ByteArray.size]
 have H:Hid (qc8 n b=n++[small b]):=by show _=_;unfold qc8;rw[if_neg h9]
 have ha:=zb4 (small b) w;go_enter func135,ntmps135
 go_wp2_with (go_at_call 131;refine cm (qja b _) ?_)
 go_ret
 exact⟨qcl (by rw[H.out];apply xj;simp),rfl⟩
theorem qgy{n l:zU}(h:(l==n)=true)(hl:l=qd1\/l=qg0\/l=qcx\/l=qcz):qaw n=n:=by
 rw[yF]at h;subst h;unfold qaw;rw[if_pos hl]
theorem qyk{n:zU}(h1:(qd1==n)=false)(h2:(qg0==n)=false)(h3:(qcx==n)=false)(h4:(qcz==n)=false):qaw n=[]:=by
 rw[yf]at h1 h2 h3 h4;unfold qaw;rw[if_neg];rintro(e|e|e|e)
 ·exact h1 e.symm
 ·exact h2 e.symm
 ·exact h3 e.symm
 ·exact h4 e.symm
theorem qvr(n:zU)(w:World)(ht:PTabs w) :
  zC 185 #[zV n] w (zQ (zV (qaw n)) w):=by
 have c0:=(qe7 ht.el 0 _ rfl).1;have c1:=(qe7 ht.el 1 _ rfl).1;have c2:=(qe7 ht.el 2 _ rfl).1;have c3:=(qe7 ht.el 3 _ rfl).1;simp only[bs,qd1,qg0,qcx,qcz,Nat.mul_zero,Nat.reduceMul]at c0 c1 c2 c3;clear ht;go_enter func185,ntmps185
 go_wp2
 go_loop [3,4] (fun _ i=>∃k:Nat,k<=4/\i=zI k/\(1<=k->(qd1==n)=false)/\(2<=k->(qg0==n)=false)/\(3<=k->(qcx==n)=false)/\(4<=k->(qcz==n)=false)) (fun _ i=>4 - (intOf i).toNat)
 case atStart=>exact⟨0,by omega,rfl,by omega,by omega,by omega,by omega⟩
 case round=>
  obtain⟨k,hk,rfl,h1,h2,h3,h4⟩:=hrel;have H1:Hid (1<=k->(qd1==n)=false):=h1;have H2:Hid (2<=k->(qg0==n)=false):=h2;have H3:Hid (3<=k->(qcx==n)=false):=h3;have H4:Hid (4<=k->(qcz==n)=false):=h4;clear h1 h2 h3 h4;rcases(show k=0\/k=1\/k=2\/k=3\/k=4 by omega)with rfl|rfl|rfl|rfl|rfl
  ·by_cases hq:([116,105,116,108,101]==n)=true
   ·have HV:Hid (qaw n=n):=qgy hq (.inl rfl)
    go_wp2
    go_ret
    exact⟨qcl (by rw[HV.out]),rfl⟩
   ·have hq:=ye.2 hq
    have HQ:Hid ((qd1==n)=false):=hq;go_wp2
    go_round
    case rel=>exact⟨1,by omega,rfl,fun _=>HQ.out,by omega,by omega,by omega⟩
    case measure=>simp[intOf]
  ·by_cases hq:([116,101,120,116,97,114,101,97]==n)=true
   ·have HV:Hid (qaw n=n):=qgy hq (.inr (.inl rfl))
    go_wp2
    go_ret
    exact⟨qcl (by rw[HV.out]),rfl⟩
   ·have hq:=ye.2 hq
    have HQ:Hid ((qg0==n)=false):=hq;go_wp2
    go_round
    case rel=>exact⟨2,by omega,rfl,fun _=>H1.out (by omega),fun _=>HQ.out,by omega,by omega⟩
    case measure=>simp[intOf]
  ·by_cases hq:([115,99,114,105,112,116]==n)=true
   ·have HV:Hid (qaw n=n):=qgy hq (.inr (.inr (.inl rfl)))
    go_wp2
    go_ret
    exact⟨qcl (by rw[HV.out]),rfl⟩
   ·have hq:=ye.2 hq
    have HQ:Hid ((qcx==n)=false):=hq;go_wp2
    go_round
    case rel=>exact⟨3,by omega,rfl,fun _=>H1.out (by omega),fun _=>H2.out (by omega),fun _=>HQ.out,by omega⟩
    case measure=>simp[intOf]
  ·by_cases hq:([115,116,121,108,101]==n)=true
   ·have HV:Hid (qaw n=n):=qgy hq (.inr (.inr (.inr rfl)))
    go_wp2
    go_ret
    exact⟨qcl (by rw[HV.out]),rfl⟩
   ·have hq:=ye.2 hq
    have HQ:Hid ((qcz==n)=false):=hq;go_wp2
    go_round
    case rel=>exact⟨4,by omega,rfl,fun _=>H1.out (by omega),fun _=>H2.out (by omega),fun _=>H3.out (by omega),fun _=>HQ.out⟩
    case measure=>simp[intOf]
  ·have HV:Hid (qaw n=[]):=qyk (H1.out (by omega)) (H2.out (by omega)) (H3.out (by omega)) (H4.out (by omega))
   go_wp2
   go_ret
   exact⟨qcl (by rw[HV.out]),rfl⟩
theorem qzs{n:zU}(h:(qd1==n)=true):qad n=⟨19,[],n,0,0,false⟩:=by
 rw[yF]at h;subst h;rfl
theorem qzr{n:zU}(h:(qg0==n)=true):qad n=⟨19,[],n,0,0,false⟩:=by
 rw[yF]at h;subst h;rfl
theorem qzq{n:zU}(h:(qcx==n)=true):qad n=⟨20,[],n,0,0,false⟩:=by
 rw[yF]at h;subst h;rfl
theorem qzp{n:zU}(h:(qcz==n)=true):qad n=⟨28,[],n,0,0,false⟩:=by
 rw[yF]at h;subst h;rfl
theorem q6z{n:zU}(h1:(qd1==n)=false)(h2:(qg0==n)=false)(h3:(qcx==n)=false)(h4:(qcz==n)=false):qad n=⟨1,[],[],0,0,false⟩:=by
 rw[yf]at h1 h2 h3 h4;have:qav n=1:=by unfold qav;rw[if_neg (Ne.symm h1),if_neg (Ne.symm h2),if_neg (Ne.symm h3),if_neg (Ne.symm h4)]
 unfold qad;rw[if_pos this]
def qaf(x:Sx):Array Value:=#[zJ (x.st.mode:Int),bs x.st.name,bs x.st.elem,zI x.st.kind,zI (x.st.read:Int),.bool x.ma.ref,.bool x.st.esc,zI x.ma.hex,zI x.ma.pct,zI x.ma.far]
def qar(x:Sx):Value:=.agg (qaf x)
def qgg(k:Mk)(esc:Bool):Array Value:=#[.bool k.ref,.bool esc,zI k.hex,zI k.pct,zI k.far]
def qu5(k:Mk)(esc:Bool):Value:=.agg (qgg k esc)
theorem q34(n:zU)(w:World)(ht:PTabs w) :
  zC 136 #[zV n] w fun e w'=>e=.returned (qar ⟨qad n,Mk.none⟩)/\w.alloc (.cells (qaf ⟨qad n,Mk.none⟩) 162)=w':=by
 have ha:=fun o=>ht.kept ((xM _ w).alloc (yg _) o);have c0:=fun o=>(qe7 (ha o).el 0 _ rfl).1;have c1:=fun o=>(qe7 (ha o).el 1 _ rfl).1;have c2:=fun o=>(qe7 (ha o).el 2 _ rfl).1;have c3:=fun o=>(qe7 (ha o).el 3 _ rfl).1;have d0:=fun o=>(qe7 (ha o).el 0 _ rfl).2;have d1:=fun o=>(qe7 (ha o).el 1 _ rfl).2;have d2:=fun o=>(qe7 (ha o).el 2 _ rfl).2;have d3:=fun o=>(qe7 (ha o).el 3 _ rfl).2;simp only[bs,qd1,qg0,qcx,qcz,Nat.mul_zero,Nat.reduceMul,Nat.reduceAdd]at c0 c1 c2 c3 d0 d1 d2 d3;clear ht ha;go_enter func136,ntmps136
 go_wp2
 go_loop [3,4] (fun _ i=>∃k:Nat,k<=4/\i=zI k/\(1<=k->(qd1==n)=false)/\(2<=k->(qg0==n)=false)/\(3<=k->(qcx==n)=false)/\(4<=k->(qcz==n)=false)) (fun _ i=>4 - (intOf i).toNat)
 case atStart=>exact⟨0,by omega,rfl,by omega,by omega,by omega,by omega⟩
 case round=>
  obtain⟨k,hk,rfl,h1,h2,h3,h4⟩:=hrel;have H1:Hid (1<=k->(qd1==n)=false):=h1;have H2:Hid (2<=k->(qg0==n)=false):=h2;have H3:Hid (3<=k->(qcx==n)=false):=h3;have H4:Hid (4<=k->(qcz==n)=false):=h4;clear h1 h2 h3 h4;rcases(show k=0\/k=1\/k=2\/k=3\/k=4 by omega)with rfl|rfl|rfl|rfl|rfl
  ·by_cases hq:([116,105,116,108,101]==n)=true
   ·have HV:Hid (qad n=⟨19,[],n,0,0,false⟩):=qzs hq
    go_wp2
    refine qb8 results136 w.heap.size _ _ underlying162 rfl rfl (xG _ _) (by kernel_rfl) rfl ?_;exact⟨yE Ending.returned (by rw[HV.out];rfl),by rw[HV.out];rfl⟩
   ·have hq:=ye.2 hq
    have HQ:Hid ((qd1==n)=false):=hq;go_wp2
    go_round
    case rel=>exact⟨1,by omega,rfl,fun _=>HQ.out,by omega,by omega,by omega⟩
    case measure=>simp[intOf]
  ·by_cases hq:([116,101,120,116,97,114,101,97]==n)=true
   ·have HV:Hid (qad n=⟨19,[],n,0,0,false⟩):=qzr hq
    go_wp2
    refine qb8 results136 w.heap.size _ _ underlying162 rfl rfl (xG _ _) (by kernel_rfl) rfl ?_;exact⟨yE Ending.returned (by rw[HV.out];rfl),by rw[HV.out];rfl⟩
   ·have hq:=ye.2 hq
    have HQ:Hid ((qg0==n)=false):=hq;go_wp2
    go_round
    case rel=>exact⟨2,by omega,rfl,fun _=>H1.out (by omega),fun _=>HQ.out,by omega,by omega⟩
    case measure=>simp[intOf]
  ·by_cases hq:([115,99,114,105,112,116]==n)=true
   ·have HV:Hid (qad n=⟨20,[],n,0,0,false⟩):=qzq hq
    go_wp2
    refine qb8 results136 w.heap.size _ _ underlying162 rfl rfl (xG _ _) (by kernel_rfl) rfl ?_;exact⟨yE Ending.returned (by rw[HV.out];rfl),by rw[HV.out];rfl⟩
   ·have hq:=ye.2 hq
    have HQ:Hid ((qcx==n)=false):=hq;go_wp2
    go_round
    case rel=>exact⟨3,by omega,rfl,fun _=>H1.out (by omega),fun _=>H2.out (by omega),fun _=>HQ.out,by omega⟩
    case measure=>simp[intOf]
  ·by_cases hq:([115,116,121,108,101]==n)=true
   ·have HV:Hid (qad n=⟨28,[],n,0,0,false⟩):=qzp hq
    go_wp2
    refine qb8 results136 w.heap.size _ _ underlying162 rfl rfl (xG _ _) (by kernel_rfl) rfl ?_;exact⟨yE Ending.returned (by rw[HV.out];rfl),by rw[HV.out];rfl⟩
   ·have hq:=ye.2 hq
    have HQ:Hid ((qcz==n)=false):=hq;go_wp2
    go_round
    case rel=>exact⟨4,by omega,rfl,fun _=>H1.out (by omega),fun _=>H2.out (by omega),fun _=>H3.out (by omega),fun _=>HQ.out⟩
    case measure=>simp[intOf]
  ·have HV:Hid (qad n=⟨1,[],[],0,0,false⟩):=q6z (H1.out (by omega)) (H2.out (by omega)) (H3.out (by omega)) (H4.out (by omega))
   go_wp2
   refine qb8 results136 w.heap.size _ _ underlying162 rfl rfl (xG _ _) (by kernel_rfl) rfl ?_;exact⟨yE Ending.returned (by rw[HV.out];rfl),by rw[HV.out];rfl⟩
end Go.Proofs.YtfkhljmiehdgmaaGreatDoor

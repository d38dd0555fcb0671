/-
  Steps of the proof (texts laid together, blanks left out): PgWX, KpC, KpD, KpE.
-/
import Derived.Test.YtfkhljmiehdgmaaGreatDoorTaAE
import Derived.Test.YtfkhljmiehdgmaaGreatDoorTaBX
import Derived.Test.YtfkhljmiehdgmaaGreatDoorTaBQ
import Derived.Test.YtfkhljmiehdgmaaGreatDoorTaBP
import Derived.Test.YtfkhljmiehdgmaaGreatDoorTaBO
import Derived.Test.YtfkhljmiehdgmaaGreatDoorTaBN
import Derived.Test.YtfkhljmiehdgmaaGreatDoorTaBV
import Derived.Test.YtfkhljmiehdgmaaGreatDoorTaBU
import Derived.Test.YtfkhljmiehdgmaaGreatDoorTaBW
import Derived.Test.YtfkhljmiehdgmaaGreatDoorTaBS
import Derived.Test.YtfkhljmiehdgmaaGreatDoorTaBR
import Derived.Test.YtfkhljmiehdgmaaGreatDoorTaBT
import Derived.Test.YtfkhljmiehdgmaaGreatDoorTaBJ
import Derived.Test.YtfkhljmiehdgmaaGreatDoorTaBK
namespace Go.Proofs.YtfkhljmiehdgmaaGreatDoor
open Go.RowKit
theorem qp4 (x:Pl.Sx) (b:UInt8) (w:World) (ht:PTabs w) (h:Pl.SxOk x) :
  Calls Tryz.prog 63 #[qad x,.int .u8 b.toNat] w fun e w'=>e=.returned (qad (x.behind b))∧Below w.heap.size w w':=by
 obtain⟨s,k⟩:=x
 have hx:-1000≤k.hex∧k.hex≤1000:=by have:=h.ma.hex; simp only at this; omega
 have hy:-1000≤k.pct∧k.pct≤1000:=by have:=h.ma.pct; simp only at this; omega
 have h:=h.st
 simp only at h
 have hn:=h.name
 have hhi:=h.hi
 have hs:s.elem.length≤1000:=by have:=Pl.qyo h.elem; omega
 have hR1:=Pl.qx8 s.mode hhi
 by_cases hm:19≤s.mode
 ·by_cases he:s.ends b=true
  ·exact qwf s k b w ht hhi hs hm he
  ·have he:=Bool.eq_false_iff.2 he
   by_cases hesc:Pl.qat.getD s.mode false=true
   ·by_cases hx0:s.esc=true
    ·exact qwd s k b w ht hhi hs hm he hesc hx0
    ·have hx0:=Bool.eq_false_iff.2 hx0
     by_cases hb:(b==92)=true
     ·exact qwe s k b w ht hhi hs hm he hesc hx0 hb
     ·have hb:=Bool.eq_false_iff.2 hb
      by_cases hT:Pl.qa1 s.mode b=0
      ·exact qo2 s k b w ht hn hhi hx hy hs hm he hesc hx0 hb hT (Pl.q4f s.mode hhi hesc)
      ·exact qo3 s k b w ht hn hhi hx hy hs hm he hesc hx0 hb hT
   ·have hesc:=Bool.eq_false_iff.2 hesc
    have hx0:=h.calm hesc
    by_cases hT:Pl.qa1 s.mode b=0
    ·by_cases hR:Pl.qbi.getD s.mode 0=0
     ·exact qrn s k b w ht hn hhi hx hy hs hm he hesc hx0 hT hR
     ·by_cases hT1:Pl.qa1 (Pl.qbi.getD s.mode 0) b=0
      ·exact qrl s k b w ht hn hhi hx hy hs hm he hesc hx0 _ hT rfl hR hR1.2 hR1.1 hT1
      ·exact qrm s k b w ht hn hhi hx hy hs hm he hesc hx0 _ hT rfl hR hR1.2 hR1.1 hT1
    ·exact qro s k b w ht hn hhi hx hy hs hm he hesc hx0 hT
 ·have hesc:=Pl.q64 s.mode (by omega)
  have hx0:=h.calm hesc
  by_cases hT:Pl.qa1 s.mode b=0
  ·by_cases hR:Pl.qbi.getD s.mode 0=0
   ·exact qt7 s k b w ht hn hhi hx hy hm hesc hx0 hT hR
   ·by_cases hT1:Pl.qa1 (Pl.qbi.getD s.mode 0) b=0
    ·exact qt5 s k b w ht hn hhi hx hy hm hesc hx0 _ hT rfl hR hR1.2 hR1.1 hT1
    ·exact qt6 s k b w ht hn hhi hx hy hm hesc hx0 _ hT rfl hR hR1.2 hR1.1 hT1
  ·exact qt8 s k b w ht hn hhi hx hy hm hesc hx0 hT
def TplV (w:World) (g:Nat) (vv:Value) (r:List (Nat×List Int)×List Pl.Src):Prop:=
 w.cell? ⟨g,0,none⟩=some vv∧∃ bv cap,vv=.slice (some ⟨bv,0,none⟩) r.1.length cap∧bv<w.heap.size∧∀ v,v<r.1.length→∃ po pcap gm,ViOne w ⟨[],r.2,r.1,0,0⟩ v po pcap gm ∧
  w.cell? ⟨bv,v*2,none⟩=some (.slice po (Pl.Ev.parts ⟨[],r.2,r.1,0,0⟩ v).length pcap)∧w.cell? ⟨bv,v*2+1,none⟩=some (.slice (some ⟨gm,0,none⟩) (Pl.Ev.parts ⟨[],r.2,r.1,0,0⟩ v).length (Pl.Ev.parts ⟨[],r.2,r.1,0,0⟩ v).length)
theorem TplV.below {w w':World} {g:Nat} {vv:Value} {r:List (Nat×List Int)×List Pl.Src} (h:TplV w g vv r) (hb:Below w.heap.size w w'):TplV w' g vv r:=by
 obtain⟨h1,bv,cap,h2,h3,h4⟩:=h
 refine⟨(hb.cell (p:=⟨g,0,none⟩) (qh1 h1)).trans h1,bv,cap,h2,Nat.lt_of_lt_of_le h3 hb.size,fun v hv=>?_⟩
 obtain⟨po,pcap,gm,k1,k2,k3⟩:=h4 v hv
 refine⟨po,pcap,gm,⟨fun j q hq=>?_,(k1.below hb).2,Nat.lt_of_lt_of_le k1.lt hb.size⟩,(hb.cell (p:=⟨bv,v*2,none⟩) h3).trans k2,(hb.cell (p:=⟨bv,v*2+1,none⟩) h3).trans k3⟩
 obtain⟨b,b1,b2,b3⟩:=k1.part j q hq
 exact⟨b,b1,Nat.lt_of_lt_of_le b2 hb.size,(hb.cell (p:=⟨b,j,none⟩) b2).trans b3⟩
theorem qo7 (F:Fix):∀(M:List Nat) (l:List (Nat×List Int)) (v:Nat) (x:Nat×List Int) (g:Nat),l[v]?=some x→M[v]?=some g→(qc5 F M l)[v*2]?=some (F.pv x.1)∧(qc5 F M l)[v*2+1]?=some (.slice (some ⟨g,0,none⟩) x.2.length x.2.length)
 | [],_,v,x,g,_,h=>by simp at h
 | _::_,[],v,x,g,h,_=>by simp at h
 | m::M,y::l,0,x,g,h1,h2=>by
   simp at h1 h2
   subst h1 h2
   exact⟨rfl,rfl⟩
 | m::M,y::l,v+1,x,g,h1,h2=>by
   have:=qo7 F M l v x g (by simpa using h1) (by simpa using h2)
   rw[show (v+1)*2=v*2+2 by omega]
   exact this
theorem q5l {w:World} {B:Nat} {p:Value} {r:List (Nat×List Int)×List Pl.Src} (h:q8l w B p r) (hr:0<r.1.length) (hk:Pl.Ev.Ok ⟨[],r.2,r.1,0,0⟩):∃ g vv,p=.pointer (some ⟨g,0,none⟩)∧TplV w g vv r:=by
 obtain⟨g,F,vv,M,s,B',hp,hg,_,hs,hv⟩:=h
 have hl:0<s.vis.length:=by rw[hv]; exact hr
 obtain⟨bv,cap,hvv,_,hlt⟩:=qao hs.row hl
 refine⟨g,vv,hp,qaa hg 0 vv rfl,bv,cap,by rw[hvv,hv],hlt,fun v hv1=>?_⟩
 obtain⟨x,hx⟩:∃ x,r.1[v]?=some x:=⟨_,List.getElem?_eq_getElem hv1⟩
 have hxs:s.vis[v]?=some x:=by rw[hv]; exact hx
 have hMl:v<M.length:=by rw[hs.len,hv]; exact hv1
 obtain⟨gm,hgm⟩:∃ gm,M[v]?=some gm:=⟨_,List.getElem?_eq_getElem hMl⟩
 obtain⟨sr,hsr,hlen⟩:=hk.src v x hx
 have hsr:r.2[x.1]?=some sr:=hsr
 have hparts:Pl.Ev.parts ⟨[],r.2,r.1,0,0⟩ v=sr.parts:=by
  unfold Pl.Ev.parts
  simp only[hx,hsr]
 have hmarks:Pl.Ev.marks ⟨[],r.2,r.1,0,0⟩ v=x.2:=by
  unfold Pl.Ev.marks
  simp only[hx]
 have hrow:=hs.se.src.row x.1 sr hsr
 obtain⟨po,pcap,hpo⟩:=qcd hrow
 obtain⟨c1,c2⟩:=qo7 F M s.vis v x gm hxs hgm
 have hrow2:=hs.row
 rw[hvv]at hrow2
 have d1:=qb9 hrow2 _ _ c1
 have d2:=qb9 hrow2 _ _ c2
 obtain⟨m1,_⟩:=hs.marks v gm x hgm hxs
 rw[hpo]at d1 hrow
 rw[hlen]at d2
 refine⟨po,pcap,gm,⟨fun j q hq=>?_,fun j m hm=>?_,(Array.getElem?_eq_some_iff.1 m1).1⟩,by rw[hparts]; exact d1,by rw[hparts]; exact d2⟩
 ·rw[hparts]at hq
  have hpos:0<sr.parts.length:=by
   rcases Nat.eq_zero_or_pos sr.parts.length with hz | hz
   ·rw[List.eq_nil_of_length_eq_zero hz]at hq; simp[qbq]at hq
   ·exact hz
  obtain⟨b,cap',hf,_,hbl⟩:=qao hrow hpos
  injection hf with e1 _ _
  subst e1
  exact⟨b,rfl,hbl,qb9 hrow j q hq⟩
 ·rw[hmarks]at hm
  refine qaa m1 j _ ?_
  show (qea x.2)[j]?=_
  unfold qea
  rw[List.getElem?_map,hm]
  rfl
structure KW (w:World):Prop where
 tabs:PTabs w
 ml:qay w
 esc:Tabs w
 pow:quj w
 powB:14<w.heap.size
theorem KW.kept {w w':World} (h:KW w) (hb:Below w.heap.size w w'):KW w':=
 ⟨h.tabs.kept hb,(let ⟨m,hm⟩:=h.ml; ⟨m,(hb.cell (qh1 hm)).trans hm⟩),h.esc.kept hb h.esc.lt,h.pow.below hb h.powB,Nat.lt_of_lt_of_le h.powB hb.size⟩
theorem q5c {w:World} {g:Nat} {vv dv:Value} {t:List UInt8} {P:List (List UInt8×List UInt8)} (hk:KW w) (hc:(Pl.qbe t P).2.code=0) (hV:TplV w g vv (Pl.qbe t P).1) (D:List Pl.Dt) (depth room:Int) (hD:DsAt w.heap.size w dv D) (hn:∀ d∈D,-9223372036854775808≤d.n∧d.n≤9223372036854775807)
  (hr:room≤9223372036854775807) (hd:0≤depth∧depth≤50) (hs:∀ p,(Pl.qcf (Pl.qbb D p)).length≤4000000) (M:Nat) (hM:5001*M≤140737488355328) (hsm:Pl.Ev.Small ⟨D,(Pl.qbe t P).1.2,(Pl.qbe t P).1.1,depth,room⟩ M) :
  Evm w vv dv ⟨D,(Pl.qbe t P).1.2,(Pl.qbe t P).1.1,depth,room⟩ M∧0<(Pl.qbe t P).1.1.length:=by
 obtain⟨h1,h2,h3,h4⟩:=qq0 t P hc ⟨D,(Pl.qbe t P).1.2,(Pl.qbe t P).1.1,depth,room⟩ rfl rfl
 obtain⟨_,bv,cap,k1,k2,k3⟩:=hV
 refine⟨⟨h1,hsm,hM,hD,hn,hk.pow,hk.powB,hk.ml,hk.esc,hr,hd,fun p=>Nat.le_trans (hs p) (by omega),fun v p hp=>Nat.le_trans (h4 v p hp) (by omega),bv,cap,k1,k2,fun v hv=>?_⟩,h2⟩
 obtain⟨po,pcap,gm,q1,q2,q3⟩:=k3 v hv
 exact⟨po,pcap,gm,⟨q1.part,q1.mark,q1.lt⟩,q2,q3⟩
def qql:List UInt8:=[60,98,32,116,105,116,108,101,61,34,123,123,97,125,125,34,62,123,123,97,125,125,60,47,98,62]
def q5v:List UInt8:=[60,98,32,116,105,116,108,101,61,34,120,38,108,116,59,121,34,62,120,38,108,116,59,121,60,47,98,62]
def qkz:List Pl.Dt:=[⟨5,0,[],[1],[[97]]⟩,⟨3,0,[120,60,121],[],[]⟩]
theorem qmy:(Pl.qbe qql []).2=Pl.Ft.none:=Pl.qsx (by decide +kernel) (by decide +kernel)
def qxw:Pl.Ev:=⟨qkz,(Pl.qbe qql []).1.2,(Pl.qbe qql []).1.1,0,-1⟩
theorem qz9:(qxw.page).2=0∧(qxw.page).1.out=q5v∧(qxw.page).1.holes=[(10,16,1),(18,24,1)]:=by
 refine⟨?_,?_,?_⟩<;>decide +kernel
theorem qlq (T:ByteArray) (w:World) (hk:KW w) (hf:(Pl.qbe T.data.toList []).2=Pl.Ft.none) :
  Calls Tryz.prog 12 #[.string T,.slice none 0 0] w fun ed w'=>(∃ g vv,ed=.returned (.tuple #[.pointer (some ⟨g,0,none⟩),.agg #[.int .i64 0,.int .i64 0,.string ⟨#[]⟩,.int .i64 0]])∧TplV w' g vv (Pl.qbe T.data.toList []).1)∧Below w.heap.size w w':=by
 refine(qoc qp4 T (.slice none 0 0) [] w ⟨none,0,rfl,Nat.le_refl _,Nat.zero_le _,fun h=>absurd rfl h⟩ hk.tabs hk.ml (qlh _) (fun p hp=>by cases hp)).mono ?_
 rintro ed w' ⟨⟨p,h1,_,h3⟩,hb⟩
 have e:qa9 []=[]:=rfl
 rw[e]at h1 h3
 rw[hf,qy8]at h1
 have hc:(Pl.qbe T.data.toList []).2.code=0:=by rw[hf]; rfl
 have hT:=h3 hc
 obtain⟨k1,k2,_,_⟩:=qq0 T.data.toList [] hc ⟨[],(Pl.qbe T.data.toList []).1.2,(Pl.qbe T.data.toList []).1.1,0,0⟩ rfl rfl
 obtain⟨g,vv,hp,hV⟩:=q5l hT k2 k1
 exact⟨⟨g,vv,by rw[h1,hp],hV⟩,hb⟩
theorem qxv:qxw.Small 1000000:=by
 constructor
 ·intro v p hp
  have hc:(Pl.qbe qql []).2.code=0:=by rw[qmy]; rfl
  have:=(qq0 qql [] hc qxw rfl rfl).2.2.2 v p hp
  omega
 ·intro a p
  have h1:=Pl.qfm a (Pl.qcf (Pl.qbb qkz p))
  have h2:(Pl.qcf (Pl.qbb qkz p)).length≤3:=by
   match p with
   | none=>decide
   | some 0=>decide
   | some 1=>decide
   | some (k+2)=>show (Pl.qcf ((qkz).getD (k+2) Pl.Dt.null)).length≤3; simp[qkz,Pl.qcf,Pl.Dt.null]
  show (Pl.qan a (Pl.qcf (Pl.qbb qkz p))).length≤_
  omega
theorem qve (w:World) (hk:KW w) (g:Nat) (vv dv:Value) (hV:TplV w g vv (Pl.qbe qql []).1) (hD:DsAt w.heap.size w dv qkz) :
  Calls Tryz.prog 19 #[.pointer (some ⟨g,0,none⟩),dv,.int .i64 0,.int .i64 (-1)] w fun ed w'=>
   ∃ hb cap,ed=.returned (.tuple #[.string ⟨q5v.toArray⟩,.slice (some ⟨hb,0,none⟩) 2 cap,.int .i64 0])∧(w'.cell? ⟨hb,0,none⟩=some (.int .i64 10)∧w'.cell? ⟨hb,1,none⟩=some (.int .i64 16)∧w'.cell? ⟨hb,2,none⟩=some (.int .i64 1)∧w'.cell? ⟨hb,3,none⟩=some (.int .i64 18))∧Below w.heap.size w w':=by
 have hc:(Pl.qbe qql []).2.code=0:=by rw[qmy]; rfl
 obtain⟨hE,h0⟩:=q5c hk hc hV qkz 0 (-1) hD (by decide) (by omega) (by omega) (fun p=>by
  have h2:(Pl.qcf (Pl.qbb qkz p)).length≤3:=by
   match p with
   | none=>decide
   | some 0=>decide
   | some 1=>decide
   | some (k+2)=>show (Pl.qcf ((qkz).getD (k+2) Pl.Dt.null)).length≤3; simp[qkz,Pl.qcf,Pl.Dt.null]
  omega) 1000000 (by omega) qxv
 refine(qpe hE h0 hV.1 qxw.page rfl).mono ?_
 rintro ed w' ⟨hvv,rfl,_,h2,h3⟩
 obtain⟨p1,p2,p3⟩:=qz9
 have hrow:=h2 p1
 rw[p3]at hrow
 obtain⟨hb,cap,hf,_,_⟩:=qao hrow (by decide)
 rw[hf]at hrow
 refine⟨hb,cap,by rw[p1,p2,hf]; rfl,⟨qb9 hrow 0 _ rfl,qb9 hrow 1 _ rfl,qb9 hrow 2 _ rfl,qb9 hrow 3 _ rfl⟩,h3⟩
theorem q0a (w:World) (o:Obj):DsAt ((((w.alloc o).alloc (.cells #[.int .i64 1] 3)).alloc (.cells #[.string ⟨#[97]⟩] 9)).alloc
  (.cells #[.int .i64 5,.int .i64 0,.string ⟨#[]⟩,.slice (some ⟨w.heap.size+1,0,none⟩) 1 1,.slice (some ⟨w.heap.size+1+1,0,none⟩) 1 1,.int .i64 3,.int .i64 0,.string ⟨#[120,60,121]⟩,.slice none 0 0,.slice none 0 0] 67)).heap.size
  ((((w.alloc o).alloc (.cells #[.int .i64 1] 3)).alloc (.cells #[.string ⟨#[97]⟩] 9)).alloc
  (.cells #[.int .i64 5,.int .i64 0,.string ⟨#[]⟩,.slice (some ⟨w.heap.size+1,0,none⟩) 1 1,.slice (some ⟨w.heap.size+1+1,0,none⟩) 1 1,.int .i64 3,.int .i64 0,.string ⟨#[120,60,121]⟩,.slice none 0 0,.slice none 0 0] 67)) (.slice (some ⟨w.heap.size+1+1+1,0,none⟩) 2 2) qkz:=by
 obtain⟨w1,hw1⟩:∃ w1,w1=w.alloc o:=⟨_,rfl⟩
 have z1:w1.heap.size=w.heap.size+1:=by rw[hw1,qbd]
 obtain⟨w2,hw2⟩:∃ w2,w2=w1.alloc (.cells #[.int .i64 1] 3):=⟨_,rfl⟩
 have z2:w2.heap.size=w.heap.size+1+1:=by rw[hw2,qbd,z1]
 obtain⟨w3,hw3⟩:∃ w3,w3=w2.alloc (.cells #[.string ⟨#[97]⟩] 9):=⟨_,rfl⟩
 have z3:w3.heap.size=w.heap.size+1+1+1:=by rw[hw3,qbd,z2]
 have b1:w2.heap[w.heap.size+1]?=some (.cells #[.int .i64 1] 3 (0,0)):=by rw[← z1,hw2]; exact heap_alloc_new w1 _
 have b2:w3.heap[w.heap.size+1+1]?=some (.cells #[.string ⟨#[97]⟩] 9 (0,0)):=by rw[← z2,hw3]; exact heap_alloc_new w2 _
 have b1':w3.heap[w.heap.size+1]?=some (.cells #[.int .i64 1] 3 (0,0)):=by rw[hw3,heap_alloc_old w2 _ (by rw[z2]; omega)]; exact b1
 rw[← hw1,← hw2,← hw3]
 generalize hO:Obj.cells #[.int .i64 5,.int .i64 0,.string ⟨#[]⟩,.slice (some ⟨w.heap.size+1,0,none⟩) 1 1,.slice (some ⟨w.heap.size+1+1,0,none⟩) 1 1,.int .i64 3,.int .i64 0,.string ⟨#[120,60,121]⟩,.slice none 0 0,.slice none 0 0] 67=O
 have z4:(w3.alloc O).heap.size=w.heap.size+1+1+1+1:=by rw[qbd,z3]
 have b3:(w3.alloc O).heap[w.heap.size+1+1+1]?=some O:=by rw[← z3]; exact heap_alloc_new w3 _
 have b1:(w3.alloc O).heap[w.heap.size+1]?=some (.cells #[.int .i64 1] 3 (0,0)):=by rw[heap_alloc_old w3 _ (by rw[z3]; omega)]; exact b1'
 have b2:(w3.alloc O).heap[w.heap.size+1+1]?=some (.cells #[.string ⟨#[97]⟩] 9 (0,0)):=by rw[heap_alloc_old w3 _ (by rw[z3]; omega)]; exact b2
 have c:=qaa (b3.trans (congrArg some hO.symm))
 have d1:=qaa b1
 have d2:=qaa b2
 rw[z4]
 refine⟨_,2,rfl,by decide,by decide,fun _=>⟨_,rfl,by omega,fun k x hx=>?_⟩⟩
 match k,hx with
 | 0,hx=>
   injection hx with hx
   subst hx
   refine⟨c 0 _ rfl,c 1 _ rfl,c 2 _ rfl,_,_,c 3 _ rfl,c 4 _ rfl,⟨_,1,rfl,by decide,fun _=>⟨_,rfl,by omega,fun j y hy=>?_⟩⟩,⟨_,1,rfl,by decide,fun _=>⟨_,rfl,by omega,fun j y hy=>?_⟩⟩⟩
   ·exact d1 j y hy
   ·exact d2 j y hy
 | 1,hx=>
   injection hx with hx
   subst hx
   exact⟨c 5 _ rfl,c 6 _ rfl,c 7 _ rfl,_,_,c 8 _ rfl,c 9 _ rfl,qc3 _ _,qc3 _ _⟩
 | k+2,hx=>simp[qkz]at hx
theorem qvf {w w1:World} (hk:KW w) {g:Nat} {vv:Value} (hV:TplV w1 g vv (Pl.qbe qql []).1) (hb:Below w.heap.size w w1) {o:Obj} :
  Calls Tryz.prog 19 #[.pointer (some ⟨g,0,none⟩),.slice (some ⟨w1.heap.size+1+1+1,0,none⟩) 2 2,.int .i64 0,.int .i64 (-1)] ((((w1.alloc o).alloc (.cells #[.int .i64 1] 3)).alloc (.cells #[.string ⟨#[97]⟩] 9)).alloc
  (.cells #[.int .i64 5,.int .i64 0,.string ⟨#[]⟩,.slice (some ⟨w1.heap.size+1,0,none⟩) 1 1,.slice (some ⟨w1.heap.size+1+1,0,none⟩) 1 1,.int .i64 3,.int .i64 0,.string ⟨#[120,60,121]⟩,.slice none 0 0,.slice none 0 0] 67)) fun ed w'=>
   ∃ hb cap,ed=.returned (.tuple #[.string ⟨q5v.toArray⟩,.slice (some ⟨hb,0,none⟩) 2 cap,.int .i64 0])∧(w'.cell? ⟨hb,0,none⟩=some (.int .i64 10)∧w'.cell? ⟨hb,1,none⟩=some (.int .i64 16)∧w'.cell? ⟨hb,2,none⟩=some (.int .i64 1)∧w'.cell? ⟨hb,3,none⟩=some (.int .i64 18))∧Below w.heap.size w w':=by
 have hD:=q0a w1 o
 have hal:∀(a b c d:Obj),Below w1.heap.size w1 ((((w1.alloc a).alloc b).alloc c).alloc d):=fun a b c d=>(((((Below.refl _ _).alloc (Nat.le_refl _) a).alloc (by rw[qbd]; omega) b).alloc (by rw[qbd,qbd]; omega) c).alloc (by rw[qbd,qbd,qbd]; omega) d)
 have hB:=hb.trans ((hal o (.cells #[.int .i64 1] 3) (.cells #[.string ⟨#[97]⟩] 9) (.cells #[.int .i64 5,.int .i64 0,.string ⟨#[]⟩,.slice (some ⟨w1.heap.size+1,0,none⟩) 1 1,.slice (some ⟨w1.heap.size+1+1,0,none⟩) 1 1,.int .i64 3,.int .i64 0,.string ⟨#[120,60,121]⟩,.slice none 0 0,.slice none 0 0] 67)).mono hb.size)
 refine(qve _ (hk.kept hB) g vv _ (hV.below (hal _ _ _ _)) hD).mono ?_
 rintro ed w' ⟨h,cap,h1,h2,h3⟩
 exact⟨h,cap,h1,h2,hB.trans (h3.mono hB.size)⟩
set_option maxRecDepth 100000 in
set_option maxHeartbeats 3200000 in
theorem qwt (w:World) (hk:KW w):Calls Tryz.prog 17 #[] w fun ed w'=>ed=.returned (.bool true)∧Below w.heap.size w w':=by
 have HK:=(show Hid _ from hk)
 have HC:=(show Hid _ from fun w hk=>qlq ⟨qql.toArray⟩ w hk qmy)
 clear hk
 go_enter Tryz.func17,Tryz.ntmps17
 go_wp2_with (first
  | (go_at_call 19; refine Calls.mono (qvf HK.out HV.out HB.out) ?_; rintro ed w2 ⟨hb,cap,rfl,⟨c0,c1,c2,c3⟩,hb2⟩)
  | (go_at_call 12; refine Calls.mono (HC.out _ HK.out) ?_; rintro ed w1 ⟨⟨g,vv,rfl,hV⟩,hb⟩; have HV:=(show Hid _ from hV); have HB:=(show Hid _ from hb); clear hV hb))
 go_ret
 exact⟨rfl,hb2⟩
def escV (V:List UInt8) (a:Nat):List Value:=(List.range 6).map fun j=>if 1≤j∧j<a then bs (Pl.qan j V) else .string ⟨#[]⟩
theorem q1z (V:List UInt8) (a:Nat) (h1:1≤a) (h5:a≤5):(escV V a).set a (bs (Pl.qan a V))=escV V (a+1):=by
 have:a=1∨a=2∨a=3∨a=4∨a=5:=by omega
 rcases this with rfl | rfl | rfl | rfl | rfl<;>rfl
def qrw (w:World) (v:Value) (L:List (Int×ByteArray)):Prop:=∃ ao cap,v=.slice ao L.length cap∧L.length≤maxLen∧(L≠[]→∃ b ob,ao=some ⟨b,ob,none⟩∧b<w.heap.size∧∀ k x,L[k]?=some x→w.cell? ⟨b,ob+k*3,none⟩=some (.int .i64 x.1)∧w.cell? ⟨b,ob+k*3+2,none⟩=some (.string x.2))
def qlz (L:List (Int×ByteArray)):List (Nat×List UInt8):=L.map fun x=>(qh8 x.1,qjf x.2.data.toList)
theorem q08 (V:List UInt8) (k:Nat) (w:List UInt8) (l:List (Nat×List UInt8)) (t out:List UInt8) (r:List UInt8×List UInt8) (h:Pl.qgu V ((k,w)::l) t out=r) (ht:t.length<1800) :
  (k=6→(t++Pl.qal (Pl.pc6 w),[])=r)∧(k≠6→Pl.qgu V l (t++Pl.qal (Pl.pcOf k w)) (out++Pl.poOf k V w)=r):=by
 unfold Pl.qgu at h
 rw[if_neg (by omega)]at h
 refine⟨fun hk=>?_,fun hk=>?_⟩
 ·rw[if_pos hk]at h; exact h
 ·rw[if_neg hk]at h; exact h
theorem q48 (V W:List UInt8) (kk:Nat) (hV:V.length≤1048576) (hW:W.length≤10):(Pl.poOf kk V W).length≤30000000*(Pl.qal (Pl.pcOf kk W)).length:=by
 have e1:=Pl.qfm 1 V
 have e2:=Pl.qfm 2 V
 have e3:=Pl.qfm 3 V
 have e4:=Pl.qfm 4 V
 have e5:=Pl.qfm 5 V
 unfold Pl.pcOf Pl.poOf
 repeat' split
 all_goals
  simp only[Pl.pc0,Pl.pc1,Pl.pc2,Pl.pc3,Pl.pc4,Pl.pc5,Pl.pc7,Pl.pc8,Pl.po0,Pl.po1,Pl.po2,Pl.po3,Pl.po4,Pl.po5,Pl.po7,Pl.po8,Pl.qal,Pl.Tok.bytes,List.length_append,List.length_cons,List.length_nil]
  omega
def q2p (V:ByteArray) (L:List (Int×ByteArray)) (r:List UInt8×List UInt8) (w:World) (t o i:Value) (w3:World):Prop:=∃(k:Nat) (tl ol:List UInt8),k≤L.length∧t=.string ⟨tl.toArray⟩∧o=.string ⟨ol.toArray⟩∧i=.int .i64 k∧Pl.qgu V.data.toList ((qlz L).drop k) tl ol=r∧tl.length≤1950∧ol.length≤30000000*tl.length∧Below w.heap.size w w3∧w3.heap[w.heap.size]?=some (.cells (escV V.data.toList 6).toArray 9 (0,0))
theorem qgt {V:ByteArray} {L:List (Int×ByteArray)} {r:List UInt8×List UInt8} {w w4:World} {k:Nat} {tl ol W:List UInt8} {t o:ByteArray} {i:Int} {kk0:Nat} (h:kk0≠6→Pl.qgu V.data.toList ((qlz L).drop (k+1)) (tl++Pl.qal (Pl.pcOf kk0 W)) (ol++Pl.poOf kk0 V.data.toList W)=r) (kk:Nat) (hkk:kk=kk0) (h6:kk≠6) (hk:k+1≤L.length) (h18:tl.length<1800) (hol:ol.length≤30000000*tl.length) (hV:V.data.toList.length≤1048576) (hW:W.length≤10)
  (ht:t=⟨(tl++Pl.qal (Pl.pcOf kk W)).toArray⟩) (ho:o=⟨(ol++Pl.poOf kk V.data.toList W).toArray⟩) (hi:i=((k+1:Nat):Int)) (hb:Below w.heap.size w w4) (hg:w4.heap[w.heap.size]?=some (.cells (escV V.data.toList 6).toArray 9 (0,0))) :
  q2p V L r w (.string t) (.string o) (.int .i64 i) w4:=by
 subst hkk
 have h1:=Pl.qqs kk W hW
 have h2:=q48 V.data.toList W kk hV hW
 refine⟨k+1,_,_,hk,congrArg _ ht,congrArg _ ho,by rw[hi],h h6,by rw[List.length_append]; omega,by rw[List.length_append,List.length_append]; omega,hb,hg⟩
set_option maxRecDepth 100000 in
set_option maxHeartbeats 6400000 in
theorem q3s (V:ByteArray) (rv:Value) (L:List (Int×ByteArray)) (w:World) (hk:KW w) (hR:qrw w rv L) (hV:V.size≤1048576) (hL:∀ x∈L,(-9223372036854775808≤x.1∧x.1≤9223372036854775807)∧x.2.size≤1048576) (r:List UInt8×List UInt8) (hr:Pl.qgu V.data.toList (qlz L) [] []=r) :
  Calls Tryz.prog 26 #[rv,.string V] w fun ed w'=>ed=.returned (.tuple #[.string ⟨r.1.toArray⟩,.string ⟨r.2.toArray⟩])∧Below w.heap.size w w':=by
 obtain⟨ao,cap,rfl,hlm,hcells⟩:=hR
 have HK:=(show Hid _ from hk)
 have HE:=(show Hid _ from fun(kd:Int) w ht=>qzp kd V w ht (by omega))
 have HR:=(show Hid _ from hr)
 have HL:=(show Hid _ from hL)
 have HC:=(show Hid _ from hcells)
 clear hk hr hL hcells
 go_enter Tryz.func26,Tryz.ntmps26
 go_wp2_with fail
 go_loopw [9] (fun i wr=>∃ a:Nat,1≤a∧a≤6∧i=.int .i64 a∧Below w.heap.size w wr∧wr.heap[w.heap.size]?=some (.cells (escV V.data.toList a).toArray 9 (0,0))) (fun i _=>6 - (intOf i).toNat)
 case atStart=>exact⟨1,by omega,by omega,rfl,(Below.refl _ _).alloc (Nat.le_refl _) _,heap_alloc_new w _⟩
 case round=>
  obtain⟨a,h1,h6,rfl,hb,hg⟩:=hrel
  have hz:=hb.size
  by_cases h5:a≤5
  ·have c1:(a:Int)≤5:=by omega
   have hes:Pl.qgw (a:Int)=0:=by unfold Pl.qgw; rw[if_pos (by omega)]
   obtain⟨x,hx⟩:∃ x,(escV V.data.toList a)[a]?=some x:=⟨_,List.getElem?_eq_getElem (by unfold escV; simp; omega)⟩
   have hlt:=(Array.getElem?_eq_some_iff.1 hg).1
   have HG:=(show Hid _ from hg)
   have HX:=(show Hid _ from hx)
   clear hg hx
   go_wp2_with (go_at_call 38; refine Calls.mono (HE.out _ _ (HK.out.kept hb).esc) ?_; rintro ed w2 ⟨rfl,hb2⟩; have HG2:=(show Hid _ from(hb2.block _ hlt).trans HG.out); have hfz:w2.frozen? ⟨w.heap.size,a,none⟩=false:=(by simp[World.frozen?,HG2.out]); have hcl:=qaa HG2.out a x HX.out)
   go_roundw
   case rel=>
    refine⟨a+1,by omega,by omega,by go_num,(hb.trans (hb2.mono hz)).setCell (p:=⟨w.heap.size,a,none⟩) (Nat.le_refl _) _,?_⟩
    rw[heap_setCell_same _ _ _ _ _ _ HG2.out,← q1z _ a h1 h5]
    simp
    rfl
   case measure=>simp[intOf]; omega
  ·obtain rfl:a=6:=by omega
   have c1:¬((6:Nat):Int)≤5:=by omega
   have HG:=(show Hid _ from hg)
   clear HE h1 h6 h5 hg
   go_wp2_with fail
   go_loopw [6,7,12] (fun t o i w3=>q2p V L r w t o i w3) (fun _ _ i _=>L.length - (intOf i).toNat)
   case atStart=>exact⟨0,[],[],Nat.zero_le _,rfl,rfl,rfl,HR.out,by decide,by decide,hb,HG.out⟩
   case round=>
    obtain⟨k,tl,ol,hkl,rfl,rfl,rfl,hmade,htl,hol,hb3,hg3⟩:=hrel
    have HG3:=(show Hid _ from hg3)
    have hgl:=(Array.getElem?_eq_some_iff.1 hg3).1
    have HMd:=(show Hid _ from hmade)
    clear hg3 hmade
    by_cases hlt:k<L.length
    ·by_cases h18:tl.length<1800
     ·obtain⟨c,s,hcs⟩:∃ c s,L[k]?=some (c,s):=⟨_,_,List.getElem?_eq_getElem hlt⟩
      obtain⟨b,ob,rfl,hbl,hcl⟩:=HC.out (fun e=>by rw[e]at hlt; simp at hlt)
      have HCk:=(show Hid _ from hcl k (c,s) hcs)
      obtain⟨⟨q1,q2⟩,q3⟩:=HL.out (c,s) (List.mem_of_getElem? hcs)
      have q3:s.size≤1048576:=q3
      have q1:-9223372036854775808≤c:=q1
      have q2:c≤9223372036854775807:=q2
      have HPl:=(show Hid _ from fun w=>q0t s w (by omega))
      have HP:=(show Hid _ from fun w=>q3d c q1 q2 w)
      have hW:=qk2 s.data.toList
      have HWl:=(show Hid _ from qje s.data.toList)
      have hdrop:(qlz L).drop k=(qh8 c,qjf s.data.toList)::(qlz L).drop (k+1):=Pl.qip (by unfold qlz; rw[List.getElem?_map,hcs]; rfl)
      rw[hdrop]at HMd
      have HM:=(show Hid _ from q08 _ _ _ _ _ _ _ HMd.out h18)
      have cS:wr.cell? ⟨b,ob+k*3+2,none⟩=some (.string s):=(hb3.cell (p:=⟨b,ob+k*3+2,none⟩) hbl).trans HCk.out.2
      have hpk:=qni c
      generalize qjf s.data.toList=W at hW HWl HM HPl
      have d18:(tl.length:Int)<1800:=by omega
      have hV':V.data.toList.length≤1048576:=by simpa using hV
      have hkm:k+1≤9223372036854775807:=by unfold maxLen at hlm; omega
      have hol2:ol.length≤54000000000:=by omega
      have l1:(Pl.qan 1 V.data.toList).length≤25165832:=by have:=Pl.qfm 1 V.data.toList; omega
      have l2:(Pl.qan 2 V.data.toList).length≤25165832:=by have:=Pl.qfm 2 V.data.toList; omega
      have l3:(Pl.qan 3 V.data.toList).length≤25165832:=by have:=Pl.qfm 3 V.data.toList; omega
      have l4:(Pl.qan 4 V.data.toList).length≤25165832:=by have:=Pl.qfm 4 V.data.toList; omega
      have l5:(Pl.qan 5 V.data.toList).length≤25165832:=by have:=Pl.qfm 5 V.data.toList; omega
      clear q1 q2 q3 hcs hdrop HL HC HMd HR HK
      have HPl0:=HPl
      obtain⟨kk,hkk0⟩:∃ kk,kk=qh8 c:=⟨_,rfl⟩
      rw[← hkk0]at HP HM hpk
      clear hkk0
      rcases(show kk=0∨kk=1∨kk=2∨kk=3∨kk=4∨kk=5∨kk=6∨kk=7∨kk=8 by omega)with hkk | hkk | hkk | hkk | hkk | hkk | hkk | hkk | hkk
      ·obtain rfl:kk=0:=hkk
       have HP:Hid (∀ w,Calls Tryz.prog 20 #[.int .i64 c,.int .i64 9] w fun e w'=>e=.returned (.int .i64 0)∧w=w'):=HP
       clear HPl0 hpk
       go_wp2_with (first
        | (go_at_call 39; refine Calls.mono (HPl.out _) ?_; rintro ed w4 ⟨rfl,hb4⟩; have HG4:=(show Hid _ from(hb4.block _ hgl).trans HG3.out); have HB4:=(show Hid _ from hb3.trans (hb4.mono hb3.size)); have cK:w4.cell? ⟨b,ob+k*3,none⟩=some (.int .i64 c):=((hb3.trans (hb4.mono hb3.size)).cell (p:=⟨b,ob+k*3,none⟩) hbl).trans HCk.out.1; have e1:w4.cell? ⟨w.heap.size,1,none⟩=some (.string ⟨(Pl.qan 1 V.data.toList).toArray⟩):=qaa HG4.out 1 _ rfl; have e2:w4.cell? ⟨w.heap.size,2,none⟩=some (.string ⟨(Pl.qan 2 V.data.toList).toArray⟩):=qaa HG4.out 2 _ rfl; have e3:w4.cell? ⟨w.heap.size,3,none⟩=some (.string ⟨(Pl.qan 3 V.data.toList).toArray⟩):=qaa HG4.out 3 _ rfl; have e4:w4.cell? ⟨w.heap.size,4,none⟩=some (.string ⟨(Pl.qan 4 V.data.toList).toArray⟩):=qaa HG4.out 4 _ rfl; have e5:w4.cell? ⟨w.heap.size,5,none⟩=some (.string ⟨(Pl.qan 5 V.data.toList).toArray⟩):=qaa HG4.out 5 _ rfl)
        | (go_at_call 20; refine Calls.mono (HP.out _) ?_; rintro ed w5 ⟨rfl,rfl⟩))
       all_goals
        go_roundw
        case rel=>exact qgt HM.out.2 0 (by omega) (by decide) (by omega) h18 hol hV' hW (by ext1; simp[Pl.pcOf,Pl.pc0,Pl.qal,Pl.Tok.bytes]) (by ext1; simp[Pl.poOf,Pl.po0]) (by go_num) HB4.out HG4.out
        case measure=>simp[intOf]; omega
      ·obtain rfl:kk=1:=hkk
       have HP:Hid (∀ w,Calls Tryz.prog 20 #[.int .i64 c,.int .i64 9] w fun e w'=>e=.returned (.int .i64 1)∧w=w'):=HP
       clear HPl0 hpk
       go_wp2_with (first
        | (go_at_call 39; refine Calls.mono (HPl.out _) ?_; rintro ed w4 ⟨rfl,hb4⟩; have HG4:=(show Hid _ from(hb4.block _ hgl).trans HG3.out); have HB4:=(show Hid _ from hb3.trans (hb4.mono hb3.size)); have cK:w4.cell? ⟨b,ob+k*3,none⟩=some (.int .i64 c):=((hb3.trans (hb4.mono hb3.size)).cell (p:=⟨b,ob+k*3,none⟩) hbl).trans HCk.out.1; have e1:w4.cell? ⟨w.heap.size,1,none⟩=some (.string ⟨(Pl.qan 1 V.data.toList).toArray⟩):=qaa HG4.out 1 _ rfl; have e2:w4.cell? ⟨w.heap.size,2,none⟩=some (.string ⟨(Pl.qan 2 V.data.toList).toArray⟩):=qaa HG4.out 2 _ rfl; have e3:w4.cell? ⟨w.heap.size,3,none⟩=some (.string ⟨(Pl.qan 3 V.data.toList).toArray⟩):=qaa HG4.out 3 _ rfl; have e4:w4.cell? ⟨w.heap.size,4,none⟩=some (.string ⟨(Pl.qan 4 V.data.toList).toArray⟩):=qaa HG4.out 4 _ rfl; have e5:w4.cell? ⟨w.heap.size,5,none⟩=some (.string ⟨(Pl.qan 5 V.data.toList).toArray⟩):=qaa HG4.out 5 _ rfl)
        | (go_at_call 20; refine Calls.mono (HP.out _) ?_; rintro ed w5 ⟨rfl,rfl⟩))
       all_goals
        go_roundw
        case rel=>exact qgt HM.out.2 1 (by omega) (by decide) (by omega) h18 hol hV' hW (by ext1; simp[Pl.pcOf,Pl.pc1,Pl.qal,Pl.Tok.bytes]) (by ext1; simp[Pl.poOf,Pl.po1]) (by go_num) HB4.out HG4.out
        case measure=>simp[intOf]; omega
      ·obtain rfl:kk=2:=hkk
       have HP:Hid (∀ w,Calls Tryz.prog 20 #[.int .i64 c,.int .i64 9] w fun e w'=>e=.returned (.int .i64 2)∧w=w'):=HP
       clear HPl0 hpk
       go_wp2_with (first
        | (go_at_call 39; refine Calls.mono (HPl.out _) ?_; rintro ed w4 ⟨rfl,hb4⟩; have HG4:=(show Hid _ from(hb4.block _ hgl).trans HG3.out); have HB4:=(show Hid _ from hb3.trans (hb4.mono hb3.size)); have cK:w4.cell? ⟨b,ob+k*3,none⟩=some (.int .i64 c):=((hb3.trans (hb4.mono hb3.size)).cell (p:=⟨b,ob+k*3,none⟩) hbl).trans HCk.out.1; have e1:w4.cell? ⟨w.heap.size,1,none⟩=some (.string ⟨(Pl.qan 1 V.data.toList).toArray⟩):=qaa HG4.out 1 _ rfl; have e2:w4.cell? ⟨w.heap.size,2,none⟩=some (.string ⟨(Pl.qan 2 V.data.toList).toArray⟩):=qaa HG4.out 2 _ rfl; have e3:w4.cell? ⟨w.heap.size,3,none⟩=some (.string ⟨(Pl.qan 3 V.data.toList).toArray⟩):=qaa HG4.out 3 _ rfl; have e4:w4.cell? ⟨w.heap.size,4,none⟩=some (.string ⟨(Pl.qan 4 V.data.toList).toArray⟩):=qaa HG4.out 4 _ rfl; have e5:w4.cell? ⟨w.heap.size,5,none⟩=some (.string ⟨(Pl.qan 5 V.data.toList).toArray⟩):=qaa HG4.out 5 _ rfl)
        | (go_at_call 20; refine Calls.mono (HP.out _) ?_; rintro ed w5 ⟨rfl,rfl⟩))
       go_region
       all_goals go_wp2_with fail
       all_goals
        go_roundw
        case rel=>exact qgt HM.out.2 2 (by omega) (by decide) (by omega) h18 hol hV' hW (by ext1; simp[Pl.pcOf,Pl.pc2,Pl.qal,Pl.Tok.bytes]) (by ext1; simp[Pl.poOf,Pl.po2]) (by go_num) HB4.out.drew HG4.out
        case measure=>simp[intOf]; omega
      ·obtain rfl:kk=3:=hkk
       have HP:Hid (∀ w,Calls Tryz.prog 20 #[.int .i64 c,.int .i64 9] w fun e w'=>e=.returned (.int .i64 3)∧w=w'):=HP
       clear HPl0 hpk
       go_wp2_with (first
        | (go_at_call 39; refine Calls.mono (HPl.out _) ?_; rintro ed w4 ⟨rfl,hb4⟩; have HG4:=(show Hid _ from(hb4.block _ hgl).trans HG3.out); have HB4:=(show Hid _ from hb3.trans (hb4.mono hb3.size)); have cK:w4.cell? ⟨b,ob+k*3,none⟩=some (.int .i64 c):=((hb3.trans (hb4.mono hb3.size)).cell (p:=⟨b,ob+k*3,none⟩) hbl).trans HCk.out.1; have e1:w4.cell? ⟨w.heap.size,1,none⟩=some (.string ⟨(Pl.qan 1 V.data.toList).toArray⟩):=qaa HG4.out 1 _ rfl; have e2:w4.cell? ⟨w.heap.size,2,none⟩=some (.string ⟨(Pl.qan 2 V.data.toList).toArray⟩):=qaa HG4.out 2 _ rfl; have e3:w4.cell? ⟨w.heap.size,3,none⟩=some (.string ⟨(Pl.qan 3 V.data.toList).toArray⟩):=qaa HG4.out 3 _ rfl; have e4:w4.cell? ⟨w.heap.size,4,none⟩=some (.string ⟨(Pl.qan 4 V.data.toList).toArray⟩):=qaa HG4.out 4 _ rfl; have e5:w4.cell? ⟨w.heap.size,5,none⟩=some (.string ⟨(Pl.qan 5 V.data.toList).toArray⟩):=qaa HG4.out 5 _ rfl)
        | (go_at_call 20; refine Calls.mono (HP.out _) ?_; rintro ed w5 ⟨rfl,rfl⟩))
       go_region
       all_goals go_wp2_with fail
       all_goals
        go_roundw
        case rel=>exact qgt HM.out.2 3 (by omega) (by decide) (by omega) h18 hol hV' hW (by ext1; simp[Pl.pcOf,Pl.pc3,Pl.qal,Pl.Tok.bytes]) (by ext1; simp[Pl.poOf,Pl.po3]) (by go_num) HB4.out.drew HG4.out
        case measure=>simp[intOf]; omega
      ·obtain rfl:kk=4:=hkk
       have HP:Hid (∀ w,Calls Tryz.prog 20 #[.int .i64 c,.int .i64 9] w fun e w'=>e=.returned (.int .i64 4)∧w=w'):=HP
       clear HPl0 hpk
       go_wp2_with (first
        | (go_at_call 39; refine Calls.mono (HPl.out _) ?_; rintro ed w4 ⟨rfl,hb4⟩; have HG4:=(show Hid _ from(hb4.block _ hgl).trans HG3.out); have HB4:=(show Hid _ from hb3.trans (hb4.mono hb3.size)); have cK:w4.cell? ⟨b,ob+k*3,none⟩=some (.int .i64 c):=((hb3.trans (hb4.mono hb3.size)).cell (p:=⟨b,ob+k*3,none⟩) hbl).trans HCk.out.1; have e1:w4.cell? ⟨w.heap.size,1,none⟩=some (.string ⟨(Pl.qan 1 V.data.toList).toArray⟩):=qaa HG4.out 1 _ rfl; have e2:w4.cell? ⟨w.heap.size,2,none⟩=some (.string ⟨(Pl.qan 2 V.data.toList).toArray⟩):=qaa HG4.out 2 _ rfl; have e3:w4.cell? ⟨w.heap.size,3,none⟩=some (.string ⟨(Pl.qan 3 V.data.toList).toArray⟩):=qaa HG4.out 3 _ rfl; have e4:w4.cell? ⟨w.heap.size,4,none⟩=some (.string ⟨(Pl.qan 4 V.data.toList).toArray⟩):=qaa HG4.out 4 _ rfl; have e5:w4.cell? ⟨w.heap.size,5,none⟩=some (.string ⟨(Pl.qan 5 V.data.toList).toArray⟩):=qaa HG4.out 5 _ rfl)
        | (go_at_call 20; refine Calls.mono (HP.out _) ?_; rintro ed w5 ⟨rfl,rfl⟩))
       all_goals
        go_roundw
        case rel=>exact qgt HM.out.2 4 (by omega) (by decide) (by omega) h18 hol hV' hW (by ext1; simp[Pl.pcOf,Pl.pc4,Pl.qal,Pl.Tok.bytes]) (by ext1; simp[Pl.poOf,Pl.po4]) (by go_num) HB4.out HG4.out
        case measure=>simp[intOf]; omega
      ·obtain rfl:kk=5:=hkk
       have HP:Hid (∀ w,Calls Tryz.prog 20 #[.int .i64 c,.int .i64 9] w fun e w'=>e=.returned (.int .i64 5)∧w=w'):=HP
       clear HPl0 hpk
       go_wp2_with (first
        | (go_at_call 39; refine Calls.mono (HPl.out _) ?_; rintro ed w4 ⟨rfl,hb4⟩; have HG4:=(show Hid _ from(hb4.block _ hgl).trans HG3.out); have HB4:=(show Hid _ from hb3.trans (hb4.mono hb3.size)); have cK:w4.cell? ⟨b,ob+k*3,none⟩=some (.int .i64 c):=((hb3.trans (hb4.mono hb3.size)).cell (p:=⟨b,ob+k*3,none⟩) hbl).trans HCk.out.1; have e1:w4.cell? ⟨w.heap.size,1,none⟩=some (.string ⟨(Pl.qan 1 V.data.toList).toArray⟩):=qaa HG4.out 1 _ rfl; have e2:w4.cell? ⟨w.heap.size,2,none⟩=some (.string ⟨(Pl.qan 2 V.data.toList).toArray⟩):=qaa HG4.out 2 _ rfl; have e3:w4.cell? ⟨w.heap.size,3,none⟩=some (.string ⟨(Pl.qan 3 V.data.toList).toArray⟩):=qaa HG4.out 3 _ rfl; have e4:w4.cell? ⟨w.heap.size,4,none⟩=some (.string ⟨(Pl.qan 4 V.data.toList).toArray⟩):=qaa HG4.out 4 _ rfl; have e5:w4.cell? ⟨w.heap.size,5,none⟩=some (.string ⟨(Pl.qan 5 V.data.toList).toArray⟩):=qaa HG4.out 5 _ rfl)
        | (go_at_call 20; refine Calls.mono (HP.out _) ?_; rintro ed w5 ⟨rfl,rfl⟩))
       go_region
       all_goals go_wp2_with fail
       all_goals
        go_roundw
        case rel=>exact qgt HM.out.2 5 (by omega) (by decide) (by omega) h18 hol hV' hW (by ext1; simp[Pl.pcOf,Pl.pc5,Pl.qal,Pl.Tok.bytes]) (by ext1; simp[Pl.poOf,Pl.po5]) (by go_num) HB4.out.drew HG4.out
        case measure=>simp[intOf]; omega
      ·obtain rfl:kk=6:=hkk
       have HP:Hid (∀ w,Calls Tryz.prog 20 #[.int .i64 c,.int .i64 9] w fun e w'=>e=.returned (.int .i64 6)∧w=w'):=HP
       clear HPl0 hpk
       go_wp2_with (first
        | (go_at_call 39; refine Calls.mono (HPl.out _) ?_; rintro ed w4 ⟨rfl,hb4⟩; have HG4:=(show Hid _ from(hb4.block _ hgl).trans HG3.out); have HB4:=(show Hid _ from hb3.trans (hb4.mono hb3.size)); have cK:w4.cell? ⟨b,ob+k*3,none⟩=some (.int .i64 c):=((hb3.trans (hb4.mono hb3.size)).cell (p:=⟨b,ob+k*3,none⟩) hbl).trans HCk.out.1; have e1:w4.cell? ⟨w.heap.size,1,none⟩=some (.string ⟨(Pl.qan 1 V.data.toList).toArray⟩):=qaa HG4.out 1 _ rfl; have e2:w4.cell? ⟨w.heap.size,2,none⟩=some (.string ⟨(Pl.qan 2 V.data.toList).toArray⟩):=qaa HG4.out 2 _ rfl; have e3:w4.cell? ⟨w.heap.size,3,none⟩=some (.string ⟨(Pl.qan 3 V.data.toList).toArray⟩):=qaa HG4.out 3 _ rfl; have e4:w4.cell? ⟨w.heap.size,4,none⟩=some (.string ⟨(Pl.qan 4 V.data.toList).toArray⟩):=qaa HG4.out 4 _ rfl; have e5:w4.cell? ⟨w.heap.size,5,none⟩=some (.string ⟨(Pl.qan 5 V.data.toList).toArray⟩):=qaa HG4.out 5 _ rfl)
        | (go_at_call 20; refine Calls.mono (HP.out _) ?_; rintro ed w5 ⟨rfl,rfl⟩))
       go_ret2
       refine⟨?_,HB4.out⟩
       rw[← HM.out.1 trivial]
       refine congrArg Ending.returned (congrArg Value.tuple ?_)
       refine congrArg (fun z:ByteArray=>#[Value.string z,Value.string ⟨#[]⟩]) ?_
       ext1; simp[Pl.pc6,Pl.qal,Pl.Tok.bytes]
      ·obtain rfl:kk=7:=hkk
       have HP:Hid (∀ w,Calls Tryz.prog 20 #[.int .i64 c,.int .i64 9] w fun e w'=>e=.returned (.int .i64 7)∧w=w'):=HP
       clear HPl0 hpk
       go_wp2_with (first
        | (go_at_call 39; refine Calls.mono (HPl.out _) ?_; rintro ed w4 ⟨rfl,hb4⟩; have HG4:=(show Hid _ from(hb4.block _ hgl).trans HG3.out); have HB4:=(show Hid _ from hb3.trans (hb4.mono hb3.size)); have cK:w4.cell? ⟨b,ob+k*3,none⟩=some (.int .i64 c):=((hb3.trans (hb4.mono hb3.size)).cell (p:=⟨b,ob+k*3,none⟩) hbl).trans HCk.out.1; have e1:w4.cell? ⟨w.heap.size,1,none⟩=some (.string ⟨(Pl.qan 1 V.data.toList).toArray⟩):=qaa HG4.out 1 _ rfl; have e2:w4.cell? ⟨w.heap.size,2,none⟩=some (.string ⟨(Pl.qan 2 V.data.toList).toArray⟩):=qaa HG4.out 2 _ rfl; have e3:w4.cell? ⟨w.heap.size,3,none⟩=some (.string ⟨(Pl.qan 3 V.data.toList).toArray⟩):=qaa HG4.out 3 _ rfl; have e4:w4.cell? ⟨w.heap.size,4,none⟩=some (.string ⟨(Pl.qan 4 V.data.toList).toArray⟩):=qaa HG4.out 4 _ rfl; have e5:w4.cell? ⟨w.heap.size,5,none⟩=some (.string ⟨(Pl.qan 5 V.data.toList).toArray⟩):=qaa HG4.out 5 _ rfl)
        | (go_at_call 20; refine Calls.mono (HP.out _) ?_; rintro ed w5 ⟨rfl,rfl⟩))
       all_goals
        go_roundw
        case rel=>exact qgt HM.out.2 7 (by omega) (by decide) (by omega) h18 hol hV' hW (by ext1; simp[Pl.pcOf,Pl.pc7,Pl.qal,Pl.Tok.bytes]) (by ext1; simp[Pl.poOf,Pl.po7]) (by go_num) HB4.out HG4.out
        case measure=>simp[intOf]; omega
      ·obtain rfl:kk=8:=hkk
       have HP:Hid (∀ w,Calls Tryz.prog 20 #[.int .i64 c,.int .i64 9] w fun e w'=>e=.returned (.int .i64 8)∧w=w'):=HP
       clear HPl0 hpk
       go_wp2_with (first
        | (go_at_call 39; refine Calls.mono (HPl.out _) ?_; rintro ed w4 ⟨rfl,hb4⟩; have HG4:=(show Hid _ from(hb4.block _ hgl).trans HG3.out); have HB4:=(show Hid _ from hb3.trans (hb4.mono hb3.size)); have cK:w4.cell? ⟨b,ob+k*3,none⟩=some (.int .i64 c):=((hb3.trans (hb4.mono hb3.size)).cell (p:=⟨b,ob+k*3,none⟩) hbl).trans HCk.out.1; have e1:w4.cell? ⟨w.heap.size,1,none⟩=some (.string ⟨(Pl.qan 1 V.data.toList).toArray⟩):=qaa HG4.out 1 _ rfl; have e2:w4.cell? ⟨w.heap.size,2,none⟩=some (.string ⟨(Pl.qan 2 V.data.toList).toArray⟩):=qaa HG4.out 2 _ rfl; have e3:w4.cell? ⟨w.heap.size,3,none⟩=some (.string ⟨(Pl.qan 3 V.data.toList).toArray⟩):=qaa HG4.out 3 _ rfl; have e4:w4.cell? ⟨w.heap.size,4,none⟩=some (.string ⟨(Pl.qan 4 V.data.toList).toArray⟩):=qaa HG4.out 4 _ rfl; have e5:w4.cell? ⟨w.heap.size,5,none⟩=some (.string ⟨(Pl.qan 5 V.data.toList).toArray⟩):=qaa HG4.out 5 _ rfl)
        | (go_at_call 20; refine Calls.mono (HP.out _) ?_; rintro ed w5 ⟨rfl,rfl⟩))
       all_goals
        go_roundw
        case rel=>exact qgt HM.out.2 8 (by omega) (by decide) (by omega) h18 hol hV' hW (by ext1; simp[Pl.pcOf,Pl.pc8,Pl.qal,Pl.Tok.bytes]) (by ext1; simp[Pl.poOf,Pl.po8]) (by go_num) HB4.out HG4.out
        case measure=>simp[intOf]; omega
     ·have hrr:(tl,ol++[46])=r:=by
       rw[← HMd.out]
       obtain⟨x,hx⟩:∃ x,(qlz L)[k]?=some x:=⟨_,List.getElem?_eq_getElem (by unfold qlz; simpa using hlt)⟩
       rw[Pl.qip hx]
       obtain⟨k1,w1⟩:=x
       unfold Pl.qgu
       rw[if_pos (by omega)]
      have hol2:ol.length≤58500000000:=by omega
      have d18:decide ((tl.length:Int)<1800)=false:=decide_eq_false (by omega)
      have HRR:=(show Hid _ from hrr)
      clear hrr HL HC HMd HR HK h18
      go_wp2_with fail
      go_ret2
      refine⟨?_,hb3⟩
      rw[← HRR.out]
      refine congrArg Ending.returned (congrArg Value.tuple ?_)
      refine congrArg (fun z:ByteArray=>#[Value.string ⟨tl.toArray⟩,Value.string z]) ?_
      ext1; simp
    ·have hrr:(tl,ol++[46])=r:=by
      rw[← HMd.out,List.drop_eq_nil_of_le (by unfold qlz; simp; omega)]
      rfl
     have hol2:ol.length≤58500000000:=by omega
     have HRR:=(show Hid _ from hrr)
     clear hrr HL HC HMd HR HK
     go_wp2_with fail
     go_ret2
     refine⟨?_,hb3⟩
     rw[← HRR.out]
     refine congrArg Ending.returned (congrArg Value.tuple ?_)
     refine congrArg (fun z:ByteArray=>#[Value.string ⟨tl.toArray⟩,Value.string z]) ?_
     ext1; simp
end Go.Proofs.YtfkhljmiehdgmaaGreatDoor

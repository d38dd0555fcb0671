/-
  Steps of the proof.
-/
import Derived.Test.YtfkhljmiehdgmaaGreatDoorCmAN
set_option maxRecDepth 100000
set_option maxHeartbeats 40000000
namespace Go.Proofs.YtfkhljmiehdgmaaGreatDoor.Pl
structure PtB(n:Nat)(p:Pt):Prop where
 text:p.text.length≤n
 mate:p.mate≤n
theorem qvq{t:List UInt8}{c:Ct}{a z:Nat}(h:∀p∈c.parts,PtB t.length p):∀p∈(c.addText t a z).parts,PtB t.length p:=by
 unfold Ct.addText;split
 ·intro p hp
  simp only[List.mem_append,List.mem_singleton]at hp;rcases hp with hp | rfl
  ·exact h p hp
  ·refine⟨?_,Nat.zero_le _⟩
   simp only[List.length_take,List.length_drop];omega
 ·exact h
theorem q2s{N:Nat}{l:List Pt}(m n:Nat)(hn:n≤N)(h:∀p∈l,PtB N p):∀p∈qbc l m n,PtB N p:=by
 induction l generalizing m with
 | nil=>unfold qbc;simp
 | cons q l ih=>
   cases m with
   | zero=>
     intro p hp;have e:qbc (q::l) 0 n={ q with mate:=n }::l:=rfl;rw[e]at hp;rcases List.mem_cons.1 hp with rfl | hp
     ·exact⟨(h q (by simp)).text,hn⟩
     ·exact h p (List.mem_cons_of_mem _ hp)
   | succ m=>
     intro p hp;have e:qbc (q::l) (m+1) n=q::qbc l m n:=by simp[qbc]
     rw[e]at hp;rcases List.mem_cons.1 hp with rfl | hp
     ·exact h p (by simp)
     ·exact ih m (fun r hr=>h r (List.mem_cons_of_mem _ hr)) p hp
theorem q9x{N:Nat}{c:Ct}{one:Tg}{a:Nat}(h:∀p∈c.parts,PtB N p)(hn:one.name.length≤N)(hl:c.parts.length≤N)(ho:∀m∈c.opened,m<c.parts.length):∀p∈(c.take one a).2.parts,PtB N p:=by
 have Ha:PtB N ⟨one.kind,a,one.name,0⟩:=⟨hn,Nat.zero_le _⟩;have ha:∀(l:List Pt) (q:Pt),(∀p∈l,PtB N p)→PtB N q→∀p∈l++[q],PtB N p:=fun l q hl hq p hp=>by
  simp only[List.mem_append,List.mem_singleton]at hp;rcases hp with hp | rfl
  ·exact hl p hp
  ·exact hq
 unfold Ct.take;by_cases h1:one.slip≠0
 ·rw[if_pos h1];exact h
 rw[if_neg h1];by_cases h7:one.kind=7
 ·rw[if_pos h7];exact h
 rw[if_neg h7];by_cases h8:one.kind=8
 ·rw[if_pos h8];exact h
 rw[if_neg h8];by_cases hb:one.kind=3∨one.kind=4
 ·rw[if_pos hb]
  split
  ·exact h
  ·exact ha _ _ h Ha
 rw[if_neg hb];by_cases h5:one.kind=5
 ·rw[if_pos h5]
  split
  ·exact h
  ·rename_i m hm
   split
   ·exact h
   ·have:=ho m (List.mem_of_getLast? hm)
    exact ha _ _ (q2s _ _ hl h) ⟨hn,by show m≤N;omega⟩
 ·rw[if_neg h5]
  exact ha _ _ h Ha
theorem qtx(l:List UInt8):(qa9 l).name.length≤l.length:=by
 have ha:∀(k:Nat) (n:List UInt8),(qb9 k n).name.length≤n.length:=fun k n=>by
  unfold qb9;split<;>split
  all_goals first | exact Nat.le_refl _ | exact Nat.zero_le _
 unfold qa9;split
 ·exact Nat.zero_le _
 ·split
  ·unfold qc9
   split
   ·exact Nat.zero_le _
   ·split
    ·split<;>exact Nat.zero_le _
    ·exact Nat.zero_le _
  ·split
   ·exact ha _ _
   ·refine Nat.le_trans (ha _ _) (Nat.le_trans (qh9 _ _) ?_)
    rw[List.length_drop];omega
theorem q9z{t:List UInt8}{c:Ct}{a:Nat}(hc:CtOk t c a)(h:∀p∈c.parts,PtB t.length p) :
  (∀d,c.step t a=.over d→∀p∈d.parts,PtB t.length p)∧(∀d b,c.step t a=.next d b→∀p∈d.parts,PtB t.length p):=by
 have hf:=hc.le;cases ha:(Go.Lib.cut (t.drop a) c.op).2.2 with
 | false=>
   rw[qk8 ha];refine⟨fun d e=>?_,fun d b e=>(by cases e)⟩;injection e with e;subst e;exact qvq h
 | true=>
   obtain⟨i1,Hf,Hb,hg,Hc,Hg⟩:=qjd _ _ ha;rw[List.length_drop]at Hb;cases Ha:(Go.Lib.cut (Go.Lib.cut (t.drop a) c.op).2.1 c.cl).2.2 with
   | false=>
     rw[qgj ha Ha];exact⟨fun d e=>(by cases e),fun d b e=>(by cases e)⟩
   | true=>
     obtain⟨i2,hi,he,Hi,hj,Hj⟩:=qjd _ _ Ha;rw[Hc,List.length_drop,List.length_drop]at he;obtain⟨one,h1⟩:∃one,qa9 (Go.Lib.trimS (Go.Lib.cut (Go.Lib.cut (t.drop a) c.op).2.1 c.cl).1 qah)=one:=⟨_,rfl⟩;have hn:=qtx (Go.Lib.trimS (Go.Lib.cut (Go.Lib.cut (t.drop a) c.op).2.1 c.cl).1 qah);have hk:(Go.Lib.trimS (Go.Lib.cut (Go.Lib.cut (t.drop a) c.op).2.1 c.cl).1 qah).length≤t.length:=by
      refine Nat.le_trans (qn6 _ _).length_le ?_;omega
     rw[h1]at hn;generalize hO:(if one.kind≠2 then qed t (a+(Go.Lib.cut (t.drop a) c.op).1.length) (a+(Go.Lib.cut (t.drop a) c.op).1.length+c.op.length+(Go.Lib.cut (Go.Lib.cut (t.drop a) c.op).2.1 c.cl).1.length+c.cl.length) else(a+(Go.Lib.cut (t.drop a) c.op).1.length,a+(Go.Lib.cut (t.drop a) c.op).1.length+c.op.length+(Go.Lib.cut (Go.Lib.cut (t.drop a) c.op).2.1 c.cl).1.length+c.cl.length))=o;rw[qnj ha Ha one h1 _ _ rfl rfl o hO];have He:o.1≤a+(Go.Lib.cut (t.drop a) c.op).1.length:=by
      subst hO;split
      ·exact(qoz _ _ _ (by omega) (by omega)).1
      ·exact Nat.le_refl _
     have hb:=qh4 hc o.1 (a+(Go.Lib.cut (t.drop a) c.op).1.length) (by omega) He (by omega);refine⟨fun d e=>?_,fun d b e=>?_⟩
     ·split at e<;>cases e
     ·split at e
      ·cases e
      ·injection e with e1 e2
       subst e1;exact q9x (qvq h) (by omega) (Nat.le_trans hb.few hb.le) hb.wf.lt
theorem go_b(t:List UInt8):∀(n:Nat) (c:Ct) (a:Nat),CtOk t c a→(∀p∈c.parts,PtB t.length p)→∀p∈(Ct.go t n c a).2,PtB t.length p:=by
 intro n
 induction n with
 | zero=>intro c a _ _ p hp;cases hp
 | succ n ih=>
   intro c a hc h;obtain⟨h2,h3⟩:=q9z hc h;unfold Ct.go;cases hs:c.step t a with
   | slip k p=>intro p hp;cases hp
   | over d=>exact h2 d hs
   | next d b=>exact ih d b (qf8 hc hs).1 (h3 d b hs)
theorem q6w(t:List UInt8)(h:(qam t).1.1=0):t.length≤2000∧∀p∈(qam t).2,PtB t.length p:=by
 have hg:=go_b t (t.length+1) Ct.start 0 (qh2 t) (fun p hp=>by cases hp)
 unfold qam at h ⊢;split at h
 ·cases h
 ·rename_i h1
  refine⟨by omega,?_⟩;rw[if_neg h1];split
  ·exact hg
  ·intro p hp;cases hp
end Go.Proofs.YtfkhljmiehdgmaaGreatDoor.Pl
namespace Go.Proofs.YtfkhljmiehdgmaaGreatDoor
open Go.RowKit
def qfa(n:Int)(v:Pl.Vw):Value:=.agg #[.int .i64 n,.int .i64 v.mode,.int .i64 v.elem,.int .i64 v.attr,.int .i64 v.ends,.int .i64 v.esc,.int .i64 v.pct,.int .i64 v.link,.string ⟨v.name.toArray⟩,.bool v.ref]
def qcf(n:Int)(v:Pl.Vw):Array Value:=#[.int .i64 n,.int .i64 v.mode,.int .i64 v.elem,.int .i64 v.attr,.int .i64 v.ends,.int .i64 v.esc,.int .i64 v.pct,.int .i64 v.link,.string ⟨v.name.toArray⟩,.bool v.ref]
theorem qfh(w:World)(o:Obj)(a:Addr)(h:a.block<w.heap.size):(w.alloc o).cell? a=w.cell? a:=by
 unfold World.cell?;rw[heap_alloc_old w o h]
structure VisAt(w:World)(B:Nat)(L:List (Int×Pl.Vw)):Prop where
 cell:∀i x,L[i]?=some x→∀j v,(qcf x.1 x.2).toList[j]?=some v→w.cell? ⟨B,i*10+j,none⟩=some v
 lt:B<w.heap.size
theorem qnz(B c:Nat)(L:List (Int×Pl.Vw))(n:Int)(v:Pl.Vw)(w:World)(hL:L.length≤1000000000000)(h:VisAt w B L) :
  Calls Tryz.prog 57 #[.slice (some ⟨B,0,none⟩) L.length c,qfa n v] w fun e w'=>(∃b:Bool,e=.returned (.bool b)∧(b=true↔(n,v)∈L))∧Below w.heap.size w w':=by
 have HF:Hid (∀W0,w.alloc (.cells (qcf n v) 143)=W0→VisAt W0 B L∧(∀(j:Nat) (u:Value),(qcf n v).toList[j]?=some u→W0.cell? ⟨w.heap.size,j,none⟩=some u)∧Below w.heap.size w W0):=by
  rintro W0 rfl;exact⟨⟨fun i x hx j u hu=>(qfh _ _ _ h.lt).trans (h.cell i x hx j u hu),Nat.lt_of_lt_of_le h.lt (by simp)⟩,fun j u hu=>qaa (heap_alloc_new w _) j u hu,ba _⟩
 clear h;unfold qfa;unfold qcf at HF;go_enter Tryz.func57,Tryz.ntmps57
 go_wp2_with fail
 generalize hW:w.alloc _=W0;obtain⟨hA,hO,hB⟩:=HF.out W0 hW;have HA:=hd hA;have HB:=hd hB;have r0:=hO 0 _ rfl;have r1:=hO 1 _ rfl;have r2:=hO 2 _ rfl;have r3:=hO 3 _ rfl;have r4:=hO 4 _ rfl;have r5:=hO 5 _ rfl;have r6:=hO 6 _ rfl;have r7:=hO 7 _ rfl;have r8:=hO 8 _ rfl;have r9:=hO 9 _ rfl;clear hA hB hO HF hW;go_loopw [5] (fun i wr=>∃k:Nat,k≤L.length∧i=.int .i64 k∧Hid ((n,v)∉L.take k)∧∃m,wr=W0.drewN m) (fun i _=>L.length - (intOf i).toNat)
 case atStart=>exact⟨0,Nat.zero_le _,rfl,by show _∉_;simp,0,rfl⟩
 case round=>
  obtain⟨k,hk,rfl,HN,m,rfl⟩:=hrel;by_cases Ha:k<L.length
  ·have hx:L[k]?=some L[k]:=List.getElem?_eq_getElem Ha
   have hc:=HA.out.cell k _ hx;unfold qcf at hc;have q0:=hc 0 _ rfl;have q1:=hc 1 _ rfl;have q2:=hc 2 _ rfl;have q3:=hc 3 _ rfl;have q4:=hc 4 _ rfl;have q5:=hc 5 _ rfl;have q6:=hc 6 _ rfl;have q7:=hc 7 _ rfl;have q8:=hc 8 _ rfl;have q9:=hc 9 _ rfl;clear hc;simp only[Nat.add_zero]at q0;have HX:=(show Hid (L[k]?=some L[k]) from hx);clear hx;generalize L[k]=X at q0 q1 q2 q3 q4 q5 q6 q7 q8 q9 HX;by_cases e0:X.1=n
   rotate_left
   ·have HD:Hid ((n,v)∉L.take (k+1)):=by
     show _∉_;rw[List.take_add_one,HX.out];intro q;rcases List.mem_append.1 q with q | q
     ·exact HN.out q
     ·exact e0 (by rw[←List.mem_singleton.1 (show (n,v)∈[X] from q)])
    clear HN HX HA;go_wp2_with fail
    go_region
    all_goals
     go_wp2
     go_roundw
     case rel=>exact⟨k+1,by omega,by go_num,HD,m+1,by simp[World.drewN]⟩
     case measure=>simp[intOf];omega
   by_cases e1:X.2.mode=v.mode
   rotate_left
   ·have HD:Hid ((n,v)∉L.take (k+1)):=by
     show _∉_;rw[List.take_add_one,HX.out];intro q;rcases List.mem_append.1 q with q | q
     ·exact HN.out q
     ·exact e1 (by rw[←List.mem_singleton.1 (show (n,v)∈[X] from q)])
    clear HN HX HA;go_wp2_with fail
    go_region
    all_goals
     go_wp2
     go_roundw
     case rel=>exact⟨k+1,by omega,by go_num,HD,m+1,by simp[World.drewN]⟩
     case measure=>simp[intOf];omega
   by_cases e2:X.2.elem=v.elem
   rotate_left
   ·have HD:Hid ((n,v)∉L.take (k+1)):=by
     show _∉_;rw[List.take_add_one,HX.out];intro q;rcases List.mem_append.1 q with q | q
     ·exact HN.out q
     ·exact e2 (by rw[←List.mem_singleton.1 (show (n,v)∈[X] from q)])
    clear HN HX HA;go_wp2_with fail
    go_region
    all_goals
     go_wp2
     go_roundw
     case rel=>exact⟨k+1,by omega,by go_num,HD,m+1,by simp[World.drewN]⟩
     case measure=>simp[intOf];omega
   by_cases e3:X.2.attr=v.attr
   rotate_left
   ·have HD:Hid ((n,v)∉L.take (k+1)):=by
     show _∉_;rw[List.take_add_one,HX.out];intro q;rcases List.mem_append.1 q with q | q
     ·exact HN.out q
     ·exact e3 (by rw[←List.mem_singleton.1 (show (n,v)∈[X] from q)])
    clear HN HX HA;go_wp2_with fail
    go_region
    all_goals
     go_wp2
     go_roundw
     case rel=>exact⟨k+1,by omega,by go_num,HD,m+1,by simp[World.drewN]⟩
     case measure=>simp[intOf];omega
   by_cases e4:X.2.ends=v.ends
   rotate_left
   ·have HD:Hid ((n,v)∉L.take (k+1)):=by
     show _∉_;rw[List.take_add_one,HX.out];intro q;rcases List.mem_append.1 q with q | q
     ·exact HN.out q
     ·exact e4 (by rw[←List.mem_singleton.1 (show (n,v)∈[X] from q)])
    clear HN HX HA;go_wp2_with fail
    go_region
    all_goals
     go_wp2
     go_roundw
     case rel=>exact⟨k+1,by omega,by go_num,HD,m+1,by simp[World.drewN]⟩
     case measure=>simp[intOf];omega
   by_cases e5:X.2.esc=v.esc
   rotate_left
   ·have HD:Hid ((n,v)∉L.take (k+1)):=by
     show _∉_;rw[List.take_add_one,HX.out];intro q;rcases List.mem_append.1 q with q | q
     ·exact HN.out q
     ·exact e5 (by rw[←List.mem_singleton.1 (show (n,v)∈[X] from q)])
    clear HN HX HA;go_wp2_with fail
    go_region
    all_goals
     go_wp2
     go_roundw
     case rel=>exact⟨k+1,by omega,by go_num,HD,m+1,by simp[World.drewN]⟩
     case measure=>simp[intOf];omega
   by_cases e6:X.2.pct=v.pct
   rotate_left
   ·have HD:Hid ((n,v)∉L.take (k+1)):=by
     show _∉_;rw[List.take_add_one,HX.out];intro q;rcases List.mem_append.1 q with q | q
     ·exact HN.out q
     ·exact e6 (by rw[←List.mem_singleton.1 (show (n,v)∈[X] from q)])
    clear HN HX HA;go_wp2_with fail
    go_region
    all_goals
     go_wp2
     go_roundw
     case rel=>exact⟨k+1,by omega,by go_num,HD,m+1,by simp[World.drewN]⟩
     case measure=>simp[intOf];omega
   by_cases e7:X.2.link=v.link
   rotate_left
   ·have HD:Hid ((n,v)∉L.take (k+1)):=by
     show _∉_;rw[List.take_add_one,HX.out];intro q;rcases List.mem_append.1 q with q | q
     ·exact HN.out q
     ·exact e7 (by rw[←List.mem_singleton.1 (show (n,v)∈[X] from q)])
    clear HN HX HA;go_wp2_with fail
    go_region
    all_goals
     go_wp2
     go_roundw
     case rel=>exact⟨k+1,by omega,by go_num,HD,m+1,by simp[World.drewN]⟩
     case measure=>simp[intOf];omega
   by_cases e8:X.2.name=v.name
   rotate_left
   ·have HD:Hid ((n,v)∉L.take (k+1)):=by
     show _∉_;rw[List.take_add_one,HX.out];intro q;rcases List.mem_append.1 q with q | q
     ·exact HN.out q
     ·exact e8 (by rw[←List.mem_singleton.1 (show (n,v)∈[X] from q)])
    clear HN HX HA;go_wp2_with fail
    go_region
    all_goals
     go_wp2
     go_roundw
     case rel=>exact⟨k+1,by omega,by go_num,HD,m+1,by simp[World.drewN]⟩
     case measure=>simp[intOf];omega
   by_cases e9:X.2.ref=v.ref
   rotate_left
   ·have HD:Hid ((n,v)∉L.take (k+1)):=by
     show _∉_;rw[List.take_add_one,HX.out];intro q;rcases List.mem_append.1 q with q | q
     ·exact HN.out q
     ·exact e9 (by rw[←List.mem_singleton.1 (show (n,v)∈[X] from q)])
    clear HN HX HA;go_wp2_with fail
    go_region
    all_goals
     go_wp2
     go_roundw
     case rel=>exact⟨k+1,by omega,by go_num,HD,m+1,by simp[World.drewN]⟩
     case measure=>simp[intOf];omega
   have HM:Hid ((n,v)∈L):=by
    obtain⟨xn,xm,xe,xa,xd,xc,xp,xl,xs,xr⟩:=X;obtain⟨vm,ve,va,vd,vc,vp,vl,vn,vr⟩:=v;simp only at e0 e1 e2 e3 e4 e5 e6 e7 e8 e9;subst e0 e1 e2 e3 e4 e5 e6 e7 e8 e9;exact List.mem_of_getElem? HX.out
   clear HN HX HA;go_wp2_with fail
   go_region
   all_goals
    go_wp2
    go_ret
    exact⟨⟨true,rfl,⟨fun _=>HM.out,fun _=>rfl⟩⟩,qaz HB.out _⟩
  ·have hb:k=L.length:=by omega
   subst hb;have ha:=HN.out;rw[List.take_length]at ha;go_wp2
   go_ret
   exact⟨⟨false,rfl,⟨fun q=>(by cases q),fun q=>absurd q ha⟩⟩,qaz HB.out _⟩
end Go.Proofs.YtfkhljmiehdgmaaGreatDoor
namespace Go.Proofs.YtfkhljmiehdgmaaGreatDoor.Pl
def ext(n w:List UInt8):List UInt8:=w.foldl qc2 n
theorem ql9(n u w:List UInt8):ext n (u++w)=ext (ext n u) w:=by simp[ext]
def Sx.app(x:Sx)(w:List UInt8):Sx:=⟨{ x.st with name:=ext x.st.name w },x.ma⟩
theorem qhp(x:Sx)(u w:List UInt8):(x.app u).app w=x.app (u++w):=by
 unfold Sx.app;simp only[ql9]
structure Nam(x:Sx):Prop where
 mode:x.st.mode=3∨x.st.mode=5
 kind:x.st.kind=0
 ma:x.ma=Mk.none
theorem Nam.app{x:Sx}(h:Nam x)(w:List UInt8):Nam (x.app w):=⟨h.mode,h.kind,h.ma⟩
structure Kin(x y:Sx):Prop where
 nam:Nam x
 eq:y=⟨{ x.st with name:=y.st.name },x.ma⟩
 len:x.st.name.length=y.st.name.length
 el:∀w,qax (ext x.st.name w)=qax (ext y.st.name w)
 ki:∀w,qcw (ext x.st.name w)=qcw (ext y.st.name w)
theorem qw5{n m:List UInt8}(b:UInt8)(h:n.length=m.length):(qc2 n b).length=(qc2 m b).length:=by
 unfold qc2;rw[h];split
 ·exact h
 ·rw[List.length_append,List.length_append,h]
theorem q6m(w:List UInt8):∀ {n m:List UInt8},n.length=m.length→(ext n w).length=(ext m w).length:=by
 induction w with
 | nil=>intro n m h;exact h
 | cons b w ih=>intro n m h;exact ih (qw5 b h)
theorem Kin.app{x y:Sx}(h:Kin x y)(w:List UInt8):Kin (x.app w) (y.app w):=by
 refine⟨h.nam.app w,?_,q6m w h.len,fun u=>?_,fun u=>?_⟩
 ·have:=h.eq
  unfold Sx.app;rw[this]
 ·show qax (ext (ext _ _) _)=qax (ext (ext _ _) _)
  rw[←ql9,←ql9];exact h.el _
 ·show qcw (ext (ext _ _) _)=qcw (ext (ext _ _) _)
  rw[←ql9,←ql9];exact h.ki _
theorem qou{m:Nat}(h:m=3∨m=5)(b:UInt8):qa3.getD m false=false∧qbw m b=m∧¬ 19≤m:=by
 rcases h with rfl | rfl<;>exact⟨rfl,by unfold qbw;rw[if_neg (fun q=>q.2 rfl)],by omega⟩
theorem qw3{x:Sx}(h:Nam x)(b:UInt8):x.behind b=Sx.led x (qdc x.st.mode b) b:=by
 obtain⟨q1,q2,q3⟩:=qou h.mode b;rw[qph x b _ _ (fun q=>q3 q.1) (by rw[q1];rfl) q2 rfl];unfold St.nowRead;rw[if_neg q3]
theorem qsc{x:Sx}(h:Nam x)(b:UInt8)(hl:qdc x.st.mode b=x.st.mode):x.behind b=x.app [b]:=by
 rw[qw3 h b,hl];obtain⟨⟨m,n,e,k,r,c⟩,K⟩:=x;obtain⟨hm,hk,hK⟩:=h;simp only at hm hk hK;subst hk hK;unfold Sx.led St.led qle Sx.app;simp only[if_true];rcases hm with rfl | rfl
 ·rfl
 ·rfl
theorem q80{x y:Sx}(h:Kin x y)(b:UInt8)(hl:qdc x.st.mode b≠x.st.mode):x.behind b=y.behind b:=by
 have hy:Nam y:=by have:=h.eq;rw[this];exact⟨h.nam.mode,h.nam.kind,h.nam.ma⟩
 rw[qw3 h.nam b,qw3 hy b];have he:=h.el [];have hk:=h.ki [];have hq:=h.eq;generalize y.st.name=n' at he hk hq;subst hq;obtain⟨⟨m,n,e,k,r,c⟩,K⟩:=x;simp only at hl he hk ⊢;change qax n=qax n' at he;change qcw n=qcw n' at hk;generalize qdc m b=t at hl;have hn:¬(t=m∧t≠34):=fun q=>hl q.1;unfold Sx.led qle St.led St.named;simp only[if_neg hl,if_neg hn,he,hk]
theorem qlc{x:Sx}(h:Nam x):x.behindHole=x:=by
 unfold Sx.behindHole;refine if_neg (fun q=>?_);have:=(qdd q.1).1;have:=h.mode;omega
def al(m:Nat):List UInt8→List UInt8×Bool
 | []=>([],true)
 | b::t=>if qdc m b=m then(b::(al m t).1,(al m t).2) else([],false)
theorem q66(m:Nat):∀t,(al m t).2=true→(al m t).1=t
 | [],_=>rfl
 | b::t,h=>by
   unfold al at h ⊢;split
   ·next q=>rw[if_pos q]at h;simp only;rw[q66 m t h]
   ·next q=>rw[if_neg q]at h;cases h
theorem qrc{m:Nat}:∀(t:List UInt8) (x:Sx),Nam x→x.st.mode=m→(al m t).2=true→qaw x t=x.app t
 | [],x,_,_,_=>rfl
 | b::t,x,hx,hm,h=>by
   unfold al at h;by_cases q:qdc m b=m
   ·rw[if_pos q]at h
    show qaw (x.behind b) t=_;rw[qsc hx b (by rw[hm];exact q),qrc t _ (hx.app _) hm h,qhp];rfl
   ·rw[if_neg q]at h;cases h
theorem q9o{m:Nat}:∀(t:List UInt8) (x y:Sx),Kin x y→x.st.mode=m→(al m t).2=false→qaw x t=qaw y t
 | [],x,y,_,_,h=>by cases h
 | b::t,x,y,hx,hm,h=>by
   unfold al at h;show qaw (x.behind b) t=qaw (y.behind b) t;by_cases q:qdc m b=m
   ·rw[if_pos q]at h
    have hy:Nam y:=by have:=hx.eq;rw[this];exact⟨hx.nam.mode,hx.nam.kind,hx.nam.ma⟩
    have ha:y.st.mode=m:=by rw[←hm];exact congrArg (fun z=>z.st.mode) hx.eq
    rw[qsc hx.nam b (by rw[hm];exact q),qsc hy b (by rw[ha];exact q)];exact q9o t _ _ (hx.app _) hm h
   ·rw[q80 hx b (by rw[hm];exact q)]
inductive It where
 | tx (t:List UInt8)
 | ho
 | ca (n:Nat)
def go(o:Nat→Sx→Option Sx):List It→Sx→Option Sx
 | [],x=>some x
 | .tx t::l,x=>go o l (qaw x t)
 | .ho::l,x=>go o l x.behindHole
 | .ca n::l,x=>match o n x with
   | some y=>go o l y
   | none=>none
def fin(B:Nat→List It):Nat→Nat→Sx→Option Sx
 | 0,_,_=>none
 | h+1,n,x=>go (fin B h) (B n) x
theorem qi9{o o':Nat→Sx→Option Sx}(h:∀n x y,o n x=some y→o' n x=some y):∀(l:List It) (x y:Sx),go o l x=some y→go o' l x=some y
 | [],_,_,q=>q
 | .tx _::l,_,_,q=>qi9 h l _ _ q
 | .ho::l,_,_,q=>qi9 h l _ _ q
 | .ca n::l,x,y,q=>by
   unfold go at q ⊢;cases hz:o n x with
   | none=>rw[hz]at q;cases q
   | some z=>rw[hz]at q;rw[h n x z hz];exact qi9 h l _ _ q
theorem qzc(B:Nat→List It):∀(h n:Nat) (x y:Sx),fin B h n x=some y→fin B (h+1) n x=some y
 | 0,_,_,_,q=>by cases q
 | h+1,n,x,y,q=>qi9 (qzc B h) (B n) x y q
theorem qns(B:Nat→List It){h k:Nat}(hk:h≤k){n:Nat}{x y:Sx}(q:fin B h n x=some y):fin B k n x=some y:=by
 induction hk with
 | refl=>exact q
 | step _ ih=>exact qzc B _ _ _ _ ih
theorem qh0(o:Nat→Sx→Option Sx)(m:List It):∀(l:List It) (x:Sx),go o (l++m) x=(go o l x).bind (go o m)
 | [],_=>rfl
 | .tx _::l,_=>qh0 o m l _
 | .ho::l,_=>qh0 o m l _
 | .ca n::l,x=>by
   show go o (.ca n::(l++m)) x=_;unfold go;cases o n x with
   | none=>rfl
   | some z=>exact qh0 o m l z
def Via(B:Nat→List It)(l:List It)(x y:Sx):Prop:=∃h,go (fin B h) l x=some y
def Done(B:Nat→List It)(n:Nat)(x y:Sx):Prop:=∃h,fin B h n x=some y
theorem qro{B:Nat→List It}{n:Nat}{x y:Sx}(h:Via B (B n) x y):Done B n x y:=h.elim fun k q=>⟨k+1,q⟩
theorem qrn(B:Nat→List It)(x:Sx):Via B [] x x:=⟨0,rfl⟩
theorem qe9{B:Nat→List It}{l m:List It}{x y z:Sx}(h:Via B l x y)(h':Via B m y z):Via B (l++m) x z:=by
 obtain⟨a,q⟩:=h;obtain⟨b,q'⟩:=h';refine⟨max a b,?_⟩;rw[qh0,qi9 (fun n x y=>qns B (Nat.le_max_left a b)) _ _ _ q];exact qi9 (fun n x y=>qns B (Nat.le_max_right a b)) _ _ _ q'
theorem q13(B:Nat→List It)(t:List UInt8)(x:Sx):Via B [.tx t] x (qaw x t):=⟨0,rfl⟩
theorem q15(B:Nat→List It)(x:Sx):Via B [.ho] x x.behindHole:=⟨0,rfl⟩
theorem qte{B:Nat→List It}{n:Nat}{x y:Sx}(h:Done B n x y):Via B [.ca n] x y:=h.elim fun k q=>⟨k,by unfold go;rw[q];rfl⟩
theorem qk3{B:Nat→List It}{l:List It}{x y z:Sx}(h:Via B l x y)(h':Via B l x z):y=z:=by
 obtain⟨a,q⟩:=h;obtain⟨b,q'⟩:=h';have e:=qi9 (fun n x y=>qns B (Nat.le_max_left a b)) _ _ _ q;have e':=qi9 (fun n x y=>qns B (Nat.le_max_right a b)) _ _ _ q';exact Option.some.inj (e.symm.trans e')
def cat(p q:List UInt8×Bool):List UInt8×Bool:=if p.2=true then(p.1++q.1,q.2) else p
def wgo(oW:Nat→List UInt8×Bool)(m:Nat):List It→List UInt8×Bool
 | []=>([],true)
 | .tx t::l=>cat (al m t) (wgo oW m l)
 | .ho::l=>wgo oW m l
 | .ca n::l=>cat (oW n) (wgo oW m l)
def wd(B:Nat→List It)(m:Nat):Nat→Nat→List UInt8×Bool
 | 0,_=>([],false)
 | h+1,n=>wgo (wd B m h) m (B n)
def Le(p q:List UInt8×Bool):Prop:=p.1 <+: q.1∧(p.2=true→q=p)
theorem Le.refl(p:List UInt8×Bool):Le p p:=⟨List.prefix_refl _,fun _=>rfl⟩
theorem Le.trans{p q r:List UInt8×Bool}(h:Le p q)(k:Le q r):Le p r:=⟨h.1.trans k.1,fun e=>by
 have:=h.2 e;subst this;exact k.2 e⟩
theorem Le.cat{p p' q q':List UInt8×Bool}(h:Le p p')(k:Le q q'):Le (cat p q) (cat p' q'):=by
 unfold Pl.cat;by_cases e:p.2=true
 ·have:=h.2 e
  subst this;rw[if_pos e,if_pos e];exact⟨(List.prefix_append_right_inj _).2 k.1,fun z=>by have:=k.2 z;subst this;rfl⟩
 ·rw[if_neg e]
  refine⟨?_,fun z=>absurd z e⟩;split
  ·exact h.1.trans (List.prefix_append _ _)
  ·exact h.1
theorem qk0{m:Nat}{o o':Nat→List UInt8×Bool}(h:∀n,Le (o n) (o' n)):∀l:List It,Le (wgo o m l) (wgo o' m l)
 | []=>Le.refl _
 | .tx _::l=>(Le.refl _).cat (qk0 h l)
 | .ho::l=>qk0 h l
 | .ca n::l=>(h n).cat (qk0 h l)
theorem q1x(B:Nat→List It)(m:Nat):∀h n:Nat,Le (wd B m h n) (wd B m (h+1) n)
 | 0,_=>⟨List.nil_prefix,fun q=>by cases q⟩
 | h+1,n=>qk0 (q1x B m h) (B n)
theorem qrm(B:Nat→List It)(m:Nat){h k:Nat}(hk:h≤k)(n:Nat):Le (wd B m h n) (wd B m k n):=by
 induction hk with
 | refl=>exact Le.refl _
 | step _ ih=>exact ih.trans (q1x B m _ n)
theorem qvc(p q r:List UInt8×Bool):cat p (cat q r)=cat (cat p q) r:=by
 unfold cat;by_cases a:p.2=true
 ·by_cases b:q.2=true
  ·simp[a,b]
  ·simp[a,b]
 ·simp[a]
theorem qjj(o:Nat→List UInt8×Bool)(m:Nat)(k:List It):∀l:List It,wgo o m (l++k)=cat (wgo o m l) (wgo o m k)
 | []=>by simp[wgo,cat]
 | .tx t::l=>by
   show cat _ (wgo o m (l++k))=cat (cat _ _) _;rw[qjj o m k l,qvc]
 | .ho::l=>qjj o m k l
 | .ca n::l=>by
   show cat _ (wgo o m (l++k))=cat (cat _ _) _;rw[qjj o m k l,qvc]
theorem q97(B:Nat→List It)(m:Nat):∀(h:Nat) (l:List It) (x y:Sx),Kin x y→x.st.mode=m→∀x',go (fin B h) l x=some x' →
  ∃y',go (fin B h) l y=some y'∧(x'=y'∨∃w,wgo (wd B m h) m l=(w,true)∧x'=x.app w∧y'=y.app w):=by
 intro h
 induction h with
 | zero=>
   intro l
   induction l with
   | nil=>intro x y _ _ x' q;injection q with q;subst q;exact⟨y,rfl,.inr ⟨[],rfl,rfl,rfl⟩⟩
   | cons i l ih=>
     intro x y hk hm x' q;cases i with
     | tx t=>
       cases ha:(al m t).2
       ·have:=q9o t x y hk hm ha
        have q:go (fin B 0) l (qaw x t)=some x':=q;exact⟨x',by show go _ l (qaw y t)=_;rw[←this];exact q,.inl rfl⟩
       ·have hy:Nam y:=by have:=hk.eq;rw[this];exact⟨hk.nam.mode,hk.nam.kind,hk.nam.ma⟩
        have Ha:y.st.mode=m:=by rw[←hm];exact congrArg (fun z=>z.st.mode) hk.eq
        have q:go (fin B 0) l (qaw x t)=some x':=q;rw[qrc t x hk.nam hm ha]at q;obtain⟨y',q1,q2⟩:=ih _ _ (hk.app t) hm x' q;refine⟨y',by show go _ l (qaw y t)=_;rw[qrc t y hy Ha ha];exact q1,q2.imp id ?_⟩;rintro⟨w,e1,e2,e3⟩;exact⟨t++w,by show cat _ _=_;rw[e1];unfold cat;rw[if_pos ha,q66 m t ha],by rw[e2,qhp],by rw[e3,qhp]⟩
     | ho=>
       have hy:Nam y:=by have:=hk.eq;rw[this];exact⟨hk.nam.mode,hk.nam.kind,hk.nam.ma⟩
       have q:go (fin B 0) l x.behindHole=some x':=q;rw[qlc hk.nam]at q;obtain⟨y',q1,q2⟩:=ih x y hk hm x' q;exact⟨y',by show go _ l y.behindHole=_;rw[qlc hy];exact q1,q2⟩
     | ca n=>cases q
 | succ h ihh=>
   intro l
   induction l with
   | nil=>intro x y _ _ x' q;injection q with q;subst q;exact⟨y,rfl,.inr ⟨[],rfl,rfl,rfl⟩⟩
   | cons i l ih=>
     intro x y hk hm x' q;have hy:Nam y:=by have:=hk.eq;rw[this];exact⟨hk.nam.mode,hk.nam.kind,hk.nam.ma⟩
     have Ha:y.st.mode=m:=by rw[←hm];exact congrArg (fun z=>z.st.mode) hk.eq
     cases i with
     | tx t=>
       cases ha:(al m t).2
       ·have:=q9o t x y hk hm ha
        have q:go (fin B (h+1)) l (qaw x t)=some x':=q;exact⟨x',by show go _ l (qaw y t)=_;rw[←this];exact q,.inl rfl⟩
       ·have q:go (fin B (h+1)) l (qaw x t)=some x':=q
        rw[qrc t x hk.nam hm ha]at q;obtain⟨y',q1,q2⟩:=ih _ _ (hk.app t) hm x' q;refine⟨y',by show go _ l (qaw y t)=_;rw[qrc t y hy Ha ha];exact q1,q2.imp id ?_⟩;rintro⟨w,e1,e2,e3⟩;exact⟨t++w,by show cat _ _=_;rw[e1];unfold cat;rw[if_pos ha,q66 m t ha],by rw[e2,qhp],by rw[e3,qhp]⟩
     | ho=>
       have q:go (fin B (h+1)) l x.behindHole=some x':=q;rw[qlc hk.nam]at q;obtain⟨y',q1,q2⟩:=ih x y hk hm x' q;exact⟨y',by show go _ l y.behindHole=_;rw[qlc hy];exact q1,q2⟩
     | ca n=>
       unfold go at q;cases hz:fin B (h+1) n x with
       | none=>rw[hz]at q;cases q
       | some z=>
         rw[hz]at q;have q:go (fin B (h+1)) l z=some x':=q;obtain⟨z',r1,r2⟩:=ihh (B n) x y hk hm z hz;have r1:fin B (h+1) n y=some z':=r1;rcases r2 with rfl | ⟨w,e1,rfl,rfl⟩
         ·exact⟨x',by unfold go;rw[r1];exact q,.inl rfl⟩
         ·obtain⟨y',q1,q2⟩:=ih _ _ (hk.app w) hm x' q
          refine⟨y',by unfold go;rw[r1];exact q1,q2.imp id ?_⟩;rintro⟨u,f1,f2,f3⟩;refine⟨w++u,?_,by rw[f2,qhp],by rw[f3,qhp]⟩;show cat (wd B m (h+1) n) _=_;have e1:wd B m (h+1) n=(w,true):=e1;rw[e1,f1];rfl
structure Fitn(x:Sx):Prop where
 fit:SxFit x
 nam:x.st.mode=3∨x.st.mode=5→x.st.kind=0∧x.ma=Mk.none
theorem q08:Fitn Sx.start:=⟨qiw,fun h=>by revert h;decide⟩
theorem qnx(n:List UInt8):(qcg n).mode≠3∧(qcg n).mode≠5:=by
 unfold qcg;split
 ·exact⟨by simp,by simp⟩
 ·show qav n≠3∧qav n≠5
  unfold qav
  repeat' split
  all_goals omega
theorem qxf{x:Sx}(b:UInt8)(h:Fitn x):Fitn (x.behind b):=by
 refine⟨qq9 b h.fit,?_⟩;by_cases he:19≤x.st.mode∧x.st.ends b=true
 ·rw[qzl x b he.1 he.2];intro _;exact⟨rfl,rfl⟩
 by_cases hq:(qa3.getD x.st.mode false && (x.st.esc || b==92))=true
 ·rw[qve x b he hq]
  intro hm;rw[Bool.and_eq_true]at hq;rcases hm with hm | hm
  ·have hm:x.st.mode=3:=hm
   rw[hm]at hq;exact absurd hq.1 (by decide)
  ·have hm:x.st.mode=5:=hm
   rw[hm]at hq;exact absurd hq.1 (by decide)
 have hq:=Bool.eq_false_iff.2 hq;have e:=qph x b _ _ he hq rfl rfl;have hx:=h.nam;have hk:=qvf b h.fit.ok.st;have e0:x.st.behind b=_:=congrArg Sx.st e;rw[e0]at hk;have hk:((St.mk (qbw x.st.mode b) x.st.name x.st.elem x.st.kind (x.st.nowRead b) x.st.esc).led (qdc x.st.mode b) b).Ok:=hk;have hb:qbw x.st.mode b=x.st.mode∨qbw x.st.mode b=qg4 x.st.mode:=by unfold qbw;split<;>simp
 have Hb:qg4 x.st.mode≠3∧qg4 x.st.mode≠5:=by
  have hc:=h.fit.ok.st.hi;have:∀m,m≤33→qg4 m≠3∧qg4 m≠5:=by decide
  exact this _ hc
 rw[e];generalize qbw x.st.mode b=r at hb hk ⊢;generalize qdc x.st.mode b=t at hk ⊢;clear e0 e;intro hm;have ha:((St.mk r x.st.name x.st.elem x.st.kind (x.st.nowRead b) x.st.esc).led t b).mode=3∨((St.mk r x.st.name x.st.elem x.st.kind (x.st.nowRead b) x.st.esc).led t b).mode=5:=hm;by_cases Ha:t=34
 ·exfalso
  subst Ha;have hw:∀s:St,(s.led1 34 b)=qcg s.elem:=by
   intro s;unfold St.led1;rw[if_neg (by decide),if_neg (by decide),if_neg (by decide),if_pos rfl]
  unfold St.led at ha;split at ha
  all_goals
   rw[hw]at ha;rcases ha with q | q
   ·exact(qnx _).1 q
   ·exact(qnx _).2 q
 have hf:=q54 (St.mk r x.st.name x.st.elem x.st.kind (x.st.nowRead b) x.st.esc) t b Ha;rw[hf.1]at ha;have Hc:qle ⟨r,x.st.name,x.st.elem,x.st.kind,x.st.nowRead b,x.st.esc⟩ x.ma t b=Mk.none:=by
  unfold qle;split
  ·next q=>
   have hr:r=t:=q.1.symm;have He:x.st.mode=3∨x.st.mode=5:=by
    rcases hb with z | z
    ·omega
    ·exact absurd z (by have:=Hb.1;have:=Hb.2;omega)
   obtain⟨z1,z2⟩:=hx He;have Hf:r=3∨r=5:=by omega
   simp only;rw[z1,z2];rcases Hf with rfl | rfl<;>rfl
  ·rfl
 refine⟨?_,Hc⟩;show ((St.mk r x.st.name x.st.elem x.st.kind (x.st.nowRead b) x.st.esc).led t b).kind=0;rw[qsi _ _ _ Ha];rcases ha with rfl | rfl
 ·have:=hk.bare
  rw[hf.1]at this;rw[←qsi _ 3 _ Ha];exact(this (.inl (by omega))).2
 ·rw[if_pos (.inr (.inl rfl))]
theorem q32{x:Sx}(h:Fitn x):Fitn x.behindHole:=by
 refine⟨qij h.fit,?_⟩;unfold Sx.behindHole;split
 ·next q=>
  intro hm;have:=(qdd q.1).1;have hm:x.st.mode=3∨x.st.mode=5:=hm;omega
 ·exact h.nam
theorem Fitn.na{x:Sx}(h:Fitn x)(hm:x.st.mode=3∨x.st.mode=5):Nam x:=⟨hm,(h.nam hm).1,(h.nam hm).2⟩
theorem mix(k:Nat){a b a' b':Nat}(h:a*k+b=a'*k+b')(hb:b<k)(ha:b'<k):a=a'∧b=b':=by
 have e:b=b':=by
  have h1:(a*k+b) % k=b:=by rw[Nat.mul_comm,Nat.mul_add_mod,Nat.mod_eq_of_lt hb]
  have h2:(a'*k+b') % k=b':=by rw[Nat.mul_comm,Nat.mul_add_mod,Nat.mod_eq_of_lt ha]
  rw[←h1,h,h2]
 subst e;exact⟨Nat.eq_of_mul_eq_mul_right (by omega) (by omega:a*k=a'*k),rfl⟩
theorem mix8{a b c d e f g i a' b' c' d' e' f' g' i':Nat}(h:((((((a*5+b)*12+c)*2+d)*2+e)*6+f)*3+g)*4+i=((((((a'*5+b')*12+c')*2+d')*2+e')*6+f')*3+g')*4+i')
  (hb:b<5∧b'<5) (hc:c<12∧c'<12) (hd:d<2∧d'<2) (he:e<2∧e'<2) (hf:f<6∧f'<6) (hg:g<3∧g'<3) (hi:i<4∧i'<4) :
  a=a'∧b=b'∧c=c'∧d=d'∧e=e'∧f=f'∧g=g'∧i=i':=by
 obtain⟨h,q8⟩:=mix 4 h hi.1 hi.2;obtain⟨h,q7⟩:=mix 3 h hg.1 hg.2;obtain⟨h,q6⟩:=mix 6 h hf.1 hf.2;obtain⟨h,q5⟩:=mix 2 h he.1 he.2;obtain⟨h,q4⟩:=mix 2 h hd.1 hd.2;obtain⟨h,q3⟩:=mix 12 h hc.1 hc.2;obtain⟨q1,q2⟩:=mix 5 h hb.1 hb.2;exact⟨q1,q2,q3,q4,q5,q6,q7,q8⟩
def qx8:List (List UInt8):=[qd0,qgm,qcs,qcv,[104,114,101,102],[115,114,99],[97,99,116,105,111,110],[111,110]]
def qdf:List (List UInt8):=qx8.flatMap fun w=>(List.range (w.length+1)).map fun k=>w.take k
theorem qlz{n w:List UInt8}(hw:w∈qx8)(h:n <+: w):n∈qdf:=
 List.mem_flatMap.2 ⟨w,hw,List.mem_map.2 ⟨n.length,List.mem_range.2 (by have:=h.length_le;omega),(List.prefix_iff_eq_take.1 h).symm⟩⟩
def qnc(n:List UInt8):Bool:=[111,110].isPrefixOf n
def idx(n:List UInt8):Nat:=qdf.findIdx (·== n)
theorem q3t(n:List UInt8):idx n<48:=Nat.lt_succ_of_le (Nat.le_trans List.findIdx_le_length (by decide))
theorem qxc{n:List UInt8}(h:n∈qdf):qdf[idx n]?=some n:=by
 have hl:idx n<qdf.length:=List.findIdx_lt_length_of_exists ⟨n,h,by simp⟩;have:=List.findIdx_getElem (w:=hl);rw[List.getElem?_eq_getElem hl];exact congrArg some (beq_iff_eq.1 this)
theorem q3s{n:List UInt8}(h:n∉qdf):qdf[idx n]?=none:=by
 refine List.getElem?_eq_none ?_;rcases Nat.lt_or_ge (idx n) qdf.length with hl | hl
 ·have:=List.findIdx_getElem (w:=hl)
  exact absurd (beq_iff_eq.1 this▸List.getElem_mem hl) h
 ·exact hl
def q6y(n:List UInt8):Nat:=(n.length*48+idx n)*2+(qnc n).toNat
theorem q35(w:List UInt8):∀n:List UInt8,n <+: ext n w:=by
 induction w with
 | nil=>intro n;exact List.prefix_refl _
 | cons b w ih=>
   intro n;refine List.IsPrefix.trans ?_ (ih (qc2 n b));unfold qc2;split
   ·exact List.prefix_refl _
   ·exact List.prefix_append _ _
theorem qos{n w:List UInt8}(h:n∉qdf)(u:List UInt8)(hw:w∈qx8):ext n u≠w:=fun e=>h (qlz hw (e▸q35 u n))
theorem q7l{n:List UInt8}(h:n∉qdf)(w:List UInt8):qax (ext n w)=[]:=by
 unfold qax;refine if_neg ?_;rintro(e | e | e | e)
 all_goals exact qos h w (by decide) e
theorem q94{n:List UInt8}(h:n∉qdf)(w:List UInt8):qnc (ext n w)=qnc n:=by
 obtain⟨r,hr⟩:=q35 w n;rw[←hr]
 match n,h with
 | [],h=>exact absurd (qlz (w:=qd0) (by decide) List.nil_prefix) h
 | [a],h=>
   have ha:a≠111:=fun e=>h (by rw[e];exact qlz (w:=[111,110]) (by decide) ⟨[110],rfl⟩);unfold qnc;simp[List.isPrefixOf,beq_eq_false_iff_ne.2 (Ne.symm ha)]
 | a::b::t,h=>unfold qnc;simp[List.isPrefixOf]
theorem q7k{n:List UInt8}(h:n∉qdf)(w:List UInt8):qcw (ext n w)=if qnc n=true then 2 else 0:=by
 rw[←q94 h w];have hw:∀v∈qx8,(v==ext n w)=false:=fun v hv=>beq_eq_false_iff_ne.2 (fun e=>qos h w hv e.symm);have h1:=hw [104,114,101,102] (by decide);have h2:=hw [115,114,99] (by decide);have h3:=hw [97,99,116,105,111,110] (by decide);have h4:=hw qcv (by decide);have h5:=hw [111,110] (by decide);generalize ext n w=z at *;unfold qcw qds;simp only[List.find?,qbb,h1,h2,h3,h4,h5,Bool.false_or,Bool.false_and,Bool.true_and];unfold qnc;cases hz:[111,110].isPrefixOf z<;>simp
def kr(s:St):Nat:=if s.mode<19 then(s.kind+3).toNat else s.read
def q6z(x:Sx):Nat:=((((((x.st.mode*5+qco x.st.elem)*12+kr x.st)*2+x.st.esc.toNat)*2+x.ma.ref.toNat)*6+x.ma.hex.toNat)*3+x.ma.pct.toNat)*4+x.ma.far.toNat
def cls2(x:Sx):Nat:=if x.st.mode=3∨x.st.mode=5 then 587520+(x.st.mode / 5*5+qco x.st.elem)*960+q6y x.st.name else q6z x
theorem qg2(n:List UInt8):qco n<5:=by
 unfold qco
 repeat' split
 all_goals omega
theorem q8y{s:St}(h:s.Ok):kr s<12:=by
 unfold kr;have h1:=h.wrap;have h2:=h.read;have h3:=qjt h.elem;unfold St.ending at h2;simp only[List.length_cons]at h2;split<;>omega
theorem qgg(b:Bool):b.toNat<2:=by cases b<;>decide
theorem qs4{x:Sx}(h:Fitn x):q6z x<587520:=by
 unfold q6z;have h1:=h.fit.ok.st.hi;have h2:=qg2 x.st.elem;have h3:=q8y h.fit.ok.st;have h4:=qgg x.st.esc;have h5:=qgg x.ma.ref;have h6:=h.fit.ok.ma.hex;have h7:=h.fit.ok.ma.pct;have h8:=h.fit.far;omega
theorem qs3{n:List UInt8}(h:n.length≤9):q6y n<960:=by
 unfold q6y;have:=q3t n;have:=qgg (qnc n);omega
theorem qxz{x:Sx}(h:Fitn x):cls2 x<597120:=by
 unfold cls2;split
 ·next q=>
  have h2:=qg2 x.st.elem;have h3:=qs3 h.fit.ok.st.name;have:x.st.mode / 5≤1:=by rcases q with q | q<;>rw[q]<;>decide
  omega
 ·have:=qs4 h;omega
theorem q96{x y:Sx}(hx:Fitn x)(hy:Fitn y)(h:cls2 x=cls2 y):x=y∨Kin x y:=by
 have ox:=hx.fit.ok.st;have oy:=hy.fit.ok.st;unfold cls2 at h;by_cases nx:x.st.mode=3∨x.st.mode=5
 ·by_cases ny:y.st.mode=3∨y.st.mode=5
  ·rw[if_pos nx,if_pos ny]at h
   have c1:=qs3 ox.name;have c2:=qs3 oy.name;obtain⟨h,hn⟩:=mix 960 (a:=x.st.mode / 5*5+qco x.st.elem) (a':=y.st.mode / 5*5+qco y.st.elem) (by omega) c1 c2;obtain⟨hm,he⟩:=mix 5 h (qg2 _) (qg2 _);have hm:y.st.mode=x.st.mode:=by rcases nx with q | q<;>rcases ny with r | r<;>rw[q,r]at hm<;>omega
   have he:y.st.elem=x.st.elem:=(qmd ox.elem oy.elem he).symm;unfold q6y at hn;obtain⟨hn,ho⟩:=mix 2 hn (qgg _) (qgg _);obtain⟨hl,hi⟩:=mix 48 hn (q3t _) (q3t _);have ho:qnc x.st.name=qnc y.st.name:=by revert ho;cases qnc x.st.name<;>cases qnc y.st.name<;>simp
   have nmx:=hx.na nx;have nmy:=hy.na ny;have hr:y.st.read=x.st.read:=by rw[ox.low (by omega),oy.low (by omega)]
   have hc:y.st.esc=x.st.esc:=by
    rw[ox.calm (qou nx 0).1,oy.calm (qou ny 0).1]
   have hq:y=⟨{ x.st with name:=y.st.name },x.ma⟩:=by
    have k1:=nmx.kind;have k2:=nmy.kind;have k3:=nmx.ma;have k4:=nmy.ma;obtain⟨⟨m,n,e,k,r,c⟩,K⟩:=x;obtain⟨⟨m',n',e',k',r',c'⟩,K'⟩:=y;simp only at hm he hr hc k1 k2 k3 k4 ⊢;rw[hm,he,hr,hc,k1,k2,k3,k4]
   by_cases hs:x.st.name∈qdf
   ·have g1:=qxc hs
    rw[hi]at g1;have ha:y.st.name∈qdf:=by
     by_cases z:y.st.name∈qdf
     ·exact z
     ·rw[q3s z]at g1;cases g1
    rw[qxc ha]at g1;have e:y.st.name=x.st.name:=Option.some.inj g1;left;rw[hq,e]
   ·have ha:y.st.name∉qdf:=by
     intro z;have g1:=qxc z;rw[←hi,q3s hs]at g1;cases g1
    exact .inr ⟨nmx,hq,hl,fun w=>by rw[q7l hs,q7l ha],fun w=>by rw[q7k hs,q7k ha,ho]⟩
  ·rw[if_pos nx,if_neg ny]at h
   have:=qs4 hy;omega
 ·by_cases ny:y.st.mode=3∨y.st.mode=5
  ·rw[if_neg nx,if_pos ny]at h
   have:=qs4 hx;omega
  ·rw[if_neg nx,if_neg ny]at h
   left;unfold q6z at h;have a1:=hx.fit.far;have a2:=hy.fit.far;have a3:=hx.fit.ok.ma.pct;have a4:=hy.fit.ok.ma.pct;have a5:=hx.fit.ok.ma.hex;have a6:=hy.fit.ok.ma.hex;obtain⟨q1,q2,q3,q4,q5,q6,q7,q8⟩:=mix8 h ⟨qg2 _,qg2 _⟩ ⟨q8y ox,q8y oy⟩ ⟨qgg _,qgg _⟩ ⟨qgg _,qgg _⟩ (by omega) (by omega) (by omega);have e2:=qmd ox.elem oy.elem q2;have n1:=ox.named (fun z=>nx (.inl z)) (fun z=>nx (.inr z));have n2:=oy.named (fun z=>ny (.inl z)) (fun z=>ny (.inr z));have e4:x.st.esc=y.st.esc:=by revert q4;cases x.st.esc<;>cases y.st.esc<;>simp
   have e5:x.ma.ref=y.ma.ref:=by revert q5;cases x.ma.ref<;>cases y.ma.ref<;>simp
   have e3:x.st.kind=y.st.kind∧x.st.read=y.st.read:=by
    unfold kr at q3;rw[q1]at q3;have w1:=ox.wrap;have w2:=oy.wrap;by_cases hm:y.st.mode<19
    ·rw[if_pos hm,if_pos hm]at q3
     exact⟨by omega,by rw[ox.low (by omega),oy.low hm]⟩
    ·rw[if_neg hm,if_neg hm]at q3
     exact⟨by rw[(ox.high (by omega)).2,(oy.high (by omega)).2],q3⟩
   obtain⟨⟨m,n,e,k,r,c⟩,⟨f1,f2,f3,f4⟩⟩:=x;obtain⟨⟨m',n',e',k',r',c'⟩,⟨g1,g2,g3,g4⟩⟩:=y;simp only at *;have z6:f2=g2:=by omega
   have z7:f3=g3:=by omega
   have z8:f4=g4:=by omega
   rw[q1,n1,n2,e2,e3.1,e3.2,e4,e5,z6,z7,z8]
end Go.Proofs.YtfkhljmiehdgmaaGreatDoor.Pl

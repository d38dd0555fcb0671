/-
  For all pieces and every value (together of bulk at most 1048576) the statement Taken returns true, and its arguments read as before. Conditions: that bulk; the package-level tables that the row lists hold what their texts lay (tied by the card).
-/
import Derived.Test.YtfkhljmiehdgmaaGreatDoorTaBY
import Derived.Test.YtfkhljmiehdgmaaGreatDoorRows
import Derived.Deep.Slices
import Derived.WideKeyArgs
import Derived.Test.YtfkhljmiehdgmaaGreatDoorTaAE
import Derived.Test.YtfkhljmiehdgmaaGreatDoorTaBK
namespace Go.Proofs.YtfkhljmiehdgmaaGreatDoor
open Go.RowKit
theorem qrw.below {w w':World} {v:Value} {L:List (Int×ByteArray)} (h:qrw w v L) (hb:Below w.heap.size w w'):qrw w' v L:=by
 obtain⟨ao,cap,h1,h2,h3⟩:=h
 refine⟨ao,cap,h1,h2,fun hne=>?_⟩
 obtain⟨b,ob,k1,k2,k3⟩:=h3 hne
 exact⟨b,ob,k1,Nat.lt_of_lt_of_le k2 hb.size,fun k x hx=>⟨(hb.cell (p:=⟨b,ob+k*3,none⟩) k2).trans (k3 k x hx).1,(hb.cell (p:=⟨b,ob+k*3+2,none⟩) k2).trans (k3 k x hx).2⟩⟩
theorem qys (V:List UInt8) (hV:V.length≤1048576):∀(l:List (Nat×List UInt8)) (t out:List UInt8),(∀ x∈l,x.2.length≤10)→t.length≤1950→out.length≤30000000*t.length→(Pl.qgu V l t out).2.length≤58500000001:=by
 intro l
 induction l with
 | nil=>intro t out _ h1 h2; show (out++[46]).length≤_; rw[List.length_append]; simp only[List.length_cons,List.length_nil]; omega
 | cons x l ih=>
   intro t out hx h1 h2
   obtain⟨k,W⟩:=x
   unfold Pl.qgu
   by_cases h:1800≤t.length
   ·rw[if_pos h]; show (out++[46]).length≤_; rw[List.length_append]; simp only[List.length_cons,List.length_nil]; omega
   rw[if_neg h]
   by_cases h6:k=6
   ·rw[if_pos h6]; show ([]:List UInt8).length≤_; simp
   rw[if_neg h6]
   have hW:W.length≤10:=hx _ (List.mem_cons_self ..)
   have q1:=Pl.qqs k W hW
   have q2:=q48 V W k hV hW
   exact ih _ _ (fun y hy=>hx y (List.mem_cons_of_mem _ hy)) (by rw[List.length_append]; omega) (by rw[List.length_append,List.length_append]; omega)
theorem q14 (V:List UInt8) (p:Pl.Pc) (hV:V.length≤1048576):(Pl.qcf (Pl.qbb (Pl.D0 V) p)).length≤1048576:=by
 match p with
 | none=>show (Pl.qcf Pl.Dt.null).length≤_; decide
 | some 0=>show ([]:List UInt8).length≤_; decide
 | some 1=>exact hV
 | some 2=>show ([]:List UInt8).length≤_; decide
 | some 3=>show (Pl.qcf ⟨1,0,[],[],[]⟩).length≤_; decide
 | some 4=>show (Pl.qcf ⟨2,0,[],[],[]⟩).length≤_; decide +kernel
 | some 5=>show ([]:List UInt8).length≤_; decide
 | some (k+6)=>show (Pl.qcf ((Pl.D0 V).getD (k+6) Pl.Dt.null)).length≤_; simp[Pl.D0,Pl.qcf,Pl.Dt.null]
theorem qsn (w:World) (hk:KW w) (V T:List UInt8) (hV:V.length≤1048576) (hf:(Pl.qbe T []).2=Pl.Ft.none) (out:List UInt8) (hp:(Pl.Ev.page ⟨Pl.D0 V,(Pl.qbe T []).1.2,(Pl.qbe T []).1.1,0,-1⟩).2=0∧(Pl.Ev.page ⟨Pl.D0 V,(Pl.qbe T []).1.2,(Pl.qbe T []).1.1,0,-1⟩).1.out=out)
  (g:Nat) (vv dv:Value) (hT:TplV w g vv (Pl.qbe T []).1) (hD:DsAt w.heap.size w dv (Pl.D0 V)) :
  Calls Tryz.prog 19 #[.pointer (some ⟨g,0,none⟩),dv,.int .i64 0,.int .i64 (-1)] w fun ed w'=>(∃ ao n cap,ed=.returned (.tuple #[.string ⟨out.toArray⟩,.slice ao n cap,.int .i64 0]))∧Below w.heap.size w w':=by
 have hc:(Pl.qbe T []).2.code=0:=by rw[hf]; rfl
 obtain⟨hE,h0⟩:=q5c hk hc hT (Pl.D0 V) 0 (-1) hD (by
  intro d hd
  simp only[Pl.D0,List.mem_cons,List.not_mem_nil,or_false]at hd
  rcases hd with rfl | rfl | rfl | rfl | rfl | rfl<;>exact⟨by show (-9223372036854775808:Int)≤0; decide,by show (0:Int)≤9223372036854775807; decide⟩) (by omega) (by omega) (fun p=>by have:=q14 V p hV; omega) 28000000 (by omega) ⟨fun v p hp=>by
   have:=(qq0 T [] hc ⟨Pl.D0 V,(Pl.qbe T []).1.2,(Pl.qbe T []).1.1,0,-1⟩ rfl rfl).2.2.2 v p hp
   omega,fun a p=>by
   have h1:=Pl.qfm a (Pl.qcf (Pl.qbb (Pl.D0 V) p))
   have h2:=q14 V p hV
   show (Pl.qan a (Pl.qcf (Pl.qbb (Pl.D0 V) p))).length≤_
   omega⟩
 refine(qpe hE h0 hT.1 _ rfl).mono ?_
 rintro ed w' ⟨hvv,rfl,_,h2,h3⟩
 obtain⟨ao,cap,hf⟩:=qcd (h2 hp.1)
 exact⟨⟨ao,_,cap,by rw[hp.1,hp.2,hf]; rfl⟩,h3⟩
theorem qxq (V:ByteArray) (w:World) (o:Obj):DsAt ((((((w.alloc o).alloc (.cells #[.int .i64 1,.int .i64 2,.int .i64 3] 3)).alloc (.cells #[.string ⟨#[118]⟩,.string ⟨#[121]⟩,.string ⟨#[110]⟩] 9)).alloc (.cells #[.int .i64 4,.int .i64 5] 3)).alloc (.cells #[.int .i64 5,.int .i64 0,.string ⟨#[]⟩,.slice (some ⟨w.heap.size+1,0,none⟩) 3 3,.slice (some ⟨w.heap.size+1+1,0,none⟩) 3 3,.int .i64 3,.int .i64 0,.string V,.slice none 0 0,.slice none 0 0,.int .i64 4,.int .i64 0,.string ⟨#[]⟩,.slice (some ⟨w.heap.size+1+1+1,0,none⟩) 2 2,.slice none 0 0,.int .i64 1,.int .i64 0,.string ⟨#[]⟩,.slice none 0 0,.slice none 0 0,.int .i64 2,.int .i64 0,.string ⟨#[]⟩,.slice none 0 0,.slice none 0 0,.int .i64 0,.int .i64 0,.string ⟨#[]⟩,.slice none 0 0,.slice none 0 0] 67))).heap.size ((((((w.alloc o).alloc (.cells #[.int .i64 1,.int .i64 2,.int .i64 3] 3)).alloc (.cells #[.string ⟨#[118]⟩,.string ⟨#[121]⟩,.string ⟨#[110]⟩] 9)).alloc (.cells #[.int .i64 4,.int .i64 5] 3)).alloc (.cells #[.int .i64 5,.int .i64 0,.string ⟨#[]⟩,.slice (some ⟨w.heap.size+1,0,none⟩) 3 3,.slice (some ⟨w.heap.size+1+1,0,none⟩) 3 3,.int .i64 3,.int .i64 0,.string V,.slice none 0 0,.slice none 0 0,.int .i64 4,.int .i64 0,.string ⟨#[]⟩,.slice (some ⟨w.heap.size+1+1+1,0,none⟩) 2 2,.slice none 0 0,.int .i64 1,.int .i64 0,.string ⟨#[]⟩,.slice none 0 0,.slice none 0 0,.int .i64 2,.int .i64 0,.string ⟨#[]⟩,.slice none 0 0,.slice none 0 0,.int .i64 0,.int .i64 0,.string ⟨#[]⟩,.slice none 0 0,.slice none 0 0] 67))) (.slice (some ⟨w.heap.size+1+1+1+1,0,none⟩) 6 6) (Pl.D0 V.data.toList):=by
 obtain⟨w1,hw1⟩:∃ w1,w1=w.alloc o:=⟨_,rfl⟩
 have z1:w1.heap.size=w.heap.size+1:=by rw[hw1,qbd]
 obtain⟨w2,hw2⟩:∃ w2,w2=w1.alloc (.cells #[.int .i64 1,.int .i64 2,.int .i64 3] 3):=⟨_,rfl⟩
 have z2:w2.heap.size=w.heap.size+1+1:=by rw[hw2,qbd,z1]
 obtain⟨w3,hw3⟩:∃ w3,w3=w2.alloc (.cells #[.string ⟨#[118]⟩,.string ⟨#[121]⟩,.string ⟨#[110]⟩] 9):=⟨_,rfl⟩
 have z3:w3.heap.size=w.heap.size+1+1+1:=by rw[hw3,qbd,z2]
 obtain⟨w4,hw4⟩:∃ w4,w4=w3.alloc (.cells #[.int .i64 4,.int .i64 5] 3):=⟨_,rfl⟩
 have z4:w4.heap.size=w.heap.size+1+1+1+1:=by rw[hw4,qbd,z3]
 have b1:w2.heap[w.heap.size+1]?=some (.cells #[.int .i64 1,.int .i64 2,.int .i64 3] 3 (0,0)):=by rw[← z1,hw2]; exact heap_alloc_new w1 _
 have b2:w3.heap[w.heap.size+1+1]?=some (.cells #[.string ⟨#[118]⟩,.string ⟨#[121]⟩,.string ⟨#[110]⟩] 9 (0,0)):=by rw[← z2,hw3]; exact heap_alloc_new w2 _
 have b3:w4.heap[w.heap.size+1+1+1]?=some (.cells #[.int .i64 4,.int .i64 5] 3 (0,0)):=by rw[← z3,hw4]; exact heap_alloc_new w3 _
 have b1:=(heap_alloc_old w2 (.cells #[.string ⟨#[118]⟩,.string ⟨#[121]⟩,.string ⟨#[110]⟩] 9) (by rw[z2]; omega:w.heap.size+1<w2.heap.size)).trans b1
 rw[← hw3]at b1
 have b1:=(heap_alloc_old w3 (.cells #[.int .i64 4,.int .i64 5] 3) (by rw[z3]; omega:w.heap.size+1<w3.heap.size)).trans b1
 have b2:=(heap_alloc_old w3 (.cells #[.int .i64 4,.int .i64 5] 3) (by rw[z3]; omega:w.heap.size+1+1<w3.heap.size)).trans b2
 rw[← hw4]at b1 b2
 rw[← hw1,← hw2,← hw3,← hw4]
 generalize hO:Obj.cells #[.int .i64 5,.int .i64 0,.string ⟨#[]⟩,.slice (some ⟨w.heap.size+1,0,none⟩) 3 3,.slice (some ⟨w.heap.size+1+1,0,none⟩) 3 3,.int .i64 3,.int .i64 0,.string V,.slice none 0 0,.slice none 0 0,.int .i64 4,.int .i64 0,.string ⟨#[]⟩,.slice (some ⟨w.heap.size+1+1+1,0,none⟩) 2 2,.slice none 0 0,.int .i64 1,.int .i64 0,.string ⟨#[]⟩,.slice none 0 0,.slice none 0 0,.int .i64 2,.int .i64 0,.string ⟨#[]⟩,.slice none 0 0,.slice none 0 0,.int .i64 0,.int .i64 0,.string ⟨#[]⟩,.slice none 0 0,.slice none 0 0] 67=O
 have z5:(w4.alloc O).heap.size=w.heap.size+1+1+1+1+1:=by rw[qbd,z4]
 have b4:(w4.alloc O).heap[w.heap.size+1+1+1+1]?=some O:=by rw[← z4]; exact heap_alloc_new w4 _
 have b1:=(heap_alloc_old w4 O (by rw[z4]; omega:w.heap.size+1<w4.heap.size)).trans b1
 have b2:=(heap_alloc_old w4 O (by rw[z4]; omega:w.heap.size+1+1<w4.heap.size)).trans b2
 have b3:=(heap_alloc_old w4 O (by rw[z4]; omega:w.heap.size+1+1+1<w4.heap.size)).trans b3
 have c:=qaa (b4.trans (congrArg some hO.symm))
 have d1:=qaa b1
 have d2:=qaa b2
 have d3:=qaa b3
 rw[z5]
 refine⟨_,6,rfl,by show 6≤6; omega,by unfold maxLen; omega,fun _=>⟨_,rfl,by omega,fun k x hx=>?_⟩⟩
 match k,hx with
 | 0,hx=>
   injection hx with hx
   subst hx
   exact⟨c 0 _ rfl,c 1 _ rfl,c 2 _ rfl,_,_,c 3 _ rfl,c 4 _ rfl,⟨_,3,rfl,by unfold maxLen; show 3≤_; omega,fun _=>⟨_,rfl,by omega,fun j y hy=>d1 j y hy⟩⟩,⟨_,3,rfl,by unfold maxLen; show 3≤_; omega,fun _=>⟨_,rfl,by omega,fun j y hy=>d2 j y hy⟩⟩⟩
 | 1,hx=>
   injection hx with hx
   subst hx
   exact⟨c 5 _ rfl,c 6 _ rfl,c 7 _ rfl,_,_,c 8 _ rfl,c 9 _ rfl,qc3 _ _,qc3 _ _⟩
 | 2,hx=>
   injection hx with hx
   subst hx
   exact⟨c 10 _ rfl,c 11 _ rfl,c 12 _ rfl,_,_,c 13 _ rfl,c 14 _ rfl,⟨_,2,rfl,by unfold maxLen; show 2≤_; omega,fun _=>⟨_,rfl,by omega,fun j y hy=>d3 j y hy⟩⟩,qc3 _ _⟩
 | 3,hx=>
   injection hx with hx
   subst hx
   exact⟨c 15 _ rfl,c 16 _ rfl,c 17 _ rfl,_,_,c 18 _ rfl,c 19 _ rfl,qc3 _ _,qc3 _ _⟩
 | 4,hx=>
   injection hx with hx
   subst hx
   exact⟨c 20 _ rfl,c 21 _ rfl,c 22 _ rfl,_,_,c 23 _ rfl,c 24 _ rfl,qc3 _ _,qc3 _ _⟩
 | 5,hx=>
   injection hx with hx
   subst hx
   exact⟨c 25 _ rfl,c 26 _ rfl,c 27 _ rfl,_,_,c 28 _ rfl,c 29 _ rfl,qc3 _ _,qc3 _ _⟩
 | k+6,hx=>simp[Pl.D0]at hx
theorem qx6 {w w1:World} (hk:KW w) (V:ByteArray) (hV:V.size≤1048576) (T out:List UInt8) (hf:(Pl.qbe T []).2=Pl.Ft.none) (hp:(Pl.Ev.page ⟨Pl.D0 V.data.toList,(Pl.qbe T []).1.2,(Pl.qbe T []).1.1,0,-1⟩).2=0∧(Pl.Ev.page ⟨Pl.D0 V.data.toList,(Pl.qbe T []).1.2,(Pl.qbe T []).1.1,0,-1⟩).1.out=out)
  {g:Nat} {vv:Value} (hT:TplV w1 g vv (Pl.qbe T []).1) (hb:Below w.heap.size w w1) {o:Obj} :
  Calls Tryz.prog 19 #[.pointer (some ⟨g,0,none⟩),(.slice (some ⟨w1.heap.size+1+1+1+1,0,none⟩) 6 6),.int .i64 0,.int .i64 (-1)] ((((((w1.alloc o).alloc (.cells #[.int .i64 1,.int .i64 2,.int .i64 3] 3)).alloc (.cells #[.string ⟨#[118]⟩,.string ⟨#[121]⟩,.string ⟨#[110]⟩] 9)).alloc (.cells #[.int .i64 4,.int .i64 5] 3)).alloc (.cells #[.int .i64 5,.int .i64 0,.string ⟨#[]⟩,.slice (some ⟨w1.heap.size+1,0,none⟩) 3 3,.slice (some ⟨w1.heap.size+1+1,0,none⟩) 3 3,.int .i64 3,.int .i64 0,.string V,.slice none 0 0,.slice none 0 0,.int .i64 4,.int .i64 0,.string ⟨#[]⟩,.slice (some ⟨w1.heap.size+1+1+1,0,none⟩) 2 2,.slice none 0 0,.int .i64 1,.int .i64 0,.string ⟨#[]⟩,.slice none 0 0,.slice none 0 0,.int .i64 2,.int .i64 0,.string ⟨#[]⟩,.slice none 0 0,.slice none 0 0,.int .i64 0,.int .i64 0,.string ⟨#[]⟩,.slice none 0 0,.slice none 0 0] 67))) fun ed w'=>(∃ ao n cap,ed=.returned (.tuple #[.string ⟨out.toArray⟩,.slice ao n cap,.int .i64 0]))∧Below w.heap.size w w':=by
 have hD:=qxq V w1 o
 have hal:∀(a b c d e:Obj),Below w1.heap.size w1 (((((w1.alloc a).alloc b).alloc c).alloc d).alloc e):=fun a b c d e=>((((((Below.refl _ _).alloc (Nat.le_refl _) a).alloc (by rw[qbd]; omega) b).alloc (by rw[qbd,qbd]; omega) c).alloc (by rw[qbd,qbd,qbd]; omega) d).alloc (by rw[qbd,qbd,qbd,qbd]; omega) e)
 have hB:=hb.trans ((hal o (.cells #[.int .i64 1,.int .i64 2,.int .i64 3] 3) (.cells #[.string ⟨#[118]⟩,.string ⟨#[121]⟩,.string ⟨#[110]⟩] 9) (.cells #[.int .i64 4,.int .i64 5] 3) (.cells #[.int .i64 5,.int .i64 0,.string ⟨#[]⟩,.slice (some ⟨w1.heap.size+1,0,none⟩) 3 3,.slice (some ⟨w1.heap.size+1+1,0,none⟩) 3 3,.int .i64 3,.int .i64 0,.string V,.slice none 0 0,.slice none 0 0,.int .i64 4,.int .i64 0,.string ⟨#[]⟩,.slice (some ⟨w1.heap.size+1+1+1,0,none⟩) 2 2,.slice none 0 0,.int .i64 1,.int .i64 0,.string ⟨#[]⟩,.slice none 0 0,.slice none 0 0,.int .i64 2,.int .i64 0,.string ⟨#[]⟩,.slice none 0 0,.slice none 0 0,.int .i64 0,.int .i64 0,.string ⟨#[]⟩,.slice none 0 0,.slice none 0 0] 67)).mono hb.size)
 refine(qsn _ (hk.kept hB) V.data.toList T (by simpa using hV) hf out hp g vv _ (hT.below (hal _ _ _ _ _)) hD).mono ?_
 rintro ed w' ⟨h1,h3⟩
 exact⟨h1,hB.trans (h3.mono hB.size)⟩
theorem qv6 (T:ByteArray) (w:World) (hk:KW w) (hf:(Pl.qbe T.data.toList []).2.code=3) :
  Calls Tryz.prog 12 #[.string T,.slice none 0 0] w fun ed w'=>(∃ kd pl ps,ed=.returned (.tuple #[.pointer none,.agg #[.int .i64 3,.int .i64 kd,.string pl,.int .i64 ps]]))∧Below w.heap.size w w':=by
 refine(qoc qp4 T (.slice none 0 0) [] w ⟨none,0,rfl,Nat.le_refl _,Nat.zero_le _,fun h=>absurd rfl h⟩ hk.tabs hk.ml (qlh _) (fun p hp=>by cases hp)).mono ?_
 rintro ed w' ⟨⟨p,h1,h2,_⟩,hb⟩
 have e:qa9 []=[]:=rfl
 rw[e]at h1 h2
 have hp:=h2 (by rw[hf]; simp)
 refine⟨⟨(Pl.qbe T.data.toList []).2.kind,⟨(Pl.qbe T.data.toList []).2.place.toArray⟩,(Pl.qbe T.data.toList []).2.pos,?_⟩,hb⟩
 rw[h1,hp]
 unfold ql2
 rw[hf]
 rfl
set_option maxRecDepth 100000 in
set_option maxHeartbeats 6400000 in
theorem q2m (V:ByteArray) (rv:Value) (L:List (Int×ByteArray)) (w:World) (hk:KW w) (hR:qrw w rv L) (hV:V.size≤1048576) (hL:∀ x∈L,(-9223372036854775808≤x.1∧x.1≤9223372036854775807)∧x.2.size≤1048576) :
  Calls Tryz.prog 9 #[rv,.string V] w fun ed w'=>ed=.returned (.bool true)∧Below w.heap.size w w':=by
 have hmt:=Pl.qyr V.data.toList (qlz L) (fun x hx=>by
  obtain⟨y,_,rfl⟩:=List.mem_map.1 hx
  exact⟨qje _,qk2 _⟩)
 have hbd:=qys V.data.toList (by simpa using hV) (qlz L) [] [] (fun x hx=>by
  obtain⟨y,_,rfl⟩:=List.mem_map.1 hx
  exact qk2 _) (by simp) (by simp)
 have HMade:=(show Hid _ from fun w hk hR=>q3s V rv L w hk hR hV hL _ rfl)
 generalize Pl.qgu V.data.toList (qlz L) [] []=r at hmt hbd HMade
 obtain⟨t,out⟩:=r
 obtain⟨m1,m2,m3⟩:=hmt
 simp only at m1 m2 m3 hbd HMade
 have HK:=(show Hid _ from hk)
 have HR:=(show Hid _ from hR)
 have hform:∃ ao cap,rv=.slice ao L.length cap:=⟨_,_,hR.choose_spec.choose_spec.1⟩
 obtain⟨ao,cap,rfl⟩:=hform
 clear hk hR hL
 by_cases hz:out=[]
 ·subst hz
  have HC:=(show Hid _ from fun w hk=>qv6 ⟨t.toArray⟩ w hk (m2 rfl))
  clear m1 m2 m3 hbd
  go_enter Tryz.func9,Tryz.ntmps9
  go_wp2_with (first
   | (go_at_call 12; refine Calls.mono (HC.out _ (HK.out.kept HB2.out)) ?_; rintro ed w3 ⟨⟨kd,pl,ps,rfl⟩,hb3⟩; have HB3:=(show Hid _ from HB2.out.trans (hb3.mono HB2.out.size)))
   | (go_at_call 26; refine Calls.mono (HMade.out _ (HK.out.kept HB1.out) (qrw.below HR.out HB1.out)) ?_; rintro ed w2 ⟨rfl,hb2⟩; have HB2:=(show Hid _ from HB1.out.trans (hb2.mono HB1.out.size)))
   | (go_at_call 17; refine Calls.mono (qwt _ HK.out) ?_; rintro ed w1 ⟨rfl,hb1⟩; have HB1:=(show Hid _ from hb1)))
  go_ret
  exact⟨rfl,HB3.out.alloc HB3.out.size _⟩
 ·obtain⟨f1,f2⟩:=m3 hz
  obtain⟨p1,p2⟩:=f2 0
  have HT:=(show Hid _ from fun w1 g vv o hT hb=>@qx6 w w1 HK.out V hV t _ f1 ⟨p1,rfl⟩ g vv hT hb o)
  generalize (Pl.Ev.page ⟨Pl.D0 V.data.toList,(Pl.qbe t []).1.2,(Pl.qbe t []).1.1,0,-1⟩).1.out=po at p2 HT
  subst p2
  have HC:=(show Hid _ from fun w hk=>qlq ⟨t.toArray⟩ w hk f1)
  obtain⟨S,hS⟩:∃ S:ByteArray,S=⟨(po++[46]).toArray⟩:=⟨_,rfl⟩
  have c0:S.toList.isEmpty=false:=by rw[hS,Lib.toList_data,List.isEmpty_eq_false_iff]; simp
  have c9:((⟨po.toArray⟩++⟨#[46]⟩:ByteArray).toList==S.toList)=true:=by rw[hS,Lib.toList_data,Lib.toList_data]; simp
  have HMade:Hid (∀(w:World),KW w→qrw w (.slice ao L.length cap) L→Calls Tryz.prog 26 #[.slice ao L.length cap,.string V] w fun ed w'=>ed=.returned (.tuple #[.string ⟨t.toArray⟩,.string S])∧Below w.heap.size w w'):=by rw[hS]; exact HMade
  have hpl:po.length≤58500000001:=by rw[List.length_append]at hbd; omega
  clear m1 m2 m3 hbd hS f1 f2 p1 hz
  go_enter Tryz.func9,Tryz.ntmps9
  go_wp2_with (first
   | (go_at_call 19; refine Calls.mono (HT.out _ _ _ _ HV.out HB3.out) ?_; rintro ed w4 ⟨⟨ho,hn,hc,rfl⟩,hb4⟩)
   | (go_at_call 12; refine Calls.mono (HC.out _ (HK.out.kept HB2.out)) ?_; rintro ed w3 ⟨⟨g,vv,rfl,hV3⟩,hb3⟩; have HV:=(show Hid _ from hV3); clear hV3; have HB3:=(show Hid _ from HB2.out.trans (hb3.mono HB2.out.size)))
   | (go_at_call 26; refine Calls.mono (HMade.out _ (HK.out.kept HB1.out) (qrw.below HR.out HB1.out)) ?_; rintro ed w2 ⟨rfl,hb2⟩; have HB2:=(show Hid _ from HB1.out.trans (hb2.mono HB1.out.size)))
   | (go_at_call 17; refine Calls.mono (qwt _ HK.out) ?_; rintro ed w1 ⟨rfl,hb1⟩; have HB1:=(show Hid _ from hb1)))
  go_ret
  exact⟨rfl,hb4⟩
end Go.Proofs.YtfkhljmiehdgmaaGreatDoor
namespace Go.Proofs.YtfkhljmiehdgmaaGreatDoor
open Go.RowKit Go.ChangeShapes Go.WideShapes
theorem qri {H:Type} {d:DataW H}:∀ {l:List (DataW H)},d∈l→Rows.uptoBulk d≤Rows.uptoBulkAll l
 | e::l,h=>by
   unfold Rows.uptoBulkAll
   rcases List.mem_cons.1 h with rfl | h
   ·omega
   ·have:=qri h
    omega
theorem qvt:∃ f0 f1 f2:Field,Tryz.prog.underlying 108=some (.struct #[f0,f1,f2])∧f0.offset=0∧f2.offset=2∧f0.type=3∧f2.type=9:=⟨_,_,_,Tryz.underlying108,rfl,rfl,rfl,rfl⟩
set_option maxRecDepth 100000 in
theorem q0x {H:Type} {enc:TypeId×Value→H} {w:World} {fuel:Nat} {v:Value} {x:DataW H×List MemPlace} (h:DataW.trod enc Tryz.prog w 0 (fun _=>true) true fuel 63 [v]=some x) :
  ∃ L,qrw w v L∧∀ y∈L,(-9223372036854775808≤y.1∧y.1≤9223372036854775807)∧y.2.size≤Rows.uptoBulk x.1:=by
 obtain⟨f0,f1,f2,he,o0,o2,t0,t2⟩:=qvt
 have ce:Tryz.prog.cellsOf 108=3:=by kernel_rfl
 have c0:Tryz.prog.cellsOf f0.type=1:=by rw[t0]; kernel_rfl
 have c2:Tryz.prog.cellsOf f2.type=1:=by rw[t2]; kernel_rfl
 rcases Deep.open_slice (e:=108) (by kernel_rfl) h with ⟨hcs,hx⟩ | ⟨a,len,cap,m,n,D,Ps,hcs,hb,hl,hm,hmm,hx,hel⟩
 ·injection hcs with hcs _
  exact⟨[],⟨none,0,hcs,Nat.zero_le _,fun h=>absurd rfl h⟩,fun y hy=>by cases hy⟩
 injection hcs with hcs _
 have hmc:m=cap:=by rw[hmm]; rfl
 have each:∀ i,i<len→∃ q:Int×ByteArray,w.cell? (a.add (i*3))=some (.int .i64 q.1)∧w.cell? (a.add (i*3+2))=some (.string q.2)∧(-9223372036854775808≤q.1∧q.1≤9223372036854775807)∧q.2.size≤Rows.uptoBulk (D i):=by
  intro i hi
  obtain⟨cs',h1,h2⟩:=hel i (by omega)
  rw[ce]at h1
  obtain⟨_,hlen,hcell⟩:=World.cells?_some h1
  obtain⟨xs,k,hk,hxy,_,hxl,hf⟩:=DataW.trod_struct he h2
  match xs,hxl,cs',hlen with
  | [y0,y1,y2],_,[v0,v1,v2],_=>
    have g0:=hf 0 f0 rfl
    have g2:=hf 2 f2 rfl
    simp[o0,c0]at g0
    simp[o2,c2]at g2
    have e0:=hcell 0 (by omega)
    have e2:=hcell 2 (by omega)
    rw[Deep.add_add]at e0 e2
    rw[t0]at g0
    rw[t2]at g2
    obtain⟨z,hz,_,hwf⟩:=DataW.trod_int Tryz.underlying3 g0
    obtain⟨s,hs,hy2,_⟩:=DataW.trod_string Tryz.underlying9 g2
    injection hz with hz _
    injection hs with hs _
    subst hz hs
    refine⟨(z,s),by simpa using e0,by simpa using e2,?_,?_⟩
    ·simp only[Lit.wf,Bool.and_eq_true,decide_eq_true_eq]at hwf
     have h1:=hwf.1
     have h2:=hwf.2
     have m1:IntKind.i64.min=-9223372036854775808:=by decide
     have m2:IntKind.i64.max=9223372036854775807:=by decide
     rw[m1]at h1
     rw[m2]at h2
     exact⟨h1,h2⟩
    ·simp only[Prod.mk.injEq]at hxy
     rw[hxy.1]
     have h3:=qri (d:=y2.1) (l:=[y0,y1,y2].map (·.1)) (by simp)
     rw[hy2]at h3
     have h4:Rows.uptoBulk (DataW.lit (H:=H) (.string s.data.toList))=s.data.toList.length+1:=rfl
     rw[h4]at h3
     have h5:s.data.toList.length=s.size:=rfl
     show s.size≤Rows.uptoBulkAll _+1
     rw[hy2]
     omega
 obtain⟨q,hq⟩:=Deep.choose_lt each
 refine⟨(List.range len).map q,⟨some a,cap,by rw[hcs]; simp,by simp; omega,fun hne=>?_⟩,fun y hy=>?_⟩
 ·have hpos:0<len:=by
   rcases Nat.eq_zero_or_pos len with h | h
   ·rw[h]at hne; exact absurd rfl hne
   ·exact h
  obtain⟨b,ob,sp⟩:=a
  have hsp:sp=none:=by simpa [Addr.add] using World.cell?_spot (hq 0 hpos).1
  subst hsp
  refine⟨b,ob,rfl,qh1 (hq 0 hpos).1,fun k x hk=>?_⟩
  rw[List.getElem?_map]at hk
  obtain⟨j,hj,rfl⟩:=Option.map_eq_some_iff.1 hk
  have hk2:=(List.getElem?_eq_some_iff.1 hj).1
  have hk3:j=k:=by rw[List.getElem?_range (by simpa using hk2)]at hj; exact(Option.some.inj hj).symm
  subst hk3
  have:=hq j (by simpa using hk2)
  have p1:=this.1
  have p2:=this.2.1
  rw[add_plain]at p1 p2
  exact⟨p1,by rw[Nat.add_assoc]; exact p2⟩
 ·obtain⟨j,hj,rfl⟩:=List.mem_map.1 hy
  have:=hq j (List.mem_range.1 hj)
  refine⟨this.2.2.1,Nat.le_trans this.2.2.2 ?_⟩
  rw[hx]
  have h1:=qri (d:=D j) (l:=(List.range len).map D) (List.mem_map.2 ⟨j,hj,rfl⟩)
  show _≤Rows.uptoBulkAll _+Rows.uptoBulkAll _+1
  omega
end Go.Proofs.YtfkhljmiehdgmaaGreatDoor
namespace Go.Proofs.YtfkhljmiehdgmaaGreatDoor
open Go.ChangeShapes Go.WideShapes Go.ChangeAt Go.RowKit
theorem q8a:Tryz.prog.globalNamed "stencil/escape.openSchemes"=some 7:=by kernel_rfl
theorem q61:Tryz.prog.globalNamed "stencil/escape.swaps"=some 8:=by kernel_rfl
theorem q8z:Tryz.prog.globalNamed "stencil/escape.escapers"=some 9:=by kernel_rfl
theorem q7l:(Tryz.prog.globals[7]?).map (·.type)=some 294:=by kernel_rfl
theorem q5t:(Tryz.prog.globals[8]?).map (·.type)=some 298:=by kernel_rfl
theorem q8o:(Tryz.prog.globals[9]?).map (·.type)=some 301:=by kernel_rfl
theorem q72:qfp Tryz.prog 4 294=true:=by kernel_rfl
theorem q58:qfp Tryz.prog 4 298=true:=by kernel_rfl
theorem q8v:qfp Tryz.prog 4 301=true:=by kernel_rfl
theorem q8f:qfj 4 (Rows.laid_stencil_escape_openSchemes (H:=Unit))=qhb.toList:=rfl
theorem q68:qfj 4 (Rows.laid_stencil_escape_swaps (H:=Unit))=qd7.toList:=rfl
theorem q82:qfj 4 (Rows.laid_stencil_escape_escapers (H:=Unit))=qxb.toList:=rfl
theorem q8w {W:World} (h:laidMetH Tryz.prog Rows.takenRow.laid W) (hsh:W.ShapedOpen Tryz.prog):KW W:=by
 obtain⟨ps,hv,_⟩:=(show laidMet Tryz.prog Rows.takenRow.laid W from h)
 have hP:quj W:=by
  obtain⟨_,_,_,_,_,_,_,_,_,_,hr,_⟩:=hv
  obtain⟨_,_,_,_,_,_,_,_,_,_,hr,_⟩:=hr
  obtain⟨g',t',cs,fuel,p,q,hg',ht',hvar,hd,_,_⟩:=hr
  have hg:Tryz.prog.globalNamed "internal/strconv.uint64pow10"=some 14:=by kernel_rfl
  have hty:(Tryz.prog.globals[14]?).map (·.type)=some 359:=by kernel_rfl
  obtain rfl:=Option.some.inj (hg.symm.trans hg')
  obtain rfl:=Option.some.inj (hty.symm.trans ht')
  show Lib.TabIs _ _ _ _ _
  unfold Lib.TabIs
  rw[hvar,← Lib.cells_of_tab (zs:=Lib.pow10Tab) (k:=.u64) (e:=313) (n:=20) (by kernel_rfl) (by kernel_rfl) (by kernel_rfl) (by kernel_rfl) hd]
 refine⟨⟨fun j v hj=>?_,fun j v hj=>?_,fun j v hj=>?_,fun j v hj=>?_,fun j v hj=>?_,fun j v hj=>?_,fun j v hj=>?_,fun j v hj=>?_⟩,q04 hsh,⟨fun j v hj=>?_,fun j v hj=>?_,fun j v hj=>?_⟩,hP,qh1 (Lib.TabIs.cell hP (by kernel_rfl) 0 (by decide))⟩
 ·exact qbt hv 7 _ _ rfl _ _ 4 gMt tMt pMt j v (by rw[dMt]; exact hj)
 ·exact qbt hv 8 _ _ rfl _ _ 4 gCt tCt pCt j v (by rw[dCt]; exact hj)
 ·exact qbt hv 9 _ _ rfl _ _ 4 gRd tRd pRd j v (by rw[dRd]; exact hj)
 ·exact qbt hv 10 _ _ rfl _ _ 4 gOt tOt pRd j v (by rw[dOt]; exact hj)
 ·exact qbt hv 11 _ _ rfl _ _ 4 gEs tEs pEs j v (by rw[dEs]; exact hj)
 ·exact qbt hv 13 _ _ rfl _ _ 4 gEl tEl pEl j v (by rw[dEl]; exact hj)
 ·exact qbt hv 14 _ _ rfl _ _ 4 gAt tAt pAt j v (by rw[dAt]; exact hj)
 ·exact qbt hv 12 _ _ rfl _ _ 4 gLe tLe pLe j v (by rw[dLe]; exact hj)
 ·exact qbt hv 4 _ _ rfl _ _ 4 q8a q7l q72 j v (by rw[q8f]; exact hj)
 ·exact qbt hv 5 _ _ rfl _ _ 4 q61 q5t q58 j v (by rw[q68]; exact hj)
 ·exact qbt hv 6 _ _ rfl _ _ 4 q8z q8o q8v j v (by rw[q82]; exact hj)
end Go.Proofs.YtfkhljmiehdgmaaGreatDoor
namespace Go.Proofs.YtfkhljmiehdgmaaGreatDoor.fnTaken
open Go.ChangeShapes Go.WideShapes Go.ChangeAt Go.RowKit Go.WideMaps Go.WideElems
open Go.ChangeMaps (setBlock shut_map_nil open_string shut_string keptBut_setBlock frozen?_setBlock heap_setBlock_same)
theorem q4o {H:Type} {x:DataW H} {s:ByteArray} {gs:List (DataW H)} (hk:Rows.uptoSmall H ([x,.lit (.string s.data.toList)]++gs)=true):s.size≤1048576∧Rows.uptoBulk x≤1048576:=by
 have h:Rows.uptoBulkAll ([x,DataW.lit (H:=H) (.string s.data.toList)]++gs)≤1048576:=of_decide_eq_true hk
 simp only[List.cons_append,List.nil_append,Rows.uptoBulkAll,Rows.uptoBulk]at h
 have:s.data.toList.length=s.size:=rfl
 omega
set_option maxRecDepth 100000 in
theorem contract (H:Type) (enc:TypeId×Value→H) (W:World) (base:Nat) (args:Array Value) (ds gs:List (DataW H)) (before:List MemPlace)
  (hval:∀(j:Nat) t v,Tryz.f9.params[j]?=some t→args[j]?=some v→Value.okWide Tryz.prog W .any base t v)
  (hW:DataW.Whole enc Tryz.prog Tryz.f9.params.toList Rows.takenSpec.vars false W args.toList ds gs before) (hk:Rows.uptoSmall H (ds++gs)=true) (hL:laidMetH Tryz.prog Rows.takenRow.laid W) (hsh:W.ShapedOpen Tryz.prog) :
  Calls Tryz.prog 9 args W fun e W'=>∃ v,e=.returned v∧Rows.takenSpec.post enc Tryz.prog Tryz.f9 false true false false W args v W':=by
 have hW':=hW
 obtain⟨p,q,hA0,hV,rfl,hfz,hnd⟩:=hW
 have hA:DataW.TrodAll enc Tryz.prog W 0 (fun _=>true) true Tryz.f9.params.toList args.toList ds p:=hA0
 rw[Tryz.params9]at hA hval
 obtain⟨v0,vs0,d0,ds0,p0,q0,hargs,rfl,rfl,h0,r0⟩:=trodAll_cons hA
 obtain⟨v1,vs1,d1,ds1,p1,q1,rfl,rfl,rfl,h1,r1⟩:=trodAll_cons r0
 obtain⟨rfl,rfl,rfl⟩:=trodAll_nil r1
 obtain rfl:args=#[v0,v1]:=by cases args; simp_all
 obtain⟨rfl,rfl⟩:=trodVars_none hV
 obtain⟨ao,ln,cp,rfl⟩:=okWide_slice (P:=Tryz.prog) (e:=108) (by kernel_rfl) (hval 0 63 _ rfl rfl)
 obtain⟨s,rfl,rfl,rfl,hs⟩:=open_string Tryz.underlying9 (hval 1 9 v1 rfl rfl) h1
 have h0':=h0
 obtain⟨fuel,h0t⟩:=h0
 obtain⟨L,hR,hLb⟩:=q0x h0t
 clear hA0
 simp only[List.append_nil]at hW'
 have hsm:=q4o hk
 refine(q2m s _ L W (q8w hL hsh) hR hsm.1 (fun y hy=>⟨(hLb y hy).1,Nat.le_trans (hLb y hy).2 hsm.2⟩)).mono fun e W' ⟨he,hb⟩=>?_
 subst he
 have hstay:∀ sp':Nat→Bool,(∀ x∈p0,sp' x.block=true)→DataW.Trod enc Tryz.prog W' 0 sp' true 63 (.slice ao ln cp) d0 p0:=fun sp' hsp=>
  Go.WideElems.Trod_stays (P:=Tryz.prog) (by kernel_rfl) (by kernel_rfl) (by decide +kernel) h0' (fun x hx=>hb.same (hW'.lt x (by simpa using hx))) hsp
 refine⟨_,rfl,_,_,_,[],p0++([]++[]),[],hW',?_,?_,?_,hb.frame _,fun h=>by cases h⟩
 ·exact trodAll_cons_mk (shut_bool Tryz.underlying4 _) trodAll_mk0
 ·exact trodAll_cons_mk (hstay _ (fun x hx=>by simpa using hW'.lt x (by simpa using hx))) (trodAll_cons_mk (shut_string Tryz.underlying9 hs) trodAll_mk0)
 ·exact rfl
end Go.Proofs.YtfkhljmiehdgmaaGreatDoor.fnTaken
namespace Go.Proofs.YtfkhljmiehdgmaaGreatDoor.fnTaken
open Go.ChangeShapes Go.WideShapes Go.ChangeAt Go.RowKit Go.WideMaps Go.WideElems
set_option maxRecDepth 100000 in
theorem liftedUpto (os:Os) (started:os.Started) (H:Type) (enc:TypeId×Value→H) (F:Stop.Interp) :
  ReturnsInHanded {} Tryz.checked os 9 .any ((Rows.OpenSpec.upto Rows.takenSpec).preRow enc Tryz.prog Tryz.f9 Rows.takenUptoRow.domain false Rows.takenUptoRow.laid) (((Rows.OpenSpec.upto Rows.takenSpec).at F).post enc Tryz.prog Tryz.f9 false true false false):=by
 obtain⟨places,hx⟩:=q8r os enc
 refine returnsInHanded_of_row (C:=Tryz.checked) (s:=Rows.OpenSpec.upto Rows.takenSpec) q81 started (by kernel_rfl) Tryz.func9
  (qqb (enc:=enc) (C:=Tryz.checked) false (World.laidAll Tryz.prog os Rows.takenRow.laid) #[.slice none 0 0,.string .empty] (World.laidAll_os _ _ _) (qsc os) (by kernel_rfl)
   (OpenSpec.preRow_of_cond 8 hx (by kernel_rfl) (fun k hk=>by cases hk; kernel_rfl) (by kernel_rfl) (q3z os))) ?_
 intro W base args ds gs before hval hW _ hcond _ hL hsh _
 exact contract H enc W base args ds gs before hval hW (hcond _ rfl) hL hsh
end Go.Proofs.YtfkhljmiehdgmaaGreatDoor.fnTaken
namespace Go.Proofs.YtfkhljmiehdgmaaGreatDoor.fnTaken
open Go.ChangeShapes Go.WideShapes Go.ChangeAt Go.RowKit
theorem saidUpto:Rows.TakenUptoSaid:=
 OpenClaim.holds_of_cond 9 Tryz.f9 rfl rfl rfl rfl rfl rfl rfl ⟨rfl,rfl,rfl,rfl,rfl⟩ rfl rfl rfl rfl rfl (by kernel_rfl) Tryz.func9 jf
  (of_decide_eq_true (by kernel_rfl)) (by unfold Func.isWrapper; first | (rw[if_pos (by decide +kernel)]; kernel_rfl) | (rw[if_neg (by decide +kernel)]; exact⟨rfl,rfl⟩))
  (fun os started H enc _ F=>by rw[OpenClaim.pre_eq_preRow]; exact liftedUpto os started H enc F)
theorem plain (f:FuncId) (fn:Func) (hf:Tryz.pinned.checked.prog.funcNamed "stencil/stencilkeep.Taken"=some f) (hfn:Tryz.pinned.checked.prog.funcs[f]?=some fn) :
  false=Tryz.pinned.checked.prog.looks []∧∀(j:Nat) t,fn.params[j]?=some t→Tryz.pinned.checked.prog.wantsStandIn t=false:=by
 obtain rfl:f=9:=Option.some.inj ((show Tryz.prog.funcNamed "stencil/stencilkeep.Taken"=some 9 by kernel_rfl).symm.trans hf) |>.symm
 obtain rfl:fn=Tryz.f9:=(Option.some.inj (Tryz.func9.symm.trans hfn)).symm
 refine⟨by kernel_rfl,fun j t ht=>?_⟩
 rw[Tryz.params9]at ht
 have hm:t=63∨t=9:=by simpa using Array.mem_of_getElem? ht
 rcases hm with rfl | rfl
 ·exact(show Tryz.prog.wantsStandIn 63=false by kernel_rfl)
 ·exact(show Tryz.prog.wantsStandIn 9=false by kernel_rfl)
theorem cardUpto:Rows.TakenUptoCardSaid:=
 Claim7.holds_tied_plain_at .later [] _ _ _ _ saidUpto (fun _ h=>by cases h) (by kernel_rfl) (fun _ h=>by cases h) takenUpto_row_tie rfl ⟨rfl,rfl⟩ (by kernel_rfl) rfl plain (by kernel_rfl)
end Go.Proofs.YtfkhljmiehdgmaaGreatDoor.fnTaken

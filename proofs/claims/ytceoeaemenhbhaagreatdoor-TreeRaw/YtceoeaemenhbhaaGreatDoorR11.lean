/- Walks of the package cowtree and of what it stands on: lemmas, made short. -/
import Derived.Test.YtceoeaemenhbhaaGreatDoorR4
import Derived.Test.YtceoeaemenhbhaaGreatDoorR10
import Derived.Deep.LoopGhost
import Derived.Maps.AppendAt
set_option maxHeartbeats 16000000
set_option maxRecDepth 100000
set_option linter.unusedVariables false
set_option linter.unusedSimpArgs false
namespace Go.Proofs.YtceoeaemenhbhaaGreatDoor
open Go.Shelf Go.RowKit Go.Lib Go.Sort
namespace N
section
attribute [local go_sem ↓] Go.wp_at_zero Go.wp_at_succ
def H5 (W:World)(p fr tr fa ta no:Nat)(ae ak az ao ay:Option Addr)(ce ck cz co cy:Nat)(es:List En)(ks kk:List Int)(ss yy:List ByteArray){y6 y7 y8 y9 y13 sR oK oL rB uX uY y20 y21 y22 y23 y24 y25 xI y27 y28 y29 xJ y31 y32 vh y34 sV sW vn y38 y39 xK xL xM xN DB DC DD DF DG DJ zR zS zT zU zV zW:Value}(C:List Bool->Act->Prop)(w:World):Prop:=∀{f0 f1 f2 f3 f4 f5 f6 f7 f8 f9 f10 f11 f12 f13 f14 f15 f16 f17:Bool}{Me Mf Mg H7 Mh Mi Bz wh Lu GY x66 GZ Lv x69 Lx G4 Lz:Value},f17=false->RB W (p+1) 74 w->Hid (f0=true->Me=.pointer (some ⟨p,1,none⟩))->Hid (f1=true->Mf=.slice ae es.length ce)->Hid (f2=true->∃qq,Mg=.slice (some ⟨qq,0,none⟩) 1 1∧Cl w qq #[.slice ae es.length ce] 27)->Hid (f3=true->∃ao n c,H7=.slice ao n c∧aW (p+2) w H7 (es))->Hid (f4=true->Mh=.pointer (some ⟨p,2,none⟩))->Hid (f5=true->Mi=.slice ak ks.length ck)->Hid (f6=true->Bz=.int .i64 fr)->Hid (f7=true->wh=.int .i64 tr)->Hid (f8=true->Lu=.slice ao no co)->Hid (f9=true->∃ao n c,GY=.slice ao n c∧dN (p+2) w GY (im ks fr tr kk))->Hid (f10=true->x66=.pointer (some ⟨p,3,none⟩))->Hid (f11=true->GZ=.slice az ss.length cz)->Hid (f12=true->Lv=.int .i64 fa)->Hid (f13=true->x69=.int .i64 ta)->Hid (f14=true->Lx=.slice ay yy.length cy)->Hid (f15=true->∃ao n c,G4=.slice ao n c∧cE (p+2) w G4 (im ss fa ta yy))->Hid (f16=true->f3=true∧f9=true∧f15=true∧Lz=.agg #[.bool false,H7,GY,G4])->C [f0,f1,f2,f3,f4,f5,f6,f7,f8,f9,f10,f11,f12,f13,f14,f15,f16,f17] {tmps:=#[.agg #[.bool false,.slice ae es.length ce,.slice ak ks.length ck,.slice az ss.length cz],.int .i64 fr,.int .i64 tr,.slice ao no co,.slice ay yy.length cy,.pointer (some ⟨p,0,none⟩),y6,y7,y8,y9,.pointer (some ⟨p+1,0,none⟩),.int .i64 fa,.int .i64 ta,y13,sR,oK,oL,rB,uX,uY,y20,y21,y22,y23,y24,y25,xI,y27,y28,y29,xJ,y31,y32,vh,y34,sV,sW,vn,y38,y39,xK,xL,xM,xN,DB,DC,DD,DF,DG,DJ,zR,zS,zT,zU,zV,zW,Me,Mf,Mg,H7,Mh,Mi,Bz,wh,Lu,GY,x66,GZ,Lv,x69,Lx,G4,Lz],defers:=[]}
theorem Ah:(∀(es:List En) (ks kk:List Int) (ss yy:List ByteArray) (fr tr:Nat) (ve vk vs vo vy:Value) (w:World) (he:Row ax 2 w ve es) (hk:Row encI 1 w vk ks) (hss:Row encS 1 w vs ss) (hkk:Row encI 1 w vo kk) (km:Row encS 1 w vy yy) (s1:es.length<=1000) (s2:ks.length<=1000) (s3:ss.length<=1000) (s4:kk.length<=1000) (s5:yy.length<=1000) (hft:fr<tr) (htk:tr<=ks.length) (hyk:(yy.length:Int)=max ((kk.length:Int)-1) 0) (ta:Nat) (g:0<kk.length) (ht1:ta=tr-1),Calls Tryz.prog 156 #[.agg #[.bool false,ve,vk,vs],.int .i64 fr,.int .i64 tr,vo,vy] w (Dz w ⟨false,es,im ks fr tr kk,im ss fr ta yy⟩))∧
  (∀(es:List En) (ks kk:List Int) (ss yy:List ByteArray) (fr tr:Nat) (ve vk vs vo vy:Value) (w:World) (he:Row ax 2 w ve es) (hk:Row encI 1 w vk ks) (hss:Row encS 1 w vs ss) (hkk:Row encI 1 w vo kk) (km:Row encS 1 w vy yy) (s1:es.length<=1000) (s2:ks.length<=1000) (s3:ss.length<=1000) (s4:kk.length<=1000) (s5:yy.length<=1000) (hft:fr<tr) (htk:tr<=ks.length) (hyk:(yy.length:Int)=max ((kk.length:Int)-1) 0) (fa ta:Nat) (g:kk.length=0) (g2:0<fr) (hf1:fa=fr-1) (ht1:ta=tr-1),Calls Tryz.prog 156 #[.agg #[.bool false,ve,vk,vs],.int .i64 fr,.int .i64 tr,vo,vy] w (Dz w ⟨false,es,im ks fr tr kk,im ss fa ta yy⟩))∧
  (∀(es:List En) (ks kk:List Int) (ss yy:List ByteArray) (fr tr:Nat) (ve vk vs vo vy:Value) (w:World) (he:Row ax 2 w ve es) (hk:Row encI 1 w vk ks) (hss:Row encS 1 w vs ss) (hkk:Row encI 1 w vo kk) (km:Row encS 1 w vy yy) (s1:es.length<=1000) (s2:ks.length<=1000) (s3:ss.length<=1000) (s4:kk.length<=1000) (s5:yy.length<=1000) (hft:fr<tr) (htk:tr<=ks.length) (hyk:(yy.length:Int)=max ((kk.length:Int)-1) 0) (g:kk.length=0) (g2:fr=0),Calls Tryz.prog 156 #[.agg #[.bool false,ve,vk,vs],.int .i64 fr,.int .i64 tr,vo,vy] w (Dz w ⟨false,es,im ks fr tr kk,im ss fr tr yy⟩)):=by
 refine⟨have iT:=trivial; ?_,have fc:=trivial; ?_,have PI:=trivial; ?_⟩
 all_goals
  first
   |have zz:=fc
    intro es ks kk ss yy fr tr ve vk vs vo vy w he hk hss hkk km s1 s2 s3 s4 s5 hft htk hyk fa ta g g2 hf1 ht1
   |have zz:=iT
    intro es ks kk ss yy fr tr ve vk vs vo vy w he hk hss hkk km s1 s2 s3 s4 s5 hft htk hyk ta g ht1
   |intro es ks kk ss yy fr tr ve vk vs vo vy w he hk hss hkk km s1 s2 s3 s4 s5 hft htk hyk g g2
  obtain⟨ae,ce,rfl,_⟩:=ar he;obtain⟨ak,ck,rfl,_⟩:=ar hk;obtain⟨az,cz,rfl,_⟩:=ar hss;obtain⟨ao,co,rfl,_⟩:=ar hkk;obtain⟨ay,cy,rfl,_⟩:=ar km;have K1:Cl ((w.alloc (.cells #[.bool false,.slice ae es.length ce,.slice ak ks.length ck,.slice az ss.length cz] 74)).alloc (.cells #[.bool false,.slice none 0 0,.slice none 0 0,.slice none 0 0] 74)) w.heap.size #[.bool false,.slice ae es.length ce,.slice ak ks.length ck,.slice az ss.length cz] 74:=(Cl.kV _ _ _).alloc _;have K2:Cl ((w.alloc (.cells #[.bool false,.slice ae es.length ce,.slice ak ks.length ck,.slice az ss.length cz] 74)).alloc (.cells #[.bool false,.slice none 0 0,.slice none 0 0,.slice none 0 0] 74)) (w.heap.size+1) #[.bool false,.slice none 0 0,.slice none 0 0,.slice none 0 0] 74:=Cl.oG _ _ _ _;have BW:Hid (Below w.heap.size w ((w.alloc (.cells #[.bool false,.slice ae es.length ce,.slice ak ks.length ck,.slice az ss.length cz] 74)).alloc (.cells #[.bool false,.slice none 0 0,.slice none 0 0,.slice none 0 0] 74))):=ai _ (ai _ (Below.refl _ _))
  first
   |have zz:=fc
    have gz:decide ((0:Int)< (kk.length:Int))=false:=decide_eq_false (by omega);have WR:decide (0<kk.length)=false:=decide_eq_false (by omega);have WS:(0:Int)< (fr:Int):=by omega
    have e1:(fa:Int)=(fr:Int)-1:=by omega
    have e2:(ta:Int)=(tr:Int)-1:=by omega
   |have zz:=PI
    have gz:decide ((0:Int)< (kk.length:Int))=false:=decide_eq_false (by omega);have WR:decide (0<kk.length)=false:=decide_eq_false (by omega);have WS:decide ((0:Int)< (fr:Int))=false:=decide_eq_false (by omega);have WT:decide (0<fr)=false:=decide_eq_false (by omega)
   |have gz:(0:Int)< (kk.length:Int):=by omega
    have e2:(ta:Int)=(tr:Int)-1:=by omega
  have q1:¬(fr:Int)<0:=by omega
  have q2:¬(ks.length:Int)< (tr:Int):=by omega
  have q3:¬(tr:Int)<=(fr:Int):=by omega
  have q4:((yy.length:Int) != max ((kk.length:Int)-1) 0)=false:=by rw[bne_eq_false_iff_eq];exact hyk
  generalize hlo:kk.length=no at*
  first
   |have zz:=PI
    clear hyk g g2
   |have zz:=fc
    clear hyk g
   |clear hyk
  go_enter Tryz.func156,Tryz.ntmps156
  go_upto_region 1 with fail
  generalize World.alloc _ _=W at*;obtain⟨p,hp⟩:∃p,w.heap.size=p:=⟨_,rfl⟩;rw[hp]at K1 K2 BW⊢;obtain⟨c0,c1,c2,c3⟩:=K1.four;have lw:=K2.lt;have R0:Hid (RB W (p+1) 74 W.drew):=⟨(Below.refl _ W).drew,_,_,_,_,K2⟩;have BX:∀X,RB W (p+1) 74 X->Below p w X:=fun X hX=>BW.out.trans (hX.1.mono (Nat.le_succ p));have RE:Hid (∀X,RB W (p+1) 74 X->Row ax 2 X (.slice ae es.length ce) es):=fun X hX=>he.below (by rw[hp];exact BX X hX);have RK:Hid (∀X,RB W (p+1) 74 X->Row encI 1 X (.slice ak ks.length ck) ks):=fun X hX=>hk.below (by rw[hp];exact BX X hX);have RS:Hid (∀X,RB W (p+1) 74 X->Row encS 1 X (.slice az ss.length cz) ss):=fun X hX=>hss.below (by rw[hp];exact BX X hX);have RO:Hid (∀X,RB W (p+1) 74 X->Row encI 1 X (.slice ao no co) kk):=fun X hX=>hkk.below (by rw[hp];exact BX X hX);have RY:Hid (∀X,RB W (p+1) 74 X->Row encS 1 X (.slice ay yy.length cy) yy):=fun X hX=>km.below (by rw[hp];exact BX X hX);have MK:Hid (∀X,RB W (p+1) 74 X->X.cell? ⟨p,0,none⟩=some (.bool false)∧X.cell? ⟨p,1,none⟩=some (.slice ae es.length ce)∧X.cell? ⟨p,2,none⟩=some (.slice ak ks.length ck)∧X.cell? ⟨p,3,none⟩=some (.slice az ss.length cz)):=fun X hX=>(K1.below hX.1 (Nat.lt_succ_self p)).four;have R7:Hid (∀X,RB W (p+1) 74 X->Below p w X):=BX;have HLO:Hid (kk.length=no):=hlo;have HP:Hid (w.heap.size=p):=hp;clear he hk hss hkk km K1 K2 BW BX hlo hp
  go_upto_region 8 with fail
  (try rw[<-e1])
  (try rw[<-e2])
  first
   |have zz:=iT
    have YJ:fr<=1000:=by omega
    have YK:ta<=1000:=by omega
   |have zz:=fc
    have YJ:fa<=1000:=by omega
    have YK:ta<=1000:=by omega
   |have YJ:fr<=1000:=by omega
    have YK:tr<=1000:=by omega
  have hlo:=HLO.out
  first
   |have zz:=fc
    clear e1 e2 hf1 ht1 gz WR WS g2 q1 q2 q3 q4
   |have zz:=PI
    clear gz WR WS WT q1 q2 q3 q4
   |clear e2 ht1 gz g q1 q2 q3 q4
  have hp:=HP.out;clear c0 c1 c2 c3
  first
   |have zz:=iT
    refine bc 17 (H5 W p fr tr fr ta no ae ak az ao ay ce ck cz co cy es ks kk ss yy) (by kernel_rfl) (by kernel_rfl) (by kernel_rfl) (fun _ k=>k rfl R0.out aq aq aq aq aq aq aq aq aq aq aq aq aq aq aq aq aq) ?_ ?_ ?_
   |have zz:=fc
    refine bc 17 (H5 W p fr tr fa ta no ae ak az ao ay ce ck cz co cy es ks kk ss yy) (by kernel_rfl) (by kernel_rfl) (by kernel_rfl) (fun _ k=>k rfl R0.out aq aq aq aq aq aq aq aq aq aq aq aq aq aq aq aq aq) ?_ ?_ ?_
   |refine bc 17 (H5 W p fr tr fr tr no ae ak az ao ay ce ck cz co cy es ks kk ss yy) (by kernel_rfl) (by kernel_rfl) (by kernel_rfl) (fun _ k=>k rfl R0.out aq aq aq aq aq aq aq aq aq aq aq aq aq aq aq aq aq) ?_ ?_ ?_
  ·intro i w' hne f0 f1 f2 f3 f4 f5 f6 f7 f8 f9 f10 f11 f12 f13 f14 f15 f16 f17 Me Mf Mg H7 Mh Mi Bz wh Lu GY x66 GZ Lv x69 Lx G4 Lz e17 hB h0 h1 h2 h3 h4 h5 h6 h7 h8 h9 h10 h11 h12 dF fu pA h16 hi;obtain⟨hlt,hun,_⟩:=aQ hi;have hlt':i<18:=hlt;clear hlt;rcases(by omega:i=0∨i=1∨i=2∨i=3∨i=4∨i=5∨i=6∨i=7∨i=8∨i=9∨i=10∨i=11∨i=12∨i=13∨i=14∨i=15∨i=16)with rfl|rfl|rfl|rfl|rfl|rfl|rfl|rfl|rfl|rfl|rfl|rfl|rfl|rfl|rfl|rfl|rfl
   ·refine aj rfl fun K HK=>?_;go_simp;exact HK.out _ _ fun _ k=>by apply k<;>first|assumption|exact hidR|(repeat' first|apply Exists.intro|assumption|rfl|apply And.intro|exact fun _=>rfl)
   ·cases h0 (ah 0 hi (by kernel_rfl));have cell:=(MK.out _ hB).2.1;refine aj rfl fun K HK=>?_;go_simp;exact HK.out _ _ fun _ k=>by apply k<;>first|assumption|exact hidR|(repeat' first|apply Exists.intro|assumption|rfl|apply And.intro|exact fun _=>rfl)
   ·cases h1 (ah 1 hi (by kernel_rfl));refine aj rfl fun K HK=>?_;go_simp;exact HK.out _ _ fun _ k=>k e17 (RB.alloc hB _) h0 h1 (fun _=>⟨_,rfl,Cl.new _ _ _⟩) (fun d=>let⟨ao,n,c,e,o⟩:=h3.out d;⟨ao,n,c,e,ownsRow_below o (ai _ (Below.refl _ _))⟩) h4 h5 h6 h7 h8 (fun d=>let⟨ao,n,c,e,o⟩:=h9.out d;⟨ao,n,c,e,ownsRow_below o (ai _ (Below.refl _ _))⟩) h10 h11 h12 dF fu (fun d=>let⟨ao,n,c,e,o⟩:=pA.out d;⟨ao,n,c,e,ownsRow_below o (ai _ (Below.refl _ _))⟩) h16
   ·have un:f3=false:=hun;obtain⟨q2,rfl,c2⟩:=h2.out (ah 2 hi (by kernel_rfl));refine aj rfl fun K HK=>?_;go_simp;refine Calls.mono (ma q2 27 (.slice ae es.length ce) es w' c2 (RE.out _ hB) (by omega)) ?_;rintro e w1 ⟨ao,nn,cc,rfl,ow,b1⟩;exact HK.out _ _ fun _ k=>k e17 (RB.call hB b1) h0 h1 (fun d=>let⟨q,e,c⟩:=h2.out d;⟨q,e,Cl.on c (b1)⟩) (fun _=>⟨ao,nn,cc,rfl,aG ow (RB.lt hB)⟩) h4 h5 h6 h7 h8 (fun d=>let⟨ao,n,c,e,o⟩:=h9.out d;⟨ao,n,c,e,ownsRow_below o (b1)⟩) h10 h11 h12 dF fu (fun d=>let⟨ao,n,c,e,o⟩:=pA.out d;⟨ao,n,c,e,ownsRow_below o (b1)⟩) (fun d=>by have e:=(h16.out d).1;rw[un]at e;cases e)
   ·refine aj rfl fun K HK=>?_;go_simp;exact HK.out _ _ fun _ k=>by apply k<;>first|assumption|exact hidR|(repeat' first|apply Exists.intro|assumption|rfl|apply And.intro|exact fun _=>rfl)
   ·cases h4 (ah 4 hi (by kernel_rfl));have cell:=(MK.out _ hB).2.2.1;refine aj rfl fun K HK=>?_;go_simp;exact HK.out _ _ fun _ k=>by apply k<;>first|assumption|exact hidR|(repeat' first|apply Exists.intro|assumption|rfl|apply And.intro|exact fun _=>rfl)
   ·refine aj rfl fun K HK=>?_;go_simp;exact HK.out _ _ fun _ k=>by apply k<;>first|assumption|exact hidR|(repeat' first|apply Exists.intro|assumption|rfl|apply And.intro|exact fun _=>rfl)
   ·refine aj rfl fun K HK=>?_;go_simp;exact HK.out _ _ fun _ k=>by apply k<;>first|assumption|exact hidR|(repeat' first|apply Exists.intro|assumption|rfl|apply And.intro|exact fun _=>rfl)
   ·refine aj rfl fun K HK=>?_;go_simp;exact HK.out _ _ fun _ k=>by apply k<;>first|assumption|exact hidR|(repeat' first|apply Exists.intro|assumption|rfl|apply And.intro|exact fun _=>rfl)
   ·have un:f9=false:=hun;cases h5 (ah 5 hi (by kernel_rfl));cases h6 (ah 6 hi (by kernel_rfl));cases h7 (ah 7 hi (by kernel_rfl));cases h8 (ah 8 hi (by kernel_rfl));refine aj rfl fun K HK=>?_;go_simp;refine Calls.mono (kg.1 (.slice ak ks.length ck) (.slice ao no co) ks kk fr tr w' (RK.out _ hB) (RO.out _ hB) (by omega) (by omega) (by omega) (by omega)) ?_;rintro e w1 ⟨ao,nn,cc,rfl,ow,b1⟩;exact HK.out _ _ fun _ k=>k e17 (RB.call hB b1) h0 h1 (fun d=>let⟨q,e,c⟩:=h2.out d;⟨q,e,Cl.on c (b1)⟩) (fun d=>let⟨ao,n,c,e,o⟩:=h3.out d;⟨ao,n,c,e,ownsRow_below o (b1)⟩) h4 h5 h6 h7 h8 (fun _=>⟨ao,nn,cc,rfl,aG ow (RB.lt hB)⟩) h10 h11 h12 dF fu (fun d=>let⟨ao,n,c,e,o⟩:=pA.out d;⟨ao,n,c,e,ownsRow_below o (b1)⟩) (fun d=>by have e:=(h16.out d).2.1;rw[un]at e;cases e)
   ·refine aj rfl fun K HK=>?_;go_simp;exact HK.out _ _ fun _ k=>by apply k<;>first|assumption|exact hidR|(repeat' first|apply Exists.intro|assumption|rfl|apply And.intro|exact fun _=>rfl)
   ·cases h10 (ah 10 hi (by kernel_rfl));have cell:=(MK.out _ hB).2.2.2;refine aj rfl fun K HK=>?_;go_simp;exact HK.out _ _ fun _ k=>by apply k<;>first|assumption|exact hidR|(repeat' first|apply Exists.intro|assumption|rfl|apply And.intro|exact fun _=>rfl)
   ·refine aj rfl fun K HK=>?_;go_simp;exact HK.out _ _ fun _ k=>by apply k<;>first|assumption|exact hidR|(repeat' first|apply Exists.intro|assumption|rfl|apply And.intro|exact fun _=>rfl)
   ·refine aj rfl fun K HK=>?_;go_simp;exact HK.out _ _ fun _ k=>by apply k<;>first|assumption|exact hidR|(repeat' first|apply Exists.intro|assumption|rfl|apply And.intro|exact fun _=>rfl)
   ·refine aj rfl fun K HK=>?_;go_simp;exact HK.out _ _ fun _ k=>by apply k<;>first|assumption|exact hidR|(repeat' first|apply Exists.intro|assumption|rfl|apply And.intro|exact fun _=>rfl)
   ·have un:f15=false:=hun;cases h11 (ah 11 hi (by kernel_rfl));cases h12 (ah 12 hi (by kernel_rfl));cases dF (ah 13 hi (by kernel_rfl));cases fu (ah 14 hi (by kernel_rfl));refine aj rfl fun K HK=>?_;go_simp
    first
     |have zz:=iT
      refine Calls.mono (kg.2 (.slice az ss.length cz) (.slice ay yy.length cy) ss yy fr ta w' (RS.out _ hB) (RY.out _ hB) (by omega) (by omega) (by omega) (by omega)) ?_
     |have zz:=fc
      refine Calls.mono (kg.2 (.slice az ss.length cz) (.slice ay yy.length cy) ss yy fa ta w' (RS.out _ hB) (RY.out _ hB) (by omega) (by omega) (by omega) (by omega)) ?_
     |refine Calls.mono (kg.2 (.slice az ss.length cz) (.slice ay yy.length cy) ss yy fr tr w' (RS.out _ hB) (RY.out _ hB) (by omega) (by omega) (by omega) (by omega)) ?_
    rintro e w1 ⟨ao,nn,cc,rfl,ow,b1⟩;exact HK.out _ _ fun _ k=>k e17 (RB.call hB b1) h0 h1 (fun d=>let⟨q,e,c⟩:=h2.out d;⟨q,e,Cl.on c (b1)⟩) (fun d=>let⟨ao,n,c,e,o⟩:=h3.out d;⟨ao,n,c,e,ownsRow_below o (b1)⟩) h4 h5 h6 h7 h8 (fun d=>let⟨ao,n,c,e,o⟩:=h9.out d;⟨ao,n,c,e,ownsRow_below o (b1)⟩) h10 h11 h12 dF fu (fun _=>⟨ao,nn,cc,rfl,aG ow (RB.lt hB)⟩) (fun d=>by have e:=(h16.out d).2.2.1;rw[un]at e;cases e)
   ·have d3:f3=true:=ah 3 hi (by kernel_rfl);obtain⟨a3,n3,m3,rfl,o3⟩:=h3.out d3;have d9:f9=true:=ah 9 hi (by kernel_rfl);obtain⟨a9,n9,m9,rfl,o9⟩:=h9.out d9;have d15:f15=true:=ah 15 hi (by kernel_rfl);obtain⟨H8,n15,m15,rfl,Vj⟩:=pA.out d15;refine aj rfl fun K HK=>?_;go_simp;exact HK.out _ _ fun _ k=>k e17 hB h0 h1 h2 h3 h4 h5 h6 h7 h8 h9 h10 h11 h12 dF fu pA (fun _=>⟨d3,d9,d15,rfl⟩)
  ·intro w' f0 f1 f2 f3 f4 f5 f6 f7 f8 f9 f10 f11 f12 f13 f14 f15 f16 f17 Me Mf Mg H7 Mh Mi Bz wh Lu GY x66 GZ Lv x69 Lx G4 Lz e17 hB h0 h1 h2 h3 h4 h5 h6 h7 h8 h9 h10 h11 h12 dF fu pA h16 hi;have d16:f16=true:=ah 16 hi (by kernel_rfl);obtain⟨_,_,_,rfl⟩:=h16.out d16;have d3:f3=true:=ah 3 hi (by kernel_rfl);obtain⟨a3,n3,m3,rfl,o3⟩:=h3.out d3;have d9:f9=true:=ah 9 hi (by kernel_rfl);obtain⟨a9,n9,m9,rfl,o9⟩:=h9.out d9;have d15:f15=true:=ah 15 hi (by kernel_rfl);obtain⟨H8,n15,m15,rfl,Vj⟩:=pA.out d15;clear hi;obtain⟨⟨z0,y0⟩,⟨z1,y1⟩,⟨z2,y2⟩,⟨z3,y3⟩,g0,g1,g2,g3⟩:=hB.four;refine aj rfl fun K HK=>?_;go_simp;refine HK.out _ _ ?_;have KF:Cl ((((w'.setCell ⟨p+1,0,none⟩ (.bool false)).setCell ⟨p+1,1,none⟩ (.slice a3 n3 m3)).setCell ⟨p+1,2,none⟩ (.slice a9 n9 m9)).setCell ⟨p+1,3,none⟩ (.slice H8 n15 m15)) (p+1) #[.bool false,.slice a3 n3 m3,.slice a9 n9 m9,.slice H8 n15 m15] 74:=by
    obtain⟨_,u0,u1,u2,u3,kc⟩:=hB;exact kc.eW _ _ _ _
   have BF:Hid (Below p w ((((w'.setCell ⟨p+1,0,none⟩ (.bool false)).setCell ⟨p+1,1,none⟩ (.slice a3 n3 m3)).setCell ⟨p+1,2,none⟩ (.slice a9 n9 m9)).setCell ⟨p+1,3,none⟩ (.slice H8 n15 m15))):=cR (R7.out _ hB) (Nat.le_succ p)
   first
    |have zz:=iT
     have OF:Hid (kf p ((((w'.setCell ⟨p+1,0,none⟩ (.bool false)).setCell ⟨p+1,1,none⟩ (.slice a3 n3 m3)).setCell ⟨p+1,2,none⟩ (.slice a9 n9 m9)).setCell ⟨p+1,3,none⟩ (.slice H8 n15 m15)) (.slice a3 n3 m3) (.slice a9 n9 m9) (.slice H8 n15 m15) ⟨false,es,im ks fr tr kk,im ss fr ta yy⟩):=⟨aG (bu o3 (Nat.lt_succ_self _)) (by omega),aG (bu o9 (Nat.lt_succ_self _)) (by omega),aG (bu Vj (Nat.lt_succ_self _)) (by omega)⟩
    |have zz:=fc
     have OF:Hid (kf p ((((w'.setCell ⟨p+1,0,none⟩ (.bool false)).setCell ⟨p+1,1,none⟩ (.slice a3 n3 m3)).setCell ⟨p+1,2,none⟩ (.slice a9 n9 m9)).setCell ⟨p+1,3,none⟩ (.slice H8 n15 m15)) (.slice a3 n3 m3) (.slice a9 n9 m9) (.slice H8 n15 m15) ⟨false,es,im ks fr tr kk,im ss fa ta yy⟩):=⟨aG (bu o3 (Nat.lt_succ_self _)) (by omega),aG (bu o9 (Nat.lt_succ_self _)) (by omega),aG (bu Vj (Nat.lt_succ_self _)) (by omega)⟩
    |have OF:Hid (kf p ((((w'.setCell ⟨p+1,0,none⟩ (.bool false)).setCell ⟨p+1,1,none⟩ (.slice a3 n3 m3)).setCell ⟨p+1,2,none⟩ (.slice a9 n9 m9)).setCell ⟨p+1,3,none⟩ (.slice H8 n15 m15)) (.slice a3 n3 m3) (.slice a9 n9 m9) (.slice H8 n15 m15) ⟨false,es,im ks fr tr kk,im ss fr tr yy⟩):=⟨aG (bu o3 (Nat.lt_succ_self _)) (by omega),aG (bu o9 (Nat.lt_succ_self _)) (by omega),aG (bu Vj (Nat.lt_succ_self _)) (by omega)⟩
   generalize World.setCell _ _ _=X at*;obtain⟨k0,k1,k2,k3⟩:=KF.four;clear y0 y1 y2 y3 g0 g1 g2 g3 hB h0 h1 h2 h3 h4 h5 h6 h7 h8 h9 h10 h11 h12 dF fu pA h16;go_wp2;refine bodyPost_ret (v:=.agg #[.bool false,.slice a3 n3 m3,.slice a9 n9 m9,.slice H8 n15 m15]) ?_ rfl ⟨_,_,_,rfl,by rw[hp];exact OF.out,by rw[hp];exact BF.out⟩;rw[bC rfl];go_simp
  ·intro _ _;intros;assumption
theorem vA:(∀(n:Nd) (fr tr:Int) (kk:List Int) (yy:List ByteArray) (ve vk vs vo vy:Value) (w:World) (h1:gh w ve vk vs n) (hm1:tU n) (hkk:Row encI 1 w vo kk) (km:Row encS 1 w vy yy) (lf:Bool) (hlf:n.leaf=lf) (hkl:kk.length<=1000) (q1:fr<0),Calls Tryz.prog 156 #[.agg #[.bool n.leaf,ve,vk,vs],.int .i64 fr,.int .i64 tr,vo,vy] w (Dz w n))∧
  (∀(n:Nd) (fr tr:Int) (kk:List Int) (yy:List ByteArray) (ve vk vs vo vy:Value) (w:World) (h1:gh w ve vk vs n) (hm1:tU n) (hkk:Row encI 1 w vo kk) (km:Row encS 1 w vy yy) (lf:Bool) (hlf:n.leaf=lf) (hkl:kk.length<=1000) (q1:¬fr<0) (q2:(n.ks.length:Int)<tr),Calls Tryz.prog 156 #[.agg #[.bool n.leaf,ve,vk,vs],.int .i64 fr,.int .i64 tr,vo,vy] w (Dz w n))∧
  (∀(n:Nd) (fr tr:Int) (kk:List Int) (yy:List ByteArray) (ve vk vs vo vy:Value) (w:World) (h1:gh w ve vk vs n) (hm1:tU n) (hkk:Row encI 1 w vo kk) (km:Row encS 1 w vy yy) (lf:Bool) (hlf:n.leaf=lf) (hkl:kk.length<=1000) (q1:¬fr<0) (q2:¬(n.ks.length:Int)<tr) (q3:tr<=fr),Calls Tryz.prog 156 #[.agg #[.bool n.leaf,ve,vk,vs],.int .i64 fr,.int .i64 tr,vo,vy] w (Dz w n))∧
  (∀(n:Nd) (fr tr:Int) (kk:List Int) (yy:List ByteArray) (ve vk vs vo vy:Value) (w:World) (h1:gh w ve vk vs n) (hm1:tU n) (hkk:Row encI 1 w vo kk) (km:Row encS 1 w vy yy) (lf:Bool) (hlf:n.leaf=lf) (hkl:kk.length<=1000) (q1:¬fr<0) (q2:¬(n.ks.length:Int)<tr) (q3:¬tr<=fr) (q4:((yy.length:Int) != max ((kk.length:Int)-1) 0)=true),Calls Tryz.prog 156 #[.agg #[.bool n.leaf,ve,vk,vs],.int .i64 fr,.int .i64 tr,vo,vy] w (Dz w n)):=by
 refine⟨have iT:=trivial; ?_,have fc:=trivial; ?_,have PI:=trivial; ?_,have zz3:=trivial; ?_⟩
 all_goals
  first
   |have zz:=zz3
    intro n fr tr kk yy ve vk vs vo vy w h1 hm1 hkk km lf hlf hkl q1 q2 q3 q4
   |have zz:=PI
    intro n fr tr kk yy ve vk vs vo vy w h1 hm1 hkk km lf hlf hkl q1 q2 q3
   |have zz:=fc
    intro n fr tr kk yy ve vk vs vo vy w h1 hm1 hkk km lf hlf hkl q1 q2
   |intro n fr tr kk yy ve vk vs vo vy w h1 hm1 hkk km lf hlf hkl q1
  obtain⟨ae,ce,rfl,_⟩:=ar h1.e;obtain⟨ak,ck,rfl,_⟩:=ar h1.k;obtain⟨az,cz,rfl,_⟩:=ar h1.s;obtain⟨ao,co,rfl,_⟩:=ar hkk;obtain⟨ay,cy,rfl,_⟩:=ar km;have BW:Hid (Below w.heap.size w ((w.alloc (.cells #[.bool lf,.slice ae n.es.length ce,.slice ak n.ks.length ck,.slice az n.ss.length cz] 74)).alloc (.cells #[.bool false,.slice none 0 0,.slice none 0 0,.slice none 0 0] 74))):=ai _ (ai _ (Below.refl _ _));have K1:Cl ((w.alloc (.cells #[.bool lf,.slice ae n.es.length ce,.slice ak n.ks.length ck,.slice az n.ss.length cz] 74)).alloc (.cells #[.bool false,.slice none 0 0,.slice none 0 0,.slice none 0 0] 74)) w.heap.size #[.bool lf,.slice ae n.es.length ce,.slice ak n.ks.length ck,.slice az n.ss.length cz] 74:=(Cl.kV _ _ _).alloc _;have K3:Cl ((w.alloc (.cells #[.bool lf,.slice ae n.es.length ce,.slice ak n.ks.length ck,.slice az n.ss.length cz] 74)).alloc (.cells #[.bool false,.slice none 0 0,.slice none 0 0,.slice none 0 0] 74)) (w.heap.size+1) #[.bool false,.slice none 0 0,.slice none 0 0,.slice none 0 0] 74:=Cl.oG _ _ _ _;have C:Hid _:=iB n _ _ _ ((w.alloc (.cells #[.bool lf,.slice ae n.es.length ce,.slice ak n.ks.length ck,.slice az n.ss.length cz] 74)).alloc (.cells #[.bool false,.slice none 0 0,.slice none 0 0,.slice none 0 0] 74)) (h1.below BW.out) hm1;rw[hlf]at C⊢;have HL:Hid (n.leaf=lf):=hlf;generalize n.es.length=n1 at*;generalize n.ks.length=n2 at*;generalize n.ss.length=n3 at*;generalize kk.length=n4 at*;generalize yy.length=n5 at*;clear h1 hlf hkk km;go_enter Tryz.func156,Tryz.ntmps156
  go_upto_region 1 with fail
  generalize World.alloc _ _=W at*;obtain⟨p,hp⟩:∃p,w.heap.size=p:=⟨_,rfl⟩;rw[hp]at K1 K3 BW⊢;obtain⟨c0,c1,c2,c3⟩:=K1.four;have l1:=K3.lt;have HP:Hid (w.heap.size=p):=hp;clear K1 hp
  go_wp2_with fail
  refine Calls.mono C.out ?_;rintro e w1 ⟨yN,yO,vs',rfl,O1,B1⟩;obtain⟨av,cv,rfl⟩:=bJ O1.e;obtain⟨bv,dv,rfl⟩:=bJ O1.k;obtain⟨gv,hv,rfl⟩:=bJ O1.s;have K4:Cl w1 (p+1) #[.bool false,.slice none 0 0,.slice none 0 0,.slice none 0 0] 74:=K3.on B1;obtain⟨f0,f1,f2,f3⟩:=K4.four;obtain⟨g0,g1,g2,g3⟩:=K4.thaw;have KF:Cl ((((w1.setCell ⟨p+1,0,none⟩ (.bool lf)).setCell ⟨p+1,1,none⟩ (.slice av n.es.length cv)).setCell ⟨p+1,2,none⟩ (.slice bv n.ks.length dv)).setCell ⟨p+1,3,none⟩ (.slice gv n.ss.length hv)) (p+1) #[.bool lf,.slice av n.es.length cv,.slice bv n.ks.length dv,.slice gv n.ss.length hv] 74:=K4.eW _ _ _ _;have BF:Hid (Below p w ((((w1.setCell ⟨p+1,0,none⟩ (.bool lf)).setCell ⟨p+1,1,none⟩ (.slice av n.es.length cv)).setCell ⟨p+1,2,none⟩ (.slice bv n.ks.length dv)).setCell ⟨p+1,3,none⟩ (.slice gv n.ss.length hv))):=cR (BW.out.trans (B1.mono (by omega))) (by omega);have OF:Hid (kf p ((((w1.setCell ⟨p+1,0,none⟩ (.bool lf)).setCell ⟨p+1,1,none⟩ (.slice av n.es.length cv)).setCell ⟨p+1,2,none⟩ (.slice bv n.ks.length dv)).setCell ⟨p+1,3,none⟩ (.slice gv n.ss.length hv)) (.slice av n.es.length cv) (.slice bv n.ks.length dv) (.slice gv n.ss.length hv) n):=⟨aG (bu O1.e l1) (by omega),aG (bu O1.k l1) (by omega),aG (bu O1.s l1) (by omega)⟩;clear C B1 O1 K3 K4 c0 c1 c2 c3;go_wp2
  (try simp only[Exit.inBlock,Exit.then])
  generalize World.setCell _ _ _=X at*;obtain⟨k0,k1,k2,k3⟩:=KF.four;refine bodyPost_ret (v:=.agg #[.bool lf,.slice av n.es.length cv,.slice bv n.ks.length dv,.slice gv n.ss.length hv]) ?_ rfl ⟨_,_,_,by rw[HL.out],by rw[HP.out];exact OF.out,by rw[HP.out];exact BF.out⟩;rw[bC rfl];go_simp
theorem Mj (n:Nd)(fr tr:Int)(kk:List Int)(yy:List ByteArray)(ve vk vs vo vy:Value)(w:World)(h1:gh w ve vk vs n)(hm1:tU n)(hkk:Row encI 1 w vo kk)(km:Row encS 1 w vy yy)(hlf:n.leaf=true)(hkl:kk.length<=1000)(q1:¬fr<0)(q2:¬(n.ks.length:Int)<tr)(q3:¬tr<=fr)(q4:((yy.length:Int) != max ((kk.length:Int)-1) 0)=false):
  Calls Tryz.prog 156 #[.agg #[.bool n.leaf,ve,vk,vs],.int .i64 fr,.int .i64 tr,vo,vy] w (Dz w n):=by
 obtain⟨ae,ce,rfl,_⟩:=ar h1.e;obtain⟨ak,ck,rfl,_⟩:=ar h1.k;obtain⟨az,cz,rfl,_⟩:=ar h1.s;obtain⟨ao,co,rfl,_⟩:=ar hkk;obtain⟨ay,cy,rfl,_⟩:=ar km;have BW:Hid (Below w.heap.size w ((w.alloc (.cells #[.bool true,.slice ae n.es.length ce,.slice ak n.ks.length ck,.slice az n.ss.length cz] 74)).alloc (.cells #[.bool false,.slice none 0 0,.slice none 0 0,.slice none 0 0] 74))):=ai _ (ai _ (Below.refl _ _));have K1:Cl ((w.alloc (.cells #[.bool true,.slice ae n.es.length ce,.slice ak n.ks.length ck,.slice az n.ss.length cz] 74)).alloc (.cells #[.bool false,.slice none 0 0,.slice none 0 0,.slice none 0 0] 74)) w.heap.size #[.bool true,.slice ae n.es.length ce,.slice ak n.ks.length ck,.slice az n.ss.length cz] 74:=(Cl.kV _ _ _).alloc _;have K3:Cl ((w.alloc (.cells #[.bool true,.slice ae n.es.length ce,.slice ak n.ks.length ck,.slice az n.ss.length cz] 74)).alloc (.cells #[.bool false,.slice none 0 0,.slice none 0 0,.slice none 0 0] 74)) (w.heap.size+1) #[.bool false,.slice none 0 0,.slice none 0 0,.slice none 0 0] 74:=Cl.oG _ _ _ _;have C:Hid _:=iB n _ _ _ ((w.alloc (.cells #[.bool true,.slice ae n.es.length ce,.slice ak n.ks.length ck,.slice az n.ss.length cz] 74)).alloc (.cells #[.bool false,.slice none 0 0,.slice none 0 0,.slice none 0 0] 74)) (h1.below BW.out) hm1;rw[hlf]at C⊢;have HL:Hid (n.leaf=true):=hlf;generalize n.es.length=n1 at*;generalize n.ks.length=n2 at*;generalize n.ss.length=n3 at*;generalize kk.length=n4 at*;generalize yy.length=n5 at*;clear h1 hlf hkk km;go_enter Tryz.func156,Tryz.ntmps156
 go_upto_region 1 with fail
 generalize World.alloc _ _=W at*;obtain⟨p,hp⟩:∃p,w.heap.size=p:=⟨_,rfl⟩;rw[hp]at K1 K3 BW⊢;obtain⟨c0,c1,c2,c3⟩:=K1.four;have l1:=K3.lt;have HP:Hid (w.heap.size=p):=hp;clear K1 hp
 go_wp2_with fail
 refine Calls.mono C.out ?_;rintro e w1 ⟨yN,yO,vs',rfl,O1,B1⟩;obtain⟨av,cv,rfl⟩:=bJ O1.e;obtain⟨bv,dv,rfl⟩:=bJ O1.k;obtain⟨gv,hv,rfl⟩:=bJ O1.s;have K4:Cl w1 (p+1) #[.bool false,.slice none 0 0,.slice none 0 0,.slice none 0 0] 74:=K3.on B1;obtain⟨f0,f1,f2,f3⟩:=K4.four;obtain⟨g0,g1,g2,g3⟩:=K4.thaw;have KF:Cl ((((w1.setCell ⟨p+1,0,none⟩ (.bool true)).setCell ⟨p+1,1,none⟩ (.slice av n.es.length cv)).setCell ⟨p+1,2,none⟩ (.slice bv n.ks.length dv)).setCell ⟨p+1,3,none⟩ (.slice gv n.ss.length hv)) (p+1) #[.bool true,.slice av n.es.length cv,.slice bv n.ks.length dv,.slice gv n.ss.length hv] 74:=K4.eW _ _ _ _;have BF:Hid (Below p w ((((w1.setCell ⟨p+1,0,none⟩ (.bool true)).setCell ⟨p+1,1,none⟩ (.slice av n.es.length cv)).setCell ⟨p+1,2,none⟩ (.slice bv n.ks.length dv)).setCell ⟨p+1,3,none⟩ (.slice gv n.ss.length hv))):=cR (BW.out.trans (B1.mono (by omega))) (by omega);have OF:Hid (kf p ((((w1.setCell ⟨p+1,0,none⟩ (.bool true)).setCell ⟨p+1,1,none⟩ (.slice av n.es.length cv)).setCell ⟨p+1,2,none⟩ (.slice bv n.ks.length dv)).setCell ⟨p+1,3,none⟩ (.slice gv n.ss.length hv)) (.slice av n.es.length cv) (.slice bv n.ks.length dv) (.slice gv n.ss.length hv) n):=⟨aG (bu O1.e l1) (by omega),aG (bu O1.k l1) (by omega),aG (bu O1.s l1) (by omega)⟩;clear C B1 O1 K3 K4 c0 c1 c2 c3;go_wp2
 (try simp only[Exit.inBlock,Exit.then])
 generalize World.setCell _ _ _=X at*;obtain⟨k0,k1,k2,k3⟩:=KF.four;refine bodyPost_ret (v:=.agg #[.bool true,.slice av n.es.length cv,.slice bv n.ks.length dv,.slice gv n.ss.length hv]) ?_ rfl ⟨_,_,_,by rw[HL.out],by rw[HP.out];exact OF.out,by rw[HP.out];exact BF.out⟩;rw[bC rfl];go_simp
theorem Ec (n:Nd)(fr tr:Int)(kk:List Int)(yy:List ByteArray)(ve vk vs vo vy:Value)(w:World)(h1:gh w ve vk vs n)(hm1:tU n)(hkk:Row encI 1 w vo kk)(km:Row encS 1 w vy yy)(hkl:kk.length<=1000)(hyl:yy.length<=1000):
  Calls Tryz.prog 156 #[.agg #[.bool n.leaf,ve,vk,vs],.int .i64 fr,.int .i64 tr,vo,vy] w (Dz w (fQ n fr tr kk yy)):=by
 by_cases q1:fr<0
 ·have e:fQ n fr tr kk yy=n:=by unfold fQ swB;rw[decide_eq_false (show¬0<=fr by omega)];rfl
  rw[e];exact vA.1 n fr tr kk yy ve vk vs vo vy w h1 hm1 hkk km _ rfl hkl q1
 ·by_cases q2:(n.ks.length:Int)<tr
  ·have e:fQ n fr tr kk yy=n:=by unfold fQ swB;rw[decide_eq_false (show¬tr<=n.ks.length by omega)];simp
   rw[e];exact vA.2.1 n fr tr kk yy ve vk vs vo vy w h1 hm1 hkk km _ rfl hkl q1 q2
  ·by_cases q3:tr<=fr
   ·have e:fQ n fr tr kk yy=n:=by unfold fQ swB;rw[decide_eq_false (show¬fr<tr by omega)];simp
    rw[e];exact vA.2.2.1 n fr tr kk yy ve vk vs vo vy w h1 hm1 hkk km _ rfl hkl q1 q2 q3
   ·by_cases q4:(yy.length:Int)=max ((kk.length:Int)-1) 0
    ·cases hl:n.leaf with
     |true=>
      have e:fQ n fr tr kk yy=n:=by unfold fQ swB;rw[hl];simp
      rw[e,<-hl];exact Mj n fr tr kk yy ve vk vs vo vy w h1 hm1 hkk km hl hkl q1 q2 q3 (by rw[bne_eq_false_iff_eq];exact q4)
     |false=>
      have hb:swB n fr tr kk yy=true:=by
       unfold swB;rw[decide_eq_true (show 0<=fr by omega),decide_eq_true (show tr<=n.ks.length by omega),decide_eq_true (show fr<tr by omega),decide_eq_true q4,hl];rfl
      obtain⟨f,rfl⟩:∃f:Nat,fr=f:=⟨fr.toNat,by omega⟩;obtain⟨t,rfl⟩:∃t:Nat,tr=t:=⟨tr.toNat,by omega⟩;have e:fQ n f t kk yy=⟨false,n.es,im n.ks f t kk,im n.ss (tQ f kk) (tR f t kk) yy⟩:=by
       unfold fQ;rw[if_pos hb];simp
      rw[e];obtain⟨lf,es,ks,ss⟩:=n;obtain⟨he,hk,hss⟩:=h1;obtain⟨s1,s2,s3⟩:=hm1;simp only at he hk hss s1 s2 s3 hl q2⊢;have hft:f<t:=by omega
      have htk:t<=ks.length:=by omega
      unfold tQ tR;by_cases g:0<kk.length
      ·rw[if_pos g,if_pos g];exact Ah.1 es ks kk ss yy f t ve vk vs vo vy w he hk hss hkk km s1 s2 s3 hkl hyl hft htk q4 (t-1) g rfl
      ·have g':kk.length=0:=by omega
       rw[if_neg g,if_neg g];by_cases g2:0<f
       ·rw[if_pos g2];exact Ah.2.1 es ks kk ss yy f t ve vk vs vo vy w he hk hss hkk km s1 s2 s3 hkl hyl hft htk q4 (f-1) (t-1) g' g2 rfl rfl
       ·rw[if_neg g2];have g3:f=0:=by omega
        rw[show f-1=f by omega];exact Ah.2.2 es ks kk ss yy f t ve vk vs vo vy w he hk hss hkk km s1 s2 s3 hkl hyl hft htk q4 g' g3
    ·have e:fQ n fr tr kk yy=n:=by unfold fQ swB;rw[decide_eq_false q4];simp
     rw[e];exact vA.2.2.2 n fr tr kk yy ve vk vs vo vy w h1 hm1 hkk km _ rfl hkl q1 q2 q3 (by rw[bne_iff_ne];exact q4)
end
end N
section
open N (Nd nd0 cA cQ dM iR fQ sA sB sM cY jq ia kX Sm)
section
variable {B:Nat}{w0 w w':World}{l:List aO}{P:List NV}{C:Cx}{S:Dr}{d d1:Dk}{p pa pb:NV}
theorem DL.add (h:Sep B w0 w (DL C S d P l))(hb:Below w.heap.size w w')(hp:p.W w.heap.size w'):Sep B w0 w' (DL C S d (p::P) l):=
 Sep.pb [_,_,_,_] (Sep.vu (Sep.pk [_,_,_,_] (Sep.oo h hb hp)) fun x hx=>List.mem_cons_of_mem _ hx)
theorem DL.WU (h:Sep B w0 w (DL C S d P l))(hb:Below w.heap.size w w')(hp:pa.W w.heap.size w')(hq:pb.W w.heap.size w'):Sep B w0 w' (DL C S d (pa::pb::P) l):=by
 obtain⟨hB,hbe,Y,⟨g,X,Z,hr,hl,hdj,hy⟩,hY⟩:=Sep.pk [_,_,_] h;have hl':=hl.kept hb.size (fun k hk=>hb.block k (hl.lt k hk));have k1:Sep B w0 w' (Pl (pa::pb::P)::([Tx C.t C.f S.x,File C.f C.b d,kJ C]++Qg C S P::l)):=by
  refine⟨Nat.le_trans hB hb.size,hbe.trans (hb.mono hB),fun k=>(X k∨(w.heap.size<=k∧k<w'.heap.size))∨Z k,⟨vt _,fun k=>X k∨(w.heap.size<=k∧k<w'.heap.size),Z,⟨fun k hk=>?_,fun w2 h2 hs2 q hq'=>?_⟩,hl',fun k hk hz=>?_,fun _=>Iff.rfl⟩,fun k hk=>?_⟩
  ·rcases hk with hk|hk
   ·exact Nat.lt_of_lt_of_le (hr.1 k hk) hb.size
   ·exact hk.2
  ·rcases List.mem_cons.1 hq' with rfl|hq'
   ·exact hp.kept (fun k h1 h3=>h2 k (.inr ⟨h1,h3⟩)) hs2
   ·rcases List.mem_cons.1 hq' with rfl|hq'
    ·exact hq.kept (fun k h1 h3=>h2 k (.inr ⟨h1,h3⟩)) hs2
    ·exact hr.2 w2 (fun k hk=>(h2 k (.inl hk)).trans (hb.block k (hr.1 k hk))) (Nat.le_trans hb.size hs2) q hq'
  ·rcases hk with hk|hk
   ·exact hdj k hk hz
   ·have:=hl.lt k hz;omega
  ·rcases hk with(hk|hk)|hk
   ·exact hY k ((hy k).2 (.inl hk))
   ·exact Nat.le_trans hB hk.1
   ·exact hY k ((hy k).2 (.inr hk))
 exact Sep.pb [_,_,_,_] (Sep.vu (Sep.pk [_,_,_,_] (Sep.pb [_,_,_] k1)) fun x hx=>List.mem_cons_of_mem _ (List.mem_cons_of_mem _ hx))
theorem DL.nd (h:Sep B w0 w (DL C S d P l))(hp:p∈P):p.R w:=Sep.pool (Sep.pk [_,_,_] h) p hp
theorem Ai (h:Sep B w0 w (DL C S d P l))(hp:p∈P)(hs:Sm p.n):Calls Tryz.prog 70 #[.agg (cN p)] w fun e w'=>e=.returned (.int .i64 (dM p.n))∧Sep B w0 w' (DL C S d P l):=
 (N.kh p.n _ _ _ w (DL.nd h hp) hs).mono fun _ _ ⟨h1,h2⟩=>⟨h1,h.below h2⟩
theorem rH (h:Sep B w0 w (DL C S d P l))(hp:p∈P)(hs:Sm p.n):Calls Tryz.prog 182 #[.agg (cN p)] w fun e w'=>e=.returned (.bool (cA p.n))∧Sep B w0 w' (DL C S d P l):=
 (N.GQ p.n _ _ _ w (DL.nd h hp) hs).mono fun _ _ ⟨h1,h2⟩=>⟨h1,h.below h2⟩
theorem pF (h:Sep B w0 w (DL C S d P l))(hp:p∈P)(hs:Sm p.n):Calls Tryz.prog 69 #[.agg (cN p)] w fun e w'=>e=.returned (.bool (cQ p.n))∧Sep B w0 w' (DL C S d P l):=
 (N.eu p.n _ _ _ w (DL.nd h hp) hs).mono fun _ _ ⟨h1,h2⟩=>⟨h1,h.below h2⟩
theorem Mk (h:Sep B w0 w (DL C S d P l))(hp:p∈P)(hs:Sm p.n)(key:ByteArray):Calls Tryz.prog 86 #[.agg (cN p),.string key] w fun e w'=>e=.returned (.int .i64 (cY p.n.ss key))∧Sep B w0 w' (DL C S d P l):=
 (N.nG p.n key _ _ _ w (DL.nd h hp) hs).mono fun _ _ ⟨h1,h2⟩=>⟨h1,h.below h2⟩
def GM (B:Nat)(w0:World)(C:Cx)(S:Dr)(d:Dk)(P:List NV)(l:List aO)(n:Nd)(e:Ending)(w':World):Prop:=
 ∃p,p.n=n∧e=.returned (.agg (cN p))∧Sep B w0 w' (DL C S d (p::P) l)
theorem Oc {n:Nd}{e:Ending}(h:Sep B w0 w (DL C S d P l))(hg:N.Dz w n e w'):GM B w0 C S d P l n e w':=by
 obtain⟨ve,vk,vs,h1,h2,h3⟩:=hg;obtain⟨p,p1,p2,p3⟩:=NV.of h2.w;exact⟨p,p1,by rw[h1,p2];rfl,DL.add h h3 p3⟩
theorem Ml (h:Sep B w0 w (DL C S d P l))(ha:pa∈P)(hb:pb∈P)(hsa:Sm pa.n)(hsb:Sm pb.n)(key:ByteArray):Calls Tryz.prog 229 #[.agg (cN pa),.string key,.agg (cN pb)] w (GM B w0 C S d P l (iR pa.n key pb.n)):=
 (N.DA key pa.n pb.n _ _ _ _ _ _ w (DL.nd h ha) (DL.nd h hb) hsa.l hsb.l).mono fun _ _ hg=>Oc h hg
theorem pG (h:Sep B w0 w (DL C S d P l))(hp:p∈P)(hs:Sm p.n)(fr tr:Int)(kk:List Int)(yy:List ByteArray)(vo vy:Value)(hkk:N.Row N.encI 1 w vo kk)(km:N.Row N.encS 1 w vy yy)(hkl:kk.length<=1000)(hyl:yy.length<=1000):Calls Tryz.prog 156 #[.agg (cN p),.int .i64 fr,.int .i64 tr,vo,vy] w (GM B w0 C S d P l (fQ p.n fr tr kk yy)):=
 (N.Ec p.n fr tr kk yy _ _ _ vo vy w (DL.nd h hp) hs.l hkk km hkl hyl).mono fun _ _ hg=>Oc h hg
theorem H9 (h:Sep B w0 w (DL C S d P l))(hp:p∈P)(hs:Sm p.n):Calls Tryz.prog 183 #[.agg (cN p)] w fun e w'=>∃pa pb,pa.n=sA p.n∧pb.n=sB p.n∧e=.returned (.tuple #[.agg (cN pa),.string (sM p.n),.agg (cN pb)])∧Sep B w0 w' (DL C S d (pa::pb::P) l):=by
 refine(N.DK p.n _ _ _ w (DL.nd h hp) hs).mono fun e w' hg=>?_;obtain⟨ve,vk,vs,ue,uk,us,h1,h2,h2',h3⟩:=hg;obtain⟨pa,p1,p2,p3⟩:=NV.of h2.w;obtain⟨pb,r1,r2,r3⟩:=NV.of h2'.w;refine⟨pa,pb,p1,r1,by rw[h1,p2,r2];rfl,?_⟩;exact DL.WU h h3 p3 r3
theorem vB {id depth:Int}(T:bW B w0)(hd:bf d d1)(h:Sep B w0 w (DL C S d1 P l))(hk:Wf id)(I:DI S d.room)(hr:d.room<=16384):
  Calls Tryz.prog 152 #[ptr C.q,.int .i64 id,.int .i64 depth] w (GD B w0 C S d P l (S.read d id depth).1 (S.read d id depth).2):=by
 have:=pE (depth:=depth) T h hk (by rw[hd.room];exact I.ok) (by rw[hd.room];exact hr) I.sz;rw[hd.read]at this;exact this.mono fun e w' ⟨p,P',d',h1,h2,h3,h4,h5,h6⟩=>⟨p,P',d',h1,h2,h3,h4,hd.trans h5,h6⟩
theorem Ia {S':Dr}{id k er:Int}(hd:bf d d1)(h:Sep B w0 w (DL C S d1 P l))(hk:Wf id)(I:DI S d.room)(hr:d.room<=16384)(hp:p∈P)(he:S.put d.room id p.n=some ((k,er),S')):Calls Tryz.prog 155 #[ptr C.q,.int .i64 id,.agg (cN p)] w fun e w'=>e=.returned (.tuple #[.int .i64 k,.int .i64 er])∧Sep B w0 w' (DL C S' d1 P l):=
 Hx h hk (by rw[hd.room];exact I.ok) (by rw[hd.room];exact hr) hp (by rw[hd.room];exact he)
theorem Ed {S':Dr}{a b k er:Int}(hd:bf d d1)(h:Sep B w0 w (DL C S d1 P l))(ha:Wf a)(hb:Wf b)(I:DI S d.room)(hr:d.room<=16384)(hp:p∈P)(he:S.fE d.room a b p.n=some ((k,er),S')):Calls Tryz.prog 230 #[ptr C.q,.int .i64 a,.int .i64 b,.agg (cN p)] w fun e w'=>e=.returned (.tuple #[.int .i64 k,.int .i64 er])∧Sep B w0 w' (DL C S' d1 P l):=
 Ea h ha hb (by rw[hd.room];exact I.ok) (by rw[hd.room];exact hr) hp (by rw[hd.room];exact he)
def yb (S:Dr)(d:Dk)(n:Nd)(depth:Int)(i:Nat):Nd×Nd×Int:=
 if(S.read d (n.ks.getD i 0) (depth+1)).2≠0 then(nd0,nd0,(S.read d (n.ks.getD i 0) (depth+1)).2)else((S.read d (n.ks.getD i 0) (depth+1)).1,(S.read d (n.ks.getD (i+1) 0) (depth+1)).1,(S.read d (n.ks.getD (i+1) 0) (depth+1)).2)
theorem Qj {depth:Int}{i:Nat}(T:bW B w0)(hd:bf d d1)(h:Sep B w0 w (DL C S d1 P l))(hp:p∈P)(hi:i+1<p.n.ks.length)(hl:p.n.ks.length<=500)(hk:∀k∈p.n.ks,Wf k)(I:DI S d.room)(hr:d.room<=16384)(hd0:-1<=depth)(hd1:depth<=1000000):
  Calls Tryz.prog 228 #[ptr C.q,.agg (cN p),.int .i64 depth,.int .i64 (i:Int)] w fun e w'=>∃pa pb P' d',pa.n=(yb S d p.n depth i).1∧pb.n=(yb S d p.n depth i).2.1∧pa∈P'∧pb∈P'∧(∀x∈P,x∈P')∧e=.returned (.tuple #[.agg (cN pa),.agg (cN pb),.int .i64 (yb S d p.n depth i).2.2])∧bf d d'∧Sep B w0 w' (DL C S d' P' l):=by
 obtain⟨ae,ce,ak,ck,az,cz,n⟩:=p;unfold yb;by_cases h0:(S.read d (n.ks.getD i 0) (depth+1)).2≠0
 ·rw[if_pos h0];have:=H0 (depth:=depth) (i:=i) T h hp hi hl hk (by rw[hd.room];exact I.ok) (by rw[hd.room];exact hr) I.sz hd0 hd1 (by rw[hd.read];exact h0);rw[hd.read]at this;exact this.mono fun e w' ⟨pa,pb,P',d',h1,h1',h2,h2',h3,h4,h5,h6⟩=>⟨pa,pb,P',d',h1,h1',h2,h2',h3,h4,hd.trans h5,h6⟩
 ·rw[if_neg h0];have:=Md (depth:=depth) (i:=i) T h hp hi hl hk (by rw[hd.room];exact I.ok) (by rw[hd.room];exact hr) I.sz hd0 hd1 (by rw[hd.read];simpa using h0);rw[hd.read,hd.read]at this;exact this.mono fun e w' ⟨pa,pb,P',d',h1,h1',h2,h2',h3,h4,h5,h6⟩=>⟨pa,pb,P',d',h1,h1',h2,h2',h3,h4,hd.trans h5,h6⟩
end
end
section
open N (Nd nd0 cA cQ dM iR fQ Sm bc hidR aq aj Ch aQ ah waits)
theorem bL {fn:Func}{p q r:Tmp}{ty:TypeId}(h:fn.results=#[.cell p ty,.tmp q,.tmp r])(tmps:Array Value)(P:Program)(w:World):
  (results fn tmps).run P w=((asAddr (tmps.getD p undef)).run P w).andThen fun a w₁=>((loadVar ty a).run P w₁).andThen fun x w₂=>.ok (.tuple #[x,tmps.getD q undef,tmps.getD r undef]) w₂:=by
 simp only[results,h];simp[Sem.run_bind,Result.andThen]
theorem NV.key {p:NV}{w:World}(h:p.R w){i:Nat}(hi:i<p.n.ss.length):∃r o,p.az=some ⟨r,o,none⟩∧r<w.heap.size∧w.cell? ⟨r,o+i,none⟩=some (.string (p.n.ss.getD i ⟨#[]⟩)):=by
 obtain⟨ao,cap,e,h1,h2,h3⟩:=h.s;have hne:p.n.ss≠[]:=fun e=>by rw[e]at hi;simp at hi
 obtain⟨b,off,e2,hb,hc⟩:=h3 hne;injection e with e1 _ _;refine⟨b,off,e1.trans e2,hb,?_⟩;rw[hc i (by simpa using hi)];have hs:i<p.n.ss.toArray.size*1:=by simpa using hi
 rw[get_flatK _ _ _ _ hs,Nat.div_one,Nat.mod_one];simp[N.encS,List.getD_eq_getElem?_getD,hi]
def GJ (B:Nat)(w0:World)(C:Cx)(S':Dr)(d:Dk)(P:List NV)(l:List aO)(n:Nd)(j:Bool)(er:Int)(e:Ending)(w':World):Prop:=
 ∃p P' d',p.n=n∧p∈P'∧(∀x∈P,x∈P')∧e=.returned (.tuple #[p.v,.bool j,.int .i64 er])∧bf d d'∧Sep B w0 w' (DL C S' d' P' l)
theorem yc:∀ {ss:List ByteArray} {k:Nat},k<ss.length->(ss.getD k ⟨#[]⟩).size<=N.bN ss
 |[],k,h=>by simp at h
 |x::ss,0,h=>by
  have:N.bN (x::ss)=5+x.size+N.bN ss:=rfl;rw[this];simp;omega
 |x::ss,k+1,h=>by
  have:N.bN (x::ss)=5+x.size+N.bN ss:=rfl;rw[this];have ih:=yc (ss:=ss) (k:=k) (by simpa using h);simp at ih⊢;omega
theorem ye {n:Nd}(h:cA n=true):n.es.length<=120∧n.ks.length<=49∧n.ss.length<=48∧N.cx n.es<=240∧N.bN n.ss<=240:=by
 unfold cA at h;simp only[Bool.and_eq_true,decide_eq_true_eq]at h;have a:=N.jg n.es;have b:=N.jh n.ss;obtain⟨h1,h2⟩:=h;unfold dM at h2;cases hl:n.leaf
 ·rw[hl,if_neg (by simp)]at h2;obtain⟨e1,e2,e3,_⟩:=(N.cX hl).1 h1;have z:N.cx n.es=0:=by rw[e1];rfl
  have z2:n.es.length=0:=by rw[e1];rfl
  omega
 ·rw[hl,if_pos rfl]at h2;obtain⟨e1,e2,_⟩:=(N.dJ hl).1 h1;have z:N.bN n.ss=0:=by rw[e2];rfl
  have z2:n.ss.length=0:=by rw[e2];rfl
  have z3:n.ks.length=0:=by rw[e1];rfl
  omega
theorem Qk {a b:Nd}{key:ByteArray}(ha:cA a=true)(hb:cA b=true)(hk:key.size<=100000):Sm (iR a key b):=by
 obtain⟨a1,a2,a3,a4,a5⟩:=ye ha;obtain⟨b1,b2,b3,b4,b5⟩:=ye hb;unfold iR;split
 ·refine⟨?_,?_,?_,?_,?_⟩
  ·simp only[List.length_append];omega
  ·simp only[List.length_append];omega
  ·simp only[List.length_append];split<;>simp<;>omega
  ·simp only[N.jb];omega
  ·simp only[N.dA];split
   ·simp[N.bN];omega
   ·have:N.bN [key]=5+key.size+N.bN []:=rfl;rw[this];simp[N.bN];omega
 ·exact(fR ha).1
def aV (B:Nat)(w0:World)(C:Cx)(d:Dk)(Nb:Int)(rec:pC):Prop:=
 ∀ {w:World} {S S':Dr} {d1:Dk} {P:List NV} {l:List aO} {p:NV} {depth i tt:Int} {m:Nd} {e:Int},Sep B w0 w (DL C S d1 P l)->bf d d1->p∈P->bS p.n=true->DI S d.room->-1<=depth->depth<=Nb->-2<=i->i<=1000->-2<=tt->tt<=1000->rec S p.n depth i tt=some ((m,e),S')->
  Calls Tryz.prog 157 #[ptr C.q,.agg (cN p),.int .i64 depth,.int .i64 i,.int .i64 tt] w (GD B w0 C S' d P l m e)
def JB (B:Nat)(w0:World)(C:Cx)(S:Dr)(d:Dk)(P:List NV)(L:List aO)(nn:Nd)(f7 f8:Bool)(sQ wh:Value)(w:World):Prop:=
 ∃P' bl,(∀x∈P,x∈P')∧Sep B w0 w (DL C S d P' (bl++L))∧(f7=true->∃p∈P',p.n=nn∧wh=.agg (cN p))∧(f8=true->∃qq,sQ=.pointer (some ⟨qq,0,none⟩)∧bl=[aF qq (.cells cZ 74)])∧(f8=false->bl=[])
theorem JB.sep {B:Nat}{w0:World}{C:Cx}{S:Dr}{d:Dk}{P:List NV}{L:List aO}{nn:Nd}{f7 f8:Bool}{sQ wh:Value}{w:World}(h:JB B w0 C S d P L nn f7 f8 sQ wh w):∃P',(∀x∈P,x∈P')∧Sep B w0 w (DL C S d P' L):=by
 obtain⟨P',bl,h1,h2,_,h4,h5⟩:=h;cases f8 with
 |true=>
  obtain⟨qq,_,rfl⟩:=h4 rfl;exact⟨P',h1,Sep.drop (Sep.dH h2)⟩
 |false=>
  obtain rfl:=h5 rfl;exact⟨P',h1,h2⟩
def JC (B:Nat)(w0:World)(C:Cx)(S1 S2:Dr)(d:Dk)(P:List NV)(L:List aO)(f:Bool)(w:World):Prop:=
 (f=false->Sep B w0 w (DL C S1 d P L))∧(f=true->Sep B w0 w (DL C S2 d P L))
theorem JC.sep {B:Nat}{w0:World}{C:Cx}{S1 S2:Dr}{d:Dk}{P:List NV}{L:List aO}{f:Bool}{w:World}(h:JC B w0 C S1 S2 d P L f w):∃S,Sep B w0 w (DL C S d P L):=by
 cases f with
 |false=>exact⟨S1,h.1 rfl⟩
 |true=>exact⟨S2,h.2 rfl⟩
def J9 (B:Nat)(w0:World)(CC:Cx)(S:Dr)(d:Dk)(P:List NV)(L:List aO)(nn:Nd)(q0 q3 q4 k zr zo nz cz:Nat)(key:ByteArray)(VA VB:Value){y0 y1 y2 y3 y5 y7 y8 y9 uW rz rA y13 sR uX uY y20 y21 y22 y23 y24 y25 xI y27 y28 y29 xJ y31 y32 vh y34 sV sW vn y38 y39 xK xL xM xN DB DC DD DF DG DJ zR zS zT zU zV zW LA LB LC LD LF LG LH LI LJ LN LO LP PS PT PU Tm Tn Tp Tq Tr Ts Tt PV PW PY Ls y90 y91 Lt y93 GW y95 y96 TZ y98 y99 Ql y101 y102 Qm y104 Qn Qo Qp WV WW WX WY y112 y113 y114 y115 Qq Qr Qs Qt:Value}(C:List Bool->Act->Prop)(w:World):Prop:=∀{f0 f1 f2 f3 f4 f5 f6 f7 f8 f9:Bool}{sQ Me Mf Mg H7 Mh Mi Bz wh:Value},f9=false->JB B w0 CC S d P L nn f7 f8 sQ wh w->Hid (f0=true->Me=VA)->Hid (f1=true->Mf=.pointer (some ⟨q0,3,none⟩))->Hid (f2=true->Mg=.slice (some ⟨zr,zo,none⟩) nz cz)->Hid (f3=true->H7=.int .i64 (k:Int))->Hid (f4=true->Mh=.pointer (some ⟨zr,zo+k,none⟩))->Hid (f5=true->Mi=.string key)->Hid (f6=true->Bz=VB)->Hid (f7=true->True)->Hid (f8=true->True)->C [f0,f1,f2,f3,f4,f5,f6,f7,f8,f9] {tmps:=#[y0,y1,y2,y3,.int .i64 (k:Int),y5,.pointer (some ⟨q0,0,none⟩),y7,y8,y9,uW,rz,rA,y13,sR,.pointer (some ⟨q3,0,none⟩),.pointer (some ⟨q4,0,none⟩),sQ,uX,uY,y20,y21,y22,y23,y24,y25,xI,y27,y28,y29,xJ,y31,y32,vh,y34,sV,sW,vn,y38,y39,xK,xL,xM,xN,DB,DC,DD,DF,DG,DJ,zR,zS,zT,zU,zV,zW,Me,Mf,Mg,H7,Mh,Mi,Bz,wh,LA,LB,LC,LD,LF,LG,LH,LI,LJ,LN,LO,LP,PS,PT,PU,Tm,Tn,Tp,Tq,Tr,Ts,Tt,PV,PW,PY,Ls,y90,y91,Lt,y93,GW,y95,y96,TZ,y98,y99,Ql,y101,y102,Qm,y104,Qn,Qo,Qp,WV,WW,WX,WY,y112,y113,y114,y115,Qq,Qr,Qs,Qt],defers:=[]}
def J15 (B:Nat)(w0:World)(CC:Cx)(S1 S2:Dr)(d:Dk)(P:List NV)(L:List aO)(q0 q5 k r ro Sn ck:Nat)(ka kb:Int)(pg e2:Int)(VM T3:Value){y1 y2 y3 y5 y7 y8 y9 uW rz rA y13 oK oL uY y20 y21 y22 y23 y24 y25 xI y27 y28 y29 xJ y31 y32 vh y34 sV sW vn y38 y39 xK xL xM xN DB DC DD DF DG DJ zR zS zT zU zV zW GV Lm Ln Lp Lq Lr PZ P8 LA LB LC LD LF LG LH LI LJ LN LO LP PS PT PU Tm Tn Tp Tq Tr Ts Tt PV PW PY Ls y90 y91 Lt y93 GW y112 y113 y114 y115 Qq Qr Qs Qt:Value}(C:List Bool->Act->Prop)(w:World):Prop:=∀{f0 f1 f2 f3 f4 f5 f6 f7 f8 f9 f10 f11 f12 f13 f14 f15 f16 f17 f18:Bool}{sP xF x95 x96 Vk x98 x99 x100 x101 x102 x103 x104 x105 Mm x107 Mo Mp Mq Mr:Value},f18=false->JC B w0 CC S1 S2 d P L f13 w->Hid (f0=true->x96=ptr CC.q)->Hid (f1=true->Vk=.pointer (some ⟨q0,2,none⟩))->Hid (f2=true->x98=.slice (some ⟨r,ro,none⟩) Sn ck)->Hid (f3=true->x99=.int .i64 (k:Int))->Hid (f4=true->x100=.pointer (some ⟨r,ro+k,none⟩))->Hid (f5=true->x101=.int .i64 ka)->Hid (f6=true->x102=.pointer (some ⟨q0,2,none⟩))->Hid (f7=true->x103=.slice (some ⟨r,ro,none⟩) Sn ck)->Hid (f8=true->x104=.int .i64 (k:Int))->Hid (f9=true->x105=.int .i64 ((k+1:Nat):Int))->Hid (f10=true->Mm=.pointer (some ⟨r,ro+(k+1),none⟩))->Hid (f11=true->x107=.int .i64 kb)->Hid (f12=true->Mo=VM)->Hid (f13=true->Mp=T3)->Hid (f14=true->x95=T3)->Hid (f15=true->Mq=.int .i64 pg)->Hid (f16=true->Mr=.int .i64 e2)->Hid (f17=true->xF=.int .i64 pg)->C [f0,f1,f2,f3,f4,f5,f6,f7,f8,f9,f10,f11,f12,f13,f14,f15,f16,f17,f18] {tmps:=#[ptr CC.q,y1,y2,y3,.int .i64 (k:Int),y5,.pointer (some ⟨q0,0,none⟩),y7,y8,y9,uW,rz,rA,y13,sP,oK,oL,.pointer (some ⟨q5,0,none⟩),xF,uY,y20,y21,y22,y23,y24,y25,xI,y27,y28,y29,xJ,y31,y32,vh,y34,sV,sW,vn,y38,y39,xK,xL,xM,xN,DB,DC,DD,DF,DG,DJ,zR,zS,zT,zU,zV,zW,GV,Lm,Ln,Lp,Lq,Lr,PZ,P8,LA,LB,LC,LD,LF,LG,LH,LI,LJ,LN,LO,LP,PS,PT,PU,Tm,Tn,Tp,Tq,Tr,Ts,Tt,PV,PW,PY,Ls,y90,y91,Lt,y93,GW,x95,x96,Vk,x98,x99,x100,x101,x102,x103,x104,x105,Mm,x107,Mo,Mp,Mq,Mr,y112,y113,y114,y115,Qq,Qr,Qs,Qt],defers:=[]}
section
variable {B:Nat}{w0 w w':World}{l:List aO}{P:List NV}{C:Cx}{S S':Dr}{d d1:Dk}{depth:Int}{ae ak az:Option Addr}{ce ck cz:Nat}{n m:Nd}{j:Bool}{er Nb:Int}{rec:pC}
theorem Ib {i first:Int}(hd:bf d d1)(h:Sep B w0 w (DL C S d1 P l))(hp:(⟨ae,ce,ak,ck,az,cz,n⟩:NV)∈P)(hf:first<0):Calls Tryz.prog 192 #[ptr C.q,.agg #[.bool n.leaf,.slice ae n.es.length ce,.slice ak n.ks.length ck,.slice az n.ss.length cz],.int .i64 depth,.int .i64 i,.int .i64 first] w (GJ B w0 C S d P l n false 0):=by
 have SF:Hid (Sep B w0 ((w.alloc (.cells #[.bool n.leaf,.slice ae n.es.length ce,.slice ak n.ks.length ck,.slice az n.ss.length cz] 74)).alloc (.cells #[.bool n.leaf,.slice ae n.es.length ce,.slice ak n.ks.length ck,.slice az n.ss.length cz] 74)) (DL C S d1 P (aF w.heap.size (.cells #[.bool n.leaf,.slice ae n.es.length ce,.slice ak n.ks.length ck,.slice az n.ss.length cz] 74)::aF (w.heap.size+1) (.cells #[.bool n.leaf,.slice ae n.es.length ce,.slice ak n.ks.length ck,.slice az n.ss.length cz] 74)::l))):=Sep.nI (Sep.aR (Sep.rF (h.aP _)) _ _ (by simp));have HP:Hid ((⟨ae,ce,ak,ck,az,cz,n⟩:NV)∈P):=hp;have HD:Hid (bf d d1):=hd;clear h hp hd;go_enter Tryz.func192,Tryz.ntmps192;go_wp2
 (try simp only[Exit.inBlock,Exit.then])
 generalize World.alloc _ _=vf at*;generalize w.heap.size+1=q1 at*;generalize w.heap.size=q0 at*;obtain⟨_,⟨c0,c1,c2,c3⟩,g0,g1,g2,g3⟩:=Sep.c4 (Sep.cO (SF.out));refine bodyPost_ret (v:=.tuple #[.agg #[.bool n.leaf,.slice ae n.es.length ce,.slice ak n.ks.length ck,.slice az n.ss.length cz],.bool false,.int .i64 0]) ?_ rfl ⟨_,P,d1,rfl,HP.out,fun _ h=>h,rfl,HD.out,Sep.drop (Sep.dH (Sep.drop (Sep.cO (SF.out))))⟩;rw[bL rfl];go_simp
theorem Ic {t k:Nat}(T:bW B w0)(hrec:aV B w0 C d Nb rec)(BU:∀ {S S':Dr} {n:Nd} {depth i tt:Int} {r:Nd×Int},DI S d.room->rec S n depth i tt=some (r,S')->DI S' d.room)(hd:bf d d1)(h:Sep B w0 w (DL C S d1 P l))(hp:(⟨ae,ce,ak,ck,az,cz,n⟩:NV)∈P)(hsm:bS n=true)(I:DI S d.room)(hr:d.room<=16384)(hd0:-1<=depth)(hd1:depth<=100000)(hN:depth+1<=Nb)(ht:t<n.ks.length)(hk2:k+1<n.ks.length)(he:fI rec d.room d S n depth t k=some ((m,j,er),S')):
  Calls Tryz.prog 192 #[ptr C.q,.agg #[.bool n.leaf,.slice ae n.es.length ce,.slice ak n.ks.length ck,.slice az n.ss.length cz],.int .i64 depth,.int .i64 (t:Int),.int .i64 (k:Int)] w (GJ B w0 C S' d P l m j er):=by
 obtain⟨jt,hkl,hel,hsl,hks⟩:=eH hsm;obtain⟨r,ro,hak,_⟩:=NV.kid (p:=(⟨ae,ce,ak,ck,az,cz,n⟩:NV)) (DL.nd h hp) (i:=t) ht;simp only at hak;subst hak;have K1:Hid (∀u d' P' L,bf d d'->Sep B w0 u (DL C S d' P' L)->Calls Tryz.prog 152 #[ptr C.q,.int .i64 (n.ks.getD t 0),.int .i64 (depth+1)] u fun e w'=>∃pa P2 d2,pa.n=(S.read d (n.ks.getD t 0) (depth+1)).1∧pa∈P2∧(∀x∈P',x∈P2)∧e=.returned (.tuple #[.agg (cN pa),.int .i64 (S.read d (n.ks.getD t 0) (depth+1)).2])∧bf d d2∧Sep B w0 w' (DL C S d2 P2 L)):=fun u d' P' L hd hu=>vB T hd hu (hks _ (dK ht)) I hr;have K2:Hid (∀u d' P' L,bf d d'->Sep B w0 u (DL C S d' P' L)->(⟨ae,ce,some ⟨r,ro,none⟩,ck,az,cz,n⟩:NV)∈P'->Calls Tryz.prog 228 #[ptr C.q,.agg #[.bool n.leaf,.slice ae n.es.length ce,.slice (some ⟨r,ro,none⟩) n.ks.length ck,.slice az n.ss.length cz],.int .i64 depth,.int .i64 (k:Int)] u fun e w'=>∃pa pb P2 d2,pa.n=(yb S d n depth k).1∧pb.n=(yb S d n depth k).2.1∧pa∈P2∧pb∈P2∧(∀x∈P',x∈P2)∧e=.returned (.tuple #[.agg (cN pa),.agg (cN pb),.int .i64 (yb S d n depth k).2.2])∧bf d d2∧Sep B w0 w' (DL C S d2 P2 L)):=fun u d' P' L hd hu hp'=>Qj (p:=(⟨ae,ce,some ⟨r,ro,none⟩,ck,az,cz,n⟩:NV)) T hd hu hp' hk2 hkl hks I hr hd0 (by omega);have S1:Hid (Sep B w0 ((w.alloc (.cells #[.bool n.leaf,.slice ae n.es.length ce,.slice (some ⟨r,ro,none⟩) n.ks.length ck,.slice az n.ss.length cz] 74)).alloc (.cells cZ 74)) (DL C S d1 P (aF w.heap.size (.cells #[.bool n.leaf,.slice ae n.es.length ce,.slice (some ⟨r,ro,none⟩) n.ks.length ck,.slice az n.ss.length cz] 74)::aF (w.heap.size+1) (.cells cZ 74)::l))):=Sep.nI (Sep.aR (Sep.rF (h.aP _)) _ _ (by simp));obtain⟨r',ro',hak,hrs,hrc⟩:=NV.kid (p:=(⟨ae,ce,some ⟨r,ro,none⟩,ck,az,cz,n⟩:NV)) (DL.nd S1.out hp) (i:=t) ht;cases hak;simp only at hrc;have w1:IntKind.i64.wrap (depth+1)=depth+1:=bE (by omega) (by omega);have hil:(t:Int)< (n.ks.length:Int):=by omega
 have HP:Hid ((⟨ae,ce,some ⟨r,ro,none⟩,ck,az,cz,n⟩:NV)∈P):=hp;have HD:Hid (bf d d1):=hd;have HI:Hid (DI S d.room):=I;have HE:Hid (fI rec d.room d S n depth t k=some ((m,j,er),S')):=he;have HR:Hid (aV B w0 C d Nb rec):=hrec;have HRI:Hid (∀(S S':Dr) (n:Nd) (depth i tt:Int) (r:Nd×Int),DI S d.room->rec S n depth i tt=some (r,S')->DI S' d.room):=fun _ _ _ _ _ _ _ h1 h2=>BU h1 h2;have HN:Hid (depth+1<=Nb):=hN;have HX:Hid (d.room<=16384∧-1<=depth∧depth<=100000∧k+1<n.ks.length∧(∀k∈n.ks,Wf k)∧Sm n∧t<n.ks.length):=⟨hr,hd0,hd1,hk2,hks,jt,ht⟩;have kn0:¬(k:Int)<0:=by omega
 have WZ:Hid (bS n=true):=hsm;unfold fI at HE;generalize vC:n.ks.getD t 0=kid at*;generalize hrd:S.read d kid (depth+1)=rd at*;obtain⟨nk,ek⟩:=rd;simp only[Int.toNat_natCast]at HE K1;rw[vC,hrd]at HE;simp only at HE;clear hN h hp hd I he hrec BU hr hsm jt hks hd0 hd1 hk2 ht hel hsl;go_enter Tryz.func192,Tryz.ntmps192
 go_wp2_with fail
 clear hrs hrc;generalize World.alloc _ _=v1 at*;generalize w.heap.size+1=q1 at*;generalize w.heap.size=q0 at*;refine Calls.mono (K1.out _ _ _ _ HD.out S1.out) ?_;rintro e v2 ⟨pk,P1,d2,hn1,hm1,hs1,rfl,hd2,s2⟩;have D2:Hid (bf d d2):=hd2;have M1:Hid (∀x∈P,x∈P1):=hs1;have N1:Hid (pk.n=nk):=hn1;have MK:Hid (pk∈P1):=hm1;have S2:Hid (Sep B w0 v2 (DL C S d2 P1 (aF q0 (.cells #[.bool n.leaf,.slice ae n.es.length ce,.slice (some ⟨r,ro,none⟩) n.ks.length ck,.slice az n.ss.length cz] 74)::aF q1 (.cells cZ 74)::l))):=s2;clear s2 hd2 hs1 hn1 hm1 S1 K1 HD;by_cases e0:ek≠0
 ·rw[if_neg (by omega),if_pos e0]at HE;obtain⟨hm,hj,hr',hS⟩:n=m∧false=j∧ek=er∧S=S':=by
   have:=Option.some.inj HE.out;cases this;exact⟨rfl,rfl,rfl,rfl⟩
  subst hm hj hr' hS;have hne:(ek != 0)=true:=bne_iff_ne.2 e0;clear HE e0;obtain⟨_,⟨c0,c1,c2,c3⟩,g0,g1,g2,g3⟩:=Sep.c4 (Sep.dH (S2.out));obtain⟨_,⟨i0,i1,i2,i3⟩,j0,j1,j2,j3⟩:=Sep.c4 (Sep.cO (S2.out));have vD:q0≠q1:=Sep.ne (Sep.cO (Sep.cO (S2.out)));have n10:=vD.symm;have SF:Hid (Sep B w0 (((((v2.setCell ⟨q1,0,none⟩ (.bool n.leaf)).setCell ⟨q1,1,none⟩ (.slice ae n.es.length ce)).setCell ⟨q1,2,none⟩ (.slice (some ⟨r,ro,none⟩) n.ks.length ck)).setCell ⟨q1,3,none⟩ (.slice az n.ss.length cz)).alloc (.cells (cN pk) 74)) _):=Sep.alloc (Sep.nI (Sep.s4 (Sep.cO (S2.out)) _ _ _ _)) _;clear S2;go_wp2
  (try simp only[Exit.inBlock,Exit.then])
  generalize World.setCell _ _ _=vf at*;clear c0 c1 c2 c3 g0 g1 g2 g3 i0 i1 i2 i3 j0 j1 j2 j3;obtain⟨_,⟨c0,c1,c2,c3⟩,g0,g1,g2,g3⟩:=Sep.c4 (Sep.cO (SF.out));refine bodyPost_ret (v:=.tuple #[.agg #[.bool n.leaf,.slice ae n.es.length ce,.slice (some ⟨r,ro,none⟩) n.ks.length ck,.slice az n.ss.length cz],.bool false,.int .i64 ek]) ?_ rfl ⟨_,P1,d2,rfl,M1.out _ HP.out,fun x hx=>M1.out x hx,rfl,D2.out,Sep.drop (Sep.dH (Sep.drop (Sep.cO (SF.out))))⟩;rw[bL rfl];go_simp
 ·have e1:ek=0:=by simpa using e0
  subst e1;rw[if_neg (by omega),if_neg (by simp)]at HE;have S3:Hid (Sep B w0 (v2.alloc (.cells (cN pk) 74)) _):=Sep.wz (Sep.aP S2.out _);have SMK:Hid (cA pk.n=true):=by
   show _=true;rw[N1.out];have:=HI.out.read (d:=d) (id:=kid) (depth:=depth+1) (by rw[hrd]);rw[hrd]at this;exact this
  clear S2;have hz0:((0:Int) != 0)=false:=rfl
  go_wp2_with fail
  generalize World.alloc _ _=v3 at*;generalize v2.heap.size=q2 at*;refine Calls.mono (Ai S3.out MK.out (fR SMK.out).1) ?_;rintro e v4 ⟨rfl,s4⟩;have S4:Hid (Sep B w0 v4 (DL C S d2 P1 (aF q0 (.cells #[.bool n.leaf,.slice ae n.es.length ce,.slice (some ⟨r,ro,none⟩) n.ks.length ck,.slice az n.ss.length cz] 74)::aF q1 (.cells cZ 74)::aF q2 (.cells (cN pk) 74)::l))):=s4;clear s4 S3;by_cases e1:80<=dM nk
  ·rw[if_pos e1]at HE;obtain⟨hm,hj,hr',hS⟩:n=m∧false=j∧0=er∧S=S':=by
    have:=Option.some.inj HE.out;cases this;exact⟨rfl,rfl,rfl,rfl⟩
   subst hm hj hr' hS;have hne:(80:Int)<=(dM pk.n:Int):=by rw[N1.out];omega
   generalize(dM pk.n:Int)=zz at*;clear HE e1;obtain⟨_,⟨c0,c1,c2,c3⟩,g0,g1,g2,g3⟩:=Sep.c4 (Sep.dH (S4.out));obtain⟨_,⟨i0,i1,i2,i3⟩,j0,j1,j2,j3⟩:=Sep.c4 (Sep.cO (S4.out));have vD:q0≠q1:=Sep.ne (Sep.cO (Sep.cO (S4.out)));have n10:=vD.symm;have SF:Hid (Sep B w0 ((((v4.setCell ⟨q1,0,none⟩ (.bool n.leaf)).setCell ⟨q1,1,none⟩ (.slice ae n.es.length ce)).setCell ⟨q1,2,none⟩ (.slice (some ⟨r,ro,none⟩) n.ks.length ck)).setCell ⟨q1,3,none⟩ (.slice az n.ss.length cz)) _):=Sep.nI (Sep.s4 (Sep.cO (S4.out)) _ _ _ _);clear S4;go_wp2
   (try simp only[Exit.inBlock,Exit.then])
   generalize World.setCell _ _ _=vf at*;clear c0 c1 c2 c3 g0 g1 g2 g3 i0 i1 i2 i3 j0 j1 j2 j3;obtain⟨_,⟨c0,c1,c2,c3⟩,g0,g1,g2,g3⟩:=Sep.c4 (Sep.cO (SF.out));refine bodyPost_ret (v:=.tuple #[.agg #[.bool n.leaf,.slice ae n.es.length ce,.slice (some ⟨r,ro,none⟩) n.ks.length ck,.slice az n.ss.length cz],.bool false,.int .i64 0]) ?_ rfl ⟨_,P1,d2,rfl,M1.out _ HP.out,fun x hx=>M1.out x hx,rfl,D2.out,Sep.drop (Sep.dH (Sep.drop (Sep.cO (Sep.drop (Sep.eh (SF.out))))))⟩;rw[bL rfl];go_simp
  ·rw[if_neg e1]at HE;have hne:¬(80:Int)<=(dM pk.n:Int):=by rw[N1.out];omega
   generalize(dM pk.n:Int)=zz at*;obtain⟨_,⟨c0,c1,c2,c3⟩,g0,g1,g2,g3⟩:=Sep.c4 (Sep.dH (S4.out));have W4:Hid _:=M1.out _ HP.out;clear e1
   go_wp2_with fail
   clear c0 c1 c2 c3 g0 g1 g2 g3;refine Calls.mono (K2.out _ _ _ _ D2.out S4.out W4.out) ?_;rintro e v5 ⟨pa,pb,P2,d3,hna,hnb,YL,hmb,hs2,rfl,hd3,s5⟩;have D3:Hid (bf d d3):=hd3;have M2:Hid (∀x∈P1,x∈P2):=hs2;have NA:Hid (pa.n=(yb S d n depth k).1):=hna;have NB:Hid (pb.n=(yb S d n depth k).2.1):=hnb;have MA:Hid (pa∈P2):=YL;have MB:Hid (pb∈P2):=hmb;have S5:Hid (Sep B w0 v5 (DL C S d3 P2 (aF q0 (.cells #[.bool n.leaf,.slice ae n.es.length ce,.slice (some ⟨r,ro,none⟩) n.ks.length ck,.slice az n.ss.length cz] 74)::aF q1 (.cells cZ 74)::aF q2 (.cells (cN pk) 74)::l))):=s5;clear s5 hd3 hs2 hna hnb YL hmb S4 K2 D2;have D2:Hid (bf d d3):=D3.out;clear D3;by_cases e2:(yb S d n depth k).2.2≠0
   ·have yf:Hid (n=m∧false=j∧(yb S d n depth k).2.2=er∧S=S'):=by
     have hE:=HE.out;unfold yb at e2⊢;by_cases ea:(S.read d (n.ks.getD k 0) (depth+1)).2≠0
     ·rw[if_pos ea]at hE e2⊢;cases hE;exact⟨rfl,rfl,rfl,rfl⟩
     ·rw[if_neg ea]at hE e2⊢;simp only at e2;rw[if_pos e2]at hE;cases hE;exact⟨rfl,rfl,rfl,rfl⟩
    have hne:((yb S d n depth k).2.2 != 0)=true:=bne_iff_ne.2 e2;clear HE e2 NA NB;generalize(yb S d n depth k).2.2=e3 at*;obtain⟨hm,hj,hr',hS⟩:=yf.out;subst hm hj hr' hS;clear yf;obtain⟨_,⟨c0,c1,c2,c3⟩,g0,g1,g2,g3⟩:=Sep.c4 (Sep.dH (S5.out));obtain⟨_,⟨i0,i1,i2,i3⟩,j0,j1,j2,j3⟩:=Sep.c4 (Sep.cO (S5.out));have vD:q0≠q1:=Sep.ne (Sep.cO (Sep.cO (S5.out)));have n10:=vD.symm;have SF:Hid (Sep B w0 ((((((v5.setCell ⟨q1,0,none⟩ (.bool n.leaf)).setCell ⟨q1,1,none⟩ (.slice ae n.es.length ce)).setCell ⟨q1,2,none⟩ (.slice (some ⟨r,ro,none⟩) n.ks.length ck)).setCell ⟨q1,3,none⟩ (.slice az n.ss.length cz)).alloc (.cells (cN pa) 74)).alloc (.cells (cN pb) 74)) (DL C S d3 P2 (aF q0 (.cells #[.bool n.leaf,.slice ae n.es.length ce,.slice (some ⟨r,ro,none⟩) n.ks.length ck,.slice az n.ss.length cz] 74)::aF q1 (.cells #[.bool n.leaf,.slice ae n.es.length ce,.slice (some ⟨r,ro,none⟩) n.ks.length ck,.slice az n.ss.length cz] 74)::aF q2 (.cells (cN pk) 74)::l))):=Sep.alloc (Sep.alloc (Sep.nI (Sep.s4 (Sep.cO (S5.out)) _ _ _ _)) _) _;clear S5;go_wp2
    (try simp only[Exit.inBlock,Exit.then])
    generalize(((((v5.setCell ⟨q1,0,none⟩ (.bool n.leaf)).setCell ⟨q1,1,none⟩ (.slice ae n.es.length ce)).setCell ⟨q1,2,none⟩ (.slice (some ⟨r,ro,none⟩) n.ks.length ck)).setCell ⟨q1,3,none⟩ (.slice az n.ss.length cz)).alloc (.cells (cN pa) 74)).alloc (.cells (cN pb) 74)=vf at*;clear c0 c1 c2 c3 g0 g1 g2 g3 i0 i1 i2 i3 j0 j1 j2 j3;obtain⟨_,⟨c0,c1,c2,c3⟩,g0,g1,g2,g3⟩:=Sep.c4 (Sep.cO (SF.out));refine bodyPost_ret (v:=.tuple #[.agg #[.bool n.leaf,.slice ae n.es.length ce,.slice (some ⟨r,ro,none⟩) n.ks.length ck,.slice az n.ss.length cz],.bool false,.int .i64 e3]) ?_ rfl ⟨_,P2,d3,rfl,M2.out _ (M1.out _ HP.out),fun x hx=>M2.out x (M1.out x hx),rfl,D2.out,Sep.drop (Sep.dH (Sep.drop (Sep.cO (Sep.drop (Sep.eh (SF.out))))))⟩;rw[bL rfl];go_simp
   ·obtain⟨ea,eb,ep⟩:(S.read d (n.ks.getD k 0) (depth+1)).2=0∧(S.read d (n.ks.getD (k+1) 0) (depth+1)).2=0∧yb S d n depth k=((S.read d (n.ks.getD k 0) (depth+1)).1,(S.read d (n.ks.getD (k+1) 0) (depth+1)).1,0):=by
     unfold yb at e2⊢;by_cases ea:(S.read d (n.ks.getD k 0) (depth+1)).2≠0
     ·rw[if_pos ea]at e2;exact absurd ea e2
     ·rw[if_neg ea]at e2⊢;simp only[Decidable.not_not]at e2 ea;exact⟨ea,e2,by rw[e2]⟩
    have FA:Hid (cA pa.n=true):=by
     show _=true;rw[NA.out,ep];exact HI.out.read ea
    have FB:Hid (cA pb.n=true):=by
     show _=true;rw[NB.out,ep];exact HI.out.read eb
    have Vl:Hid (Sm pa.n):=(fR FA.out).1;have SMB:Hid (Sm pb.n):=(fR FB.out).1;have Od:Hid (pa.n.ks.length<=500):=(eH (fR FA.out).2.1).2.1;rw[if_neg (by simpa using ea),if_neg (by simpa using eb)]at HE;by_cases hss:n.ss.length<=k
    ·rw[if_pos hss]at HE;have:=HE.out;cases this
    rw[if_neg hss]at HE;have hkz:k<n.ss.length:=by omega
    have aag:(k:Int)< (n.ss.length:Int):=by omega
    have e20:((yb S d n depth k).2.2)=0:=by rw[ep]
    rw[e20];have YM:(S.read d (n.ks.getD k 0) (depth+1)).1=pa.n:=by rw[NA.out,ep]
    have YN:(S.read d (n.ks.getD (k+1) 0) (depth+1)).1=pb.n:=by rw[NB.out,ep]
    rw[YM,YN]at HE;clear YM YN NA NB e2 ea eb ep e20 hss;obtain⟨zr,zo,haz,_⟩:=NV.key (p:=(⟨ae,ce,some ⟨r,ro,none⟩,ck,az,cz,n⟩:NV)) (DL.nd S5.out (M2.out _ W4.out)) (i:=k) hkz;simp only at haz;subst haz;have MY:Hid ((⟨ae,ce,some ⟨r,ro,none⟩,ck,some ⟨zr,zo,none⟩,cz,n⟩:NV)∈P2):=M2.out _ W4.out;have HKS:Hid ((n.ss.getD k ⟨#[]⟩).size<=100000):=by
     have h1:=yc hkz;have h2:=WZ.out;unfold bS at h2;simp only[Bool.and_eq_true,decide_eq_true_eq]at h2;exact Nat.le_trans h1 h2.1.2
    generalize T6:n.ss.getD k ⟨#[]⟩=key at*;have Sp:Hid (n.ss.getD k ⟨#[]⟩=key):=T6;clear T6;have S6:Hid (Sep B w0 ((v5.alloc (.cells (cN pa) 74)).alloc (.cells (cN pb) 74)) (DL C S d3 P2 (aF q0 (.cells #[.bool n.leaf,.slice ae n.es.length ce,.slice (some ⟨r,ro,none⟩) n.ks.length ck,.slice (some ⟨zr,zo,none⟩) n.ss.length cz] 74)::aF q1 (.cells cZ 74)::aF q2 (.cells (cN pk) 74)::aF v5.heap.size (.cells (cN pa) 74)::aF (v5.heap.size+1) (.cells (cN pb) 74)::l))):=Sep.Vi (Sep.aR (Sep.JI (Sep.aP S5.out _)) _ _ (by simp));clear S5
    go_wp2_with fail
    generalize(v5.alloc (.cells (cN pa) 74)).alloc (.cells (cN pb) 74)=v6 at*;generalize v5.heap.size+1=q4 at*;generalize v5.heap.size=q3 at*;refine bc 9 (J9 B w0 C S d3 P2 (aF q0 (.cells #[.bool n.leaf,.slice ae n.es.length ce,.slice (some ⟨r,ro,none⟩) n.ks.length ck,.slice (some ⟨zr,zo,none⟩) n.ss.length cz] 74)::aF q1 (.cells cZ 74)::aF q2 (.cells (cN pk) 74)::aF q3 (.cells (cN pa) 74)::aF q4 (.cells (cN pb) 74)::l) (iR pa.n key pb.n) q0 q3 q4 k zr zo n.ss.length cz key (.agg (cN pa)) (.agg (cN pb))) (by kernel_rfl) (by kernel_rfl) (by kernel_rfl) (fun _ k=>k rfl ⟨P2,[],fun _ h=>h,S6.out.drew,(fun h=>by cases h),(fun h=>by cases h),fun _=>rfl⟩ aq aq aq aq aq aq aq aq aq) ?_ ?_ ?_
    ·intro i w' hne f0 f1 f2 f3 f4 f5 f6 f7 f8 f9 sQ Me Mf Mg H7 Mh Mi Bz wh e9 hB h0 h1 h2 h3 h4 h5 h6 h7 h8 hi;obtain⟨hlt,hun,_⟩:=aQ hi;have hlt':i<10:=hlt;clear hlt;rcases(by omega:i=0∨i=1∨i=2∨i=3∨i=4∨i=5∨i=6∨i=7∨i=8)with rfl|rfl|rfl|rfl|rfl|rfl|rfl|rfl|rfl
     ·obtain⟨P9,Vm,s9⟩:=JB.sep hB;obtain⟨_,⟨c0,c1,c2,c3⟩,_⟩:=Sep.c4 (Sep.iI (s9));clear s9;refine aj rfl fun K HK=>?_;go_simp;exact HK.out _ _ fun _ k=>k e9 hB hidR h1 h2 h3 h4 h5 h6 h7 h8
     ·refine aj rfl fun K HK=>?_;go_simp;exact HK.out _ _ fun _ k=>k e9 hB h0 hidR h2 h3 h4 h5 h6 h7 h8
     ·cases h1 (ah 1 hi (by kernel_rfl));obtain⟨P9,Vm,s9⟩:=JB.sep hB;obtain⟨_,⟨c0,c1,c2,c3⟩,_⟩:=Sep.c4 (Sep.dH (s9));clear s9;refine aj rfl fun K HK=>?_;go_simp;exact HK.out _ _ fun _ k=>k e9 hB h0 h1 hidR h3 h4 h5 h6 h7 h8
     ·refine aj rfl fun K HK=>?_;go_simp;exact HK.out _ _ fun _ k=>k e9 hB h0 h1 h2 hidR h4 h5 h6 h7 h8
     ·cases h2 (ah 2 hi (by kernel_rfl));cases h3 (ah 3 hi (by kernel_rfl));refine aj rfl fun K HK=>?_;go_simp;exact HK.out _ _ fun _ k=>k e9 hB h0 h1 h2 h3 hidR h5 h6 h7 h8
     ·cases h4 (ah 4 hi (by kernel_rfl));obtain⟨P9,Vm,s9⟩:=JB.sep hB;obtain⟨z1,z2,hz3,hzs,hzc⟩:=NV.key (p:=(⟨ae,ce,some ⟨r,ro,none⟩,ck,some ⟨zr,zo,none⟩,cz,n⟩:NV)) (DL.nd s9 (Vm _ MY.out)) (i:=k) hkz;cases hz3;simp only at hzc;rw[Sp.out]at hzc;clear s9;refine aj rfl fun K HK=>?_;go_simp;exact HK.out _ _ fun _ k=>k e9 hB h0 h1 h2 h3 h4 hidR h6 h7 h8
     ·obtain⟨P9,Vm,s9⟩:=JB.sep hB;obtain⟨_,⟨c0,c1,c2,c3⟩,_⟩:=Sep.c4 (Sep.oM (s9));clear s9;refine aj rfl fun K HK=>?_;go_simp;exact HK.out _ _ fun _ k=>k e9 hB h0 h1 h2 h3 h4 h5 hidR h7 h8
     ·cases h0 (ah 0 hi (by kernel_rfl));cases h5 (ah 5 hi (by kernel_rfl));cases h6 (ah 6 hi (by kernel_rfl));refine aj rfl fun K HK=>?_;go_simp;obtain⟨P9,W5,u1,u2,u3,u4,u5⟩:=hB;refine Calls.mono (Ml u2 (u1 _ MA.out) (u1 _ MB.out) Vl.out SMB.out key) ?_;rintro e w1 ⟨pj,hn,rfl,s1⟩;exact HK.out _ _ fun _ k=>k e9 ⟨pj::P9,W5,fun x hx=>List.mem_cons_of_mem _ (u1 x hx),s1,fun _=>⟨pj,List.mem_cons_self,hn,rfl⟩,u4,u5⟩ h0 h1 h2 h3 h4 h5 h6 (fun _=>trivial) h8
     ·have un:f8=false:=hun;refine aj rfl fun K HK=>?_;go_simp;obtain⟨P9,W5,u1,u2,u3,u4,u5⟩:=hB;obtain rfl:=u5 un;exact HK.out _ _ fun _ k=>k e9 ⟨P9,[_],u1,Sep.rF (Sep.aP u2 _),u3,fun _=>⟨_,rfl,rfl⟩,fun h=>by cases h⟩ h0 h1 h2 h3 h4 h5 h6 h7 (fun _=>trivial)
    ·intro w' f0 f1 f2 f3 f4 f5 f6 f7 f8 f9 sQ Me Mf Mg H7 Mh Mi Bz wh e9 hB h0 h1 h2 h3 h4 h5 h6 h7 h8 hi;have d7:f7=true:=ah 7 hi (by kernel_rfl);have d8:f8=true:=ah 8 hi (by kernel_rfl);clear hi;obtain⟨P9,W5,u1,u2,u3,u4,u5⟩:=hB;obtain⟨pj,mj,nj,e63⟩:=u3 d7;have NJ:Hid (pj.n=iR pa.n key pb.n):=nj;clear nj;obtain⟨qq,e17,ebl⟩:=u4 d8;subst ebl;subst e17;subst e63;obtain⟨_,⟨c0,c1,c2,c3⟩,g0,g1,g2,g3⟩:=Sep.c4 (Sep.dH (u2));refine aj rfl fun K HK=>?_;go_simp;refine HK.out _ _ ?_;have S7:Hid (Sep B w0 ((((w'.setCell ⟨qq,0,none⟩ (.bool pj.n.leaf)).setCell ⟨qq,1,none⟩ (.slice pj.ae pj.n.es.length pj.ce)).setCell ⟨qq,2,none⟩ (.slice pj.ak pj.n.ks.length pj.ck)).setCell ⟨qq,3,none⟩ (.slice pj.az pj.n.ss.length pj.cz)) _):=Sep.Ag (Sep.s4 (Sep.dH (u2)) _ _ _ _);have M3:Hid (∀x∈P2,x∈P9):=u1;have MJ:Hid (pj∈P9):=mj;clear u1 u2 u3 u4 u5 mj h0 h1 h2 h3 h4 h5 h6 h7 h8 c0 c1 c2 c3 g0 g1 g2 g3 S6 d7 d8;rw[<-NJ.out]at HE;generalize World.setCell _ _ _=v7 at*;obtain⟨_,⟨c0,c1,c2,c3⟩,_⟩:=Sep.c4 (Sep.iI (S7.out));obtain⟨_,⟨i0,i1,i2,i3⟩,_⟩:=Sep.c4 (Sep.oM (S7.out));obtain⟨_,⟨j0,j1,j2,j3⟩,_⟩:=Sep.c4 (Sep.eL (S7.out));have M4:Hid (∀x∈P,x∈P9):=fun x hx=>M3.out x (M2.out x (M1.out x hx));by_cases hlf:pa.n.leaf≠pb.n.leaf
     ·rw[if_pos (.inl hlf)]at HE;obtain⟨hm,hj,hr',hS⟩:n=m∧false=j∧0=er∧S=S':=by
       have:=Option.some.inj HE.out;cases this;exact⟨rfl,rfl,rfl,rfl⟩
      subst hm hj hr' hS;have hlx:(pa.n.leaf=true∧pb.n.leaf=false)∨(pa.n.leaf=false∧pb.n.leaf=true):=by
       cases hx:pa.n.leaf<;>cases hy:pb.n.leaf<;>simp[hx,hy]at hlf⊢
      have a0:=c0;have b0:=i0;clear HE hlf c0 c1 c2 c3 i0 i1 i2 i3 j0 j1 j2 j3;rcases hlx with⟨hla,hlb⟩| ⟨hla,hlb⟩
      ·rw[hla]at a0;rw[hlb]at b0;clear hla hlb;obtain⟨_,⟨c0,c1,c2,c3⟩,g0,g1,g2,g3⟩:=Sep.c4 (Sep.dH (S7.out));obtain⟨_,⟨i0,i1,i2,i3⟩,j0,j1,j2,j3⟩:=Sep.c4 (Sep.cO (S7.out));have vD:q0≠q1:=Sep.ne (Sep.cO (Sep.cO (S7.out)));have n10:=vD.symm;have SF:Hid (Sep B w0 ((((v7.setCell ⟨q1,0,none⟩ (.bool n.leaf)).setCell ⟨q1,1,none⟩ (.slice ae n.es.length ce)).setCell ⟨q1,2,none⟩ (.slice (some ⟨r,ro,none⟩) n.ks.length ck)).setCell ⟨q1,3,none⟩ (.slice (some ⟨zr,zo,none⟩) n.ss.length cz)) _):=Sep.nI (Sep.s4 (Sep.cO (S7.out)) _ _ _ _);clear S7;go_wp2
       (try simp only[Exit.inBlock,Exit.then])
       generalize World.setCell _ _ _=vf at*;clear c0 c1 c2 c3 g0 g1 g2 g3 i0 i1 i2 i3 j0 j1 j2 j3;obtain⟨_,⟨c0,c1,c2,c3⟩,g0,g1,g2,g3⟩:=Sep.c4 (Sep.cO (SF.out));refine bodyPost_ret (v:=.tuple #[.agg #[.bool n.leaf,.slice ae n.es.length ce,.slice (some ⟨r,ro,none⟩) n.ks.length ck,.slice (some ⟨zr,zo,none⟩) n.ss.length cz],.bool false,.int .i64 0]) ?_ rfl ⟨_,P9,d3,rfl,M4.out _ HP.out,fun x hx=>M4.out x hx,rfl,D2.out,Sep.drop (Sep.dH (Sep.drop (Sep.cO (Sep.drop (Sep.eh (Sep.drop (Sep.iI (Sep.drop (Sep.oM (Sep.drop (Sep.eL (SF.out))))))))))))⟩;rw[bL rfl];go_simp
      ·rw[hla]at a0;rw[hlb]at b0;clear hla hlb;obtain⟨_,⟨c0,c1,c2,c3⟩,g0,g1,g2,g3⟩:=Sep.c4 (Sep.dH (S7.out));obtain⟨_,⟨i0,i1,i2,i3⟩,j0,j1,j2,j3⟩:=Sep.c4 (Sep.cO (S7.out));have vD:q0≠q1:=Sep.ne (Sep.cO (Sep.cO (S7.out)));have n10:=vD.symm;have SF:Hid (Sep B w0 ((((v7.setCell ⟨q1,0,none⟩ (.bool n.leaf)).setCell ⟨q1,1,none⟩ (.slice ae n.es.length ce)).setCell ⟨q1,2,none⟩ (.slice (some ⟨r,ro,none⟩) n.ks.length ck)).setCell ⟨q1,3,none⟩ (.slice (some ⟨zr,zo,none⟩) n.ss.length cz)) _):=Sep.nI (Sep.s4 (Sep.cO (S7.out)) _ _ _ _);clear S7;go_wp2
       (try simp only[Exit.inBlock,Exit.then])
       generalize World.setCell _ _ _=vf at*;clear c0 c1 c2 c3 g0 g1 g2 g3 i0 i1 i2 i3 j0 j1 j2 j3;obtain⟨_,⟨c0,c1,c2,c3⟩,g0,g1,g2,g3⟩:=Sep.c4 (Sep.cO (SF.out));refine bodyPost_ret (v:=.tuple #[.agg #[.bool n.leaf,.slice ae n.es.length ce,.slice (some ⟨r,ro,none⟩) n.ks.length ck,.slice (some ⟨zr,zo,none⟩) n.ss.length cz],.bool false,.int .i64 0]) ?_ rfl ⟨_,P9,d3,rfl,M4.out _ HP.out,fun x hx=>M4.out x hx,rfl,D2.out,Sep.drop (Sep.dH (Sep.drop (Sep.cO (Sep.drop (Sep.eh (Sep.drop (Sep.iI (Sep.drop (Sep.oM (Sep.drop (Sep.eL (SF.out))))))))))))⟩;rw[bL rfl];go_simp
     ·have hlx:(pa.n.leaf != pb.n.leaf)=false:=by simpa using hlf
      have SMJ:Hid (Sm pj.n):=by
       show Sm _;rw[NJ.out];exact Qk FA.out FB.out HKS.out
      go_wp2_with fail
      clear c0 c1 c2 c3 i0 i1 i2 i3 j0 j1 j2 j3;refine Calls.mono (rH S7.out MJ.out SMJ.out) ?_;rintro e v8 ⟨rfl,s8⟩;have S8:Hid (Sep B w0 v8 (DL C S d3 P9 (aF q0 (.cells #[.bool n.leaf,.slice ae n.es.length ce,.slice (some ⟨r,ro,none⟩) n.ks.length ck,.slice (some ⟨zr,zo,none⟩) n.ss.length cz] 74)::aF q1 (.cells cZ 74)::aF q2 (.cells (cN pk) 74)::aF q3 (.cells (cN pa) 74)::aF q4 (.cells (cN pb) 74)::aF qq (.cells (cN pj) 74)::l))):=s8;clear s8 S7;by_cases hfj:cA pj.n=false
      ·rw[if_pos (.inr hfj)]at HE;obtain⟨hm,hj,hr',hS⟩:n=m∧false=j∧0=er∧S=S':=by
        have:=Option.some.inj HE.out;cases this;exact⟨rfl,rfl,rfl,rfl⟩
       subst hm hj hr' hS;rw[hfj];clear HE hfj hlf;obtain⟨_,⟨c0,c1,c2,c3⟩,g0,g1,g2,g3⟩:=Sep.c4 (Sep.dH (S8.out));obtain⟨_,⟨i0,i1,i2,i3⟩,j0,j1,j2,j3⟩:=Sep.c4 (Sep.cO (S8.out));have vD:q0≠q1:=Sep.ne (Sep.cO (Sep.cO (S8.out)));have n10:=vD.symm;have SF:Hid (Sep B w0 ((((v8.setCell ⟨q1,0,none⟩ (.bool n.leaf)).setCell ⟨q1,1,none⟩ (.slice ae n.es.length ce)).setCell ⟨q1,2,none⟩ (.slice (some ⟨r,ro,none⟩) n.ks.length ck)).setCell ⟨q1,3,none⟩ (.slice (some ⟨zr,zo,none⟩) n.ss.length cz)) _):=Sep.nI (Sep.s4 (Sep.cO (S8.out)) _ _ _ _);clear S8;go_wp2
       (try simp only[Exit.inBlock,Exit.then])
       generalize World.setCell _ _ _=vf at*;clear c0 c1 c2 c3 g0 g1 g2 g3 i0 i1 i2 i3 j0 j1 j2 j3;obtain⟨_,⟨c0,c1,c2,c3⟩,g0,g1,g2,g3⟩:=Sep.c4 (Sep.cO (SF.out));refine bodyPost_ret (v:=.tuple #[.agg #[.bool n.leaf,.slice ae n.es.length ce,.slice (some ⟨r,ro,none⟩) n.ks.length ck,.slice (some ⟨zr,zo,none⟩) n.ss.length cz],.bool false,.int .i64 0]) ?_ rfl ⟨_,P9,d3,rfl,M4.out _ HP.out,fun x hx=>M4.out x hx,rfl,D2.out,Sep.drop (Sep.dH (Sep.drop (Sep.cO (Sep.drop (Sep.eh (Sep.drop (Sep.iI (Sep.drop (Sep.oM (Sep.drop (Sep.eL (SF.out))))))))))))⟩;rw[bL rfl];go_simp
      ·have hft:cA pj.n=true:=by simpa using hfj
       rw[if_neg (by rintro(h|h);exact hlf h;exact hfj h)]at HE;rw[hft];have FJ:Hid (cA pj.n=true):=hft;cases hrc:rec S pj.n (depth+1) ((pa.n.ks.length:Int)-1) ((pa.n.ks.length:Int)+1)with
       |none=>
        rw[hrc]at HE;have:=HE.out;cases this
       |some rr=>
       obtain⟨⟨m1,e1⟩,S1⟩:=rr;rw[hrc]at HE;simp only at HE;have IS1:Hid (DI S1 d.room):=HRI.out _ _ _ _ _ _ _ HI.out hrc;have KS:Hid (Calls Tryz.prog 157 #[ptr C.q,.agg (cN pj),.int .i64 (depth+1),.int .i64 ((pa.n.ks.length:Int)-1),.int .i64 ((pa.n.ks.length:Int)+1)] v8 fun e w'=>∃pm P4 d4,pm.n=m1∧pm∈P4∧(∀x∈P9,x∈P4)∧e=.returned (.tuple #[.agg (cN pm),.int .i64 e1])∧bf d d4∧Sep B w0 w' (DL C S1 d4 P4 (aF q0 (.cells #[.bool n.leaf,.slice ae n.es.length ce,.slice (some ⟨r,ro,none⟩) n.ks.length ck,.slice (some ⟨zr,zo,none⟩) n.ss.length cz] 74)::aF q1 (.cells cZ 74)::aF q2 (.cells (cN pk) 74)::aF q3 (.cells (cN pa) 74)::aF q4 (.cells (cN pb) 74)::aF qq (.cells (cN pj) 74)::l))):=HR.out S8.out D2.out MJ.out (fR FJ.out).2.1 HI.out (by have:=HX.out;omega) HN.out (by omega) (by have:=Od.out;omega) (by omega) (by have:=Od.out;omega) hrc;have Vn:IntKind.i64.wrap ((pa.n.ks.length:Int)-1)=(pa.n.ks.length:Int)-1:=bE (by omega) (by have:=Od.out;omega);have W6:IntKind.i64.wrap ((pa.n.ks.length:Int)+1)=(pa.n.ks.length:Int)+1:=bE (by omega) (by have:=Od.out;omega);obtain⟨_,⟨c0,c1,c2,c3⟩,_⟩:=Sep.c4 (Sep.iI (S8.out));obtain⟨_,⟨i0,i1,i2,i3⟩,_⟩:=Sep.c4 (Sep.eL (S8.out));clear hrc hlf hfj hft
       go_wp2_with fail
       clear c0 c1 c2 c3 i0 i1 i2 i3 Vn W6;refine Calls.mono KS.out ?_;rintro e v9 ⟨pm,P4,d4,hnm,hmm,hs4,rfl,hd4,s9⟩;subst hnm;have D4:Hid (bf d d4):=hd4;have M5:Hid (∀x∈P9,x∈P4):=hs4;have MM:Hid (pm∈P4):=hmm;have S9:Hid (Sep B w0 v9 (DL C S1 d4 P4 (aF q0 (.cells #[.bool n.leaf,.slice ae n.es.length ce,.slice (some ⟨r,ro,none⟩) n.ks.length ck,.slice (some ⟨zr,zo,none⟩) n.ss.length cz] 74)::aF q1 (.cells cZ 74)::aF q2 (.cells (cN pk) 74)::aF q3 (.cells (cN pa) 74)::aF q4 (.cells (cN pb) 74)::aF qq (.cells (cN pj) 74)::l))):=s9;have Vo:Hid _:=hs4 _ (M4.out _ HP.out);clear s9 hd4 hs4 hmm KS S8 D2;have D2:Hid (bf d d4):=D4.out;clear D4;obtain⟨_,⟨i0,i1,i2,i3⟩,j0,j1,j2,j3⟩:=Sep.c4 (Sep.eL (S9.out));by_cases he1:e1≠0
       ·rw[if_pos he1]at HE;obtain⟨hm,hj,hr',hS⟩:n=m∧false=j∧e1=er∧S1=S':=by
         have:=Option.some.inj HE.out;cases this;exact⟨rfl,rfl,rfl,rfl⟩
        subst hm hj hr' hS;have hne:(e1 != 0)=true:=bne_iff_ne.2 he1;clear HE he1;obtain⟨_,⟨c0,c1,c2,c3⟩,_⟩:=Sep.c4 (Sep.dH (S9.out));obtain⟨_,⟨b0,b1,b2,b3⟩,g0,g1,g2,g3⟩:=Sep.c4 (Sep.cO (S9.out));have vD:q0≠q1:=Sep.ne (Sep.cO (Sep.cO (S9.out)));have n10:=vD.symm;have n05:q0≠qq:=Sep.ne (Sep.cO (Sep.eL (S9.out)));have n50:=n05.symm;have n15:q1≠qq:=Sep.ne (Sep.eh (Sep.eL (S9.out)));have n51:=n15.symm;have SF:Hid (Sep B w0 ((((((((v9.setCell ⟨qq,0,none⟩ (.bool pm.n.leaf)).setCell ⟨qq,1,none⟩ (.slice pm.ae pm.n.es.length pm.ce)).setCell ⟨qq,2,none⟩ (.slice pm.ak pm.n.ks.length pm.ck)).setCell ⟨qq,3,none⟩ (.slice pm.az pm.n.ss.length pm.cz)).setCell ⟨q1,0,none⟩ (.bool n.leaf)).setCell ⟨q1,1,none⟩ (.slice ae n.es.length ce)).setCell ⟨q1,2,none⟩ (.slice (some ⟨r,ro,none⟩) n.ks.length ck)).setCell ⟨q1,3,none⟩ (.slice (some ⟨zr,zo,none⟩) n.ss.length cz)) _):=Sep.nI (Sep.s4 (Sep.cO (Sep.Ag (Sep.s4 (Sep.eL (S9.out)) _ _ _ _))) _ _ _ _);clear S9;go_wp2
        (try simp only[Exit.inBlock,Exit.then])
        generalize World.setCell _ _ _=vf at*;clear c0 c1 c2 c3 g0 g1 g2 g3 i0 i1 i2 i3 j0 j1 j2 j3 b0 b1 b2 b3;obtain⟨_,⟨c0,c1,c2,c3⟩,g0,g1,g2,g3⟩:=Sep.c4 (Sep.cO (SF.out));refine bodyPost_ret (v:=.tuple #[.agg #[.bool n.leaf,.slice ae n.es.length ce,.slice (some ⟨r,ro,none⟩) n.ks.length ck,.slice (some ⟨zr,zo,none⟩) n.ss.length cz],.bool false,.int .i64 e1]) ?_ rfl ⟨_,P4,d4,rfl,Vo.out,fun x hx=>M5.out x (M4.out x hx),rfl,D2.out,Sep.drop (Sep.dH (Sep.drop (Sep.cO (Sep.drop (Sep.eh (Sep.drop (Sep.iI (Sep.drop (Sep.oM (Sep.drop (Sep.eL (SF.out))))))))))))⟩;rw[bL rfl];go_simp
       ·have e10:e1=0:=by simpa using he1
        subst e10;rw[if_neg he1]at HE;clear he1;generalize hka:n.ks.getD k 0=ka at*;generalize hkb:n.ks.getD (k+1) 0=kb at*;have HKA:Hid (n.ks.getD k 0=ka):=hka;have HKB:Hid (n.ks.getD (k+1) 0=kb):=hkb;have WA:Hid (Wf ka∧Wf kb):=by
         obtain⟨_,_,_,x4,x5,_,_⟩:=HX.out;rw[<-hka,<-hkb];exact⟨x5 _ (dK (by omega)),x5 _ (dK x4)⟩
        cases hput:S1.fE d.room ka kb pm.n with
        |none=>
         rw[hput]at HE;have:=HE.out;cases this
        |some rr=>
        obtain⟨⟨pg,e2⟩,S2⟩:=rr;rw[hput]at HE;simp only at HE;obtain⟨hm,hj,hr',hS⟩:(fQ n k ((k:Int)+2) [pg] [])=m∧true=j∧e2=er∧S2=S':=by
         have:=Option.some.inj HE.out;cases this;exact⟨rfl,rfl,rfl,rfl⟩
        subst hm hj hr' hS;have YO:Hid (∀u L,Sep B w0 u (DL C S1 d4 P4 L)->Calls Tryz.prog 230 #[ptr C.q,.int .i64 ka,.int .i64 kb,.agg (cN pm)] u fun e w'=>e=.returned (.tuple #[.int .i64 pg,.int .i64 e2])∧Sep B w0 w' (DL C S2 d4 P4 L)):=fun u L hu=>Ed D2.out hu WA.out.1 WA.out.2 IS1.out HX.out.1 MM.out hput;have hk1:k+1<n.ks.length:=HX.out.2.2.2.1;have hkI:(k:Int)< (n.ks.length:Int):=by omega
        have aah:((k+1:Nat):Int)< (n.ks.length:Int):=by omega
        have wk1:IntKind.i64.wrap ((k:Int)+1)=((k+1:Nat):Int):=by rw[bE (by omega) (by omega)];rfl
        have aai:(k:Int)+1< (n.ks.length:Int):=by omega
        have aaj:0<=(k:Int)+1:=by omega
        have tnk:((k:Int)+1).toNat=k+1:=by omega
        have ED:Hid (Sep B w0 ((((v9.setCell ⟨qq,0,none⟩ (.bool pm.n.leaf)).setCell ⟨qq,1,none⟩ (.slice pm.ae pm.n.es.length pm.ce)).setCell ⟨qq,2,none⟩ (.slice pm.ak pm.n.ks.length pm.ck)).setCell ⟨qq,3,none⟩ (.slice pm.az pm.n.ss.length pm.cz)) _):=Sep.Ag (Sep.s4 (Sep.eL (S9.out)) _ _ _ _);clear HE hput hka hkb S9
        go_wp2_with fail
        clear i0 i1 i2 i3 j0 j1 j2 j3;generalize World.setCell _ _ _=v10 at*;refine bc 18 (J15 B w0 C S1 S2 d4 P4 (aF q0 (.cells #[.bool n.leaf,.slice ae n.es.length ce,.slice (some ⟨r,ro,none⟩) n.ks.length ck,.slice (some ⟨zr,zo,none⟩) n.ss.length cz] 74)::aF q1 (.cells cZ 74)::aF q2 (.cells (cN pk) 74)::aF q3 (.cells (cN pa) 74)::aF q4 (.cells (cN pb) 74)::aF qq (.cells (cN pm) 74)::l) q0 qq k r ro n.ks.length ck ka kb pg e2 (.agg (cN pm)) (.tuple #[.int .i64 pg,.int .i64 e2])) (by kernel_rfl) (by kernel_rfl) (by kernel_rfl) (fun _ k=>k rfl ⟨fun _=>ED.out.drew,(fun h=>by cases h)⟩ aq aq aq aq aq aq aq aq aq aq aq aq aq aq aq aq aq aq) ?_ ?_ ?_
        ·intro i w' hne f0 f1 f2 f3 f4 f5 f6 f7 f8 f9 f10 f11 f12 f13 f14 f15 f16 f17 f18 sP xF x95 x96 Vk x98 x99 x100 x101 x102 x103 x104 x105 Mm x107 Mo Mp Mq Mr e18 hB h0 h1 h2 h3 h4 h5 h6 h7 h8 h9 h10 h11 h12 dF fu pA h16 zP hi;obtain⟨hlt,hun,_⟩:=aQ hi;have hlt':i<19:=hlt;clear hlt;rcases(by omega:i=0∨i=1∨i=2∨i=3∨i=4∨i=5∨i=6∨i=7∨i=8∨i=9∨i=10∨i=11∨i=12∨i=13∨i=14∨i=15∨i=16∨i=17)with rfl|rfl|rfl|rfl|rfl|rfl|rfl|rfl|rfl|rfl|rfl|rfl|rfl|rfl|rfl|rfl|rfl|rfl
         ·refine aj rfl fun K HK=>?_;go_simp;exact HK.out _ _ fun _ k=>by apply k<;>first|assumption|exact hidR|(repeat' first|apply Exists.intro|assumption|rfl|apply And.intro|exact fun _=>rfl)
         ·refine aj rfl fun K HK=>?_;go_simp;exact HK.out _ _ fun _ k=>by apply k<;>first|assumption|exact hidR|(repeat' first|apply Exists.intro|assumption|rfl|apply And.intro|exact fun _=>rfl)
         ·cases h1 (ah 1 hi (by kernel_rfl));obtain⟨S9,s9⟩:=JC.sep hB;obtain⟨_,⟨c0,c1,c2,c3⟩,_⟩:=Sep.c4 (Sep.dH (s9));clear s9;refine aj rfl fun K HK=>?_;go_simp;exact HK.out _ _ fun _ k=>by apply k<;>first|assumption|exact hidR|(repeat' first|apply Exists.intro|assumption|rfl|apply And.intro|exact fun _=>rfl)
         ·refine aj rfl fun K HK=>?_;go_simp;exact HK.out _ _ fun _ k=>by apply k<;>first|assumption|exact hidR|(repeat' first|apply Exists.intro|assumption|rfl|apply And.intro|exact fun _=>rfl)
         ·cases h2 (ah 2 hi (by kernel_rfl));cases h3 (ah 3 hi (by kernel_rfl));refine aj rfl fun K HK=>?_;go_simp;exact HK.out _ _ fun _ k=>by apply k<;>first|assumption|exact hidR|(repeat' first|apply Exists.intro|assumption|rfl|apply And.intro|exact fun _=>rfl)
         ·cases h4 (ah 4 hi (by kernel_rfl));obtain⟨S9,s9⟩:=JC.sep hB;obtain⟨z1,z2,hz3,hzs,hzc⟩:=NV.kid (p:=(⟨ae,ce,some ⟨r,ro,none⟩,ck,some ⟨zr,zo,none⟩,cz,n⟩:NV)) (DL.nd s9 Vo.out) (i:=k) (by simp only;omega);cases hz3;simp only at hzc;rw[HKA.out]at hzc;clear s9;refine aj rfl fun K HK=>?_;go_simp;exact HK.out _ _ fun _ k=>by apply k<;>first|assumption|exact hidR|(repeat' first|apply Exists.intro|assumption|rfl|apply And.intro|exact fun _=>rfl)
         ·refine aj rfl fun K HK=>?_;go_simp;exact HK.out _ _ fun _ k=>by apply k<;>first|assumption|exact hidR|(repeat' first|apply Exists.intro|assumption|rfl|apply And.intro|exact fun _=>rfl)
         ·cases h6 (ah 6 hi (by kernel_rfl));obtain⟨S9,s9⟩:=JC.sep hB;obtain⟨_,⟨c0,c1,c2,c3⟩,_⟩:=Sep.c4 (Sep.dH (s9));clear s9;refine aj rfl fun K HK=>?_;go_simp;exact HK.out _ _ fun _ k=>by apply k<;>first|assumption|exact hidR|(repeat' first|apply Exists.intro|assumption|rfl|apply And.intro|exact fun _=>rfl)
         ·refine aj rfl fun K HK=>?_;go_simp;exact HK.out _ _ fun _ k=>by apply k<;>first|assumption|exact hidR|(repeat' first|apply Exists.intro|assumption|rfl|apply And.intro|exact fun _=>rfl)
         ·cases h8 (ah 8 hi (by kernel_rfl));refine aj rfl fun K HK=>?_;go_simp;exact HK.out _ _ fun _ k=>by apply k<;>first|assumption|exact hidR|(repeat' first|apply Exists.intro|assumption|rfl|apply And.intro|exact fun _=>rfl)
         ·cases h7 (ah 7 hi (by kernel_rfl));cases h9 (ah 9 hi (by kernel_rfl));refine aj rfl fun K HK=>?_;go_simp;exact HK.out _ _ fun _ k=>by apply k<;>first|assumption|exact hidR|(repeat' first|apply Exists.intro|assumption|rfl|apply And.intro|exact fun _=>rfl)
         ·cases h10 (ah 10 hi (by kernel_rfl));obtain⟨S9,s9⟩:=JC.sep hB;obtain⟨z1,z2,hz3,hzs,hzc⟩:=NV.kid (p:=(⟨ae,ce,some ⟨r,ro,none⟩,ck,some ⟨zr,zo,none⟩,cz,n⟩:NV)) (DL.nd s9 Vo.out) (i:=k+1) (by simp only;omega);cases hz3;simp only at hzc;rw[HKB.out]at hzc;clear s9;refine aj rfl fun K HK=>?_;go_simp;exact HK.out _ _ fun _ k=>by apply k<;>first|assumption|exact hidR|(repeat' first|apply Exists.intro|assumption|rfl|apply And.intro|exact fun _=>rfl)
         ·obtain⟨S9,s9⟩:=JC.sep hB;obtain⟨_,⟨c0,c1,c2,c3⟩,_⟩:=Sep.c4 (Sep.eL (s9));clear s9;refine aj rfl fun K HK=>?_;go_simp;exact HK.out _ _ fun _ k=>by apply k<;>first|assumption|exact hidR|(repeat' first|apply Exists.intro|assumption|rfl|apply And.intro|exact fun _=>rfl)
         ·have un:f13=false:=hun;cases h0 (ah 0 hi (by kernel_rfl));cases h5 (ah 5 hi (by kernel_rfl));cases h11 (ah 11 hi (by kernel_rfl));cases h12 (ah 12 hi (by kernel_rfl));refine aj rfl fun K HK=>?_;go_simp;have s9:=hB.1 un;refine Calls.mono (YO.out _ _ s9) ?_;rintro e w1 ⟨rfl,s1⟩;exact HK.out _ _ fun _ k=>k e18 ⟨(fun h=>by cases h),fun _=>s1⟩ h0 h1 h2 h3 h4 h5 h6 h7 h8 h9 h10 h11 h12 hidR fu pA h16 zP
         ·cases dF (ah 13 hi (by kernel_rfl));refine aj rfl fun K HK=>?_;go_simp;exact HK.out _ _ fun _ k=>by apply k<;>first|assumption|exact hidR|(repeat' first|apply Exists.intro|assumption|rfl|apply And.intro|exact fun _=>rfl)
         ·cases fu (ah 14 hi (by kernel_rfl));refine aj rfl fun K HK=>?_;go_simp;exact HK.out _ _ fun _ k=>by apply k<;>first|assumption|exact hidR|(repeat' first|apply Exists.intro|assumption|rfl|apply And.intro|exact fun _=>rfl)
         ·cases fu (ah 14 hi (by kernel_rfl));refine aj rfl fun K HK=>?_;go_simp;exact HK.out _ _ fun _ k=>by apply k<;>first|assumption|exact hidR|(repeat' first|apply Exists.intro|assumption|rfl|apply And.intro|exact fun _=>rfl)
         ·cases pA (ah 15 hi (by kernel_rfl));refine aj rfl fun K HK=>?_;go_simp;exact HK.out _ _ fun _ k=>by apply k<;>first|assumption|exact hidR|(repeat' first|apply Exists.intro|assumption|rfl|apply And.intro|exact fun _=>rfl)
        ·intro w' f0 f1 f2 f3 f4 f5 f6 f7 f8 f9 f10 f11 f12 f13 f14 f15 f16 f17 f18 sP xF x95 x96 Vk x98 x99 x100 x101 x102 x103 x104 x105 Mm x107 Mo Mp Mq Mr e18 hB h0 h1 h2 h3 h4 h5 h6 h7 h8 h9 h10 h11 h12 dF fu pA h16 zP hi;have d16:f16=true:=ah 16 hi (by kernel_rfl);cases h16 d16;have d17:f17=true:=ah 17 hi (by kernel_rfl);cases zP d17;have d13:f13=true:=ah 13 hi (by kernel_rfl);cases dF d13;clear hi;refine aj rfl fun K HK=>?_;go_simp;refine HK.out _ _ ?_;have Qu:Hid _:=hB.2 d13;clear hB h0 h1 h2 h3 h4 h5 h6 h7 h8 h9 h10 h11 h12 dF fu pA h16 zP ED YO d13 d16 d17;obtain⟨_,⟨c0,c1,c2,c3⟩,_⟩:=Sep.c4 (Sep.dH (Qu.out));have Vp:Hid (Sep B w0 (w'.alloc (.cells #[.int .i64 pg] 3)) _):=Sep.alloc Qu.out _;have SW:Hid (Calls Tryz.prog 156 #[.agg #[.bool n.leaf,.slice ae n.es.length ce,.slice (some ⟨r,ro,none⟩) n.ks.length ck,.slice (some ⟨zr,zo,none⟩) n.ss.length cz],.int .i64 (k:Int),.int .i64 ((k:Int)+2),.slice (some ⟨w'.heap.size,0,none⟩) 1 1,.slice none 0 0] (w'.alloc (.cells #[.int .i64 pg] 3)) (GM B w0 C S2 d4 P4 (aF q0 (.cells #[.bool n.leaf,.slice ae n.es.length ce,.slice (some ⟨r,ro,none⟩) n.ks.length ck,.slice (some ⟨zr,zo,none⟩) n.ss.length cz] 74)::aF q1 (.cells cZ 74)::aF q2 (.cells (cN pk) 74)::aF q3 (.cells (cN pa) 74)::aF q4 (.cells (cN pb) 74)::aF qq (.cells (cN pm) 74)::l) (fQ n k ((k:Int)+2) [pg] []))):=pG (p:=(⟨ae,ce,some ⟨r,ro,none⟩,ck,some ⟨zr,zo,none⟩,cz,n⟩:NV)) Vp.out Vo.out HX.out.2.2.2.2.2.1 _ _ [pg] [] _ _ (N.Cl.Lg (N.Cl.new _ _ _)) N.nw (by simp) (by simp);have wk2:IntKind.i64.wrap ((k:Int)+2)=(k:Int)+2:=bE (by omega) (by omega);clear Qu
         go_wp2_with fail
         clear c0 c1 c2 c3 wk2 wk1;refine Calls.mono SW.out ?_;rintro e v12 ⟨ps,hns,rfl,s12⟩;have NS:Hid (ps.n=fQ n k ((k:Int)+2) [pg] []):=hns;obtain⟨_,⟨c0,c1,c2,c3⟩,g0,g1,g2,g3⟩:=Sep.c4 (Sep.cO (s12));have SF:Hid (Sep B w0 ((((v12.setCell ⟨q1,0,none⟩ (.bool ps.n.leaf)).setCell ⟨q1,1,none⟩ (.slice ps.ae ps.n.es.length ps.ce)).setCell ⟨q1,2,none⟩ (.slice ps.ak ps.n.ks.length ps.ck)).setCell ⟨q1,3,none⟩ (.slice ps.az ps.n.ss.length ps.cz)) _):=Sep.nI (Sep.s4 (Sep.cO (s12)) _ _ _ _);clear s12 hns SW Vp;go_wp2
         (try simp only[Exit.inBlock,Exit.then])
         generalize World.setCell _ _ _=vf at*;clear c0 c1 c2 c3 g0 g1 g2 g3;obtain⟨_,⟨c0,c1,c2,c3⟩,g0,g1,g2,g3⟩:=Sep.c4 (Sep.cO (SF.out));refine bodyPost_ret (v:=.tuple #[.agg (cN ps),.bool true,.int .i64 e2]) ?_ rfl ⟨ps,ps::P4,d4,NS.out,List.mem_cons_self,fun x hx=>List.mem_cons_of_mem _ (M5.out x (M4.out x hx)),rfl,D2.out,Sep.drop (Sep.dH (Sep.drop (Sep.cO (Sep.drop (Sep.eh (Sep.drop (Sep.iI (Sep.drop (Sep.oM (Sep.drop (Sep.eL (SF.out))))))))))))⟩;rw[bL rfl];go_simp
        ·intro _ _;intros;assumption
    ·intro _ _;intros;assumption
end
end
section
open N (Nd nd0 cA cQ dM iR fQ Sm aI)
section
variable {B:Nat}{w0 w w':World}{l:List aO}{P:List NV}{C:Cx}{S S':Dr}{d d1:Dk}{depth:Int}{p:NV}{m:Nd}{j:Bool}{er Nb:Int}{rec:pC}
theorem Qv {i:Int}(T:bW B w0)(hrec:aV B w0 C d Nb rec)(BU:∀ {S S':Dr} {n:Nd} {depth i tt:Int} {r:Nd×Int},DI S d.room->rec S n depth i tt=some (r,S')->DI S' d.room)(hd:bf d d1)(h:Sep B w0 w (DL C S d1 P l))(hp:p∈P)(hsm:bS p.n=true)(I:DI S d.room)(hr:d.room<=16384)(hd0:-1<=depth)(hd1:depth<=100000)(hN:depth+1<=Nb)(hi0:0<=i)(hi:i< (p.n.ks.length:Int))(he:fI rec d.room d S p.n depth i (min i ((p.n.ks.length:Int)-2))=some ((m,j,er),S')):
  Calls Tryz.prog 192 #[ptr C.q,.agg #[.bool p.n.leaf,.slice p.ae p.n.es.length p.ce,.slice p.ak p.n.ks.length p.ck,.slice p.az p.n.ss.length p.cz],.int .i64 depth,.int .i64 i,.int .i64 (min i ((p.n.ks.length:Int)-2))] w fun e w'=>∃pm P' d',pm.n=m∧pm∈P'∧(∀x∈P,x∈P')∧e=.returned (.tuple #[.agg #[.bool pm.n.leaf,.slice pm.ae pm.n.es.length pm.ce,.slice pm.ak pm.n.ks.length pm.ck,.slice pm.az pm.n.ss.length pm.cz],.bool j,.int .i64 er])∧bf d d'∧Sep B w0 w' (DL C S' d' P' l):=by
 obtain⟨ae,ce,ak,ck,az,cz,n⟩:=p;simp only at hsm hi he hp⊢;by_cases hf:min i ((n.ks.length:Int)-2)<0
 ·have he2:=he;unfold fI at he2;rw[if_pos hf]at he2;obtain⟨hm,hj,hr',hS⟩:n=m∧false=j∧(0:Int)=er∧S=S':=by
   cases he2;exact⟨rfl,rfl,rfl,rfl⟩
  subst hm hj hr' hS;exact Ib hd h hp hf
 ·obtain⟨t,rfl⟩:=Int.eq_ofNat_of_zero_le hi0;obtain⟨k,hk⟩:=Int.eq_ofNat_of_zero_le (by omega:0<=min (t:Int) ((n.ks.length:Int)-2));rw[hk]at he⊢;exact Ic T hrec BU hd h hp hsm I hr hd0 hd1 hN (by omega) (by omega) he
end
theorem gH {B:Nat}{w0:World}{C:Cx}{d:Dk}(T:bW B w0)(hr:d.room<=16384)(f:Nat)(ih:∀g,g<f->aV B w0 C d (100000-g) (bj d.room d g)):aV B w0 C d (100000-f) (bj d.room d f):=by
 intro w S S' d1 P l p depth i tt m er h hd hp hsm I hd0 hd1 hi0 hi1 ht0 ht1 he;have S1:Hid (Sep B w0 ((w.alloc (.cells #[.bool p.n.leaf,.slice p.ae p.n.es.length p.ce,.slice p.ak p.n.ks.length p.ck,.slice p.az p.n.ss.length p.cz] 74)).alloc (.cells #[.bool false,.slice none 0 0,.slice none 0 0,.slice none 0 0] 74)) (DL C S d1 P (aF w.heap.size (.cells #[.bool p.n.leaf,.slice p.ae p.n.es.length p.ce,.slice p.ak p.n.ks.length p.ck,.slice p.az p.n.ss.length p.cz] 74)::aF (w.heap.size+1) (.cells #[.bool false,.slice none 0 0,.slice none 0 0,.slice none 0 0] 74)::l))):=Sep.nI (Sep.aR (Sep.rF (h.aP _)) _ _ (by simp));have HP:Hid (p∈P):=hp;have HD:Hid (bf d d1):=hd;have HI:Hid (DI S d.room):=I;have HE:Hid (aY d.room d f S p.n depth (max i 0) tt=some ((m,er),S')):=he;have HX:Hid (-1<=depth∧depth<=100000-f∧-2<=tt∧tt<=1000):=⟨hd0,hd1,ht0,ht1⟩;have HM:Hid (0<=max i 0∧max i 0<=1000):=⟨by omega,by omega⟩;have HR:Hid (d.room<=16384):=hr;have IH:Hid (∀g,g<f->aV B w0 C d (100000-g) (bj d.room d g)):=ih;clear h hd hp hsm I he hd0 hd1 ht0 ht1 hi0 hi1 hr ih;go_enter Tryz.func157,Tryz.ntmps157;go_wp2;generalize World.alloc _ _=v1 at*;generalize w.heap.size+1=q1 at*;generalize w.heap.size=q0 at*
 go_loopg [12] f (fun kx s12 wr=>∃(g:Nat) (Sc:Dr) (pc:NV) (Pc:List NV) (dc:Dk) (ic:Int),s12=.int .i64 ic∧g<=kx∧Hid (g<=f)∧Hid (0<=ic∧ic<=1000)∧Hid (aY d.room d g Sc pc.n depth ic tt=some ((m,er),S'))∧Hid (DI Sc d.room)∧Hid (pc∈Pc∧∀x∈P,x∈Pc)∧Hid (bf d dc)∧Hid (Sep B w0 wr (DL C Sc dc Pc (aF q0 (.cells #[.bool pc.n.leaf,.slice pc.ae pc.n.es.length pc.ce,.slice pc.ak pc.n.ks.length pc.ck,.slice pc.az pc.n.ss.length pc.cz] 74)::aF q1 (.cells #[.bool false,.slice none 0 0,.slice none 0 0,.slice none 0 0] 74)::l))))
 case atStart=>exact⟨f,S,p,P,d1,_,rfl,Nat.le_refl _,Nat.le_refl _,HM.out,HE.out,HI.out,⟨HP.out,fun _ h=>h⟩,HD.out,S1.out⟩
 case round=>
  clear S1 HP HD HI HE HM;obtain⟨g,Sc,pc,Pc,dc,ic,rfl,T7,HG,HM,HE,HI,ot,HD,HS⟩:=hrel;cases g with
  |zero=>
   have:=HE.out;cases this
  |succ g=>
   have hE:=HE.out;unfold aY at hE;by_cases hc:bS pc.n=false∨ic<0
   ·rw[if_pos hc]at hE;cases hE
   rw[if_neg hc]at hE;have hsm:bS pc.n=true:=by
    cases hx:bS pc.n
    ·exact absurd (.inl hx) hc
    ·rfl
   obtain⟨jt,hkl,_⟩:=eH hsm;have hic:0<=ic:=by omega
   obtain⟨_,⟨c0,c1,c2,c3⟩,g0,g1,g2,g3⟩:=Sep.c4 (Sep.dH (HS.out));clear hc HE;by_cases hlt:ic<min tt (pc.n.ks.length:Int)
   ·rw[if_pos hlt]at hE;cases hj:fI (fun S n depth i tt=>aY d.room d g S n depth (max i 0) tt) d.room d Sc pc.n depth ic (min ic ((pc.n.ks.length:Int)-2))with
    |none=>
     rw[hj]at hE;cases hE
    |some rr=>
    obtain⟨⟨mj,jj,ej⟩,Sj⟩:=rr;rw[hj]at hE;simp only at hE;have KJ:Hid _:=Qv (i:=ic) (depth:=depth) T (IH.out g (by have:=HG.out;omega)) (fun h he=>DI.settle g h he) HD.out HS.out ot.out.1 hsm HI.out HR.out HX.out.1 (by have:=HX.out;omega) (by have:=HX.out;have:=HG.out;omega) hic (by omega) hj;have YP:Hid (DI Sj d.room):=DI.join HI.out (fun h he=>DI.settle g h he) hj;have hE':Hid ((if ej≠0 then some ((nd0,ej),Sj)else if jj=true then aY d.room d g Sj mj depth (min ic ((pc.n.ks.length:Int)-2)) tt else aY d.room d g Sj pc.n depth (ic+1) tt)=some ((m,er),S')):=hE;have W6:IntKind.i64.wrap ((pc.n.ks.length:Int)-2)=(pc.n.ks.length:Int)-2:=bE (by omega) (by omega);have Vn:IntKind.i64.wrap (ic+1)=ic+1:=bE (by omega) (by have:=HM.out;omega);have HB:Hid (0<=ic∧ic< (pc.n.ks.length:Int)∧pc.n.ks.length<=500):=⟨hic,by omega,hkl⟩;have HC:Hid (pc∈Pc∧∀x∈P,x∈Pc):=ot.out;clear hE hj hsm jt HI ot
    go_wp2_with fail
    clear c0 c1 c2 c3 g0 g1 g2 g3 W6;generalize hmn:min ic ((pc.n.ks.length:Int)-2)=fi at*;refine Calls.mono KJ.out ?_;rintro e v2 ⟨pm,P2,d2,hnm,hmm,hs2,rfl,hd2,s2⟩;subst hnm;have D2:Hid (bf d d2):=hd2;have M2:Hid (∀x∈P,x∈P2):=fun x hx=>hs2 x (HC.out.2 x hx);have MC:Hid (pc∈P2):=hs2 _ HC.out.1;have MM:Hid (pm∈P2):=hmm;have S2:Hid (Sep B w0 v2 (DL C Sj d2 P2 (aF q0 (.cells #[.bool pc.n.leaf,.slice pc.ae pc.n.es.length pc.ce,.slice pc.ak pc.n.ks.length pc.ck,.slice pc.az pc.n.ss.length pc.cz] 74)::aF q1 (.cells #[.bool false,.slice none 0 0,.slice none 0 0,.slice none 0 0] 74)::l))):=s2;have HF:Hid (fi<=1000):=by have:=HB.out;show _<=_;omega
    clear s2 hd2 hs2 hmm KJ HS HD HC hmn;obtain⟨_,⟨c0,c1,c2,c3⟩,g0,g1,g2,g3⟩:=Sep.c4 (Sep.dH (S2.out));obtain⟨_,⟨i0,i1,i2,i3⟩,j0,j1,j2,j3⟩:=Sep.c4 (Sep.cO (S2.out));by_cases he:ej≠0
    ·have hE2:=hE'.out;rw[if_pos he]at hE2;obtain⟨hm,hr',hS⟩:nd0=m∧ej=er∧Sj=S':=by
      cases hE2;exact⟨rfl,rfl,rfl⟩
     subst hm hr' hS;have hne:(ej != 0)=true:=bne_iff_ne.2 he;have SF:Hid (Sep B w0 (((((v2.setCell ⟨q1,0,none⟩ (.bool false)).setCell ⟨q1,1,none⟩ (.slice none 0 0)).setCell ⟨q1,2,none⟩ (.slice none 0 0)).setCell ⟨q1,3,none⟩ (.slice none 0 0)).alloc (.cells #[.bool pm.n.leaf,.slice pm.ae pm.n.es.length pm.ce,.slice pm.ak pm.n.ks.length pm.ck,.slice pm.az pm.n.ss.length pm.cz] 74)) _):=Sep.alloc (Sep.nI (Sep.s4 (Sep.cO (S2.out)) _ _ _ _)) _;clear hE2 hE' he S2;go_wp2
     (try simp only[Exit.inBlock,Exit.then])
     generalize World.setCell _ _ _=vf at*;clear c0 c1 c2 c3 g0 g1 g2 g3 i0 i1 i2 i3 j0 j1 j2 j3;obtain⟨_,⟨c0,c1,c2,c3⟩,g0,g1,g2,g3⟩:=Sep.c4 (Sep.cO (SF.out));refine bodyPost_ret (v:=.tuple #[.agg #[.bool false,.slice none 0 0,.slice none 0 0,.slice none 0 0],.int .i64 ej]) ?_ rfl ⟨pZ,pZ::P2,d2,rfl,List.mem_cons_self,fun x hx=>List.mem_cons_of_mem _ (M2.out x hx),rfl,D2.out,DL.zero (Sep.drop (Sep.dH (Sep.drop (Sep.cO (SF.out)))))⟩;rw[aI rfl];go_simp
    ·have hE2:=hE'.out;rw[if_neg he]at hE2;have e0:ej=0:=by simpa using he
     subst e0;clear hE' he;cases jj with
     |true=>
      rw[if_pos rfl]at hE2;have T8:Hid (aY d.room d g Sj pm.n depth fi tt=some ((m,er),S')):=hE2;have HFI:Hid (0<=fi):=by
       cases g with
       |zero=>cases hE2
       |succ g=>
        unfold aY at hE2;by_cases hc:bS pm.n=false∨fi<0
        ·rw[if_pos hc]at hE2;cases hE2
        ·show 0<=fi;omega
      have SF:Hid (Sep B w0 (((((v2.setCell ⟨q0,0,none⟩ (.bool pm.n.leaf)).setCell ⟨q0,1,none⟩ (.slice pm.ae pm.n.es.length pm.ce)).setCell ⟨q0,2,none⟩ (.slice pm.ak pm.n.ks.length pm.ck)).setCell ⟨q0,3,none⟩ (.slice pm.az pm.n.ss.length pm.cz)).alloc (.cells #[.bool pm.n.leaf,.slice pm.ae pm.n.es.length pm.ce,.slice pm.ak pm.n.ks.length pm.ck,.slice pm.az pm.n.ss.length pm.cz] 74)) _):=Sep.alloc (Sep.rF (Sep.s4 (Sep.dH (S2.out)) _ _ _ _)) _;clear hE2 S2;go_wp2
      all_goals go_roundg g
      case measure=>omega
      case rel=>exact⟨g,Sj,pm,P2,d2,fi,rfl,Nat.le_refl _,by have:=HG.out;show _<=_;omega,⟨HFI.out,HF.out⟩,T8.out,YP.out,⟨MM.out,M2.out⟩,D2.out,SF.out⟩
     |false=>
      rw[if_neg (by simp)]at hE2;have T8:Hid (aY d.room d g Sj pc.n depth (ic+1) tt=some ((m,er),S')):=hE2;have SF:Hid (Sep B w0 (v2.alloc (.cells #[.bool pm.n.leaf,.slice pm.ae pm.n.es.length pm.ce,.slice pm.ak pm.n.ks.length pm.ck,.slice pm.az pm.n.ss.length pm.cz] 74)) _):=Sep.alloc S2.out _;clear hE2 S2;go_wp2
      all_goals go_roundg g
      case measure=>omega
      case rel=>exact⟨g,Sj,pc,P2,d2,ic+1,rfl,Nat.le_refl _,by have:=HG.out;show _<=_;omega,by have:=HB.out;show _∧_;omega,T8.out,YP.out,⟨MC.out,M2.out⟩,D2.out,SF.out⟩
   ·rw[if_neg hlt]at hE;obtain⟨hm,hr',hS⟩:pc.n=m∧0=er∧Sc=S':=by
     cases hE;exact⟨rfl,rfl,rfl⟩
    subst hm hr' hS;obtain⟨_,⟨i0,i1,i2,i3⟩,j0,j1,j2,j3⟩:=Sep.c4 (Sep.cO (HS.out));have vD:q0≠q1:=Sep.ne (Sep.cO (Sep.cO (HS.out)));have n10:=vD.symm;have SF:Hid (Sep B w0 ((((wr.setCell ⟨q1,0,none⟩ (.bool pc.n.leaf)).setCell ⟨q1,1,none⟩ (.slice pc.ae pc.n.es.length pc.ce)).setCell ⟨q1,2,none⟩ (.slice pc.ak pc.n.ks.length pc.ck)).setCell ⟨q1,3,none⟩ (.slice pc.az pc.n.ss.length pc.cz)) _):=Sep.nI (Sep.s4 (Sep.cO (HS.out)) _ _ _ _);clear hE HS hsm jt;go_wp2
    (try simp only[Exit.inBlock,Exit.then])
    generalize World.setCell _ _ _=vf at*;clear c0 c1 c2 c3 g0 g1 g2 g3 i0 i1 i2 i3 j0 j1 j2 j3;obtain⟨_,⟨c0,c1,c2,c3⟩,g0,g1,g2,g3⟩:=Sep.c4 (Sep.cO (SF.out));refine bodyPost_ret (v:=.tuple #[.agg #[.bool pc.n.leaf,.slice pc.ae pc.n.es.length pc.ce,.slice pc.ak pc.n.ks.length pc.ck,.slice pc.az pc.n.ss.length pc.cz],.int .i64 0]) ?_ rfl ⟨pc,Pc,dc,rfl,ot.out.1,ot.out.2,rfl,HD.out,Sep.drop (Sep.dH (Sep.drop (Sep.cO (SF.out))))⟩;rw[aI rfl];go_simp
theorem rI {B:Nat}{w0:World}{C:Cx}{d:Dk}(T:bW B w0)(hr:d.room<=16384)(f:Nat):aV B w0 C d (100000-f) (bj d.room d f):=by
 induction f using Nat.strongRecOn with
 |ind f ih=>exact gH T hr f ih
end
section
open N (Nd nd0 cA cQ dM iR fQ Sm)
def RowK (e:TypeId)(k:Nat)(v:Value)(n:Nat)(cs:List Value):aO:=fun w X=>w.ownsRow 0 e k v n cs∧∀q,X q↔v.ownBlock=some q
theorem fM (e:TypeId)(k:Nat)(v:Value)(n:Nat)(cs:List Value):Good (RowK e k v n cs):=
 ⟨fun w w' X h hk _=>⟨dW h.1 (fun q hq=>hk q ((h.2 q).2 hq)),h.2⟩,fun w X h q hq=>(h.1.lt q ((h.2 q).1 hq)).2⟩
section
variable {B:Nat}{w0 w w':World}{l:List aO}{e:TypeId}{k n:Nat}{v v':Value}{cs:List Value}
theorem Sep.Ie (h:Sep B w0 w (RowK e k v n cs::l)):w.ownsRow 0 e k v n cs:=by
 obtain⟨_,_,Y,⟨_,X,_,ha,_⟩,_⟩:=h;exact ha.1
theorem Sep.Qw (h:Sep B w0 w l):Sep B w0 w (RowK e k (.slice none 0 0) 0 []::l):=
 h.add (Below.refl _ _) (fM _ _ _ _ _) (X:=fun _=>False) ⟨World.ownsRow_nil w 0 e k,fun q=>by simp[Value.ownBlock]⟩ (fun _ h=>h.elim)
theorem Sep.iJ (h:Sep B w0 w (RowK e k v n cs::l))(hn:0<cs.length):∃r c,v=.slice (some ⟨r,0,none⟩) n c∧n<=c∧r<w.heap.size∧∀j,j<cs.length->w.cell? ⟨r,j,none⟩=cs[j]? :=by
 have o:=h.Ie;have hlen:cs.length=n*k:=o.1;rcases o.2 with⟨h1,h2⟩| ⟨g,cap,cur,h1,h2,h3,h4,h5,h6,h7⟩
 ·rw[h2]at hlen;simp at hlen;rw[hlen]at hn;simp at hn
 ·refine⟨g,cap,h1,h4,(Array.getElem?_eq_some_iff.1 h3).1,fun j hj=>?_⟩;simp only[World.cell?,h3];rw[<-h7,List.getElem?_take_of_lt (by omega)];simp
theorem Sep.uf (h:Sep B w0 w (RowK e k v n cs::l)):∃ao c,v=.slice ao n c:=by
 rcases h.Ie.2 with⟨h1,h2⟩| ⟨g,cap,cur,h1,_⟩
 ·exact⟨none,0,by rw[h1,h2]⟩
 ·exact⟨_,_,h1⟩
end
theorem Ig:(Tryz.prog.info? 74).map (fun i=>(i.zero,i.size,i.bytes))=some (some (.agg #[.bool false,.slice none 0 0,.slice none 0 0,.slice none 0 0]),4,80):=by kernel_rfl
def eY (p:NV):List Value:=[.bool p.n.leaf,.slice p.ae p.n.es.length p.ce,.slice p.ak p.n.ks.length p.ck,.slice p.az p.n.ss.length p.cz]
theorem W7 (q:Nat)(u:World):(Instr.slice 72 (.slice (some ⟨q,0,none⟩) 1 1) (some (.int .i64 0)) (some (.int .i64 1)) none).run Tryz.prog u=.ok (.slice (some ⟨q,0,none⟩) 1 1) u:=by kernel_rfl
theorem W8 (q:Nat)(u:World):(Instr.slice 72 (.slice (some ⟨q,0,none⟩) 1 1) none (some (.int .i64 0)) none).run Tryz.prog u=.ok (.slice (some ⟨q,0,none⟩) 0 1) u:=by kernel_rfl
theorem W9 (q:Nat)(u:World):(Instr.slice 66 (.slice (some ⟨q,0,none⟩) 0 0) (some (.int .i64 0)) none none).run Tryz.prog u=.ok (.slice (some ⟨q,0,none⟩) 0 0) u:=by kernel_rfl
section
variable {B:Nat}{w0 w:World}{l:List aO}{q r:Nat}{p pa pb:NV}
theorem yg (h:Sep B w0 w (aF q (.cells #[.bool p.n.leaf,.slice p.ae p.n.es.length p.ce,.slice p.ak p.n.ks.length p.ck,.slice p.az p.n.ss.length p.cz] 74)::aF r (.cells #[.bool pa.n.leaf,.slice pa.ae pa.n.es.length pa.ce,.slice pa.ak pa.n.ks.length pa.ck,.slice pa.az pa.n.ss.length pa.cz,.bool pb.n.leaf,.slice pb.ae pb.n.es.length pb.ce,.slice pb.ak pb.n.ks.length pb.ck,.slice pb.az pb.n.ss.length pb.cz] 74)::l)):
  Calls Tryz.prog 184 #[.slice (some ⟨q,0,none⟩) 1 1,.int .i64 0,.int .i64 1,.slice (some ⟨r,0,none⟩) 2 2] w fun e w'=>∃g c,e=.returned (.slice (some ⟨g,0,none⟩) 2 c)∧Sep B w0 w' (RowK 74 4 (.slice (some ⟨g,0,none⟩) 2 c) 2 (eY pa++eY pb)::l):=by
 obtain⟨i0,hi,hz0,hz1,hz2⟩:=info_parts Ig;have hq:=h.blk;have hr:=(Sep.pk [_] h).blk;have own:w.ownsRow 0 74 4 (.slice (some ⟨q,0,none⟩) 0 1) 0 []:=⟨rfl,.inr ⟨q,1,_,rfl,Nat.zero_le _,hq,by omega,by unfold maxLen;omega,by simp,by simp⟩⟩;have hn:∀j u,(eY pa++eY pb)[j]? =some u->w.cell? ((⟨r,0,none⟩:Addr).add j)=some u:=fun j u hj=>by
  rw[Go.WideShapes.add_plain,Nat.zero_add];simp only[World.cell?,hr];rw[<-hj];simp[eY]
 have HS:Hid (Sep B w0 w (RowK 74 4 (.slice (some ⟨q,0,none⟩) 0 1) 0 []::l)):=by
  have h1:=Sep.drop (Sep.pk [_] h);exact h1.step (fM _ _ _ _ _) fun X hX=>⟨X,⟨own,fun k=>by rw[hX.2 k];simp[Value.ownBlock,eq_comm]⟩,cB.refl _ _,fun k hk=>.inl hk⟩
 have HN:Hid (∀j u,(eY pa++eY pb)[j]? =some u->w.cell? ((⟨r,0,none⟩:Addr).add j)=some u):=hn;have HI:Hid (Tryz.prog.info? 74=some i0∧i0.zero=some (.agg #[.bool false,.slice none 0 0,.slice none 0 0,.slice none 0 0])∧i0.size=4∧i0.bytes=80):=⟨hi,hz0,hz1,hz2⟩;have r1:=W7 q;have r2:=W8 q;have HO:Hid _:=own;clear h hq hr own hn hi hz0 hz1 hz2;go_enter Tryz.func184,Tryz.ntmps184
 go_wp2_with (at_builtin;refine wpList_append_own_at w rfl _ _ 72 rfl 0 74 i0 _ 4 80 Tryz.underlying72 HI.out.1 HI.out.2.1 HI.out.2.2.1 HI.out.2.2.2 rfl (by decide) _ _ _ rfl HO.out ⟨r,0,none⟩ 2 2 (eY pa++eY pb) rfl rfl HN.out (fun u hu=>by simp[eY]at hu;rcases hu with h|h|h|h|h|h|h|h<;>subst h<;>rfl) (by unfold maxLen;omega) (by omega) (Nat.zero_le _) ?_)
 intro v' w' h2 h3 h4 h5;have SF:Hid (Sep B w0 w' (RowK 74 4 v' 2 (eY pa++eY pb)::l)):=by
  refine HS.out.step (fM _ _ _ _ _) fun X hX=>⟨fun k=>v'.ownBlock=some k,⟨h2,fun k=>Iff.rfl⟩,cB.grown h3 (fun k hk=>(hX.2 k).2 hk),fun k hk=>?_⟩;rcases h5 with e1|e1
  ·exact .inl ((hX.2 k).2 (e1▸hk))
  ·rw[e1]at hk;exact .inr (Nat.le_of_eq (Option.some.inj hk))
 obtain⟨g,c,rfl,_⟩:=Sep.iJ SF.out (by simp[eY]);clear h2 h3 h4 h5 HS HN HI HO r1 r2;go_wp2;go_ret;exact⟨g,c,rfl,SF.out⟩
theorem Aj {key:ByteArray}(h:Sep B w0 w (aM 9 (.slice (some ⟨q,0,none⟩) 0 0) []::l))(hc:w.cell? ⟨r,0,none⟩=some (.string key)):
  Calls Tryz.prog 185 #[.slice (some ⟨q,0,none⟩) 0 0,.int .i64 0,.slice (some ⟨r,0,none⟩) 1 1] w fun e w'=>∃ao n c,e=.returned (.slice ao n c)∧Sep B w0 w' (aM 9 (.slice ao n c) [.string key]::l):=by
 have HS:Hid (Sep B w0 w (aM 9 (.slice (some ⟨q,0,none⟩) 0 0) []::l)):=h;have r1:=W9 q;clear h;go_enter Tryz.func185,Tryz.ntmps185
 go_wp2_with (at_builtin;refine Ke rfl _ _ rfl _ _ rfl HS.out r 1 key rfl hc (by simp) ?_)
 intro ao n' c' w3 s3;have SF:Hid (Sep B w0 w3 (aM 9 (.slice ao n' c') [.string key]::l)):=s3;clear s3 HS r1 hc;go_wp2;go_ret;exact⟨ao,n',c',rfl,SF.out⟩
end
end
section
open N (Nd nd0 cA cQ dM iR fQ Sm sA sB sM aI)
def GF (B:Nat)(w0:World)(C:Cx)(S':Dr)(d:Dk)(P:List NV)(l:List aO)(parts:List Nd)(keys:List ByteArray)(er:Int)(e:Ending)(w':World):Prop:=
 ∃(ao ay:Option Addr) (cp ny cy:Nat) (ps:List NV) (P':List NV) (d':Dk),ps.map NV.n=parts∧(∀x∈ps,x∈P')∧(∀x∈P,x∈P')∧e=.returned (.tuple #[.slice ao ps.length cp,.slice ay ny cy,.int .i64 er])∧bf d d'∧Sep B w0 w' (DL C S' d' P' (RowK 74 4 (.slice ao ps.length cp) ps.length (ps.flatMap eY)::aM 9 (.slice ay ny cy) (keys.map Value.string)::l))
theorem Ms {l m:List N.En}(h:l.Sublist m):N.cx l<=N.cx m:=by
 induction h with
 |slnil=>exact Nat.le_refl _
 |cons a _ ih=>
  rename_i l m _
  have:N.cx (a::m)=N.kA a+N.cx m:=rfl;omega
 |cons_cons a _ ih=>
  rename_i l m _
  have:N.cx (a::m)=N.kA a+N.cx m:=rfl;have:N.cx (a::l)=N.kA a+N.cx l:=rfl;omega
theorem Mt {l m:List ByteArray}(h:l.Sublist m):N.bN l<=N.bN m:=by
 induction h with
 |slnil=>exact Nat.le_refl _
 |cons a _ ih=>
  rename_i l m _
  have:N.bN (a::m)=5+a.size+N.bN m:=rfl;omega
 |cons_cons a _ ih=>
  rename_i l m _
  have:N.bN (a::m)=5+a.size+N.bN m:=rfl;have:N.bN (a::l)=5+a.size+N.bN l:=rfl;omega
theorem BV {n m:Nd}(h:bS n=true)(h1:m.es.Sublist n.es)(h2:m.ks.Sublist n.ks)(h3:m.ss.Sublist n.ss):bS m=true:=by
 unfold bS at h⊢;simp only[Bool.and_eq_true,decide_eq_true_eq,List.all_eq_true]at h⊢;obtain⟨⟨⟨⟨⟨a1,a2⟩,a3⟩,a4⟩,a5⟩,a6⟩:=h;have b1:=h1.length_le;have b2:=h2.length_le;have b3:=h3.length_le;have b4:=Ms h1;have b5:=Mt h3;exact⟨⟨⟨⟨⟨by omega,by omega⟩,by omega⟩,by omega⟩,by omega⟩,fun k hk=>a6 k (h2.subset hk)⟩
theorem Qx {n:Nd}(h:bS n=true):bS (sA n)=true:=by
 unfold sA;split
 ·unfold N.U0;split
  ·exact BV h (List.take_sublist _ _) (List.nil_sublist _) (List.nil_sublist _)
  ·exact BV h (List.nil_sublist _) (List.take_sublist _ _) (List.take_sublist _ _)
 ·exact h
theorem Sep.BZ {B:Nat}{w0 w:World}{l:List aO}{e:TypeId}(h:Sep B w0 w l)(q:Nat)(hq:q=w.heap.size):Sep B w0 (w.alloc (.cells #[] e)) (aM e (.slice (some ⟨q,0,none⟩) 0 0) []::l):=by
 subst hq;exact h.Pb e [] 0 rfl (by omega)
section
variable {B:Nat}{w0 w w':World}{l:List aO}{P:List NV}{C:Cx}{S S':Dr}{d d1:Dk}{depth:Int}{p:NV}{er Nb:Int}{bZ:pC}{parts:List Nd}{keys:List ByteArray}
theorem Sep.Qy {q:Nat}(h:Sep B w0 w (aF q (.cells (cN p) 74)::l)):Sep B w0 w (RowK 74 4 (.slice (some ⟨q,0,none⟩) 1 1) 1 (eY p)::l):=by
 have hb:=h.blk;exact h.step (fM _ _ _ _ _) fun X hX=>⟨X,⟨⟨rfl,.inr ⟨q,1,_,rfl,Nat.zero_le _,hb,by omega,by unfold maxLen;omega,by simp,by simp[eY]⟩⟩,fun k=>by rw[hX.2 k];simp[Value.ownBlock,eq_comm]⟩,cB.refl _ _,fun k hk=>.inl hk⟩
theorem pH {e:Ending}(h:Sep B w0 w (DL C S d1 P l))(hd:bf d d1)(he:e=.returned (.tuple #[.slice none 0 0,.slice none 0 0,.int .i64 er])):GF B w0 C S d P l [] [] er e w:=by
 refine⟨none,none,0,0,0,[],P,d1,rfl,(fun x hx=>absurd hx List.not_mem_nil),fun _ h=>h,he,hd,?_⟩;exact Sep.rF (Sep.nI (Sep.qo (Sep.Qw h) 9))
theorem Ee (hd:bf d d1)(h:Sep B w0 w (DL C S d1 P l))(h0:p.n.es=[])(h1:p.n.ks=[]):Calls Tryz.prog 153 #[ptr C.q,.agg (cN p),.int .i64 depth] w (GF B w0 C S d P l [] [] 0):=by
 have SF:Hid (Sep B w0 (w.alloc (.cells (cN p) 74)) _):=h.alloc _;have e1:((p.n.es.length:Int)==0)=true:=by rw[h0];rfl
 have e2:((p.n.ks.length:Int)==0)=true:=by rw[h1];rfl
 have HD:Hid (bf d d1):=hd;clear h h0 h1 hd;go_enter Tryz.func153,Tryz.ntmps153;go_wp2
 go_ret3
 exact pH SF.out HD.out rfl
theorem Ak (T:bW B w0)(hst:aV B w0 C d Nb bZ)(hd:bf d d1)(h:Sep B w0 w (DL C S d1 P l))(hp:p∈P)(hsm:bS p.n=true)(I:DI S d.room)(hr:d.room<=16384)(hd0:-1<=depth)(hd1:depth<=Nb)(h0:p.n.es≠[])(h2:cQ p.n=false):Calls Tryz.prog 153 #[ptr C.q,.agg (cN p),.int .i64 depth] w (GF B w0 C S d P l [] [] 3):=by
 have S1:Hid (Sep B w0 (w.alloc (.cells (cN p) 74)) _):=Sep.rF (h.aP _);have e1:((p.n.es.length:Int)==0)=false:=by
  have:=List.length_pos_iff.2 h0;simp;omega
 have HP:Hid (p∈P):=hp;have HD:Hid (bf d d1):=hd;have yP:Hid (Sm p.n):=(eH hsm).1;have HI:Hid (DI S d.room):=I;have HX:Hid (-1<=depth∧depth<=Nb∧d.room<=16384):=⟨hd0,hd1,hr⟩;have HT:Hid (aV B w0 C d Nb bZ):=hst;clear h hd hp hsm I h0 hd0 hd1 hr hst;go_enter Tryz.func153,Tryz.ntmps153
 go_wp2_with fail
 clear e1;generalize World.alloc _ _=v1 at*;generalize w.heap.size=q0 at*;refine Calls.mono (pF S1.out HP.out yP.out) ?_;rintro e v2 ⟨rfl,s2⟩;have S2:Hid (Sep B w0 v2 (DL C S d1 P (aF q0 (.cells (cN p) 74)::l))):=s2;clear s2 S1;rw[h2];go_wp2
 go_ret3
 exact pH (Sep.drop (Sep.dH (S2.out))) HD.out rfl
theorem Al (T:bW B w0)(hst:aV B w0 C d Nb bZ)(hd:bf d d1)(h:Sep B w0 w (DL C S d1 P l))(hp:p∈P)(hsm:bS p.n=true)(I:DI S d.room)(hr:d.room<=16384)(hd0:-1<=depth)(hd1:depth<=Nb)(h0:p.n.es=[])(h1:p.n.ks≠[])(h2:cQ p.n=false):Calls Tryz.prog 153 #[ptr C.q,.agg (cN p),.int .i64 depth] w (GF B w0 C S d P l [] [] 3):=by
 have S1:Hid (Sep B w0 (w.alloc (.cells (cN p) 74)) _):=Sep.rF (h.aP _);have e1:((p.n.es.length:Int)==0)=true:=by rw[h0];rfl
 have e2:((p.n.ks.length:Int)==0)=false:=by
  have:=List.length_pos_iff.2 h1;simp;omega
 have HP:Hid (p∈P):=hp;have HD:Hid (bf d d1):=hd;have yP:Hid (Sm p.n):=(eH hsm).1;have HI:Hid (DI S d.room):=I;have HX:Hid (-1<=depth∧depth<=Nb∧d.room<=16384):=⟨hd0,hd1,hr⟩;have HT:Hid (aV B w0 C d Nb bZ):=hst;clear h hd hp hsm I h0 h1 hd0 hd1 hr hst;go_enter Tryz.func153,Tryz.ntmps153
 go_wp2_with fail
 clear e1 e2;generalize World.alloc _ _=v1 at*;generalize w.heap.size=q0 at*;refine Calls.mono (pF S1.out HP.out yP.out) ?_;rintro e v2 ⟨rfl,s2⟩;have S2:Hid (Sep B w0 v2 (DL C S d1 P (aF q0 (.cells (cN p) 74)::l))):=s2;clear s2 S1;rw[h2];go_wp2
 go_ret3
 exact pH (Sep.drop (Sep.dH (S2.out))) HD.out rfl
theorem Ca:(∀(T:bW B w0) (hst:aV B w0 C d Nb bZ) (hd:bf d d1) (h:Sep B w0 w (DL C S d1 P l)) (hp:p∈P) (hsm:bS p.n=true) (I:DI S d.room) (hr:d.room<=16384) (hd0:-1<=depth) (hd1:depth<=Nb) (h0:p.n.es≠[]) (h2:cQ p.n=true) (h3:cA p.n=true),Calls Tryz.prog 153 #[ptr C.q,.agg (cN p),.int .i64 depth] w (GF B w0 C S d P l [p.n] [] 0))∧
  (∀(T:bW B w0) (hst:aV B w0 C d Nb bZ) (hd:bf d d1) (h:Sep B w0 w (DL C S d1 P l)) (hp:p∈P) (hsm:bS p.n=true) (I:DI S d.room) (hr:d.room<=16384) (hd0:-1<=depth) (hd1:depth<=Nb) (h0:p.n.es=[]) (h1:p.n.ks≠[]) (h2:cQ p.n=true) (h3:cA p.n=true),Calls Tryz.prog 153 #[ptr C.q,.agg (cN p),.int .i64 depth] w (GF B w0 C S d P l [p.n] [] 0)):=by
 and_intros
 have iT:=trivial
 rotate_left
 have fc:=trivial
 rotate_left
 all_goals
  first
   |have zz:=fc
    intro T hst hd h hp hsm I hr hd0 hd1 h0 h1 h2 h3
   |intro T hst hd h hp hsm I hr hd0 hd1 h0 h2 h3
  have S1:Hid (Sep B w0 (w.alloc (.cells (cN p) 74)) _):=Sep.rF (h.aP _)
  first
   |have zz:=fc
    have e1:((p.n.es.length:Int)==0)=true:=by rw[h0];rfl
    have e2:((p.n.ks.length:Int)==0)=false:=by
     have:=List.length_pos_iff.2 h1;simp;omega
   |have e1:((p.n.es.length:Int)==0)=false:=by
     have:=List.length_pos_iff.2 h0;simp;omega
  have HP:Hid (p∈P):=hp;have HD:Hid (bf d d1):=hd;have yP:Hid (Sm p.n):=(eH hsm).1;have HI:Hid (DI S d.room):=I;have HX:Hid (-1<=depth∧depth<=Nb∧d.room<=16384):=⟨hd0,hd1,hr⟩;have HT:Hid (aV B w0 C d Nb bZ):=hst
  first
   |have zz:=fc
    clear h hd hp hsm I h0 h1 hd0 hd1 hr hst
   |clear h hd hp hsm I h0 hd0 hd1 hr hst
  go_enter Tryz.func153,Tryz.ntmps153
  go_wp2_with fail
  first
   |have zz:=fc
    clear e1 e2
   |clear e1
  generalize World.alloc _ _=v1 at*;generalize w.heap.size=q0 at*;refine Calls.mono (pF S1.out HP.out yP.out) ?_;rintro e v2 ⟨rfl,s2⟩;have S2:Hid (Sep B w0 v2 (DL C S d1 P (aF q0 (.cells (cN p) 74)::l))):=s2;clear s2 S1;rw[h2];have S3:Hid (Sep B w0 ((v2.alloc (.cells (cN p) 74)).alloc (.cells #[] 9)) (DL C S d1 P (aF q0 (.cells (cN p) 74)::aF v2.heap.size (.cells (cN p) 74)::aM 9 (.slice (some ⟨(v2.heap.size+1),0,none⟩) 0 0) []::l))):=Sep.wz (Sep.BZ (Sep.nI (Sep.aP S2.out _)) _ (by simp));obtain⟨_,⟨c0,c1,c2,c3⟩,_⟩:=Sep.c4 (Sep.dH (S2.out));clear S2;go_wp2;clear c0 c1 c2 c3;generalize World.alloc _ _=v3 at*;generalize v2.heap.size+1=qk at*;generalize v2.heap.size=qp at*;refine wp_loop_rounds 3 ?_;rw[rounds_succ];obtain⟨_,⟨c0,c1,c2,c3⟩,_⟩:=Sep.c4 (Sep.cO (S3.out))
  go_wp2_with fail
  clear c0 c1 c2 c3;refine Calls.mono (rH S3.out HP.out yP.out) ?_;rintro e v4 ⟨rfl,s4⟩;have S4:Hid (Sep B w0 v4 (DL C S d1 P (aF q0 (.cells (cN p) 74)::aF qp (.cells (cN p) 74)::aM 9 (.slice (some ⟨qk,0,none⟩) 0 0) []::l))):=s4;clear s4 S3;rw[h3];go_wp2;rw[rounds_succ];go_wp2
  go_ret3
  refine⟨some ⟨qp,0,none⟩,some ⟨qk,0,none⟩,1,0,0,[p],P,d1,rfl,(fun x hx=>by rw[List.mem_singleton.1 hx];exact HP.out),fun _ h=>h,rfl,HD.out,?_⟩;exact Sep.rF (Sep.Qy (Sep.dH (Sep.drop (Sep.dH (S4.out)))))
theorem Cb:(∀(T:bW B w0) (hst:aV B w0 C d Nb bZ) (hd:bf d d1) (h:Sep B w0 w (DL C S d1 P l)) (hp:p∈P) (hsm:bS p.n=true) (I:DI S d.room) (hr:d.room<=16384) (hd0:-1<=depth) (hd1:depth<=Nb) (h0:p.n.es≠[]) (hsb:bS p.n=true) (h2:cQ p.n=true) (h3:cA p.n=false) (he:(match bZ S (sA p.n) depth (((sA p.n).ks.length:Int)-1) ((sA p.n).ks.length:Int)with|none=>none|some ((a,e),S1)=>if e≠0 then some (([],[],e),S1)else if(cA a&&cA (sB p.n))=true then some (([a,sB p.n],[sM p.n],0),S1)else none)=some ((parts,keys,er),S')),Calls Tryz.prog 153 #[ptr C.q,.agg (cN p),.int .i64 depth] w (GF B w0 C S' d P l parts keys er))∧
  (∀(T:bW B w0) (hst:aV B w0 C d Nb bZ) (hd:bf d d1) (h:Sep B w0 w (DL C S d1 P l)) (hp:p∈P) (hsm:bS p.n=true) (I:DI S d.room) (hr:d.room<=16384) (hd0:-1<=depth) (hd1:depth<=Nb) (h0:p.n.es=[]) (h1:p.n.ks≠[]) (hsb:bS p.n=true) (h2:cQ p.n=true) (h3:cA p.n=false) (he:(match bZ S (sA p.n) depth (((sA p.n).ks.length:Int)-1) ((sA p.n).ks.length:Int)with|none=>none|some ((a,e),S1)=>if e≠0 then some (([],[],e),S1)else if(cA a&&cA (sB p.n))=true then some (([a,sB p.n],[sM p.n],0),S1)else none)=some ((parts,keys,er),S')),Calls Tryz.prog 153 #[ptr C.q,.agg (cN p),.int .i64 depth] w (GF B w0 C S' d P l parts keys er)):=by
 and_intros
 have iT:=trivial
 rotate_left
 have fc:=trivial
 rotate_left
 all_goals
  first
   |have zz:=fc
    intro T hst hd h hp hsm I hr hd0 hd1 h0 h1 hsb h2 h3 he
   |intro T hst hd h hp hsm I hr hd0 hd1 h0 hsb h2 h3 he
  have S1:Hid (Sep B w0 (w.alloc (.cells (cN p) 74)) _):=Sep.rF (h.aP _)
  first
   |have zz:=fc
    have e1:((p.n.es.length:Int)==0)=true:=by rw[h0];rfl
    have e2:((p.n.ks.length:Int)==0)=false:=by
     have:=List.length_pos_iff.2 h1;simp;omega
   |have e1:((p.n.es.length:Int)==0)=false:=by
     have:=List.length_pos_iff.2 h0;simp;omega
  have HP:Hid (p∈P):=hp;have HD:Hid (bf d d1):=hd;have yP:Hid (Sm p.n):=(eH hsm).1;have HI:Hid (DI S d.room):=I;have HX:Hid (-1<=depth∧depth<=Nb∧d.room<=16384):=⟨hd0,hd1,hr⟩;have HT:Hid (aV B w0 C d Nb bZ):=hst;have WZ:Hid (bS p.n=true):=hsb;have HE:Hid ((match bZ S (sA p.n) depth (((sA p.n).ks.length:Int)-1) ((sA p.n).ks.length:Int)with|none=>none|some ((a,e),S1)=>if e≠0 then some (([],[],e),S1)else if(cA a&&cA (sB p.n))=true then some (([a,sB p.n],[sM p.n],0),S1)else none)=some ((parts,keys,er),S')):=he
  first
   |have zz:=fc
    clear h hd hp hsm I h0 h1 hd0 hd1 hr hst he hsb
   |clear h hd hp hsm I h0 hd0 hd1 hr hst he hsb
  go_enter Tryz.func153,Tryz.ntmps153
  go_wp2_with fail
  first
   |have zz:=fc
    clear e1 e2
   |clear e1
  generalize World.alloc _ _=v1 at*;generalize w.heap.size=q0 at*;refine Calls.mono (pF S1.out HP.out yP.out) ?_;rintro e v2 ⟨rfl,s2⟩;have S2:Hid (Sep B w0 v2 (DL C S d1 P (aF q0 (.cells (cN p) 74)::l))):=s2;clear s2 S1;rw[h2];have S3:Hid (Sep B w0 ((v2.alloc (.cells (cN p) 74)).alloc (.cells #[] 9)) (DL C S d1 P (aF q0 (.cells (cN p) 74)::aF v2.heap.size (.cells (cN p) 74)::aM 9 (.slice (some ⟨(v2.heap.size+1),0,none⟩) 0 0) []::l))):=Sep.wz (Sep.BZ (Sep.nI (Sep.aP S2.out _)) _ (by simp));obtain⟨_,⟨c0,c1,c2,c3⟩,_⟩:=Sep.c4 (Sep.dH (S2.out));clear S2;go_wp2;clear c0 c1 c2 c3;generalize World.alloc _ _=v3 at*;generalize v2.heap.size+1=qk at*;generalize v2.heap.size=qp at*;refine wp_loop_rounds 5 ?_;rw[rounds_succ];obtain⟨_,⟨c0,c1,c2,c3⟩,_⟩:=Sep.c4 (Sep.cO (S3.out))
  go_wp2_with fail
  clear c0 c1 c2 c3;refine Calls.mono (rH S3.out HP.out yP.out) ?_;rintro e v4 ⟨rfl,s4⟩;have S4:Hid (Sep B w0 v4 (DL C S d1 P (aF q0 (.cells (cN p) 74)::aF qp (.cells (cN p) 74)::aM 9 (.slice (some ⟨qk,0,none⟩) 0 0) []::l))):=s4;clear s4 S3;rw[h3];obtain⟨_,⟨c0,c1,c2,c3⟩,_⟩:=Sep.c4 (Sep.cO (S4.out))
  go_wp2_with fail
  clear c0 c1 c2 c3;refine Calls.mono (H9 S4.out HP.out yP.out) ?_;rintro e v5 ⟨pa,pb,hna,hnb,rfl,s5⟩;have NA:Hid (pa.n=sA p.n):=hna;have NB:Hid (pb.n=sB p.n):=hnb;have S6:Hid (Sep B w0 ((v5.alloc (.cells (cN pa) 74)).alloc (.cells (cN pb) 74)) (DL C S d1 (pa::pb::P) (aF q0 (.cells (cN p) 74)::aF qp (.cells (cN p) 74)::aM 9 (.slice (some ⟨qk,0,none⟩) 0 0) []::aF v5.heap.size (.cells (cN pa) 74)::aF (v5.heap.size+1) (.cells (cN pb) 74)::l))):=Sep.Vi (Sep.aR (Sep.JI (Sep.aP s5 _)) _ _ (by simp));clear s5 hna hnb S4;have hE:=HE.out;rw[<-NA.out]at hE;have Vl:Hid (bS pa.n=true):=by
   show _=true;rw[NA.out];exact Qx WZ.out
  have Od:Hid (pa.n.ks.length<=500):=(eH Vl.out).2.1;cases hst:bZ S pa.n depth ((pa.n.ks.length:Int)-1) (pa.n.ks.length:Int)with
  |none=>
   rw[hst]at hE;cases hE
  |some rr=>
  obtain⟨⟨m1,e1⟩,S1⟩:=rr;rw[hst]at hE;simp only at hE;have KS:Hid (Calls Tryz.prog 157 #[ptr C.q,.agg (cN pa),.int .i64 depth,.int .i64 ((pa.n.ks.length:Int)-1),.int .i64 (pa.n.ks.length:Int)] ((v5.alloc (.cells (cN pa) 74)).alloc (.cells (cN pb) 74)) fun e w'=>∃pm P4 d4,pm.n=m1∧pm∈P4∧(∀x∈pa::pb::P,x∈P4)∧e=.returned (.tuple #[.agg (cN pm),.int .i64 e1])∧bf d d4∧Sep B w0 w' (DL C S1 d4 P4 (aF q0 (.cells (cN p) 74)::aF qp (.cells (cN p) 74)::aM 9 (.slice (some ⟨qk,0,none⟩) 0 0) []::aF v5.heap.size (.cells (cN pa) 74)::aF (v5.heap.size+1) (.cells (cN pb) 74)::l))):=HT.out S6.out HD.out List.mem_cons_self Vl.out HI.out HX.out.1 HX.out.2.1 (by omega) (by have:=Od.out;omega) (by omega) (by have:=Od.out;omega) hst;have Vn:IntKind.i64.wrap ((pa.n.ks.length:Int)-1)=(pa.n.ks.length:Int)-1:=bE (by omega) (by have:=Od.out;omega);have HE2:Hid ((if e1≠0 then some (([],[],e1),S1)else if(cA m1&&cA (sB p.n))=true then some (([m1,sB p.n],[sM p.n],0),S1)else none)=some ((parts,keys,er),S')):=hE;clear hE hst HE
  go_wp2_with fail
  clear Vn;generalize World.alloc _ _=v6 at*;generalize v5.heap.size+1=qb at*;generalize v5.heap.size=qa at*;refine Calls.mono KS.out ?_;rintro e v7 ⟨pm,P4,d4,hnm,hmm,hs4,rfl,hd4,s7⟩;subst hnm;have D4:Hid (bf d d4):=hd4;have M4:Hid (∀x∈P,x∈P4):=fun x hx=>hs4 x (List.mem_cons_of_mem _ (List.mem_cons_of_mem _ hx));have MM:Hid (pm∈P4):=hmm;have MB:Hid (pb∈P4):=hs4 _ (List.mem_cons_of_mem _ List.mem_cons_self);have S7:Hid (Sep B w0 v7 (DL C S1 d4 P4 (aF q0 (.cells (cN p) 74)::aF qp (.cells (cN p) 74)::aM 9 (.slice (some ⟨qk,0,none⟩) 0 0) []::aF qa (.cells (cN pa) 74)::aF qb (.cells (cN pb) 74)::l))):=s7;clear s7 hd4 hs4 hmm KS S6;obtain⟨_,⟨c0,c1,c2,c3⟩,g0,g1,g2,g3⟩:=Sep.c4 (Sep.iI (S7.out));by_cases he1:e1≠0
  ·have hE:=HE2.out;rw[if_pos he1]at hE;obtain⟨hm,hk,hr',hS⟩:[]=parts∧[]=keys∧e1=er∧S1=S':=by
    cases hE;exact⟨rfl,rfl,rfl,rfl⟩
   subst hm hk hr' hS;have hne:(e1 != 0)=true:=bne_iff_ne.2 he1;have SF:Hid (Sep B w0 ((((v7.setCell ⟨qa,0,none⟩ (.bool pm.n.leaf)).setCell ⟨qa,1,none⟩ (.slice pm.ae pm.n.es.length pm.ce)).setCell ⟨qa,2,none⟩ (.slice pm.ak pm.n.ks.length pm.ck)).setCell ⟨qa,3,none⟩ (.slice pm.az pm.n.ss.length pm.cz)) _):=Sep.JI (Sep.s4 (Sep.iI (S7.out)) _ _ _ _);clear S7 hE HE2 he1;go_wp2
   go_ret3
   obtain⟨ao,ay,cp,ny,cy,ps,P',d',t1,t2,t3,t4,t5,t6⟩:=pH (er:=e1) (e:=.returned (.tuple #[.slice none 0 0,.slice none 0 0,.int .i64 e1])) (Sep.drop (Sep.dH (Sep.drop (Sep.cO (Sep.drop (Sep.eh (Sep.drop (Sep.iI (Sep.drop (Sep.oM (SF.out))))))))))) D4.out rfl;exact⟨ao,ay,cp,ny,cy,ps,P',d',t1,t2,fun x hx=>t3 x (M4.out x hx),t4,t5,t6⟩
  ·have e0:e1=0:=by simpa using he1
   subst e0;have hE:=HE2.out;rw[if_neg he1]at hE;by_cases hfg:¬(cA pm.n&&cA (sB p.n))=true
   ·rw[if_neg hfg]at hE;cases hE
   have Vq:(cA pm.n&&cA (sB p.n))=true:=by simpa using hfg
   rw[if_pos Vq]at hE;obtain⟨hm,hk,hr',hS⟩:[pm.n,sB p.n]=parts∧[sM p.n]=keys∧(0:Int)=er∧S1=S':=by
    cases hE;exact⟨rfl,rfl,rfl,rfl⟩
   subst hm hk hr' hS;have FM:Hid (cA pm.n=true):=(Bool.and_eq_true_iff.1 Vq).1;have FB:Hid (cA pb.n=true):=by
    show _=true;rw[NB.out];exact(Bool.and_eq_true_iff.1 Vq).2
   generalize sM p.n=key at*;have n1:qa≠qb:=Sep.ne (Sep.oM (Sep.oM (S7.out)));have n2:=n1.symm;obtain⟨_,⟨i0,i1,i2,i3⟩,_⟩:=Sep.c4 (Sep.oM (S7.out));have S8:Hid (Sep B w0 (((((v7.setCell ⟨qa,0,none⟩ (.bool pm.n.leaf)).setCell ⟨qa,1,none⟩ (.slice pm.ae pm.n.es.length pm.ce)).setCell ⟨qa,2,none⟩ (.slice pm.ak pm.n.ks.length pm.ck)).setCell ⟨qa,3,none⟩ (.slice pm.az pm.n.ss.length pm.cz)).alloc (.cells #[.bool pm.n.leaf,.slice pm.ae pm.n.es.length pm.ce,.slice pm.ak pm.n.ks.length pm.ck,.slice pm.az pm.n.ss.length pm.cz,.bool pb.n.leaf,.slice pb.ae pb.n.es.length pb.ce,.slice pb.ak pb.n.ks.length pb.ck,.slice pb.az pb.n.ss.length pb.cz] 74)) (aF qp (.cells (cN p) 74)::aF v7.heap.size (.cells #[.bool pm.n.leaf,.slice pm.ae pm.n.es.length pm.ce,.slice pm.ak pm.n.ks.length pm.ck,.slice pm.az pm.n.ss.length pm.cz,.bool pb.n.leaf,.slice pb.ae pb.n.es.length pb.ce,.slice pb.ak pb.n.ks.length pb.ck,.slice pb.az pb.n.ss.length pb.cz] 74)::DL C S1 d4 P4 (aF q0 (.cells (cN p) 74)::aM 9 (.slice (some ⟨qk,0,none⟩) 0 0) []::aF qa (.cells (cN pm) 74)::aF qb (.cells (cN pb) 74)::l))):=Sep.eh (Sep.aR (Sep.JI (Sep.s4 (Sep.iI (S7.out)) _ _ _ _)) _ _ (by simp));clear hE HE2 he1 S7 hfg Vq
   go_wp2_with fail
   clear c0 c1 c2 c3 g0 g1 g2 g3 i0 i1 i2 i3;generalize World.setCell _ _ _=v8 at*;generalize v7.heap.size=qr at*;refine Calls.mono (yg S8.out) ?_;rintro e v9 ⟨g,c,rfl,s9⟩;have S9:Hid (Sep B w0 (v9.alloc (.cells #[.string key] 9)) _):=Sep.alloc (Sep.eh (s9)) _;clear s9 S8
   go_wp2_with fail
   refine Calls.mono (Aj (key:=key) S9.out (by simp)) ?_;rintro e v10 ⟨ay,ny,cy,rfl,s10⟩;have ED:Hid _:=Sep.rF (Sep.nI (s10));clear s10 S9;go_wp2;rw[rounds_succ];obtain⟨g',c',eg,_,gs,hc⟩:=Sep.iJ (Sep.dH (ED.out)) (by simp[eY]);cases eg;have c0:v10.cell? ⟨g,0,none⟩=some (.bool pm.n.leaf):=hc 0 (by simp[eY]);have c1:v10.cell? ⟨g,1,none⟩=some (.slice pm.ae pm.n.es.length pm.ce):=hc 1 (by simp[eY]);have c2:v10.cell? ⟨g,2,none⟩=some (.slice pm.ak pm.n.ks.length pm.ck):=hc 2 (by simp[eY]);have c3:v10.cell? ⟨g,3,none⟩=some (.slice pm.az pm.n.ss.length pm.cz):=hc 3 (by simp[eY]);clear hc
   go_wp2_with fail
   refine Calls.mono (rH ED.out MM.out (fR FM.out).1) ?_;rintro e v11 ⟨rfl,s11⟩;have Qu:Hid (Sep B w0 v11 (DL C S1 d4 P4 (RowK 74 4 (.slice (some ⟨g,0,none⟩) 2 c) 2 (eY pm++eY pb)::aM 9 (.slice ay ny cy) [.string key]::aF q0 (.cells (cN p) 74)::aF qa (.cells (cN pm) 74)::aF qb (.cells (cN pb) 74)::l))):=s11;clear s11 ED c0 c1 c2 c3;rw[FM.out];go_wp2;rw[rounds_succ];obtain⟨g',c',eg,_,gs',hc⟩:=Sep.iJ (Sep.dH (Qu.out)) (by simp[eY]);cases eg;have c4:v11.cell? ⟨g,4,none⟩=some (.bool pb.n.leaf):=hc 4 (by simp[eY]);have c5:v11.cell? ⟨g,5,none⟩=some (.slice pb.ae pb.n.es.length pb.ce):=hc 5 (by simp[eY]);have c6:v11.cell? ⟨g,6,none⟩=some (.slice pb.ak pb.n.ks.length pb.ck):=hc 6 (by simp[eY]);have c7:v11.cell? ⟨g,7,none⟩=some (.slice pb.az pb.n.ss.length pb.cz):=hc 7 (by simp[eY]);clear hc
   go_wp2_with fail
   refine Calls.mono (rH Qu.out MB.out (fR FB.out).1) ?_;rintro e v12 ⟨rfl,s12⟩;have Vp:Hid (Sep B w0 v12 (DL C S1 d4 P4 (RowK 74 4 (.slice (some ⟨g,0,none⟩) 2 c) 2 (eY pm++eY pb)::aM 9 (.slice ay ny cy) [.string key]::aF q0 (.cells (cN p) 74)::aF qa (.cells (cN pm) 74)::aF qb (.cells (cN pb) 74)::l))):=s12;clear s12 Qu c4 c5 c6 c7;rw[FB.out];go_wp2;rw[rounds_succ];go_wp2
   go_ret3
   refine⟨some ⟨g,0,none⟩,ay,c,ny,cy,[pm,pb],P4,d4,by simp[NB.out],?_,M4.out,rfl,D4.out,?_⟩
   ·intro x hx;rcases List.mem_cons.1 hx with rfl|hx
    ·exact MM.out
    ·rw[List.mem_singleton.1 hx];exact MB.out
   ·exact Sep.drop (Sep.eh (Sep.drop (Sep.eh (Sep.drop (Sep.eh (Vp.out))))))
theorem Ef (T:bW B w0)(hst:aV B w0 C d Nb bZ)(hd:bf d d1)(h:Sep B w0 w (DL C S d1 P l))(hp:p∈P)(I:DI S d.room)(hr:d.room<=16384)(hd0:-1<=depth)(hd1:depth<=Nb)(he:bU bZ S p.n depth=some ((parts,keys,er),S')):Calls Tryz.prog 153 #[ptr C.q,.agg (cN p),.int .i64 depth] w (GF B w0 C S' d P l parts keys er):=by
 unfold bU at he;by_cases h0:p.n.es=[]∧p.n.ks=[]
 ·rw[if_pos h0]at he;cases he;exact Ee hd h h0.1 h0.2
 ·rw[if_neg h0]at he;by_cases hs:bS p.n=false
  ·rw[if_pos hs]at he;cases he
  ·rw[if_neg hs]at he;have hsm:bS p.n=true:=by simpa using hs
   by_cases hw:cQ p.n=false
   ·rw[if_pos hw]at he;cases he;by_cases he0:p.n.es=[]
    ·exact Al T hst hd h hp hsm I hr hd0 hd1 he0 (fun e=>h0 ⟨he0,e⟩) hw
    ·exact Ak T hst hd h hp hsm I hr hd0 hd1 he0 hw
   ·rw[if_neg hw]at he;have hw':cQ p.n=true:=by simpa using hw
    by_cases hf:cA p.n=true
    ·rw[if_pos hf]at he;cases he;by_cases he0:p.n.es=[]
     ·exact Ca.2 T hst hd h hp hsm I hr hd0 hd1 he0 (fun e=>h0 ⟨he0,e⟩) hw' hf
     ·exact Ca.1 T hst hd h hp hsm I hr hd0 hd1 he0 hw' hf
    ·rw[if_neg hf]at he;have hf':cA p.n=false:=by simpa using hf
     by_cases he0:p.n.es=[]
     ·exact Cb.2 T hst hd h hp hsm I hr hd0 hd1 he0 (fun e=>h0 ⟨he0,e⟩) hsm hw' hf' he
     ·exact Cb.1 T hst hd h hp hsm I hr hd0 hd1 he0 hsm hw' hf' he
theorem DI.fitting {room:Nat}(hI:∀ {S S':Dr} {n:Nd} {depth i tt:Int} {r:Nd×Int},DI S room->bZ S n depth i tt=some (r,S')->DI S' room){n:Nd}{r:List Nd×List ByteArray×Int}(I:DI S room)(he:bU bZ S n depth=some (r,S')):DI S' room:=by
 unfold bU at he
 repeat' split at he
 all_goals first
  |(cases he;done)
  |(cases he;exact I)
  |(cases he;exact hI I (by assumption))
  |skip
end
end
end Go.Proofs.YtceoeaemenhbhaaGreatDoor

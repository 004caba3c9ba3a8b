/- Walks of the package cowtree and of what it stands on: lemmas, made short. -/
import Derived.Test.YtcenfooehjcddaaGreatDoorR4
import Derived.Test.YtcenfooehjcddaaGreatDoorR10
import Derived.Deep.LoopGhost
import Derived.Maps.AppendAt
set_option maxHeartbeats 16000000
set_option maxRecDepth 100000
set_option linter.unusedVariables false
set_option linter.unusedSimpArgs false
namespace Go.Proofs.YtcenfooehjcddaaGreatDoor
open Go.Shelf Go.RowKit Go.Lib Go.Sort
namespace N
section
attribute [local go_sem ↓] Go.wp_at_zero Go.wp_at_succ
def Kk (W:World)(p fr tr fa ta no:Nat)(ae ak az ao ay:Option Addr)(ce ck cz co cy:Nat)(es:List En)(ks kk:List Int)(ss yy:List ByteArray){y6 y7 y8 y9 y13 uK qi qj tH xD xE y20 y21 y22 y23 y24 y25 zV y27 y28 y29 zW y31 y32 xI y34 uO uP xJ y38 y39 zX zY zZ z6 FV FW FX FY FZ F3 BM BN BO BP BQ BR:Value}(C:List Bool->Act->Prop)(w:World):Prop:=∀{f0 f1 f2 f3 f4 f5 f6 f7 f8 f9 f10 f11 f12 f13 f14 f15 f16 f17:Bool}{OT OU OV Kl OW OY D6 yB N7 Jz x66 JA N8 x69 N9 JD Oa:Value},f17=false->RB W (p+1) 170 w->Hid (f0=true->OT=.pointer (some ⟨p,1,none⟩))->Hid (f1=true->OU=.slice ae es.length ce)->Hid (f2=true->∃qq,OV=.slice (some ⟨qq,0,none⟩) 1 1∧Cl w qq #[.slice ae es.length ce] 49)->Hid (f3=true->∃ao n c,Kl=.slice ao n c∧bp (p+2) w Kl (es))->Hid (f4=true->OW=.pointer (some ⟨p,2,none⟩))->Hid (f5=true->OY=.slice ak ks.length ck)->Hid (f6=true->D6=.int .i64 fr)->Hid (f7=true->yB=.int .i64 tr)->Hid (f8=true->N7=.slice ao no co)->Hid (f9=true->∃ao n c,Jz=.slice ao n c∧dB (p+2) w Jz (iJ ks fr tr kk))->Hid (f10=true->x66=.pointer (some ⟨p,3,none⟩))->Hid (f11=true->JA=.slice az ss.length cz)->Hid (f12=true->N8=.int .i64 fa)->Hid (f13=true->x69=.int .i64 ta)->Hid (f14=true->N9=.slice ay yy.length cy)->Hid (f15=true->∃ao n c,JD=.slice ao n c∧cI (p+2) w JD (iJ ss fa ta yy))->Hid (f16=true->f3=true∧f9=true∧f15=true∧Oa=.agg #[.bool false,Kl,Jz,JD])->C [f0,f1,f2,f3,f4,f5,f6,f7,f8,f9,f10,f11,f12,f13,f14,f15,f16,f17] {tmps:=#[.agg #[.bool false,.slice ae es.length ce,.slice ak ks.length ck,.slice az ss.length cz],.int .i64 fr,.int .i64 tr,.slice ao no co,.slice ay yy.length cy,.pointer (some ⟨p,0,none⟩),y6,y7,y8,y9,.pointer (some ⟨p+1,0,none⟩),.int .i64 fa,.int .i64 ta,y13,uK,qi,qj,tH,xD,xE,y20,y21,y22,y23,y24,y25,zV,y27,y28,y29,zW,y31,y32,xI,y34,uO,uP,xJ,y38,y39,zX,zY,zZ,z6,FV,FW,FX,FY,FZ,F3,BM,BN,BO,BP,BQ,BR,OT,OU,OV,Kl,OW,OY,D6,yB,N7,Jz,x66,JA,N8,x69,N9,JD,Oa],defers:=[]}
theorem Cp:(∀(es:List En) (ks kk:List Int) (ss yy:List ByteArray) (fr tr:Nat) (ve vk vs vo vy:Value) (w:World) (he:Row ax 2 w ve es) (hk:Row encI 1 w vk ks) (hss:Row encS 1 w vs ss) (hkk:Row encI 1 w vo kk) (k7:Row encS 1 w vy yy) (s1:es.length<=1000) (s2:ks.length<=1000) (s3:ss.length<=1000) (s4:kk.length<=1000) (s5:yy.length<=1000) (hft:fr<tr) (htk:tr<=ks.length) (hyk:(yy.length:Int)=max ((kk.length:Int)-1) 0) (ta:Nat) (g:0<kk.length) (ht1:ta=tr-1),Calls Tryz.prog 122 #[.agg #[.bool false,ve,vk,vs],.int .i64 fr,.int .i64 tr,vo,vy] w (FT w ⟨false,es,iJ ks fr tr kk,iJ ss fr ta yy⟩))∧
  (∀(es:List En) (ks kk:List Int) (ss yy:List ByteArray) (fr tr:Nat) (ve vk vs vo vy:Value) (w:World) (he:Row ax 2 w ve es) (hk:Row encI 1 w vk ks) (hss:Row encS 1 w vs ss) (hkk:Row encI 1 w vo kk) (k7:Row encS 1 w vy yy) (s1:es.length<=1000) (s2:ks.length<=1000) (s3:ss.length<=1000) (s4:kk.length<=1000) (s5:yy.length<=1000) (hft:fr<tr) (htk:tr<=ks.length) (hyk:(yy.length:Int)=max ((kk.length:Int)-1) 0) (fa ta:Nat) (g:kk.length=0) (g2:0<fr) (hf1:fa=fr-1) (ht1:ta=tr-1),Calls Tryz.prog 122 #[.agg #[.bool false,ve,vk,vs],.int .i64 fr,.int .i64 tr,vo,vy] w (FT w ⟨false,es,iJ ks fr tr kk,iJ ss fa ta yy⟩))∧
  (∀(es:List En) (ks kk:List Int) (ss yy:List ByteArray) (fr tr:Nat) (ve vk vs vo vy:Value) (w:World) (he:Row ax 2 w ve es) (hk:Row encI 1 w vk ks) (hss:Row encS 1 w vs ss) (hkk:Row encI 1 w vo kk) (k7:Row encS 1 w vy yy) (s1:es.length<=1000) (s2:ks.length<=1000) (s3:ss.length<=1000) (s4:kk.length<=1000) (s5:yy.length<=1000) (hft:fr<tr) (htk:tr<=ks.length) (hyk:(yy.length:Int)=max ((kk.length:Int)-1) 0) (g:kk.length=0) (g2:fr=0),Calls Tryz.prog 122 #[.agg #[.bool false,ve,vk,vs],.int .i64 fr,.int .i64 tr,vo,vy] w (FT w ⟨false,es,iJ ks fr tr kk,iJ ss fr tr yy⟩)):=by
 refine⟨have jq:=trivial; ?_,have fC:=trivial; ?_,have Si:=trivial; ?_⟩
 all_goals
  first
   |have zz:=fC
    intro es ks kk ss yy fr tr ve vk vs vo vy w he hk hss hkk k7 s1 s2 s3 s4 s5 hft htk hyk fa ta g g2 hf1 ht1
   |have zz:=jq
    intro es ks kk ss yy fr tr ve vk vs vo vy w he hk hss hkk k7 s1 s2 s3 s4 s5 hft htk hyk ta g ht1
   |intro es ks kk ss yy fr tr ve vk vs vo vy w he hk hss hkk k7 s1 s2 s3 s4 s5 hft htk hyk g g2
  obtain⟨ae,ce,rfl,_⟩:=aG he;obtain⟨ak,ck,rfl,_⟩:=aG hk;obtain⟨az,cz,rfl,_⟩:=aG hss;obtain⟨ao,co,rfl,_⟩:=aG hkk;obtain⟨ay,cy,rfl,_⟩:=aG k7;have K1:Cl ((w.alloc (.cells #[.bool false,.slice ae es.length ce,.slice ak ks.length ck,.slice az ss.length cz] 170)).alloc (.cells #[.bool false,.slice none 0 0,.slice none 0 0,.slice none 0 0] 170)) w.heap.size #[.bool false,.slice ae es.length ce,.slice ak ks.length ck,.slice az ss.length cz] 170:=(Cl.lY _ _ _).alloc _;have K2:Cl ((w.alloc (.cells #[.bool false,.slice ae es.length ce,.slice ak ks.length ck,.slice az ss.length cz] 170)).alloc (.cells #[.bool false,.slice none 0 0,.slice none 0 0,.slice none 0 0] 170)) (w.heap.size+1) #[.bool false,.slice none 0 0,.slice none 0 0,.slice none 0 0] 170:=Cl.pU _ _ _ _;have BW:Hid (Below w.heap.size w ((w.alloc (.cells #[.bool false,.slice ae es.length ce,.slice ak ks.length ck,.slice az ss.length cz] 170)).alloc (.cells #[.bool false,.slice none 0 0,.slice none 0 0,.slice none 0 0] 170))):=aq _ (aq _ (Below.refl _ _))
  first
   |have zz:=fC
    have gz:decide ((0:Int)< (kk.length:Int))=false:=decide_eq_false (by omega);have ZI:decide (0<kk.length)=false:=decide_eq_false (by omega);have ZJ:(0:Int)< (fr:Int):=by omega
    have e1:(fa:Int)=(fr:Int)-1:=by omega
    have e2:(ta:Int)=(tr:Int)-1:=by omega
   |have zz:=Si
    have gz:decide ((0:Int)< (kk.length:Int))=false:=decide_eq_false (by omega);have ZI:decide (0<kk.length)=false:=decide_eq_false (by omega);have ZJ:decide ((0:Int)< (fr:Int))=false:=decide_eq_false (by omega);have ZK:decide (0<fr)=false:=decide_eq_false (by omega)
   |have gz:(0:Int)< (kk.length:Int):=by omega
    have e2:(ta:Int)=(tr:Int)-1:=by omega
  have q1:¬(fr:Int)<0:=by omega
  have q2:¬(ks.length:Int)< (tr:Int):=by omega
  have q3:¬(tr:Int)<=(fr:Int):=by omega
  have q4:((yy.length:Int) != max ((kk.length:Int)-1) 0)=false:=by rw[bne_eq_false_iff_eq];exact hyk
  generalize hlo:kk.length=no at*
  first
   |have zz:=Si
    clear hyk g g2
   |have zz:=fC
    clear hyk g
   |clear hyk
  go_enter Tryz.func122,Tryz.ntmps122
  go_upto_region 1 with fail
  generalize World.alloc _ _=W at*;obtain⟨p,hp⟩:∃p,w.heap.size=p:=⟨_,rfl⟩;rw[hp]at K1 K2 BW⊢;obtain⟨c0,c1,c2,c3⟩:=K1.four;have lw:=K2.lt;have R0:Hid (RB W (p+1) 170 W.drew):=⟨(Below.refl _ W).drew,_,_,_,_,K2⟩;have BX:∀X,RB W (p+1) 170 X->Below p w X:=fun X hX=>BW.out.trans (hX.1.mono (Nat.le_succ p));have RE:Hid (∀X,RB W (p+1) 170 X->Row ax 2 X (.slice ae es.length ce) es):=fun X hX=>he.below (by rw[hp];exact BX X hX);have RK:Hid (∀X,RB W (p+1) 170 X->Row encI 1 X (.slice ak ks.length ck) ks):=fun X hX=>hk.below (by rw[hp];exact BX X hX);have RS:Hid (∀X,RB W (p+1) 170 X->Row encS 1 X (.slice az ss.length cz) ss):=fun X hX=>hss.below (by rw[hp];exact BX X hX);have RO:Hid (∀X,RB W (p+1) 170 X->Row encI 1 X (.slice ao no co) kk):=fun X hX=>hkk.below (by rw[hp];exact BX X hX);have RY:Hid (∀X,RB W (p+1) 170 X->Row encS 1 X (.slice ay yy.length cy) yy):=fun X hX=>k7.below (by rw[hp];exact BX X hX);have MK:Hid (∀X,RB W (p+1) 170 X->X.cell? ⟨p,0,none⟩=some (.bool false)∧X.cell? ⟨p,1,none⟩=some (.slice ae es.length ce)∧X.cell? ⟨p,2,none⟩=some (.slice ak ks.length ck)∧X.cell? ⟨p,3,none⟩=some (.slice az ss.length cz)):=fun X hX=>(K1.below hX.1 (Nat.lt_succ_self p)).four;have U5:Hid (∀X,RB W (p+1) 170 X->Below p w X):=BX;have HLO:Hid (kk.length=no):=hlo;have HP:Hid (w.heap.size=p):=hp;clear he hk hss hkk k7 K1 K2 BW BX hlo hp
  go_upto_region 8 with fail
  (try rw[<-e1])
  (try rw[<-e2])
  first
   |have zz:=jq
    have bfa:fr<=1000:=by omega
    have bta:ta<=1000:=by omega
   |have zz:=fC
    have bfa:fa<=1000:=by omega
    have bta:ta<=1000:=by omega
   |have bfa:fr<=1000:=by omega
    have bta:tr<=1000:=by omega
  have hlo:=HLO.out
  first
   |have zz:=fC
    clear e1 e2 hf1 ht1 gz ZI ZJ g2 q1 q2 q3 q4
   |have zz:=Si
    clear gz ZI ZJ ZK q1 q2 q3 q4
   |clear e2 ht1 gz g q1 q2 q3 q4
  have hp:=HP.out;clear c0 c1 c2 c3
  first
   |have zz:=jq
    refine bc 17 (Kk W p fr tr fr ta no ae ak az ao ay ce ck cz co cy es ks kk ss yy) (by kernel_rfl) (by kernel_rfl) (by kernel_rfl) (fun _ k=>k rfl R0.out ar ar ar ar ar ar ar ar ar ar ar ar ar ar ar ar ar) ?_ ?_ ?_
   |have zz:=fC
    refine bc 17 (Kk W p fr tr fa ta no ae ak az ao ay ce ck cz co cy es ks kk ss yy) (by kernel_rfl) (by kernel_rfl) (by kernel_rfl) (fun _ k=>k rfl R0.out ar ar ar ar ar ar ar ar ar ar ar ar ar ar ar ar ar) ?_ ?_ ?_
   |refine bc 17 (Kk W p fr tr fr tr no ae ak az ao ay ce ck cz co cy es ks kk ss yy) (by kernel_rfl) (by kernel_rfl) (by kernel_rfl) (fun _ k=>k rfl R0.out ar ar ar ar ar ar ar ar ar ar ar ar ar ar ar ar ar) ?_ ?_ ?_
  ·intro i w' hne f0 f1 f2 f3 f4 f5 f6 f7 f8 f9 f10 f11 f12 f13 f14 f15 f16 f17 OT OU OV Kl OW OY D6 yB N7 Jz x66 JA N8 x69 N9 JD Oa e17 hB h0 h1 h2 h3 h4 h5 h6 h7 h8 h9 h10 h11 h12 dN fP qR h16 hi;obtain⟨hlt,hun,_⟩:=aP hi;have hlt':i<18:=hlt;clear hlt;rcases(by omega:i=0∨i=1∨i=2∨i=3∨i=4∨i=5∨i=6∨i=7∨i=8∨i=9∨i=10∨i=11∨i=12∨i=13∨i=14∨i=15∨i=16)with rfl|rfl|rfl|rfl|rfl|rfl|rfl|rfl|rfl|rfl|rfl|rfl|rfl|rfl|rfl|rfl|rfl
   refine ai rfl fun K HK=>?_;go_simp
   rotate_left
   cases h0 (ah 0 hi (by kernel_rfl));have cell:=(MK.out _ hB).2.1;refine ai rfl fun K HK=>?_;go_simp
   rotate_left
   ·cases h1 (ah 1 hi (by kernel_rfl));refine ai rfl fun K HK=>?_;go_simp;exact HK.out _ _ fun _ k=>k e17 (RB.alloc hB _) h0 h1 (fun _=>⟨_,rfl,Cl.new _ _ _⟩) (fun d=>let⟨ao,n,c,e,o⟩:=h3.out d;⟨ao,n,c,e,ownsRow_below o (aq _ (Below.refl _ _))⟩) h4 h5 h6 h7 h8 (fun d=>let⟨ao,n,c,e,o⟩:=h9.out d;⟨ao,n,c,e,ownsRow_below o (aq _ (Below.refl _ _))⟩) h10 h11 h12 dN fP (fun d=>let⟨ao,n,c,e,o⟩:=qR.out d;⟨ao,n,c,e,ownsRow_below o (aq _ (Below.refl _ _))⟩) h16
   ·have un:f3=false:=hun;obtain⟨q2,rfl,c2⟩:=h2.out (ah 2 hi (by kernel_rfl));refine ai rfl fun K HK=>?_;go_simp;refine Calls.mono (nr q2 49 (.slice ae es.length ce) es w' c2 (RE.out _ hB) (by omega)) ?_;rintro e w1 ⟨ao,nn,cc,rfl,ow,b1⟩;exact HK.out _ _ fun _ k=>k e17 (RB.call hB b1) h0 h1 (fun d=>let⟨q,e,c⟩:=h2.out d;⟨q,e,Cl.on c (b1)⟩) (fun _=>⟨ao,nn,cc,rfl,aH ow (RB.lt hB)⟩) h4 h5 h6 h7 h8 (fun d=>let⟨ao,n,c,e,o⟩:=h9.out d;⟨ao,n,c,e,ownsRow_below o (b1)⟩) h10 h11 h12 dN fP (fun d=>let⟨ao,n,c,e,o⟩:=qR.out d;⟨ao,n,c,e,ownsRow_below o (b1)⟩) (fun d=>by have e:=(h16.out d).1;rw[un]at e;cases e)
   refine ai rfl fun K HK=>?_;go_simp
   rotate_left
   cases h4 (ah 4 hi (by kernel_rfl));have cell:=(MK.out _ hB).2.2.1;refine ai rfl fun K HK=>?_;go_simp
   rotate_left
   refine ai rfl fun K HK=>?_;go_simp
   rotate_left
   refine ai rfl fun K HK=>?_;go_simp
   rotate_left
   refine ai rfl fun K HK=>?_;go_simp
   rotate_left
   ·have un:f9=false:=hun;cases h5 (ah 5 hi (by kernel_rfl));cases h6 (ah 6 hi (by kernel_rfl));cases h7 (ah 7 hi (by kernel_rfl));cases h8 (ah 8 hi (by kernel_rfl));refine ai rfl fun K HK=>?_;go_simp;refine Calls.mono (kV.1 (.slice ak ks.length ck) (.slice ao no co) ks kk fr tr w' (RK.out _ hB) (RO.out _ hB) (by omega) (by omega) (by omega) (by omega)) ?_;rintro e w1 ⟨ao,nn,cc,rfl,ow,b1⟩;exact HK.out _ _ fun _ k=>k e17 (RB.call hB b1) h0 h1 (fun d=>let⟨q,e,c⟩:=h2.out d;⟨q,e,Cl.on c (b1)⟩) (fun d=>let⟨ao,n,c,e,o⟩:=h3.out d;⟨ao,n,c,e,ownsRow_below o (b1)⟩) h4 h5 h6 h7 h8 (fun _=>⟨ao,nn,cc,rfl,aH ow (RB.lt hB)⟩) h10 h11 h12 dN fP (fun d=>let⟨ao,n,c,e,o⟩:=qR.out d;⟨ao,n,c,e,ownsRow_below o (b1)⟩) (fun d=>by have e:=(h16.out d).2.1;rw[un]at e;cases e)
   refine ai rfl fun K HK=>?_;go_simp
   rotate_left
   cases h10 (ah 10 hi (by kernel_rfl));have cell:=(MK.out _ hB).2.2.2;refine ai rfl fun K HK=>?_;go_simp
   rotate_left
   refine ai rfl fun K HK=>?_;go_simp
   rotate_left
   refine ai rfl fun K HK=>?_;go_simp
   rotate_left
   refine ai rfl fun K HK=>?_;go_simp
   rotate_left
   ·have un:f15=false:=hun;cases h11 (ah 11 hi (by kernel_rfl));cases h12 (ah 12 hi (by kernel_rfl));cases dN (ah 13 hi (by kernel_rfl));cases fP (ah 14 hi (by kernel_rfl));refine ai rfl fun K HK=>?_;go_simp
    first
     |have zz:=jq
      refine Calls.mono (kV.2 (.slice az ss.length cz) (.slice ay yy.length cy) ss yy fr ta w' (RS.out _ hB) (RY.out _ hB) (by omega) (by omega) (by omega) (by omega)) ?_
     |have zz:=fC
      refine Calls.mono (kV.2 (.slice az ss.length cz) (.slice ay yy.length cy) ss yy fa ta w' (RS.out _ hB) (RY.out _ hB) (by omega) (by omega) (by omega) (by omega)) ?_
     |refine Calls.mono (kV.2 (.slice az ss.length cz) (.slice ay yy.length cy) ss yy fr tr w' (RS.out _ hB) (RY.out _ hB) (by omega) (by omega) (by omega) (by omega)) ?_
    rintro e w1 ⟨ao,nn,cc,rfl,ow,b1⟩;exact HK.out _ _ fun _ k=>k e17 (RB.call hB b1) h0 h1 (fun d=>let⟨q,e,c⟩:=h2.out d;⟨q,e,Cl.on c (b1)⟩) (fun d=>let⟨ao,n,c,e,o⟩:=h3.out d;⟨ao,n,c,e,ownsRow_below o (b1)⟩) h4 h5 h6 h7 h8 (fun d=>let⟨ao,n,c,e,o⟩:=h9.out d;⟨ao,n,c,e,ownsRow_below o (b1)⟩) h10 h11 h12 dN fP (fun _=>⟨ao,nn,cc,rfl,aH ow (RB.lt hB)⟩) (fun d=>by have e:=(h16.out d).2.2.1;rw[un]at e;cases e)
   ·have d3:f3=true:=ah 3 hi (by kernel_rfl);obtain⟨a3,n3,m3,rfl,o3⟩:=h3.out d3;have d9:f9=true:=ah 9 hi (by kernel_rfl);obtain⟨a9,n9,m9,rfl,o9⟩:=h9.out d9;have d15:f15=true:=ah 15 hi (by kernel_rfl);obtain⟨Km,n15,m15,rfl,Yd⟩:=qR.out d15;refine ai rfl fun K HK=>?_;go_simp;exact HK.out _ _ fun _ k=>k e17 hB h0 h1 h2 h3 h4 h5 h6 h7 h8 h9 h10 h11 h12 dN fP qR (fun _=>⟨d3,d9,d15,rfl⟩)
   all_goals exact HK.out _ _ fun _ k=>by apply k<;>first|assumption|exact hidR|(repeat' first|apply Exists.intro|assumption|rfl|apply And.intro|exact fun _=>rfl)
  ·intro w' f0 f1 f2 f3 f4 f5 f6 f7 f8 f9 f10 f11 f12 f13 f14 f15 f16 f17 OT OU OV Kl OW OY D6 yB N7 Jz x66 JA N8 x69 N9 JD Oa e17 hB h0 h1 h2 h3 h4 h5 h6 h7 h8 h9 h10 h11 h12 dN fP qR h16 hi;have d16:f16=true:=ah 16 hi (by kernel_rfl);obtain⟨_,_,_,rfl⟩:=h16.out d16;have d3:f3=true:=ah 3 hi (by kernel_rfl);obtain⟨a3,n3,m3,rfl,o3⟩:=h3.out d3;have d9:f9=true:=ah 9 hi (by kernel_rfl);obtain⟨a9,n9,m9,rfl,o9⟩:=h9.out d9;have d15:f15=true:=ah 15 hi (by kernel_rfl);obtain⟨Km,n15,m15,rfl,Yd⟩:=qR.out d15;clear hi;obtain⟨⟨z0,y0⟩,⟨z1,y1⟩,⟨z2,y2⟩,⟨z3,y3⟩,g0,g1,g2,g3⟩:=hB.four;refine ai rfl fun K HK=>?_;go_simp;refine HK.out _ _ ?_;have KF:Cl ((((w'.setCell ⟨p+1,0,none⟩ (.bool false)).setCell ⟨p+1,1,none⟩ (.slice a3 n3 m3)).setCell ⟨p+1,2,none⟩ (.slice a9 n9 m9)).setCell ⟨p+1,3,none⟩ (.slice Km n15 m15)) (p+1) #[.bool false,.slice a3 n3 m3,.slice a9 n9 m9,.slice Km n15 m15] 170:=by
    obtain⟨_,u0,u1,u2,u3,kc⟩:=hB;exact kc.fk _ _ _ _
   have BF:Hid (Below p w ((((w'.setCell ⟨p+1,0,none⟩ (.bool false)).setCell ⟨p+1,1,none⟩ (.slice a3 n3 m3)).setCell ⟨p+1,2,none⟩ (.slice a9 n9 m9)).setCell ⟨p+1,3,none⟩ (.slice Km n15 m15))):=dg (U5.out _ hB) (Nat.le_succ p)
   first
    |have zz:=jq
     have OF:Hid (kT p ((((w'.setCell ⟨p+1,0,none⟩ (.bool false)).setCell ⟨p+1,1,none⟩ (.slice a3 n3 m3)).setCell ⟨p+1,2,none⟩ (.slice a9 n9 m9)).setCell ⟨p+1,3,none⟩ (.slice Km n15 m15)) (.slice a3 n3 m3) (.slice a9 n9 m9) (.slice Km n15 m15) ⟨false,es,iJ ks fr tr kk,iJ ss fr ta yy⟩):=⟨aH (bF o3 (Nat.lt_succ_self _)) (by omega),aH (bF o9 (Nat.lt_succ_self _)) (by omega),aH (bF Yd (Nat.lt_succ_self _)) (by omega)⟩
    |have zz:=fC
     have OF:Hid (kT p ((((w'.setCell ⟨p+1,0,none⟩ (.bool false)).setCell ⟨p+1,1,none⟩ (.slice a3 n3 m3)).setCell ⟨p+1,2,none⟩ (.slice a9 n9 m9)).setCell ⟨p+1,3,none⟩ (.slice Km n15 m15)) (.slice a3 n3 m3) (.slice a9 n9 m9) (.slice Km n15 m15) ⟨false,es,iJ ks fr tr kk,iJ ss fa ta yy⟩):=⟨aH (bF o3 (Nat.lt_succ_self _)) (by omega),aH (bF o9 (Nat.lt_succ_self _)) (by omega),aH (bF Yd (Nat.lt_succ_self _)) (by omega)⟩
    |have OF:Hid (kT p ((((w'.setCell ⟨p+1,0,none⟩ (.bool false)).setCell ⟨p+1,1,none⟩ (.slice a3 n3 m3)).setCell ⟨p+1,2,none⟩ (.slice a9 n9 m9)).setCell ⟨p+1,3,none⟩ (.slice Km n15 m15)) (.slice a3 n3 m3) (.slice a9 n9 m9) (.slice Km n15 m15) ⟨false,es,iJ ks fr tr kk,iJ ss fr tr yy⟩):=⟨aH (bF o3 (Nat.lt_succ_self _)) (by omega),aH (bF o9 (Nat.lt_succ_self _)) (by omega),aH (bF Yd (Nat.lt_succ_self _)) (by omega)⟩
   generalize World.setCell _ _ _=X at*;obtain⟨k0,k1,k2,k3⟩:=KF.four;clear y0 y1 y2 y3 g0 g1 g2 g3 hB h0 h1 h2 h3 h4 h5 h6 h7 h8 h9 h10 h11 h12 dN fP qR h16;go_wp2;refine bodyPost_ret (v:=.agg #[.bool false,.slice a3 n3 m3,.slice a9 n9 m9,.slice Km n15 m15]) ?_ rfl ⟨_,_,_,rfl,by rw[hp];exact OF.out,by rw[hp];exact BF.out⟩;rw[bC rfl];go_simp
  ·intro _ _;intros;assumption
theorem xR:(∀(n:Nd) (fr tr:Int) (kk:List Int) (yy:List ByteArray) (ve vk vs vo vy:Value) (w:World) (h1:iw w ve vk vs n) (hm1:yz n) (hkk:Row encI 1 w vo kk) (k7:Row encS 1 w vy yy) (lf:Bool) (hlf:n.leaf=lf) (hkl:kk.length<=1000) (q1:fr<0),Calls Tryz.prog 122 #[.agg #[.bool n.leaf,ve,vk,vs],.int .i64 fr,.int .i64 tr,vo,vy] w (FT w n))∧
  (∀(n:Nd) (fr tr:Int) (kk:List Int) (yy:List ByteArray) (ve vk vs vo vy:Value) (w:World) (h1:iw w ve vk vs n) (hm1:yz n) (hkk:Row encI 1 w vo kk) (k7:Row encS 1 w vy yy) (lf:Bool) (hlf:n.leaf=lf) (hkl:kk.length<=1000) (q1:¬fr<0) (q2:(n.ks.length:Int)<tr),Calls Tryz.prog 122 #[.agg #[.bool n.leaf,ve,vk,vs],.int .i64 fr,.int .i64 tr,vo,vy] w (FT w n))∧
  (∀(n:Nd) (fr tr:Int) (kk:List Int) (yy:List ByteArray) (ve vk vs vo vy:Value) (w:World) (h1:iw w ve vk vs n) (hm1:yz n) (hkk:Row encI 1 w vo kk) (k7:Row encS 1 w vy yy) (lf:Bool) (hlf:n.leaf=lf) (hkl:kk.length<=1000) (q1:¬fr<0) (q2:¬(n.ks.length:Int)<tr) (q3:tr<=fr),Calls Tryz.prog 122 #[.agg #[.bool n.leaf,ve,vk,vs],.int .i64 fr,.int .i64 tr,vo,vy] w (FT w n))∧
  (∀(n:Nd) (fr tr:Int) (kk:List Int) (yy:List ByteArray) (ve vk vs vo vy:Value) (w:World) (h1:iw w ve vk vs n) (hm1:yz n) (hkk:Row encI 1 w vo kk) (k7:Row encS 1 w vy yy) (lf:Bool) (hlf:n.leaf=lf) (hkl:kk.length<=1000) (q1:¬fr<0) (q2:¬(n.ks.length:Int)<tr) (q3:¬tr<=fr) (q4:((yy.length:Int) != max ((kk.length:Int)-1) 0)=true),Calls Tryz.prog 122 #[.agg #[.bool n.leaf,ve,vk,vs],.int .i64 fr,.int .i64 tr,vo,vy] w (FT w n)):=by
 refine⟨have jq:=trivial; ?_,have fC:=trivial; ?_,have Si:=trivial; ?_,have zz3:=trivial; ?_⟩
 all_goals
  first
   |have zz:=zz3
    intro n fr tr kk yy ve vk vs vo vy w h1 hm1 hkk k7 lf hlf hkl q1 q2 q3 q4
   |have zz:=Si
    intro n fr tr kk yy ve vk vs vo vy w h1 hm1 hkk k7 lf hlf hkl q1 q2 q3
   |have zz:=fC
    intro n fr tr kk yy ve vk vs vo vy w h1 hm1 hkk k7 lf hlf hkl q1 q2
   |intro n fr tr kk yy ve vk vs vo vy w h1 hm1 hkk k7 lf hlf hkl q1
  obtain⟨ae,ce,rfl,_⟩:=aG h1.e;obtain⟨ak,ck,rfl,_⟩:=aG h1.k;obtain⟨az,cz,rfl,_⟩:=aG h1.s;obtain⟨ao,co,rfl,_⟩:=aG hkk;obtain⟨ay,cy,rfl,_⟩:=aG k7;have BW:Hid (Below w.heap.size w ((w.alloc (.cells #[.bool lf,.slice ae n.es.length ce,.slice ak n.ks.length ck,.slice az n.ss.length cz] 170)).alloc (.cells #[.bool false,.slice none 0 0,.slice none 0 0,.slice none 0 0] 170))):=aq _ (aq _ (Below.refl _ _));have K1:Cl ((w.alloc (.cells #[.bool lf,.slice ae n.es.length ce,.slice ak n.ks.length ck,.slice az n.ss.length cz] 170)).alloc (.cells #[.bool false,.slice none 0 0,.slice none 0 0,.slice none 0 0] 170)) w.heap.size #[.bool lf,.slice ae n.es.length ce,.slice ak n.ks.length ck,.slice az n.ss.length cz] 170:=(Cl.lY _ _ _).alloc _;have K3:Cl ((w.alloc (.cells #[.bool lf,.slice ae n.es.length ce,.slice ak n.ks.length ck,.slice az n.ss.length cz] 170)).alloc (.cells #[.bool false,.slice none 0 0,.slice none 0 0,.slice none 0 0] 170)) (w.heap.size+1) #[.bool false,.slice none 0 0,.slice none 0 0,.slice none 0 0] 170:=Cl.pU _ _ _ _;have C:Hid _:=iW n _ _ _ ((w.alloc (.cells #[.bool lf,.slice ae n.es.length ce,.slice ak n.ks.length ck,.slice az n.ss.length cz] 170)).alloc (.cells #[.bool false,.slice none 0 0,.slice none 0 0,.slice none 0 0] 170)) (h1.below BW.out) hm1;rw[hlf]at C⊢;have HL:Hid (n.leaf=lf):=hlf;generalize n.es.length=n1 at*;generalize n.ks.length=n2 at*;generalize n.ss.length=n3 at*;generalize kk.length=n4 at*;generalize yy.length=n5 at*;clear h1 hlf hkk k7;go_enter Tryz.func122,Tryz.ntmps122
  go_upto_region 1 with fail
  generalize World.alloc _ _=W at*;obtain⟨p,hp⟩:∃p,w.heap.size=p:=⟨_,rfl⟩;rw[hp]at K1 K3 BW⊢;obtain⟨c0,c1,c2,c3⟩:=K1.four;have l1:=K3.lt;have HP:Hid (w.heap.size=p):=hp;clear K1 hp
  go_wp2_with fail
  refine Calls.mono C.out ?_;rintro e w1 ⟨AX,AY,vs',rfl,O1,B1⟩;obtain⟨av,cv,rfl⟩:=bL O1.e;obtain⟨bv,dv,rfl⟩:=bL O1.k;obtain⟨gv,hv,rfl⟩:=bL O1.s;have K4:Cl w1 (p+1) #[.bool false,.slice none 0 0,.slice none 0 0,.slice none 0 0] 170:=K3.on B1;obtain⟨f0,f1,f2,f3⟩:=K4.four;obtain⟨g0,g1,g2,g3⟩:=K4.thaw;have KF:Cl ((((w1.setCell ⟨p+1,0,none⟩ (.bool lf)).setCell ⟨p+1,1,none⟩ (.slice av n.es.length cv)).setCell ⟨p+1,2,none⟩ (.slice bv n.ks.length dv)).setCell ⟨p+1,3,none⟩ (.slice gv n.ss.length hv)) (p+1) #[.bool lf,.slice av n.es.length cv,.slice bv n.ks.length dv,.slice gv n.ss.length hv] 170:=K4.fk _ _ _ _;have BF:Hid (Below p w ((((w1.setCell ⟨p+1,0,none⟩ (.bool lf)).setCell ⟨p+1,1,none⟩ (.slice av n.es.length cv)).setCell ⟨p+1,2,none⟩ (.slice bv n.ks.length dv)).setCell ⟨p+1,3,none⟩ (.slice gv n.ss.length hv))):=dg (BW.out.trans (B1.mono (by omega))) (by omega);have OF:Hid (kT p ((((w1.setCell ⟨p+1,0,none⟩ (.bool lf)).setCell ⟨p+1,1,none⟩ (.slice av n.es.length cv)).setCell ⟨p+1,2,none⟩ (.slice bv n.ks.length dv)).setCell ⟨p+1,3,none⟩ (.slice gv n.ss.length hv)) (.slice av n.es.length cv) (.slice bv n.ks.length dv) (.slice gv n.ss.length hv) n):=⟨aH (bF O1.e l1) (by omega),aH (bF O1.k l1) (by omega),aH (bF O1.s l1) (by omega)⟩;clear C B1 O1 K3 K4 c0 c1 c2 c3;go_wp2
  (try simp only[Exit.inBlock,Exit.then])
  generalize World.setCell _ _ _=X at*;obtain⟨k0,k1,k2,k3⟩:=KF.four;refine bodyPost_ret (v:=.agg #[.bool lf,.slice av n.es.length cv,.slice bv n.ks.length dv,.slice gv n.ss.length hv]) ?_ rfl ⟨_,_,_,by rw[HL.out],by rw[HP.out];exact OF.out,by rw[HP.out];exact BF.out⟩;rw[bC rfl];go_simp
theorem OZ (n:Nd)(fr tr:Int)(kk:List Int)(yy:List ByteArray)(ve vk vs vo vy:Value)(w:World)(h1:iw w ve vk vs n)(hm1:yz n)(hkk:Row encI 1 w vo kk)(k7:Row encS 1 w vy yy)(hlf:n.leaf=true)(hkl:kk.length<=1000)(q1:¬fr<0)(q2:¬(n.ks.length:Int)<tr)(q3:¬tr<=fr)(q4:((yy.length:Int) != max ((kk.length:Int)-1) 0)=false):
  Calls Tryz.prog 122 #[.agg #[.bool n.leaf,ve,vk,vs],.int .i64 fr,.int .i64 tr,vo,vy] w (FT w n):=by
 obtain⟨ae,ce,rfl,_⟩:=aG h1.e;obtain⟨ak,ck,rfl,_⟩:=aG h1.k;obtain⟨az,cz,rfl,_⟩:=aG h1.s;obtain⟨ao,co,rfl,_⟩:=aG hkk;obtain⟨ay,cy,rfl,_⟩:=aG k7;have BW:Hid (Below w.heap.size w ((w.alloc (.cells #[.bool true,.slice ae n.es.length ce,.slice ak n.ks.length ck,.slice az n.ss.length cz] 170)).alloc (.cells #[.bool false,.slice none 0 0,.slice none 0 0,.slice none 0 0] 170))):=aq _ (aq _ (Below.refl _ _));have K1:Cl ((w.alloc (.cells #[.bool true,.slice ae n.es.length ce,.slice ak n.ks.length ck,.slice az n.ss.length cz] 170)).alloc (.cells #[.bool false,.slice none 0 0,.slice none 0 0,.slice none 0 0] 170)) w.heap.size #[.bool true,.slice ae n.es.length ce,.slice ak n.ks.length ck,.slice az n.ss.length cz] 170:=(Cl.lY _ _ _).alloc _;have K3:Cl ((w.alloc (.cells #[.bool true,.slice ae n.es.length ce,.slice ak n.ks.length ck,.slice az n.ss.length cz] 170)).alloc (.cells #[.bool false,.slice none 0 0,.slice none 0 0,.slice none 0 0] 170)) (w.heap.size+1) #[.bool false,.slice none 0 0,.slice none 0 0,.slice none 0 0] 170:=Cl.pU _ _ _ _;have C:Hid _:=iW n _ _ _ ((w.alloc (.cells #[.bool true,.slice ae n.es.length ce,.slice ak n.ks.length ck,.slice az n.ss.length cz] 170)).alloc (.cells #[.bool false,.slice none 0 0,.slice none 0 0,.slice none 0 0] 170)) (h1.below BW.out) hm1;rw[hlf]at C⊢;have HL:Hid (n.leaf=true):=hlf;generalize n.es.length=n1 at*;generalize n.ks.length=n2 at*;generalize n.ss.length=n3 at*;generalize kk.length=n4 at*;generalize yy.length=n5 at*;clear h1 hlf hkk k7;go_enter Tryz.func122,Tryz.ntmps122
 go_upto_region 1 with fail
 generalize World.alloc _ _=W at*;obtain⟨p,hp⟩:∃p,w.heap.size=p:=⟨_,rfl⟩;rw[hp]at K1 K3 BW⊢;obtain⟨c0,c1,c2,c3⟩:=K1.four;have l1:=K3.lt;have HP:Hid (w.heap.size=p):=hp;clear K1 hp
 go_wp2_with fail
 refine Calls.mono C.out ?_;rintro e w1 ⟨AX,AY,vs',rfl,O1,B1⟩;obtain⟨av,cv,rfl⟩:=bL O1.e;obtain⟨bv,dv,rfl⟩:=bL O1.k;obtain⟨gv,hv,rfl⟩:=bL O1.s;have K4:Cl w1 (p+1) #[.bool false,.slice none 0 0,.slice none 0 0,.slice none 0 0] 170:=K3.on B1;obtain⟨f0,f1,f2,f3⟩:=K4.four;obtain⟨g0,g1,g2,g3⟩:=K4.thaw;have KF:Cl ((((w1.setCell ⟨p+1,0,none⟩ (.bool true)).setCell ⟨p+1,1,none⟩ (.slice av n.es.length cv)).setCell ⟨p+1,2,none⟩ (.slice bv n.ks.length dv)).setCell ⟨p+1,3,none⟩ (.slice gv n.ss.length hv)) (p+1) #[.bool true,.slice av n.es.length cv,.slice bv n.ks.length dv,.slice gv n.ss.length hv] 170:=K4.fk _ _ _ _;have BF:Hid (Below p w ((((w1.setCell ⟨p+1,0,none⟩ (.bool true)).setCell ⟨p+1,1,none⟩ (.slice av n.es.length cv)).setCell ⟨p+1,2,none⟩ (.slice bv n.ks.length dv)).setCell ⟨p+1,3,none⟩ (.slice gv n.ss.length hv))):=dg (BW.out.trans (B1.mono (by omega))) (by omega);have OF:Hid (kT p ((((w1.setCell ⟨p+1,0,none⟩ (.bool true)).setCell ⟨p+1,1,none⟩ (.slice av n.es.length cv)).setCell ⟨p+1,2,none⟩ (.slice bv n.ks.length dv)).setCell ⟨p+1,3,none⟩ (.slice gv n.ss.length hv)) (.slice av n.es.length cv) (.slice bv n.ks.length dv) (.slice gv n.ss.length hv) n):=⟨aH (bF O1.e l1) (by omega),aH (bF O1.k l1) (by omega),aH (bF O1.s l1) (by omega)⟩;clear C B1 O1 K3 K4 c0 c1 c2 c3;go_wp2
 (try simp only[Exit.inBlock,Exit.then])
 generalize World.setCell _ _ _=X at*;obtain⟨k0,k1,k2,k3⟩:=KF.four;refine bodyPost_ret (v:=.agg #[.bool true,.slice av n.es.length cv,.slice bv n.ks.length dv,.slice gv n.ss.length hv]) ?_ rfl ⟨_,_,_,by rw[HL.out],by rw[HP.out];exact OF.out,by rw[HP.out];exact BF.out⟩;rw[bC rfl];go_simp
theorem Gn (n:Nd)(fr tr:Int)(kk:List Int)(yy:List ByteArray)(ve vk vs vo vy:Value)(w:World)(h1:iw w ve vk vs n)(hm1:yz n)(hkk:Row encI 1 w vo kk)(k7:Row encS 1 w vy yy)(hkl:kk.length<=1000)(hyl:yy.length<=1000):
  Calls Tryz.prog 122 #[.agg #[.bool n.leaf,ve,vk,vs],.int .i64 fr,.int .i64 tr,vo,vy] w (FT w (gG n fr tr kk yy)):=by
 by_cases q1:fr<0
 ·have e:gG n fr tr kk yy=n:=by unfold gG swB;rw[decide_eq_false (show¬0<=fr by omega)];rfl
  rw[e];exact xR.1 n fr tr kk yy ve vk vs vo vy w h1 hm1 hkk k7 _ rfl hkl q1
 ·by_cases q2:(n.ks.length:Int)<tr
  ·have e:gG n fr tr kk yy=n:=by unfold gG swB;rw[decide_eq_false (show¬tr<=n.ks.length by omega)];simp
   rw[e];exact xR.2.1 n fr tr kk yy ve vk vs vo vy w h1 hm1 hkk k7 _ rfl hkl q1 q2
  ·by_cases q3:tr<=fr
   ·have e:gG n fr tr kk yy=n:=by unfold gG swB;rw[decide_eq_false (show¬fr<tr by omega)];simp
    rw[e];exact xR.2.2.1 n fr tr kk yy ve vk vs vo vy w h1 hm1 hkk k7 _ rfl hkl q1 q2 q3
   ·by_cases q4:(yy.length:Int)=max ((kk.length:Int)-1) 0
    ·cases hl:n.leaf with
     |true=>
      have e:gG n fr tr kk yy=n:=by unfold gG swB;rw[hl];simp
      rw[e,<-hl];exact OZ n fr tr kk yy ve vk vs vo vy w h1 hm1 hkk k7 hl hkl q1 q2 q3 (by rw[bne_eq_false_iff_eq];exact q4)
     |false=>
      have hb:swB n fr tr kk yy=true:=by
       unfold swB;rw[decide_eq_true (show 0<=fr by omega),decide_eq_true (show tr<=n.ks.length by omega),decide_eq_true (show fr<tr by omega),decide_eq_true q4,hl];rfl
      obtain⟨f,rfl⟩:∃f:Nat,fr=f:=⟨fr.toNat,by omega⟩;obtain⟨t,rfl⟩:∃t:Nat,tr=t:=⟨tr.toNat,by omega⟩;have e:gG n f t kk yy=⟨false,n.es,iJ n.ks f t kk,iJ n.ss (vB f kk) (vC f t kk) yy⟩:=by
       unfold gG;rw[if_pos hb];simp
      rw[e];obtain⟨lf,es,ks,ss⟩:=n;obtain⟨he,hk,hss⟩:=h1;obtain⟨s1,s2,s3⟩:=hm1;simp only at he hk hss s1 s2 s3 hl q2⊢;have hft:f<t:=by omega
      have htk:t<=ks.length:=by omega
      unfold vB vC;by_cases g:0<kk.length
      ·rw[if_pos g,if_pos g];exact Cp.1 es ks kk ss yy f t ve vk vs vo vy w he hk hss hkk k7 s1 s2 s3 hkl hyl hft htk q4 (t-1) g rfl
      ·have g':kk.length=0:=by omega
       rw[if_neg g,if_neg g];by_cases g2:0<f
       ·rw[if_pos g2];exact Cp.2.1 es ks kk ss yy f t ve vk vs vo vy w he hk hss hkk k7 s1 s2 s3 hkl hyl hft htk q4 (f-1) (t-1) g' g2 rfl rfl
       ·rw[if_neg g2];have g3:f=0:=by omega
        rw[show f-1=f by omega];exact Cp.2.2 es ks kk ss yy f t ve vk vs vo vy w he hk hss hkk k7 s1 s2 s3 hkl hyl hft htk q4 g' g3
    ·have e:gG n fr tr kk yy=n:=by unfold gG swB;rw[decide_eq_false q4];simp
     rw[e];exact xR.2.2.2 n fr tr kk yy ve vk vs vo vy w h1 hm1 hkk k7 _ rfl hkl q1 q2 q3 (by rw[bne_iff_ne];exact q4)
end
end N
section
open N (Nd nd0 cF dF dZ jo gG sA sB sM dD ov kX uR Sm)
section
variable {B:Nat}{w0 w w':World}{l:List aM}{P:List NV}{C:Cx}{S:Dr}{d d1:Dk}{p pa pb:NV}
theorem DL.add (h:Sep B w0 w (DL C S d P l))(hb:Below w.heap.size w w')(hp:p.W w.heap.size w'):Sep B w0 w' (DL C S d (p::P) l):=
 Sep.pb [_,_,_,_] (Sep.xO (Sep.pk [_,_,_,_] (Sep.pN h hb hp)) fun x hx=>List.mem_cons_of_mem _ hx)
theorem DL.ZL (h:Sep B w0 w (DL C S d P l))(hb:Below w.heap.size w w')(hp:pa.W w.heap.size w')(hq:pb.W w.heap.size w'):Sep B w0 w' (DL C S d (pa::pb::P) l):=by
 obtain⟨hB,hbe,Y,⟨g,X,Z,hr,hl,hdj,hy⟩,hY⟩:=Sep.pk [_,_,_] h;have hl':=hl.kept hb.size (fun k hk=>hb.block k (hl.lt k hk));have k1:Sep B w0 w' (Pl (pa::pb::P)::([Tx C.t C.f S.x,File C.f C.b d,nM C]++Tp C S P::l)):=by
  refine⟨Nat.le_trans hB hb.size,hbe.trans (hb.mono hB),fun k=>(X k∨(w.heap.size<=k∧k<w'.heap.size))∨Z k,⟨xN _,fun k=>X k∨(w.heap.size<=k∧k<w'.heap.size),Z,⟨fun k hk=>?_,fun w2 h2 hs2 q hq'=>?_⟩,hl',fun k hk hz=>?_,fun _=>Iff.rfl⟩,fun k hk=>?_⟩
  ·rcases hk with hk|hk
   ·exact Nat.lt_of_lt_of_le (hr.1 k hk) hb.size
   ·exact hk.2
  ·rcases List.mem_cons.1 hq' with rfl|hq'
   ·exact hp.kept (fun k h1 h3=>h2 k (.inr ⟨h1,h3⟩)) hs2
   ·rcases List.mem_cons.1 hq' with rfl|hq'
    ·exact hq.kept (fun k h1 h3=>h2 k (.inr ⟨h1,h3⟩)) hs2
    ·exact hr.2 w2 (fun k hk=>(h2 k (.inl hk)).trans (hb.block k (hr.1 k hk))) (Nat.le_trans hb.size hs2) q hq'
  ·rcases hk with hk|hk
   ·exact hdj k hk hz
   ·have:=hl.lt k hz;omega
  ·rcases hk with(hk|hk)|hk
   ·exact hY k ((hy k).2 (.inl hk))
   ·exact Nat.le_trans hB hk.1
   ·exact hY k ((hy k).2 (.inr hk))
 exact Sep.pb [_,_,_,_] (Sep.xO (Sep.pk [_,_,_,_] (Sep.pb [_,_,_] k1)) fun x hx=>List.mem_cons_of_mem _ (List.mem_cons_of_mem _ hx))
theorem DL.nd (h:Sep B w0 w (DL C S d P l))(hp:p∈P):p.R w:=Sep.pool (Sep.pk [_,_,_] h) p hp
theorem Cq (h:Sep B w0 w (DL C S d P l))(hp:p∈P)(hs:Sm p.n):Calls Tryz.prog 123 #[.agg (cN p)] w fun e w'=>e=.returned (.int .i64 (dZ p.n))∧Sep B w0 w' (DL C S d P l):=
 (N.kW p.n _ _ _ w (DL.nd h hp) hs).mono fun _ _ ⟨h1,h2⟩=>⟨h1,h.below h2⟩
theorem tL (h:Sep B w0 w (DL C S d P l))(hp:p∈P)(hs:Sm p.n):Calls Tryz.prog 146 #[.agg (cN p)] w fun e w'=>e=.returned (.bool (cF p.n))∧Sep B w0 w' (DL C S d P l):=
 (N.Ju p.n _ _ _ w (DL.nd h hp) hs).mono fun _ _ ⟨h1,h2⟩=>⟨h1,h.below h2⟩
theorem q9 (h:Sep B w0 w (DL C S d P l))(hp:p∈P)(hs:Sm p.n):Calls Tryz.prog 130 #[.agg (cN p)] w fun e w'=>e=.returned (.bool (dF p.n))∧Sep B w0 w' (DL C S d P l):=
 (N.eO p.n _ _ _ w (DL.nd h hp) hs).mono fun _ _ ⟨h1,h2⟩=>⟨h1,h.below h2⟩
theorem O0 (h:Sep B w0 w (DL C S d P l))(hp:p∈P)(hs:Sm p.n)(key:ByteArray):Calls Tryz.prog 103 #[.agg (cN p),.string key] w fun e w'=>e=.returned (.int .i64 (dD p.n.ss key))∧Sep B w0 w' (DL C S d P l):=
 (N.oU p.n key _ _ _ w (DL.nd h hp) hs).mono fun _ _ ⟨h1,h2⟩=>⟨h1,h.below h2⟩
def GM (B:Nat)(w0:World)(C:Cx)(S:Dr)(d:Dk)(P:List NV)(l:List aM)(n:Nd)(e:Ending)(w':World):Prop:=
 ∃p,p.n=n∧e=.returned (.agg (cN p))∧Sep B w0 w' (DL C S d (p::P) l)
theorem QC {n:Nd}{e:Ending}(h:Sep B w0 w (DL C S d P l))(hg:N.FT w n e w'):GM B w0 C S d P l n e w':=by
 obtain⟨ve,vk,vs,h1,h2,h3⟩:=hg;obtain⟨p,p1,p2,p3⟩:=NV.of h2.w;exact⟨p,p1,by rw[h1,p2];rfl,DL.add h h3 p3⟩
theorem O8 (h:Sep B w0 w (DL C S d P l))(ha:pa∈P)(hb:pb∈P)(hsa:Sm pa.n)(hsb:Sm pb.n)(key:ByteArray):Calls Tryz.prog 189 #[.agg (cN pa),.string key,.agg (cN pb)] w (GM B w0 C S d P l (jo pa.n key pb.n)):=
 (N.FU key pa.n pb.n _ _ _ _ _ _ w (DL.nd h ha) (DL.nd h hb) hsa.l hsb.l).mono fun _ _ hg=>QC h hg
theorem rf (h:Sep B w0 w (DL C S d P l))(hp:p∈P)(hs:Sm p.n)(fr tr:Int)(kk:List Int)(yy:List ByteArray)(vo vy:Value)(hkk:Row N.encI 1 w vo kk)(k7:Row N.encS 1 w vy yy)(hkl:kk.length<=1000)(hyl:yy.length<=1000):Calls Tryz.prog 122 #[.agg (cN p),.int .i64 fr,.int .i64 tr,vo,vy] w (GM B w0 C S d P l (gG p.n fr tr kk yy)):=
 (N.Gn p.n fr tr kk yy _ _ _ vo vy w (DL.nd h hp) hs.l hkk k7 hkl hyl).mono fun _ _ hg=>QC h hg
theorem Kn (h:Sep B w0 w (DL C S d P l))(hp:p∈P)(hs:Sm p.n):Calls Tryz.prog 147 #[.agg (cN p)] w fun e w'=>∃pa pb,pa.n=sA p.n∧pb.n=sB p.n∧e=.returned (.tuple #[.agg (cN pa),.string (sM p.n),.agg (cN pb)])∧Sep B w0 w' (DL C S d (pa::pb::P) l):=by
 refine(N.F4 p.n _ _ _ w (DL.nd h hp) hs).mono fun e w' hg=>?_;obtain⟨ve,vk,vs,ue,uk,us,h1,h2,h2',h3⟩:=hg;obtain⟨pa,p1,p2,p3⟩:=NV.of h2.w;obtain⟨pb,r1,r2,r3⟩:=NV.of h2'.w;refine⟨pa,pb,p1,r1,by rw[h1,p2,r2];rfl,?_⟩;exact DL.ZL h h3 p3 r3
theorem xS {id depth:Int}(T:bW B w0)(hd:bH d d1)(h:Sep B w0 w (DL C S d1 P l))(hk:Wf id)(I:DI S d.room)(hr:d.room<=16384):
  Calls Tryz.prog 118 #[ptr C.q,.int .i64 id,.int .i64 depth] w (GD B w0 C S d P l (S.read d id depth).1 (S.read d id depth).2):=by
 have:=qZ (depth:=depth) T h hk (by rw[hd.room];exact I.ok) (by rw[hd.room];exact hr) I.sz;rw[hd.read]at this;exact this.mono fun e w' ⟨p,P',d',h1,h2,h3,h4,h5,h6⟩=>⟨p,P',d',h1,h2,h3,h4,hd.trans h5,h6⟩
theorem Ko {S':Dr}{id k er:Int}(hd:bH d d1)(h:Sep B w0 w (DL C S d1 P l))(hk:Wf id)(I:DI S d.room)(hr:d.room<=16384)(hp:p∈P)(he:S.put d.room id p.n=some ((k,er),S')):Calls Tryz.prog 121 #[ptr C.q,.int .i64 id,.agg (cN p)] w fun e w'=>e=.returned (.tuple #[.int .i64 k,.int .i64 er])∧Sep B w0 w' (DL C S' d1 P l):=
 Kf h hk (by rw[hd.room];exact I.ok) (by rw[hd.room];exact hr) hp (by rw[hd.room];exact he)
theorem Gp {S':Dr}{a b k er:Int}(hd:bH d d1)(h:Sep B w0 w (DL C S d1 P l))(ha:Wf a)(hb:Wf b)(I:DI S d.room)(hr:d.room<=16384)(hp:p∈P)(he:S.fY d.room a b p.n=some ((k,er),S')):Calls Tryz.prog 190 #[ptr C.q,.int .i64 a,.int .i64 b,.agg (cN p)] w fun e w'=>e=.returned (.tuple #[.int .i64 k,.int .i64 er])∧Sep B w0 w' (DL C S' d1 P l):=
 Gl h ha hb (by rw[hd.room];exact I.ok) (by rw[hd.room];exact hr) hp (by rw[hd.room];exact he)
def Am (S:Dr)(d:Dk)(n:Nd)(depth:Int)(i:Nat):Nd×Nd×Int:=
 if(S.read d (n.ks.getD i 0) (depth+1)).2≠0 then(nd0,nd0,(S.read d (n.ks.getD i 0) (depth+1)).2)else((S.read d (n.ks.getD i 0) (depth+1)).1,(S.read d (n.ks.getD (i+1) 0) (depth+1)).1,(S.read d (n.ks.getD (i+1) 0) (depth+1)).2)
theorem Ts {depth:Int}{i:Nat}(T:bW B w0)(hd:bH d d1)(h:Sep B w0 w (DL C S d1 P l))(hp:p∈P)(hi:i+1<p.n.ks.length)(hl:p.n.ks.length<=500)(hk:∀k∈p.n.ks,Wf k)(I:DI S d.room)(hr:d.room<=16384)(hd0:-1<=depth)(hd1:depth<=1000000):
  Calls Tryz.prog 188 #[ptr C.q,.agg (cN p),.int .i64 depth,.int .i64 (i:Int)] w fun e w'=>∃pa pb P' d',pa.n=(Am S d p.n depth i).1∧pb.n=(Am S d p.n depth i).2.1∧pa∈P'∧pb∈P'∧(∀x∈P,x∈P')∧e=.returned (.tuple #[.agg (cN pa),.agg (cN pb),.int .i64 (Am S d p.n depth i).2.2])∧bH d d'∧Sep B w0 w' (DL C S d' P' l):=by
 obtain⟨ae,ce,ak,ck,az,cz,n⟩:=p;unfold Am;by_cases h0:(S.read d (n.ks.getD i 0) (depth+1)).2≠0
 ·rw[if_pos h0];have:=Ki (depth:=depth) (i:=i) T h hp hi hl hk (by rw[hd.room];exact I.ok) (by rw[hd.room];exact hr) I.sz hd0 hd1 (by rw[hd.read];exact h0);rw[hd.read]at this;exact this.mono fun e w' ⟨pa,pb,P',d',h1,h1',h2,h2',h3,h4,h5,h6⟩=>⟨pa,pb,P',d',h1,h1',h2,h2',h3,h4,hd.trans h5,h6⟩
 ·rw[if_neg h0];have:=OS (depth:=depth) (i:=i) T h hp hi hl hk (by rw[hd.room];exact I.ok) (by rw[hd.room];exact hr) I.sz hd0 hd1 (by rw[hd.read];simpa using h0);rw[hd.read,hd.read]at this;exact this.mono fun e w' ⟨pa,pb,P',d',h1,h1',h2,h2',h3,h4,h5,h6⟩=>⟨pa,pb,P',d',h1,h1',h2,h2',h3,h4,hd.trans h5,h6⟩
end
end
section
open N (Nd nd0 cF dF dZ jo gG Sm bc hidR ar ai Ch aP ah waits)
theorem bP {fn:Func}{p q r:Tmp}{ty:TypeId}(h:fn.results=#[.cell p ty,.tmp q,.tmp r])(tmps:Array Value)(P:Program)(w:World):
  (results fn tmps).run P w=((asAddr (tmps.getD p undef)).run P w).andThen fun a w₁=>((loadVar ty a).run P w₁).andThen fun x w₂=>.ok (.tuple #[x,tmps.getD q undef,tmps.getD r undef]) w₂:=by
 simp only[results,h];simp[Sem.run_bind,Result.andThen]
theorem NV.key {p:NV}{w:World}(h:p.R w){i:Nat}(hi:i<p.n.ss.length):∃r o,p.az=some ⟨r,o,none⟩∧r<w.heap.size∧w.cell? ⟨r,o+i,none⟩=some (.string (p.n.ss.getD i ⟨#[]⟩)):=by
 obtain⟨ao,cap,e,h1,h2,h3⟩:=h.s;have hne:p.n.ss≠[]:=fun e=>by rw[e]at hi;simp at hi
 obtain⟨b,off,e2,hb,hc⟩:=h3 hne;injection e with e1 _ _;refine⟨b,off,e1.trans e2,hb,?_⟩;rw[hc i (by simpa using hi)];have hs:i<p.n.ss.toArray.size*1:=by simpa using hi
 rw[get_flatK _ _ _ _ hs,Nat.div_one,Nat.mod_one];simp[N.encS,List.getD_eq_getElem?_getD,hi]
def GJ (B:Nat)(w0:World)(C:Cx)(S':Dr)(d:Dk)(P:List NV)(l:List aM)(n:Nd)(j:Bool)(er:Int)(e:Ending)(w':World):Prop:=
 ∃p P' d',p.n=n∧p∈P'∧(∀x∈P,x∈P')∧e=.returned (.tuple #[p.v,.bool j,.int .i64 er])∧bH d d'∧Sep B w0 w' (DL C S' d' P' l)
theorem Ao:∀ {ss:List ByteArray} {k:Nat},k<ss.length->(ss.getD k ⟨#[]⟩).size<=N.bV ss
 |[],k,h=>by simp at h
 |x::ss,0,h=>by
  have:N.bV (x::ss)=5+x.size+N.bV ss:=rfl;rw[this];simp;omega
 |x::ss,k+1,h=>by
  have:N.bV (x::ss)=5+x.size+N.bV ss:=rfl;rw[this];have ih:=Ao (ss:=ss) (k:=k) (by simpa using h);simp at ih⊢;omega
theorem Ap {n:Nd}(h:cF n=true):n.es.length<=120∧n.ks.length<=49∧n.ss.length<=48∧N.cY n.es<=240∧N.bV n.ss<=240:=by
 unfold cF at h;simp only[Bool.and_eq_true,decide_eq_true_eq]at h;have a:=N.kY n.es;have b:=N.kZ n.ss;obtain⟨h1,h2⟩:=h;unfold dZ at h2;cases hl:n.leaf
 ·rw[hl,if_neg (by simp)]at h2;obtain⟨e1,e2,e3,_⟩:=(N.fK hl).1 h1;have z:N.cY n.es=0:=by rw[e1];rfl
  have z2:n.es.length=0:=by rw[e1];rfl
  omega
 ·rw[hl,if_pos rfl]at h2;obtain⟨e1,e2,_⟩:=(N.fX hl).1 h1;have z:N.bV n.ss=0:=by rw[e2];rfl
  have z2:n.ss.length=0:=by rw[e2];rfl
  have z3:n.ks.length=0:=by rw[e1];rfl
  omega
theorem Tt {a b:Nd}{key:ByteArray}(ha:cF a=true)(hb:cF b=true)(hk:key.size<=100000):Sm (jo a key b):=by
 obtain⟨a1,a2,a3,a4,a5⟩:=Ap ha;obtain⟨b1,b2,b3,b4,b5⟩:=Ap hb;unfold jo;split
 ·refine⟨?_,?_,?_,?_,?_⟩
  ·simp only[List.length_append];omega
  ·simp only[List.length_append];omega
  ·simp only[List.length_append];split<;>simp<;>omega
  ·simp only[N.mV];omega
  ·simp only[N.dL];split
   ·simp[N.bV];omega
   ·have:N.bV [key]=5+key.size+N.bV []:=rfl;rw[this];simp[N.bV];omega
 ·exact(gI ha).1
def aW (B:Nat)(w0:World)(C:Cx)(d:Dk)(Nb:Int)(rec:qV):Prop:=
 ∀ {w:World} {S S':Dr} {d1:Dk} {P:List NV} {l:List aM} {p:NV} {depth i tt:Int} {m:Nd} {e:Int},Sep B w0 w (DL C S d1 P l)->bH d d1->p∈P->cB p.n=true->DI S d.room->-1<=depth->depth<=Nb->-2<=i->i<=1000->-2<=tt->tt<=1000->rec S p.n depth i tt=some ((m,e),S')->
  Calls Tryz.prog 124 #[ptr C.q,.agg (cN p),.int .i64 depth,.int .i64 i,.int .i64 tt] w (GD B w0 C S' d P l m e)
def JB (B:Nat)(w0:World)(C:Cx)(S:Dr)(d:Dk)(P:List NV)(L:List aM)(nn:Nd)(f7 f8:Bool)(uF yB:Value)(w:World):Prop:=
 ∃P' bl,(∀x∈P,x∈P')∧Sep B w0 w (DL C S d P' (bl++L))∧(f7=true->∃p∈P',p.n=nn∧yB=.agg (cN p))∧(f8=true->∃qq,uF=.pointer (some ⟨qq,0,none⟩)∧bl=[aF qq (.cells cZ 170)])∧(f8=false->bl=[])
theorem JB.sep {B:Nat}{w0:World}{C:Cx}{S:Dr}{d:Dk}{P:List NV}{L:List aM}{nn:Nd}{f7 f8:Bool}{uF yB:Value}{w:World}(h:JB B w0 C S d P L nn f7 f8 uF yB w):∃P',(∀x∈P,x∈P')∧Sep B w0 w (DL C S d P' L):=by
 obtain⟨P',bl,h1,h2,_,h4,h5⟩:=h;cases f8 with
 |true=>
  obtain⟨qq,_,rfl⟩:=h4 rfl;exact⟨P',h1,Sep.drop (Sep.dS h2)⟩
 |false=>
  obtain rfl:=h5 rfl;exact⟨P',h1,h2⟩
def JC (B:Nat)(w0:World)(C:Cx)(S1 S2:Dr)(d:Dk)(P:List NV)(L:List aM)(f:Bool)(w:World):Prop:=
 (f=false->Sep B w0 w (DL C S1 d P L))∧(f=true->Sep B w0 w (DL C S2 d P L))
theorem JC.sep {B:Nat}{w0:World}{C:Cx}{S1 S2:Dr}{d:Dk}{P:List NV}{L:List aM}{f:Bool}{w:World}(h:JC B w0 C S1 S2 d P L f w):∃S,Sep B w0 w (DL C S d P L):=by
 cases f with
 |false=>exact⟨S1,h.1 rfl⟩
 |true=>exact⟨S2,h.2 rfl⟩
def J9 (B:Nat)(w0:World)(CC:Cx)(S:Dr)(d:Dk)(P:List NV)(L:List aM)(nn:Nd)(q0 q3 q4 k zr zo nz cz:Nat)(key:ByteArray)(VA VB:Value){y0 y1 y2 y3 y5 y7 y8 y9 xC tF tG y13 uK xD xE y20 y21 y22 y23 y24 y25 zV y27 y28 y29 zW y31 y32 xI y34 uO uP xJ y38 y39 zX zY zZ z6 FV FW FX FY FZ F3 BM BN BO BP BQ BR Oc Od Oe Og Oh Oi Oj Ol Om Oo Oq Ot SX SY Ta V9 Wa Wb Wc Wd We Wh Tb Tc Td N5 y90 y91 N6 y93 Jy y95 y96 WH y98 y99 Tu y101 y102 Tv y104 Tw Ty Tz ZM ZN ZO ZP y112 y113 y114 y115 TA TC TE TF:Value}(C:List Bool->Act->Prop)(w:World):Prop:=∀{f0 f1 f2 f3 f4 f5 f6 f7 f8 f9:Bool}{uF OT OU OV Kl OW OY D6 yB:Value},f9=false->JB B w0 CC S d P L nn f7 f8 uF yB w->Hid (f0=true->OT=VA)->Hid (f1=true->OU=.pointer (some ⟨q0,3,none⟩))->Hid (f2=true->OV=.slice (some ⟨zr,zo,none⟩) nz cz)->Hid (f3=true->Kl=.int .i64 (k:Int))->Hid (f4=true->OW=.pointer (some ⟨zr,zo+k,none⟩))->Hid (f5=true->OY=.string key)->Hid (f6=true->D6=VB)->Hid (f7=true->True)->Hid (f8=true->True)->C [f0,f1,f2,f3,f4,f5,f6,f7,f8,f9] {tmps:=#[y0,y1,y2,y3,.int .i64 (k:Int),y5,.pointer (some ⟨q0,0,none⟩),y7,y8,y9,xC,tF,tG,y13,uK,.pointer (some ⟨q3,0,none⟩),.pointer (some ⟨q4,0,none⟩),uF,xD,xE,y20,y21,y22,y23,y24,y25,zV,y27,y28,y29,zW,y31,y32,xI,y34,uO,uP,xJ,y38,y39,zX,zY,zZ,z6,FV,FW,FX,FY,FZ,F3,BM,BN,BO,BP,BQ,BR,OT,OU,OV,Kl,OW,OY,D6,yB,Oc,Od,Oe,Og,Oh,Oi,Oj,Ol,Om,Oo,Oq,Ot,SX,SY,Ta,V9,Wa,Wb,Wc,Wd,We,Wh,Tb,Tc,Td,N5,y90,y91,N6,y93,Jy,y95,y96,WH,y98,y99,Tu,y101,y102,Tv,y104,Tw,Ty,Tz,ZM,ZN,ZO,ZP,y112,y113,y114,y115,TA,TC,TE,TF],defers:=[]}
def J15 (B:Nat)(w0:World)(CC:Cx)(S1 S2:Dr)(d:Dk)(P:List NV)(L:List aM)(q0 q5 k r ro Ve ck:Nat)(ka kb:Int)(pg e2:Int)(VM WI:Value){y1 y2 y3 y5 y7 y8 y9 xC tF tG y13 qi qj xE y20 y21 y22 y23 y24 y25 zV y27 y28 y29 zW y31 y32 xI y34 uO uP xJ y38 y39 zX zY zZ z6 FV FW FX FY FZ F3 BM BN BO BP BQ BR Jx NT NU NY NZ N0 Te Tf Oc Od Oe Og Oh Oi Oj Ol Om Oo Oq Ot SX SY Ta V9 Wa Wb Wc Wd We Wh Tb Tc Td N5 y90 y91 N6 y93 Jy y112 y113 y114 y115 TA TC TE TF:Value}(C:List Bool->Act->Prop)(w:World):Prop:=∀{f0 f1 f2 f3 f4 f5 f6 f7 f8 f9 f10 f11 f12 f13 f14 f15 f16 f17 f18:Bool}{uE zS x95 x96 Ye x98 x99 x100 x101 x102 x103 x104 x105 O9 x107 Pa Pb Pf Pg:Value},f18=false->JC B w0 CC S1 S2 d P L f13 w->Hid (f0=true->x96=ptr CC.q)->Hid (f1=true->Ye=.pointer (some ⟨q0,2,none⟩))->Hid (f2=true->x98=.slice (some ⟨r,ro,none⟩) Ve ck)->Hid (f3=true->x99=.int .i64 (k:Int))->Hid (f4=true->x100=.pointer (some ⟨r,ro+k,none⟩))->Hid (f5=true->x101=.int .i64 ka)->Hid (f6=true->x102=.pointer (some ⟨q0,2,none⟩))->Hid (f7=true->x103=.slice (some ⟨r,ro,none⟩) Ve ck)->Hid (f8=true->x104=.int .i64 (k:Int))->Hid (f9=true->x105=.int .i64 ((k+1:Nat):Int))->Hid (f10=true->O9=.pointer (some ⟨r,ro+(k+1),none⟩))->Hid (f11=true->x107=.int .i64 kb)->Hid (f12=true->Pa=VM)->Hid (f13=true->Pb=WI)->Hid (f14=true->x95=WI)->Hid (f15=true->Pf=.int .i64 pg)->Hid (f16=true->Pg=.int .i64 e2)->Hid (f17=true->zS=.int .i64 pg)->C [f0,f1,f2,f3,f4,f5,f6,f7,f8,f9,f10,f11,f12,f13,f14,f15,f16,f17,f18] {tmps:=#[ptr CC.q,y1,y2,y3,.int .i64 (k:Int),y5,.pointer (some ⟨q0,0,none⟩),y7,y8,y9,xC,tF,tG,y13,uE,qi,qj,.pointer (some ⟨q5,0,none⟩),zS,xE,y20,y21,y22,y23,y24,y25,zV,y27,y28,y29,zW,y31,y32,xI,y34,uO,uP,xJ,y38,y39,zX,zY,zZ,z6,FV,FW,FX,FY,FZ,F3,BM,BN,BO,BP,BQ,BR,Jx,NT,NU,NY,NZ,N0,Te,Tf,Oc,Od,Oe,Og,Oh,Oi,Oj,Ol,Om,Oo,Oq,Ot,SX,SY,Ta,V9,Wa,Wb,Wc,Wd,We,Wh,Tb,Tc,Td,N5,y90,y91,N6,y93,Jy,x95,x96,Ye,x98,x99,x100,x101,x102,x103,x104,x105,O9,x107,Pa,Pb,Pf,Pg,y112,y113,y114,y115,TA,TC,TE,TF],defers:=[]}
section
variable {B:Nat}{w0 w w':World}{l:List aM}{P:List NV}{C:Cx}{S S':Dr}{d d1:Dk}{depth:Int}{ae ak az:Option Addr}{ce ck cz:Nat}{n m:Nd}{j:Bool}{er Nb:Int}{rec:qV}
theorem Kp {i first:Int}(hd:bH d d1)(h:Sep B w0 w (DL C S d1 P l))(hp:(⟨ae,ce,ak,ck,az,cz,n⟩:NV)∈P)(hf:first<0):Calls Tryz.prog 157 #[ptr C.q,.agg #[.bool n.leaf,.slice ae n.es.length ce,.slice ak n.ks.length ck,.slice az n.ss.length cz],.int .i64 depth,.int .i64 i,.int .i64 first] w (GJ B w0 C S d P l n false 0):=by
 have SF:Hid (Sep B w0 ((w.alloc (.cells #[.bool n.leaf,.slice ae n.es.length ce,.slice ak n.ks.length ck,.slice az n.ss.length cz] 170)).alloc (.cells #[.bool n.leaf,.slice ae n.es.length ce,.slice ak n.ks.length ck,.slice az n.ss.length cz] 170)) (DL C S d1 P (aF w.heap.size (.cells #[.bool n.leaf,.slice ae n.es.length ce,.slice ak n.ks.length ck,.slice az n.ss.length cz] 170)::aF (w.heap.size+1) (.cells #[.bool n.leaf,.slice ae n.es.length ce,.slice ak n.ks.length ck,.slice az n.ss.length cz] 170)::l))):=Sep.oW (Sep.aZ (Sep.ur (h.aO _)) _ _ (by simp));have HP:Hid ((⟨ae,ce,ak,ck,az,cz,n⟩:NV)∈P):=hp;have HD:Hid (bH d d1):=hd;clear h hp hd;go_enter Tryz.func157,Tryz.ntmps157;go_wp2
 (try simp only[Exit.inBlock,Exit.then])
 generalize World.alloc _ _=vf at*;generalize w.heap.size+1=q1 at*;generalize w.heap.size=q0 at*;obtain⟨_,⟨c0,c1,c2,c3⟩,g0,g1,g2,g3⟩:=Sep.c4 (Sep.cX (SF.out));refine bodyPost_ret (v:=.tuple #[.agg #[.bool n.leaf,.slice ae n.es.length ce,.slice ak n.ks.length ck,.slice az n.ss.length cz],.bool false,.int .i64 0]) ?_ rfl ⟨_,P,d1,rfl,HP.out,fun _ h=>h,rfl,HD.out,Sep.drop (Sep.dS (Sep.drop (Sep.cX (SF.out))))⟩;rw[bP rfl];go_simp
theorem Kq {t k:Nat}(T:bW B w0)(hrec:aW B w0 C d Nb rec)(Eo:∀ {S S':Dr} {n:Nd} {depth i tt:Int} {r:Nd×Int},DI S d.room->rec S n depth i tt=some (r,S')->DI S' d.room)(hd:bH d d1)(h:Sep B w0 w (DL C S d1 P l))(hp:(⟨ae,ce,ak,ck,az,cz,n⟩:NV)∈P)(hsm:cB n=true)(I:DI S d.room)(hr:d.room<=16384)(hd0:-1<=depth)(hd1:depth<=100000)(hN:depth+1<=Nb)(ht:t<n.ks.length)(hk2:k+1<n.ks.length)(he:gq rec d.room d S n depth t k=some ((m,j,er),S')):
  Calls Tryz.prog 157 #[ptr C.q,.agg #[.bool n.leaf,.slice ae n.es.length ce,.slice ak n.ks.length ck,.slice az n.ss.length cz],.int .i64 depth,.int .i64 (t:Int),.int .i64 (k:Int)] w (GJ B w0 C S' d P l m j er):=by
 obtain⟨lF,hkl,hel,hsl,hks⟩:=fe hsm;obtain⟨r,ro,hak,_⟩:=NV.kid (p:=(⟨ae,ce,ak,ck,az,cz,n⟩:NV)) (DL.nd h hp) (i:=t) ht;simp only at hak;subst hak;have K1:Hid (∀u d' P' L,bH d d'->Sep B w0 u (DL C S d' P' L)->Calls Tryz.prog 118 #[ptr C.q,.int .i64 (n.ks.getD t 0),.int .i64 (depth+1)] u fun e w'=>∃pa P2 d2,pa.n=(S.read d (n.ks.getD t 0) (depth+1)).1∧pa∈P2∧(∀x∈P',x∈P2)∧e=.returned (.tuple #[.agg (cN pa),.int .i64 (S.read d (n.ks.getD t 0) (depth+1)).2])∧bH d d2∧Sep B w0 w' (DL C S d2 P2 L)):=fun u d' P' L hd hu=>xS T hd hu (hks _ (dR ht)) I hr;have K2:Hid (∀u d' P' L,bH d d'->Sep B w0 u (DL C S d' P' L)->(⟨ae,ce,some ⟨r,ro,none⟩,ck,az,cz,n⟩:NV)∈P'->Calls Tryz.prog 188 #[ptr C.q,.agg #[.bool n.leaf,.slice ae n.es.length ce,.slice (some ⟨r,ro,none⟩) n.ks.length ck,.slice az n.ss.length cz],.int .i64 depth,.int .i64 (k:Int)] u fun e w'=>∃pa pb P2 d2,pa.n=(Am S d n depth k).1∧pb.n=(Am S d n depth k).2.1∧pa∈P2∧pb∈P2∧(∀x∈P',x∈P2)∧e=.returned (.tuple #[.agg (cN pa),.agg (cN pb),.int .i64 (Am S d n depth k).2.2])∧bH d d2∧Sep B w0 w' (DL C S d2 P2 L)):=fun u d' P' L hd hu hp'=>Ts (p:=(⟨ae,ce,some ⟨r,ro,none⟩,ck,az,cz,n⟩:NV)) T hd hu hp' hk2 hkl hks I hr hd0 (by omega);have S1:Hid (Sep B w0 ((w.alloc (.cells #[.bool n.leaf,.slice ae n.es.length ce,.slice (some ⟨r,ro,none⟩) n.ks.length ck,.slice az n.ss.length cz] 170)).alloc (.cells cZ 170)) (DL C S d1 P (aF w.heap.size (.cells #[.bool n.leaf,.slice ae n.es.length ce,.slice (some ⟨r,ro,none⟩) n.ks.length ck,.slice az n.ss.length cz] 170)::aF (w.heap.size+1) (.cells cZ 170)::l))):=Sep.oW (Sep.aZ (Sep.ur (h.aO _)) _ _ (by simp));obtain⟨r',ro',hak,hrs,hrc⟩:=NV.kid (p:=(⟨ae,ce,some ⟨r,ro,none⟩,ck,az,cz,n⟩:NV)) (DL.nd S1.out hp) (i:=t) ht;cases hak;simp only at hrc;have w1:IntKind.i64.wrap (depth+1)=depth+1:=bM (by omega) (by omega);have hil:(t:Int)< (n.ks.length:Int):=by omega
 have HP:Hid ((⟨ae,ce,some ⟨r,ro,none⟩,ck,az,cz,n⟩:NV)∈P):=hp;have HD:Hid (bH d d1):=hd;have HI:Hid (DI S d.room):=I;have HE:Hid (gq rec d.room d S n depth t k=some ((m,j,er),S')):=he;have HR:Hid (aW B w0 C d Nb rec):=hrec;have HRI:Hid (∀(S S':Dr) (n:Nd) (depth i tt:Int) (r:Nd×Int),DI S d.room->rec S n depth i tt=some (r,S')->DI S' d.room):=fun _ _ _ _ _ _ _ h1 h2=>Eo h1 h2;have HN:Hid (depth+1<=Nb):=hN;have HX:Hid (d.room<=16384∧-1<=depth∧depth<=100000∧k+1<n.ks.length∧(∀k∈n.ks,Wf k)∧Sm n∧t<n.ks.length):=⟨hr,hd0,hd1,hk2,hks,lF,ht⟩;have kn0:¬(k:Int)<0:=by omega
 have ZQ:Hid (cB n=true):=hsm;unfold gq at HE;generalize xT:n.ks.getD t 0=kid at*;generalize hrd:S.read d kid (depth+1)=rd at*;obtain⟨nk,ek⟩:=rd;simp only[Int.toNat_natCast]at HE K1;rw[xT,hrd]at HE;simp only at HE;clear hN h hp hd I he hrec Eo hr hsm lF hks hd0 hd1 hk2 ht hel hsl;go_enter Tryz.func157,Tryz.ntmps157
 go_wp2_with fail
 clear hrs hrc;generalize World.alloc _ _=v1 at*;generalize w.heap.size+1=q1 at*;generalize w.heap.size=q0 at*;refine Calls.mono (K1.out _ _ _ _ HD.out S1.out) ?_;rintro e v2 ⟨pk,P1,d2,hn1,hm1,hs1,rfl,hd2,s2⟩;have D2:Hid (bH d d2):=hd2;have M1:Hid (∀x∈P,x∈P1):=hs1;have N1:Hid (pk.n=nk):=hn1;have MK:Hid (pk∈P1):=hm1;have S2:Hid (Sep B w0 v2 (DL C S d2 P1 (aF q0 (.cells #[.bool n.leaf,.slice ae n.es.length ce,.slice (some ⟨r,ro,none⟩) n.ks.length ck,.slice az n.ss.length cz] 170)::aF q1 (.cells cZ 170)::l))):=s2;clear s2 hd2 hs1 hn1 hm1 S1 K1 HD;by_cases e0:ek≠0
 ·rw[if_neg (by omega),if_pos e0]at HE;obtain⟨hm,hj,hr',hS⟩:n=m∧false=j∧ek=er∧S=S':=by
   have:=Option.some.inj HE.out;cases this;exact⟨rfl,rfl,rfl,rfl⟩
  subst hm hj hr' hS;have hne:(ek != 0)=true:=bne_iff_ne.2 e0;clear HE e0;obtain⟨_,⟨c0,c1,c2,c3⟩,g0,g1,g2,g3⟩:=Sep.c4 (Sep.dS (S2.out));obtain⟨_,⟨i0,i1,i2,i3⟩,j0,j1,j2,j3⟩:=Sep.c4 (Sep.cX (S2.out));have Aq:q0≠q1:=Sep.ne (Sep.cX (Sep.cX (S2.out)));have n10:=Aq.symm;have SF:Hid (Sep B w0 (((((v2.setCell ⟨q1,0,none⟩ (.bool n.leaf)).setCell ⟨q1,1,none⟩ (.slice ae n.es.length ce)).setCell ⟨q1,2,none⟩ (.slice (some ⟨r,ro,none⟩) n.ks.length ck)).setCell ⟨q1,3,none⟩ (.slice az n.ss.length cz)).alloc (.cells (cN pk) 170)) _):=Sep.alloc (Sep.oW (Sep.s4 (Sep.cX (S2.out)) _ _ _ _)) _;clear S2;go_wp2
  (try simp only[Exit.inBlock,Exit.then])
  generalize World.setCell _ _ _=vf at*;clear c0 c1 c2 c3 g0 g1 g2 g3 i0 i1 i2 i3 j0 j1 j2 j3;obtain⟨_,⟨c0,c1,c2,c3⟩,g0,g1,g2,g3⟩:=Sep.c4 (Sep.cX (SF.out));refine bodyPost_ret (v:=.tuple #[.agg #[.bool n.leaf,.slice ae n.es.length ce,.slice (some ⟨r,ro,none⟩) n.ks.length ck,.slice az n.ss.length cz],.bool false,.int .i64 ek]) ?_ rfl ⟨_,P1,d2,rfl,M1.out _ HP.out,fun x hx=>M1.out x hx,rfl,D2.out,Sep.drop (Sep.dS (Sep.drop (Sep.cX (SF.out))))⟩;rw[bP rfl];go_simp
 ·have e1:ek=0:=by simpa using e0
  subst e1;rw[if_neg (by omega),if_neg (by simp)]at HE;have S3:Hid (Sep B w0 (v2.alloc (.cells (cN pk) 170)) _):=Sep.yD (Sep.aO S2.out _);have SMK:Hid (cF pk.n=true):=by
   show _=true;rw[N1.out];have:=HI.out.read (d:=d) (id:=kid) (depth:=depth+1) (by rw[hrd]);rw[hrd]at this;exact this
  clear S2;have hz0:((0:Int) != 0)=false:=rfl
  go_wp2_with fail
  generalize World.alloc _ _=v3 at*;generalize v2.heap.size=q2 at*;refine Calls.mono (Cq S3.out MK.out (gI SMK.out).1) ?_;rintro e v4 ⟨rfl,s4⟩;have S4:Hid (Sep B w0 v4 (DL C S d2 P1 (aF q0 (.cells #[.bool n.leaf,.slice ae n.es.length ce,.slice (some ⟨r,ro,none⟩) n.ks.length ck,.slice az n.ss.length cz] 170)::aF q1 (.cells cZ 170)::aF q2 (.cells (cN pk) 170)::l))):=s4;clear s4 S3;by_cases e1:80<=dZ nk
  ·rw[if_pos e1]at HE;obtain⟨hm,hj,hr',hS⟩:n=m∧false=j∧0=er∧S=S':=by
    have:=Option.some.inj HE.out;cases this;exact⟨rfl,rfl,rfl,rfl⟩
   subst hm hj hr' hS;have hne:(80:Int)<=(dZ pk.n:Int):=by rw[N1.out];omega
   generalize(dZ pk.n:Int)=zz at*;clear HE e1;obtain⟨_,⟨c0,c1,c2,c3⟩,g0,g1,g2,g3⟩:=Sep.c4 (Sep.dS (S4.out));obtain⟨_,⟨i0,i1,i2,i3⟩,j0,j1,j2,j3⟩:=Sep.c4 (Sep.cX (S4.out));have Aq:q0≠q1:=Sep.ne (Sep.cX (Sep.cX (S4.out)));have n10:=Aq.symm;have SF:Hid (Sep B w0 ((((v4.setCell ⟨q1,0,none⟩ (.bool n.leaf)).setCell ⟨q1,1,none⟩ (.slice ae n.es.length ce)).setCell ⟨q1,2,none⟩ (.slice (some ⟨r,ro,none⟩) n.ks.length ck)).setCell ⟨q1,3,none⟩ (.slice az n.ss.length cz)) _):=Sep.oW (Sep.s4 (Sep.cX (S4.out)) _ _ _ _);clear S4;go_wp2
   (try simp only[Exit.inBlock,Exit.then])
   generalize World.setCell _ _ _=vf at*;clear c0 c1 c2 c3 g0 g1 g2 g3 i0 i1 i2 i3 j0 j1 j2 j3;obtain⟨_,⟨c0,c1,c2,c3⟩,g0,g1,g2,g3⟩:=Sep.c4 (Sep.cX (SF.out));refine bodyPost_ret (v:=.tuple #[.agg #[.bool n.leaf,.slice ae n.es.length ce,.slice (some ⟨r,ro,none⟩) n.ks.length ck,.slice az n.ss.length cz],.bool false,.int .i64 0]) ?_ rfl ⟨_,P1,d2,rfl,M1.out _ HP.out,fun x hx=>M1.out x hx,rfl,D2.out,Sep.drop (Sep.dS (Sep.drop (Sep.cX (Sep.drop (Sep.eH (SF.out))))))⟩;rw[bP rfl];go_simp
  ·rw[if_neg e1]at HE;have hne:¬(80:Int)<=(dZ pk.n:Int):=by rw[N1.out];omega
   generalize(dZ pk.n:Int)=zz at*;obtain⟨_,⟨c0,c1,c2,c3⟩,g0,g1,g2,g3⟩:=Sep.c4 (Sep.dS (S4.out));have ZR:Hid _:=M1.out _ HP.out;clear e1
   go_wp2_with fail
   clear c0 c1 c2 c3 g0 g1 g2 g3;refine Calls.mono (K2.out _ _ _ _ D2.out S4.out ZR.out) ?_;rintro e v5 ⟨pa,pb,P2,d3,hna,hnb,WJ,hmb,hs2,rfl,hd3,s5⟩;have D3:Hid (bH d d3):=hd3;have M2:Hid (∀x∈P1,x∈P2):=hs2;have NA:Hid (pa.n=(Am S d n depth k).1):=hna;have NB:Hid (pb.n=(Am S d n depth k).2.1):=hnb;have MA:Hid (pa∈P2):=WJ;have MB:Hid (pb∈P2):=hmb;have S5:Hid (Sep B w0 v5 (DL C S d3 P2 (aF q0 (.cells #[.bool n.leaf,.slice ae n.es.length ce,.slice (some ⟨r,ro,none⟩) n.ks.length ck,.slice az n.ss.length cz] 170)::aF q1 (.cells cZ 170)::aF q2 (.cells (cN pk) 170)::l))):=s5;clear s5 hd3 hs2 hna hnb WJ hmb S4 K2 D2;have D2:Hid (bH d d3):=D3.out;clear D3;by_cases e2:(Am S d n depth k).2.2≠0
   ·have AZ:Hid (n=m∧false=j∧(Am S d n depth k).2.2=er∧S=S'):=by
     have hE:=HE.out;unfold Am at e2⊢;by_cases ea:(S.read d (n.ks.getD k 0) (depth+1)).2≠0
     ·rw[if_pos ea]at hE e2⊢;cases hE;exact⟨rfl,rfl,rfl,rfl⟩
     ·rw[if_neg ea]at hE e2⊢;simp only at e2;rw[if_pos e2]at hE;cases hE;exact⟨rfl,rfl,rfl,rfl⟩
    have hne:((Am S d n depth k).2.2 != 0)=true:=bne_iff_ne.2 e2;clear HE e2 NA NB;generalize(Am S d n depth k).2.2=e3 at*;obtain⟨hm,hj,hr',hS⟩:=AZ.out;subst hm hj hr' hS;clear AZ;obtain⟨_,⟨c0,c1,c2,c3⟩,g0,g1,g2,g3⟩:=Sep.c4 (Sep.dS (S5.out));obtain⟨_,⟨i0,i1,i2,i3⟩,j0,j1,j2,j3⟩:=Sep.c4 (Sep.cX (S5.out));have Aq:q0≠q1:=Sep.ne (Sep.cX (Sep.cX (S5.out)));have n10:=Aq.symm;have SF:Hid (Sep B w0 ((((((v5.setCell ⟨q1,0,none⟩ (.bool n.leaf)).setCell ⟨q1,1,none⟩ (.slice ae n.es.length ce)).setCell ⟨q1,2,none⟩ (.slice (some ⟨r,ro,none⟩) n.ks.length ck)).setCell ⟨q1,3,none⟩ (.slice az n.ss.length cz)).alloc (.cells (cN pa) 170)).alloc (.cells (cN pb) 170)) (DL C S d3 P2 (aF q0 (.cells #[.bool n.leaf,.slice ae n.es.length ce,.slice (some ⟨r,ro,none⟩) n.ks.length ck,.slice az n.ss.length cz] 170)::aF q1 (.cells #[.bool n.leaf,.slice ae n.es.length ce,.slice (some ⟨r,ro,none⟩) n.ks.length ck,.slice az n.ss.length cz] 170)::aF q2 (.cells (cN pk) 170)::l))):=Sep.alloc (Sep.alloc (Sep.oW (Sep.s4 (Sep.cX (S5.out)) _ _ _ _)) _) _;clear S5;go_wp2
    (try simp only[Exit.inBlock,Exit.then])
    generalize(((((v5.setCell ⟨q1,0,none⟩ (.bool n.leaf)).setCell ⟨q1,1,none⟩ (.slice ae n.es.length ce)).setCell ⟨q1,2,none⟩ (.slice (some ⟨r,ro,none⟩) n.ks.length ck)).setCell ⟨q1,3,none⟩ (.slice az n.ss.length cz)).alloc (.cells (cN pa) 170)).alloc (.cells (cN pb) 170)=vf at*;clear c0 c1 c2 c3 g0 g1 g2 g3 i0 i1 i2 i3 j0 j1 j2 j3;obtain⟨_,⟨c0,c1,c2,c3⟩,g0,g1,g2,g3⟩:=Sep.c4 (Sep.cX (SF.out));refine bodyPost_ret (v:=.tuple #[.agg #[.bool n.leaf,.slice ae n.es.length ce,.slice (some ⟨r,ro,none⟩) n.ks.length ck,.slice az n.ss.length cz],.bool false,.int .i64 e3]) ?_ rfl ⟨_,P2,d3,rfl,M2.out _ (M1.out _ HP.out),fun x hx=>M2.out x (M1.out x hx),rfl,D2.out,Sep.drop (Sep.dS (Sep.drop (Sep.cX (Sep.drop (Sep.eH (SF.out))))))⟩;rw[bP rfl];go_simp
   ·obtain⟨ea,eb,ep⟩:(S.read d (n.ks.getD k 0) (depth+1)).2=0∧(S.read d (n.ks.getD (k+1) 0) (depth+1)).2=0∧Am S d n depth k=((S.read d (n.ks.getD k 0) (depth+1)).1,(S.read d (n.ks.getD (k+1) 0) (depth+1)).1,0):=by
     unfold Am at e2⊢;by_cases ea:(S.read d (n.ks.getD k 0) (depth+1)).2≠0
     ·rw[if_pos ea]at e2;exact absurd ea e2
     ·rw[if_neg ea]at e2⊢;simp only[Decidable.not_not]at e2 ea;exact⟨ea,e2,by rw[e2]⟩
    have FA:Hid (cF pa.n=true):=by
     show _=true;rw[NA.out,ep];exact HI.out.read ea
    have FB:Hid (cF pb.n=true):=by
     show _=true;rw[NB.out,ep];exact HI.out.read eb
    have Yf:Hid (Sm pa.n):=(gI FA.out).1;have SMB:Hid (Sm pb.n):=(gI FB.out).1;have QD:Hid (pa.n.ks.length<=500):=(fe (gI FA.out).2.1).2.1;rw[if_neg (by simpa using ea),if_neg (by simpa using eb)]at HE;by_cases hss:n.ss.length<=k
    ·rw[if_pos hss]at HE;have:=HE.out;cases this
    rw[if_neg hss]at HE;have hkz:k<n.ss.length:=by omega
    have aaw:(k:Int)< (n.ss.length:Int):=by omega
    have e20:((Am S d n depth k).2.2)=0:=by rw[ep]
    rw[e20];have na1:(S.read d (n.ks.getD k 0) (depth+1)).1=pa.n:=by rw[NA.out,ep]
    have nb1:(S.read d (n.ks.getD (k+1) 0) (depth+1)).1=pb.n:=by rw[NB.out,ep]
    rw[na1,nb1]at HE;clear na1 nb1 NA NB e2 ea eb ep e20 hss;obtain⟨zr,zo,haz,_⟩:=NV.key (p:=(⟨ae,ce,some ⟨r,ro,none⟩,ck,az,cz,n⟩:NV)) (DL.nd S5.out (M2.out _ ZR.out)) (i:=k) hkz;simp only at haz;subst haz;have MY:Hid ((⟨ae,ce,some ⟨r,ro,none⟩,ck,some ⟨zr,zo,none⟩,cz,n⟩:NV)∈P2):=M2.out _ ZR.out;have HKS:Hid ((n.ss.getD k ⟨#[]⟩).size<=100000):=by
     have h1:=Ao hkz;have h2:=ZQ.out;unfold cB at h2;simp only[Bool.and_eq_true,decide_eq_true_eq]at h2;exact Nat.le_trans h1 h2.1.2
    generalize Yg:n.ss.getD k ⟨#[]⟩=key at*;have HK9:Hid (n.ss.getD k ⟨#[]⟩=key):=Yg;clear Yg;have S6:Hid (Sep B w0 ((v5.alloc (.cells (cN pa) 170)).alloc (.cells (cN pb) 170)) (DL C S d3 P2 (aF q0 (.cells #[.bool n.leaf,.slice ae n.es.length ce,.slice (some ⟨r,ro,none⟩) n.ks.length ck,.slice (some ⟨zr,zo,none⟩) n.ss.length cz] 170)::aF q1 (.cells cZ 170)::aF q2 (.cells (cN pk) 170)::aF v5.heap.size (.cells (cN pa) 170)::aF (v5.heap.size+1) (.cells (cN pb) 170)::l))):=Sep.Yc (Sep.aZ (Sep.Mc (Sep.aO S5.out _)) _ _ (by simp));clear S5
    go_wp2_with fail
    generalize(v5.alloc (.cells (cN pa) 170)).alloc (.cells (cN pb) 170)=v6 at*;generalize v5.heap.size+1=q4 at*;generalize v5.heap.size=q3 at*;refine bc 9 (J9 B w0 C S d3 P2 (aF q0 (.cells #[.bool n.leaf,.slice ae n.es.length ce,.slice (some ⟨r,ro,none⟩) n.ks.length ck,.slice (some ⟨zr,zo,none⟩) n.ss.length cz] 170)::aF q1 (.cells cZ 170)::aF q2 (.cells (cN pk) 170)::aF q3 (.cells (cN pa) 170)::aF q4 (.cells (cN pb) 170)::l) (jo pa.n key pb.n) q0 q3 q4 k zr zo n.ss.length cz key (.agg (cN pa)) (.agg (cN pb))) (by kernel_rfl) (by kernel_rfl) (by kernel_rfl) (fun _ k=>k rfl ⟨P2,[],fun _ h=>h,S6.out.drew,(fun h=>by cases h),(fun h=>by cases h),fun _=>rfl⟩ ar ar ar ar ar ar ar ar ar) ?_ ?_ ?_
    ·intro i w' hne f0 f1 f2 f3 f4 f5 f6 f7 f8 f9 uF OT OU OV Kl OW OY D6 yB e9 hB h0 h1 h2 h3 h4 h5 h6 h7 h8 hi;obtain⟨hlt,hun,_⟩:=aP hi;have hlt':i<10:=hlt;clear hlt;rcases(by omega:i=0∨i=1∨i=2∨i=3∨i=4∨i=5∨i=6∨i=7∨i=8)with rfl|rfl|rfl|rfl|rfl|rfl|rfl|rfl|rfl
     ·obtain⟨P9,Yh,s9⟩:=JB.sep hB;obtain⟨_,⟨c0,c1,c2,c3⟩,_⟩:=Sep.c4 (Sep.je (s9));clear s9;refine ai rfl fun K HK=>?_;go_simp;exact HK.out _ _ fun _ k=>k e9 hB hidR h1 h2 h3 h4 h5 h6 h7 h8
     ·refine ai rfl fun K HK=>?_;go_simp;exact HK.out _ _ fun _ k=>k e9 hB h0 hidR h2 h3 h4 h5 h6 h7 h8
     ·cases h1 (ah 1 hi (by kernel_rfl));obtain⟨P9,Yh,s9⟩:=JB.sep hB;obtain⟨_,⟨c0,c1,c2,c3⟩,_⟩:=Sep.c4 (Sep.dS (s9));clear s9;refine ai rfl fun K HK=>?_;go_simp;exact HK.out _ _ fun _ k=>k e9 hB h0 h1 hidR h3 h4 h5 h6 h7 h8
     ·refine ai rfl fun K HK=>?_;go_simp;exact HK.out _ _ fun _ k=>k e9 hB h0 h1 h2 hidR h4 h5 h6 h7 h8
     ·cases h2 (ah 2 hi (by kernel_rfl));cases h3 (ah 3 hi (by kernel_rfl));refine ai rfl fun K HK=>?_;go_simp;exact HK.out _ _ fun _ k=>k e9 hB h0 h1 h2 h3 hidR h5 h6 h7 h8
     ·cases h4 (ah 4 hi (by kernel_rfl));obtain⟨P9,Yh,s9⟩:=JB.sep hB;obtain⟨z1,z2,hz3,hzs,hzc⟩:=NV.key (p:=(⟨ae,ce,some ⟨r,ro,none⟩,ck,some ⟨zr,zo,none⟩,cz,n⟩:NV)) (DL.nd s9 (Yh _ MY.out)) (i:=k) hkz;cases hz3;simp only at hzc;rw[HK9.out]at hzc;clear s9;refine ai rfl fun K HK=>?_;go_simp;exact HK.out _ _ fun _ k=>k e9 hB h0 h1 h2 h3 h4 hidR h6 h7 h8
     ·obtain⟨P9,Yh,s9⟩:=JB.sep hB;obtain⟨_,⟨c0,c1,c2,c3⟩,_⟩:=Sep.c4 (Sep.qw (s9));clear s9;refine ai rfl fun K HK=>?_;go_simp;exact HK.out _ _ fun _ k=>k e9 hB h0 h1 h2 h3 h4 h5 hidR h7 h8
     ·cases h0 (ah 0 hi (by kernel_rfl));cases h5 (ah 5 hi (by kernel_rfl));cases h6 (ah 6 hi (by kernel_rfl));refine ai rfl fun K HK=>?_;go_simp;obtain⟨P9,ZT,u1,u2,u3,u4,u5⟩:=hB;refine Calls.mono (O8 u2 (u1 _ MA.out) (u1 _ MB.out) Yf.out SMB.out key) ?_;rintro e w1 ⟨pj,hn,rfl,s1⟩;exact HK.out _ _ fun _ k=>k e9 ⟨pj::P9,ZT,fun x hx=>List.mem_cons_of_mem _ (u1 x hx),s1,fun _=>⟨pj,List.mem_cons_self,hn,rfl⟩,u4,u5⟩ h0 h1 h2 h3 h4 h5 h6 (fun _=>trivial) h8
     ·have un:f8=false:=hun;refine ai rfl fun K HK=>?_;go_simp;obtain⟨P9,ZT,u1,u2,u3,u4,u5⟩:=hB;obtain rfl:=u5 un;exact HK.out _ _ fun _ k=>k e9 ⟨P9,[_],u1,Sep.ur (Sep.aO u2 _),u3,fun _=>⟨_,rfl,rfl⟩,fun h=>by cases h⟩ h0 h1 h2 h3 h4 h5 h6 h7 (fun _=>trivial)
    ·intro w' f0 f1 f2 f3 f4 f5 f6 f7 f8 f9 uF OT OU OV Kl OW OY D6 yB e9 hB h0 h1 h2 h3 h4 h5 h6 h7 h8 hi;have d7:f7=true:=ah 7 hi (by kernel_rfl);have d8:f8=true:=ah 8 hi (by kernel_rfl);clear hi;obtain⟨P9,ZT,u1,u2,u3,u4,u5⟩:=hB;obtain⟨pj,mj,nj,e63⟩:=u3 d7;have NJ:Hid (pj.n=jo pa.n key pb.n):=nj;clear nj;obtain⟨qq,e17,ebl⟩:=u4 d8;subst ebl;subst e17;subst e63;obtain⟨_,⟨c0,c1,c2,c3⟩,g0,g1,g2,g3⟩:=Sep.c4 (Sep.dS (u2));refine ai rfl fun K HK=>?_;go_simp;refine HK.out _ _ ?_;have S7:Hid (Sep B w0 ((((w'.setCell ⟨qq,0,none⟩ (.bool pj.n.leaf)).setCell ⟨qq,1,none⟩ (.slice pj.ae pj.n.es.length pj.ce)).setCell ⟨qq,2,none⟩ (.slice pj.ak pj.n.ks.length pj.ck)).setCell ⟨qq,3,none⟩ (.slice pj.az pj.n.ss.length pj.cz)) _):=Sep.Cm (Sep.s4 (Sep.dS (u2)) _ _ _ _);have M3:Hid (∀x∈P2,x∈P9):=u1;have MJ:Hid (pj∈P9):=mj;clear u1 u2 u3 u4 u5 mj h0 h1 h2 h3 h4 h5 h6 h7 h8 c0 c1 c2 c3 g0 g1 g2 g3 S6 d7 d8;rw[<-NJ.out]at HE;generalize World.setCell _ _ _=v7 at*;obtain⟨_,⟨c0,c1,c2,c3⟩,_⟩:=Sep.c4 (Sep.je (S7.out));obtain⟨_,⟨i0,i1,i2,i3⟩,_⟩:=Sep.c4 (Sep.qw (S7.out));obtain⟨_,⟨j0,j1,j2,j3⟩,_⟩:=Sep.c4 (Sep.e8 (S7.out));have M4:Hid (∀x∈P,x∈P9):=fun x hx=>M3.out x (M2.out x (M1.out x hx));by_cases hlf:pa.n.leaf≠pb.n.leaf
     ·rw[if_pos (.inl hlf)]at HE;obtain⟨hm,hj,hr',hS⟩:n=m∧false=j∧0=er∧S=S':=by
       have:=Option.some.inj HE.out;cases this;exact⟨rfl,rfl,rfl,rfl⟩
      subst hm hj hr' hS;have hlx:(pa.n.leaf=true∧pb.n.leaf=false)∨(pa.n.leaf=false∧pb.n.leaf=true):=by
       cases hx:pa.n.leaf<;>cases hy:pb.n.leaf<;>simp[hx,hy]at hlf⊢
      have a0:=c0;have b0:=i0;clear HE hlf c0 c1 c2 c3 i0 i1 i2 i3 j0 j1 j2 j3;rcases hlx with⟨hla,hlb⟩| ⟨hla,hlb⟩
      ·rw[hla]at a0;rw[hlb]at b0;clear hla hlb;obtain⟨_,⟨c0,c1,c2,c3⟩,g0,g1,g2,g3⟩:=Sep.c4 (Sep.dS (S7.out));obtain⟨_,⟨i0,i1,i2,i3⟩,j0,j1,j2,j3⟩:=Sep.c4 (Sep.cX (S7.out));have Aq:q0≠q1:=Sep.ne (Sep.cX (Sep.cX (S7.out)));have n10:=Aq.symm;have SF:Hid (Sep B w0 ((((v7.setCell ⟨q1,0,none⟩ (.bool n.leaf)).setCell ⟨q1,1,none⟩ (.slice ae n.es.length ce)).setCell ⟨q1,2,none⟩ (.slice (some ⟨r,ro,none⟩) n.ks.length ck)).setCell ⟨q1,3,none⟩ (.slice (some ⟨zr,zo,none⟩) n.ss.length cz)) _):=Sep.oW (Sep.s4 (Sep.cX (S7.out)) _ _ _ _);clear S7;go_wp2
       (try simp only[Exit.inBlock,Exit.then])
       generalize World.setCell _ _ _=vf at*;clear c0 c1 c2 c3 g0 g1 g2 g3 i0 i1 i2 i3 j0 j1 j2 j3;obtain⟨_,⟨c0,c1,c2,c3⟩,g0,g1,g2,g3⟩:=Sep.c4 (Sep.cX (SF.out));refine bodyPost_ret (v:=.tuple #[.agg #[.bool n.leaf,.slice ae n.es.length ce,.slice (some ⟨r,ro,none⟩) n.ks.length ck,.slice (some ⟨zr,zo,none⟩) n.ss.length cz],.bool false,.int .i64 0]) ?_ rfl ⟨_,P9,d3,rfl,M4.out _ HP.out,fun x hx=>M4.out x hx,rfl,D2.out,Sep.drop (Sep.dS (Sep.drop (Sep.cX (Sep.drop (Sep.eH (Sep.drop (Sep.je (Sep.drop (Sep.qw (Sep.drop (Sep.e8 (SF.out))))))))))))⟩;rw[bP rfl];go_simp
      ·rw[hla]at a0;rw[hlb]at b0;clear hla hlb;obtain⟨_,⟨c0,c1,c2,c3⟩,g0,g1,g2,g3⟩:=Sep.c4 (Sep.dS (S7.out));obtain⟨_,⟨i0,i1,i2,i3⟩,j0,j1,j2,j3⟩:=Sep.c4 (Sep.cX (S7.out));have Aq:q0≠q1:=Sep.ne (Sep.cX (Sep.cX (S7.out)));have n10:=Aq.symm;have SF:Hid (Sep B w0 ((((v7.setCell ⟨q1,0,none⟩ (.bool n.leaf)).setCell ⟨q1,1,none⟩ (.slice ae n.es.length ce)).setCell ⟨q1,2,none⟩ (.slice (some ⟨r,ro,none⟩) n.ks.length ck)).setCell ⟨q1,3,none⟩ (.slice (some ⟨zr,zo,none⟩) n.ss.length cz)) _):=Sep.oW (Sep.s4 (Sep.cX (S7.out)) _ _ _ _);clear S7;go_wp2
       (try simp only[Exit.inBlock,Exit.then])
       generalize World.setCell _ _ _=vf at*;clear c0 c1 c2 c3 g0 g1 g2 g3 i0 i1 i2 i3 j0 j1 j2 j3;obtain⟨_,⟨c0,c1,c2,c3⟩,g0,g1,g2,g3⟩:=Sep.c4 (Sep.cX (SF.out));refine bodyPost_ret (v:=.tuple #[.agg #[.bool n.leaf,.slice ae n.es.length ce,.slice (some ⟨r,ro,none⟩) n.ks.length ck,.slice (some ⟨zr,zo,none⟩) n.ss.length cz],.bool false,.int .i64 0]) ?_ rfl ⟨_,P9,d3,rfl,M4.out _ HP.out,fun x hx=>M4.out x hx,rfl,D2.out,Sep.drop (Sep.dS (Sep.drop (Sep.cX (Sep.drop (Sep.eH (Sep.drop (Sep.je (Sep.drop (Sep.qw (Sep.drop (Sep.e8 (SF.out))))))))))))⟩;rw[bP rfl];go_simp
     ·have hlx:(pa.n.leaf != pb.n.leaf)=false:=by simpa using hlf
      have SMJ:Hid (Sm pj.n):=by
       show Sm _;rw[NJ.out];exact Tt FA.out FB.out HKS.out
      go_wp2_with fail
      clear c0 c1 c2 c3 i0 i1 i2 i3 j0 j1 j2 j3;refine Calls.mono (tL S7.out MJ.out SMJ.out) ?_;rintro e v8 ⟨rfl,s8⟩;have S8:Hid (Sep B w0 v8 (DL C S d3 P9 (aF q0 (.cells #[.bool n.leaf,.slice ae n.es.length ce,.slice (some ⟨r,ro,none⟩) n.ks.length ck,.slice (some ⟨zr,zo,none⟩) n.ss.length cz] 170)::aF q1 (.cells cZ 170)::aF q2 (.cells (cN pk) 170)::aF q3 (.cells (cN pa) 170)::aF q4 (.cells (cN pb) 170)::aF qq (.cells (cN pj) 170)::l))):=s8;clear s8 S7;by_cases hfj:cF pj.n=false
      ·rw[if_pos (.inr hfj)]at HE;obtain⟨hm,hj,hr',hS⟩:n=m∧false=j∧0=er∧S=S':=by
        have:=Option.some.inj HE.out;cases this;exact⟨rfl,rfl,rfl,rfl⟩
       subst hm hj hr' hS;rw[hfj];clear HE hfj hlf;obtain⟨_,⟨c0,c1,c2,c3⟩,g0,g1,g2,g3⟩:=Sep.c4 (Sep.dS (S8.out));obtain⟨_,⟨i0,i1,i2,i3⟩,j0,j1,j2,j3⟩:=Sep.c4 (Sep.cX (S8.out));have Aq:q0≠q1:=Sep.ne (Sep.cX (Sep.cX (S8.out)));have n10:=Aq.symm;have SF:Hid (Sep B w0 ((((v8.setCell ⟨q1,0,none⟩ (.bool n.leaf)).setCell ⟨q1,1,none⟩ (.slice ae n.es.length ce)).setCell ⟨q1,2,none⟩ (.slice (some ⟨r,ro,none⟩) n.ks.length ck)).setCell ⟨q1,3,none⟩ (.slice (some ⟨zr,zo,none⟩) n.ss.length cz)) _):=Sep.oW (Sep.s4 (Sep.cX (S8.out)) _ _ _ _);clear S8;go_wp2
       (try simp only[Exit.inBlock,Exit.then])
       generalize World.setCell _ _ _=vf at*;clear c0 c1 c2 c3 g0 g1 g2 g3 i0 i1 i2 i3 j0 j1 j2 j3;obtain⟨_,⟨c0,c1,c2,c3⟩,g0,g1,g2,g3⟩:=Sep.c4 (Sep.cX (SF.out));refine bodyPost_ret (v:=.tuple #[.agg #[.bool n.leaf,.slice ae n.es.length ce,.slice (some ⟨r,ro,none⟩) n.ks.length ck,.slice (some ⟨zr,zo,none⟩) n.ss.length cz],.bool false,.int .i64 0]) ?_ rfl ⟨_,P9,d3,rfl,M4.out _ HP.out,fun x hx=>M4.out x hx,rfl,D2.out,Sep.drop (Sep.dS (Sep.drop (Sep.cX (Sep.drop (Sep.eH (Sep.drop (Sep.je (Sep.drop (Sep.qw (Sep.drop (Sep.e8 (SF.out))))))))))))⟩;rw[bP rfl];go_simp
      ·have hft:cF pj.n=true:=by simpa using hfj
       rw[if_neg (by rintro(h|h);exact hlf h;exact hfj h)]at HE;rw[hft];have FJ:Hid (cF pj.n=true):=hft;cases hrc:rec S pj.n (depth+1) ((pa.n.ks.length:Int)-1) ((pa.n.ks.length:Int)+1)with
       |none=>
        rw[hrc]at HE;have:=HE.out;cases this
       |some rr=>
       obtain⟨⟨m1,e1⟩,S1⟩:=rr;rw[hrc]at HE;simp only at HE;have IS1:Hid (DI S1 d.room):=HRI.out _ _ _ _ _ _ _ HI.out hrc;have KS:Hid (Calls Tryz.prog 124 #[ptr C.q,.agg (cN pj),.int .i64 (depth+1),.int .i64 ((pa.n.ks.length:Int)-1),.int .i64 ((pa.n.ks.length:Int)+1)] v8 fun e w'=>∃pm P4 d4,pm.n=m1∧pm∈P4∧(∀x∈P9,x∈P4)∧e=.returned (.tuple #[.agg (cN pm),.int .i64 e1])∧bH d d4∧Sep B w0 w' (DL C S1 d4 P4 (aF q0 (.cells #[.bool n.leaf,.slice ae n.es.length ce,.slice (some ⟨r,ro,none⟩) n.ks.length ck,.slice (some ⟨zr,zo,none⟩) n.ss.length cz] 170)::aF q1 (.cells cZ 170)::aF q2 (.cells (cN pk) 170)::aF q3 (.cells (cN pa) 170)::aF q4 (.cells (cN pb) 170)::aF qq (.cells (cN pj) 170)::l))):=HR.out S8.out D2.out MJ.out (gI FJ.out).2.1 HI.out (by have:=HX.out;omega) HN.out (by omega) (by have:=QD.out;omega) (by omega) (by have:=QD.out;omega) hrc;have Yi:IntKind.i64.wrap ((pa.n.ks.length:Int)-1)=(pa.n.ks.length:Int)-1:=bM (by omega) (by have:=QD.out;omega);have ZU:IntKind.i64.wrap ((pa.n.ks.length:Int)+1)=(pa.n.ks.length:Int)+1:=bM (by omega) (by have:=QD.out;omega);obtain⟨_,⟨c0,c1,c2,c3⟩,_⟩:=Sep.c4 (Sep.je (S8.out));obtain⟨_,⟨i0,i1,i2,i3⟩,_⟩:=Sep.c4 (Sep.e8 (S8.out));clear hrc hlf hfj hft
       go_wp2_with fail
       clear c0 c1 c2 c3 i0 i1 i2 i3 Yi ZU;refine Calls.mono KS.out ?_;rintro e v9 ⟨pm,P4,d4,hnm,hmm,hs4,rfl,hd4,s9⟩;subst hnm;have D4:Hid (bH d d4):=hd4;have M5:Hid (∀x∈P9,x∈P4):=hs4;have MM:Hid (pm∈P4):=hmm;have S9:Hid (Sep B w0 v9 (DL C S1 d4 P4 (aF q0 (.cells #[.bool n.leaf,.slice ae n.es.length ce,.slice (some ⟨r,ro,none⟩) n.ks.length ck,.slice (some ⟨zr,zo,none⟩) n.ss.length cz] 170)::aF q1 (.cells cZ 170)::aF q2 (.cells (cN pk) 170)::aF q3 (.cells (cN pa) 170)::aF q4 (.cells (cN pb) 170)::aF qq (.cells (cN pj) 170)::l))):=s9;have Yj:Hid _:=hs4 _ (M4.out _ HP.out);clear s9 hd4 hs4 hmm KS S8 D2;have D2:Hid (bH d d4):=D4.out;clear D4;obtain⟨_,⟨i0,i1,i2,i3⟩,j0,j1,j2,j3⟩:=Sep.c4 (Sep.e8 (S9.out));by_cases he1:e1≠0
       ·rw[if_pos he1]at HE;obtain⟨hm,hj,hr',hS⟩:n=m∧false=j∧e1=er∧S1=S':=by
         have:=Option.some.inj HE.out;cases this;exact⟨rfl,rfl,rfl,rfl⟩
        subst hm hj hr' hS;have hne:(e1 != 0)=true:=bne_iff_ne.2 he1;clear HE he1;obtain⟨_,⟨c0,c1,c2,c3⟩,_⟩:=Sep.c4 (Sep.dS (S9.out));obtain⟨_,⟨b0,b1,b2,b3⟩,g0,g1,g2,g3⟩:=Sep.c4 (Sep.cX (S9.out));have Aq:q0≠q1:=Sep.ne (Sep.cX (Sep.cX (S9.out)));have n10:=Aq.symm;have n05:q0≠qq:=Sep.ne (Sep.cX (Sep.e8 (S9.out)));have n50:=n05.symm;have n15:q1≠qq:=Sep.ne (Sep.eH (Sep.e8 (S9.out)));have n51:=n15.symm;have SF:Hid (Sep B w0 ((((((((v9.setCell ⟨qq,0,none⟩ (.bool pm.n.leaf)).setCell ⟨qq,1,none⟩ (.slice pm.ae pm.n.es.length pm.ce)).setCell ⟨qq,2,none⟩ (.slice pm.ak pm.n.ks.length pm.ck)).setCell ⟨qq,3,none⟩ (.slice pm.az pm.n.ss.length pm.cz)).setCell ⟨q1,0,none⟩ (.bool n.leaf)).setCell ⟨q1,1,none⟩ (.slice ae n.es.length ce)).setCell ⟨q1,2,none⟩ (.slice (some ⟨r,ro,none⟩) n.ks.length ck)).setCell ⟨q1,3,none⟩ (.slice (some ⟨zr,zo,none⟩) n.ss.length cz)) _):=Sep.oW (Sep.s4 (Sep.cX (Sep.Cm (Sep.s4 (Sep.e8 (S9.out)) _ _ _ _))) _ _ _ _);clear S9;go_wp2
        (try simp only[Exit.inBlock,Exit.then])
        generalize World.setCell _ _ _=vf at*;clear c0 c1 c2 c3 g0 g1 g2 g3 i0 i1 i2 i3 j0 j1 j2 j3 b0 b1 b2 b3;obtain⟨_,⟨c0,c1,c2,c3⟩,g0,g1,g2,g3⟩:=Sep.c4 (Sep.cX (SF.out));refine bodyPost_ret (v:=.tuple #[.agg #[.bool n.leaf,.slice ae n.es.length ce,.slice (some ⟨r,ro,none⟩) n.ks.length ck,.slice (some ⟨zr,zo,none⟩) n.ss.length cz],.bool false,.int .i64 e1]) ?_ rfl ⟨_,P4,d4,rfl,Yj.out,fun x hx=>M5.out x (M4.out x hx),rfl,D2.out,Sep.drop (Sep.dS (Sep.drop (Sep.cX (Sep.drop (Sep.eH (Sep.drop (Sep.je (Sep.drop (Sep.qw (Sep.drop (Sep.e8 (SF.out))))))))))))⟩;rw[bP rfl];go_simp
       ·have e10:e1=0:=by simpa using he1
        subst e10;rw[if_neg he1]at HE;clear he1;generalize hka:n.ks.getD k 0=ka at*;generalize hkb:n.ks.getD (k+1) 0=kb at*;have HKA:Hid (n.ks.getD k 0=ka):=hka;have HKB:Hid (n.ks.getD (k+1) 0=kb):=hkb;have WA:Hid (Wf ka∧Wf kb):=by
         obtain⟨_,_,_,x4,x5,_,_⟩:=HX.out;rw[<-hka,<-hkb];exact⟨x5 _ (dR (by omega)),x5 _ (dR x4)⟩
        cases hput:S1.fY d.room ka kb pm.n with
        |none=>
         rw[hput]at HE;have:=HE.out;cases this
        |some rr=>
        obtain⟨⟨pg,e2⟩,S2⟩:=rr;rw[hput]at HE;simp only at HE;obtain⟨hm,hj,hr',hS⟩:(gG n k ((k:Int)+2) [pg] [])=m∧true=j∧e2=er∧S2=S':=by
         have:=Option.some.inj HE.out;cases this;exact⟨rfl,rfl,rfl,rfl⟩
        subst hm hj hr' hS;have K15:Hid (∀u L,Sep B w0 u (DL C S1 d4 P4 L)->Calls Tryz.prog 190 #[ptr C.q,.int .i64 ka,.int .i64 kb,.agg (cN pm)] u fun e w'=>e=.returned (.tuple #[.int .i64 pg,.int .i64 e2])∧Sep B w0 w' (DL C S2 d4 P4 L)):=fun u L hu=>Gp D2.out hu WA.out.1 WA.out.2 IS1.out HX.out.1 MM.out hput;have hk1:k+1<n.ks.length:=HX.out.2.2.2.1;have hkI:(k:Int)< (n.ks.length:Int):=by omega
        have aax:((k+1:Nat):Int)< (n.ks.length:Int):=by omega
        have Ph:IntKind.i64.wrap ((k:Int)+1)=((k+1:Nat):Int):=by rw[bM (by omega) (by omega)];rfl
        have aay:(k:Int)+1< (n.ks.length:Int):=by omega
        have aaz:0<=(k:Int)+1:=by omega
        have tnk:((k:Int)+1).toNat=k+1:=by omega
        have Ep:Hid (Sep B w0 ((((v9.setCell ⟨qq,0,none⟩ (.bool pm.n.leaf)).setCell ⟨qq,1,none⟩ (.slice pm.ae pm.n.es.length pm.ce)).setCell ⟨qq,2,none⟩ (.slice pm.ak pm.n.ks.length pm.ck)).setCell ⟨qq,3,none⟩ (.slice pm.az pm.n.ss.length pm.cz)) _):=Sep.Cm (Sep.s4 (Sep.e8 (S9.out)) _ _ _ _);clear HE hput hka hkb S9
        go_wp2_with fail
        clear i0 i1 i2 i3 j0 j1 j2 j3;generalize World.setCell _ _ _=v10 at*;refine bc 18 (J15 B w0 C S1 S2 d4 P4 (aF q0 (.cells #[.bool n.leaf,.slice ae n.es.length ce,.slice (some ⟨r,ro,none⟩) n.ks.length ck,.slice (some ⟨zr,zo,none⟩) n.ss.length cz] 170)::aF q1 (.cells cZ 170)::aF q2 (.cells (cN pk) 170)::aF q3 (.cells (cN pa) 170)::aF q4 (.cells (cN pb) 170)::aF qq (.cells (cN pm) 170)::l) q0 qq k r ro n.ks.length ck ka kb pg e2 (.agg (cN pm)) (.tuple #[.int .i64 pg,.int .i64 e2])) (by kernel_rfl) (by kernel_rfl) (by kernel_rfl) (fun _ k=>k rfl ⟨fun _=>Ep.out.drew,(fun h=>by cases h)⟩ ar ar ar ar ar ar ar ar ar ar ar ar ar ar ar ar ar ar) ?_ ?_ ?_
        ·intro i w' hne f0 f1 f2 f3 f4 f5 f6 f7 f8 f9 f10 f11 f12 f13 f14 f15 f16 f17 f18 uE zS x95 x96 Ye x98 x99 x100 x101 x102 x103 x104 x105 O9 x107 Pa Pb Pf Pg e18 hB h0 h1 h2 h3 h4 h5 h6 h7 h8 h9 h10 h11 h12 dN fP qR h16 BK hi;obtain⟨hlt,hun,_⟩:=aP hi;have hlt':i<19:=hlt;clear hlt;rcases(by omega:i=0∨i=1∨i=2∨i=3∨i=4∨i=5∨i=6∨i=7∨i=8∨i=9∨i=10∨i=11∨i=12∨i=13∨i=14∨i=15∨i=16∨i=17)with rfl|rfl|rfl|rfl|rfl|rfl|rfl|rfl|rfl|rfl|rfl|rfl|rfl|rfl|rfl|rfl|rfl|rfl
         refine ai rfl fun K HK=>?_;go_simp
         rotate_left
         refine ai rfl fun K HK=>?_;go_simp
         rotate_left
         cases h1 (ah 1 hi (by kernel_rfl));obtain⟨S9,s9⟩:=JC.sep hB;obtain⟨_,⟨c0,c1,c2,c3⟩,_⟩:=Sep.c4 (Sep.dS (s9));clear s9;refine ai rfl fun K HK=>?_;go_simp
         rotate_left
         refine ai rfl fun K HK=>?_;go_simp
         rotate_left
         cases h2 (ah 2 hi (by kernel_rfl));cases h3 (ah 3 hi (by kernel_rfl));refine ai rfl fun K HK=>?_;go_simp
         rotate_left
         cases h4 (ah 4 hi (by kernel_rfl));obtain⟨S9,s9⟩:=JC.sep hB;obtain⟨z1,z2,hz3,hzs,hzc⟩:=NV.kid (p:=(⟨ae,ce,some ⟨r,ro,none⟩,ck,some ⟨zr,zo,none⟩,cz,n⟩:NV)) (DL.nd s9 Yj.out) (i:=k) (by simp only;omega);cases hz3;simp only at hzc;rw[HKA.out]at hzc;clear s9;refine ai rfl fun K HK=>?_;go_simp
         rotate_left
         refine ai rfl fun K HK=>?_;go_simp
         rotate_left
         cases h6 (ah 6 hi (by kernel_rfl));obtain⟨S9,s9⟩:=JC.sep hB;obtain⟨_,⟨c0,c1,c2,c3⟩,_⟩:=Sep.c4 (Sep.dS (s9));clear s9;refine ai rfl fun K HK=>?_;go_simp
         rotate_left
         refine ai rfl fun K HK=>?_;go_simp
         rotate_left
         cases h8 (ah 8 hi (by kernel_rfl));refine ai rfl fun K HK=>?_;go_simp
         rotate_left
         cases h7 (ah 7 hi (by kernel_rfl));cases h9 (ah 9 hi (by kernel_rfl));refine ai rfl fun K HK=>?_;go_simp
         rotate_left
         cases h10 (ah 10 hi (by kernel_rfl));obtain⟨S9,s9⟩:=JC.sep hB;obtain⟨z1,z2,hz3,hzs,hzc⟩:=NV.kid (p:=(⟨ae,ce,some ⟨r,ro,none⟩,ck,some ⟨zr,zo,none⟩,cz,n⟩:NV)) (DL.nd s9 Yj.out) (i:=k+1) (by simp only;omega);cases hz3;simp only at hzc;rw[HKB.out]at hzc;clear s9;refine ai rfl fun K HK=>?_;go_simp
         rotate_left
         obtain⟨S9,s9⟩:=JC.sep hB;obtain⟨_,⟨c0,c1,c2,c3⟩,_⟩:=Sep.c4 (Sep.e8 (s9));clear s9;refine ai rfl fun K HK=>?_;go_simp
         rotate_left
         ·have un:f13=false:=hun;cases h0 (ah 0 hi (by kernel_rfl));cases h5 (ah 5 hi (by kernel_rfl));cases h11 (ah 11 hi (by kernel_rfl));cases h12 (ah 12 hi (by kernel_rfl));refine ai rfl fun K HK=>?_;go_simp;have s9:=hB.1 un;refine Calls.mono (K15.out _ _ s9) ?_;rintro e w1 ⟨rfl,s1⟩;exact HK.out _ _ fun _ k=>k e18 ⟨(fun h=>by cases h),fun _=>s1⟩ h0 h1 h2 h3 h4 h5 h6 h7 h8 h9 h10 h11 h12 hidR fP qR h16 BK
         cases dN (ah 13 hi (by kernel_rfl));refine ai rfl fun K HK=>?_;go_simp
         rotate_left
         cases fP (ah 14 hi (by kernel_rfl));refine ai rfl fun K HK=>?_;go_simp
         rotate_left
         cases fP (ah 14 hi (by kernel_rfl));refine ai rfl fun K HK=>?_;go_simp
         rotate_left
         cases qR (ah 15 hi (by kernel_rfl));refine ai rfl fun K HK=>?_;go_simp
         rotate_left
         all_goals exact HK.out _ _ fun _ k=>by apply k<;>first|assumption|exact hidR|(repeat' first|apply Exists.intro|assumption|rfl|apply And.intro|exact fun _=>rfl)
        ·intro w' f0 f1 f2 f3 f4 f5 f6 f7 f8 f9 f10 f11 f12 f13 f14 f15 f16 f17 f18 uE zS x95 x96 Ye x98 x99 x100 x101 x102 x103 x104 x105 O9 x107 Pa Pb Pf Pg e18 hB h0 h1 h2 h3 h4 h5 h6 h7 h8 h9 h10 h11 h12 dN fP qR h16 BK hi;have d16:f16=true:=ah 16 hi (by kernel_rfl);cases h16 d16;have d17:f17=true:=ah 17 hi (by kernel_rfl);cases BK d17;have d13:f13=true:=ah 13 hi (by kernel_rfl);cases dN d13;clear hi;refine ai rfl fun K HK=>?_;go_simp;refine HK.out _ _ ?_;have TG:Hid _:=hB.2 d13;clear hB h0 h1 h2 h3 h4 h5 h6 h7 h8 h9 h10 h11 h12 dN fP qR h16 BK Ep K15 d13 d16 d17;obtain⟨_,⟨c0,c1,c2,c3⟩,_⟩:=Sep.c4 (Sep.dS (TG.out));have Yk:Hid (Sep B w0 (w'.alloc (.cells #[.int .i64 pg] 3)) _):=Sep.alloc TG.out _;have SW:Hid (Calls Tryz.prog 122 #[.agg #[.bool n.leaf,.slice ae n.es.length ce,.slice (some ⟨r,ro,none⟩) n.ks.length ck,.slice (some ⟨zr,zo,none⟩) n.ss.length cz],.int .i64 (k:Int),.int .i64 ((k:Int)+2),.slice (some ⟨w'.heap.size,0,none⟩) 1 1,.slice none 0 0] (w'.alloc (.cells #[.int .i64 pg] 3)) (GM B w0 C S2 d4 P4 (aF q0 (.cells #[.bool n.leaf,.slice ae n.es.length ce,.slice (some ⟨r,ro,none⟩) n.ks.length ck,.slice (some ⟨zr,zo,none⟩) n.ss.length cz] 170)::aF q1 (.cells cZ 170)::aF q2 (.cells (cN pk) 170)::aF q3 (.cells (cN pa) 170)::aF q4 (.cells (cN pb) 170)::aF qq (.cells (cN pm) 170)::l) (gG n k ((k:Int)+2) [pg] []))):=rf (p:=(⟨ae,ce,some ⟨r,ro,none⟩,ck,some ⟨zr,zo,none⟩,cz,n⟩:NV)) Yk.out Yj.out HX.out.2.2.2.2.2.1 _ _ [pg] [] _ _ (Cl.NI (Cl.new _ _ _)) N.xn (by simp) (by simp);have ZV:IntKind.i64.wrap ((k:Int)+2)=(k:Int)+2:=bM (by omega) (by omega);clear TG
         go_wp2_with fail
         clear c0 c1 c2 c3 ZV Ph;refine Calls.mono SW.out ?_;rintro e v12 ⟨ps,hns,rfl,s12⟩;have NS:Hid (ps.n=gG n k ((k:Int)+2) [pg] []):=hns;obtain⟨_,⟨c0,c1,c2,c3⟩,g0,g1,g2,g3⟩:=Sep.c4 (Sep.cX (s12));have SF:Hid (Sep B w0 ((((v12.setCell ⟨q1,0,none⟩ (.bool ps.n.leaf)).setCell ⟨q1,1,none⟩ (.slice ps.ae ps.n.es.length ps.ce)).setCell ⟨q1,2,none⟩ (.slice ps.ak ps.n.ks.length ps.ck)).setCell ⟨q1,3,none⟩ (.slice ps.az ps.n.ss.length ps.cz)) _):=Sep.oW (Sep.s4 (Sep.cX (s12)) _ _ _ _);clear s12 hns SW Yk;go_wp2
         (try simp only[Exit.inBlock,Exit.then])
         generalize World.setCell _ _ _=vf at*;clear c0 c1 c2 c3 g0 g1 g2 g3;obtain⟨_,⟨c0,c1,c2,c3⟩,g0,g1,g2,g3⟩:=Sep.c4 (Sep.cX (SF.out));refine bodyPost_ret (v:=.tuple #[.agg (cN ps),.bool true,.int .i64 e2]) ?_ rfl ⟨ps,ps::P4,d4,NS.out,List.mem_cons_self,fun x hx=>List.mem_cons_of_mem _ (M5.out x (M4.out x hx)),rfl,D2.out,Sep.drop (Sep.dS (Sep.drop (Sep.cX (Sep.drop (Sep.eH (Sep.drop (Sep.je (Sep.drop (Sep.qw (Sep.drop (Sep.e8 (SF.out))))))))))))⟩;rw[bP rfl];go_simp
        ·intro _ _;intros;assumption
    ·intro _ _;intros;assumption
end
end
section
open N (Nd nd0 cF dF dZ jo gG Sm aL)
section
variable {B:Nat}{w0 w w':World}{l:List aM}{P:List NV}{C:Cx}{S S':Dr}{d d1:Dk}{depth:Int}{p:NV}{m:Nd}{j:Bool}{er Nb:Int}{rec:qV}
theorem TH {i:Int}(T:bW B w0)(hrec:aW B w0 C d Nb rec)(Eo:∀ {S S':Dr} {n:Nd} {depth i tt:Int} {r:Nd×Int},DI S d.room->rec S n depth i tt=some (r,S')->DI S' d.room)(hd:bH d d1)(h:Sep B w0 w (DL C S d1 P l))(hp:p∈P)(hsm:cB p.n=true)(I:DI S d.room)(hr:d.room<=16384)(hd0:-1<=depth)(hd1:depth<=100000)(hN:depth+1<=Nb)(hi0:0<=i)(hi:i< (p.n.ks.length:Int))(he:gq rec d.room d S p.n depth i (min i ((p.n.ks.length:Int)-2))=some ((m,j,er),S')):
  Calls Tryz.prog 157 #[ptr C.q,.agg #[.bool p.n.leaf,.slice p.ae p.n.es.length p.ce,.slice p.ak p.n.ks.length p.ck,.slice p.az p.n.ss.length p.cz],.int .i64 depth,.int .i64 i,.int .i64 (min i ((p.n.ks.length:Int)-2))] w fun e w'=>∃pm P' d',pm.n=m∧pm∈P'∧(∀x∈P,x∈P')∧e=.returned (.tuple #[.agg #[.bool pm.n.leaf,.slice pm.ae pm.n.es.length pm.ce,.slice pm.ak pm.n.ks.length pm.ck,.slice pm.az pm.n.ss.length pm.cz],.bool j,.int .i64 er])∧bH d d'∧Sep B w0 w' (DL C S' d' P' l):=by
 obtain⟨ae,ce,ak,ck,az,cz,n⟩:=p;simp only at hsm hi he hp⊢;by_cases hf:min i ((n.ks.length:Int)-2)<0
 ·have he2:=he;unfold gq at he2;rw[if_pos hf]at he2;obtain⟨hm,hj,hr',hS⟩:n=m∧false=j∧(0:Int)=er∧S=S':=by
   cases he2;exact⟨rfl,rfl,rfl,rfl⟩
  subst hm hj hr' hS;exact Kp hd h hp hf
 ·obtain⟨t,rfl⟩:=Int.eq_ofNat_of_zero_le hi0;obtain⟨k,hk⟩:=Int.eq_ofNat_of_zero_le (by omega:0<=min (t:Int) ((n.ks.length:Int)-2));rw[hk]at he⊢;exact Kq T hrec Eo hd h hp hsm I hr hd0 hd1 hN (by omega) (by omega) he
end
theorem ib {B:Nat}{w0:World}{C:Cx}{d:Dk}(T:bW B w0)(hr:d.room<=16384)(f:Nat)(ih:∀g,g<f->aW B w0 C d (100000-g) (bn d.room d g)):aW B w0 C d (100000-f) (bn d.room d f):=by
 intro w S S' d1 P l p depth i tt m er h hd hp hsm I hd0 hd1 hi0 hi1 ht0 ht1 he;have S1:Hid (Sep B w0 ((w.alloc (.cells #[.bool p.n.leaf,.slice p.ae p.n.es.length p.ce,.slice p.ak p.n.ks.length p.ck,.slice p.az p.n.ss.length p.cz] 170)).alloc (.cells #[.bool false,.slice none 0 0,.slice none 0 0,.slice none 0 0] 170)) (DL C S d1 P (aF w.heap.size (.cells #[.bool p.n.leaf,.slice p.ae p.n.es.length p.ce,.slice p.ak p.n.ks.length p.ck,.slice p.az p.n.ss.length p.cz] 170)::aF (w.heap.size+1) (.cells #[.bool false,.slice none 0 0,.slice none 0 0,.slice none 0 0] 170)::l))):=Sep.oW (Sep.aZ (Sep.ur (h.aO _)) _ _ (by simp));have HP:Hid (p∈P):=hp;have HD:Hid (bH d d1):=hd;have HI:Hid (DI S d.room):=I;have HE:Hid (bf d.room d f S p.n depth (max i 0) tt=some ((m,er),S')):=he;have HX:Hid (-1<=depth∧depth<=100000-f∧-2<=tt∧tt<=1000):=⟨hd0,hd1,ht0,ht1⟩;have HM:Hid (0<=max i 0∧max i 0<=1000):=⟨by omega,by omega⟩;have HR:Hid (d.room<=16384):=hr;have IH:Hid (∀g,g<f->aW B w0 C d (100000-g) (bn d.room d g)):=ih;clear h hd hp hsm I he hd0 hd1 ht0 ht1 hi0 hi1 hr ih;go_enter Tryz.func124,Tryz.ntmps124;go_wp2;generalize World.alloc _ _=v1 at*;generalize w.heap.size+1=q1 at*;generalize w.heap.size=q0 at*
 go_loopg [12] f (fun kx s12 wr=>∃(g:Nat) (Sc:Dr) (pc:NV) (Pc:List NV) (dc:Dk) (ic:Int),s12=.int .i64 ic∧g<=kx∧Hid (g<=f)∧Hid (0<=ic∧ic<=1000)∧Hid (bf d.room d g Sc pc.n depth ic tt=some ((m,er),S'))∧Hid (DI Sc d.room)∧Hid (pc∈Pc∧∀x∈P,x∈Pc)∧Hid (bH d dc)∧Hid (Sep B w0 wr (DL C Sc dc Pc (aF q0 (.cells #[.bool pc.n.leaf,.slice pc.ae pc.n.es.length pc.ce,.slice pc.ak pc.n.ks.length pc.ck,.slice pc.az pc.n.ss.length pc.cz] 170)::aF q1 (.cells #[.bool false,.slice none 0 0,.slice none 0 0,.slice none 0 0] 170)::l))))
 case atStart=>exact⟨f,S,p,P,d1,_,rfl,Nat.le_refl _,Nat.le_refl _,HM.out,HE.out,HI.out,⟨HP.out,fun _ h=>h⟩,HD.out,S1.out⟩
 case round=>
  clear S1 HP HD HI HE HM;obtain⟨g,Sc,pc,Pc,dc,ic,rfl,WL,HG,HM,HE,HI,uU,HD,HS⟩:=hrel;cases g with
  |zero=>
   have:=HE.out;cases this
  |succ g=>
   have hE:=HE.out;unfold bf at hE;by_cases hc:cB pc.n=false∨ic<0
   ·rw[if_pos hc]at hE;cases hE
   rw[if_neg hc]at hE;have hsm:cB pc.n=true:=by
    cases hx:cB pc.n
    ·exact absurd (.inl hx) hc
    ·rfl
   obtain⟨lF,hkl,_⟩:=fe hsm;have hic:0<=ic:=by omega
   obtain⟨_,⟨c0,c1,c2,c3⟩,g0,g1,g2,g3⟩:=Sep.c4 (Sep.dS (HS.out));clear hc HE;by_cases hlt:ic<min tt (pc.n.ks.length:Int)
   ·rw[if_pos hlt]at hE;cases hj:gq (fun S n depth i tt=>bf d.room d g S n depth (max i 0) tt) d.room d Sc pc.n depth ic (min ic ((pc.n.ks.length:Int)-2))with
    |none=>
     rw[hj]at hE;cases hE
    |some rr=>
    obtain⟨⟨mj,jj,ej⟩,Sj⟩:=rr;rw[hj]at hE;simp only at hE;have KJ:Hid _:=TH (i:=ic) (depth:=depth) T (IH.out g (by have:=HG.out;omega)) (fun h he=>DI.settle g h he) HD.out HS.out uU.out.1 hsm HI.out HR.out HX.out.1 (by have:=HX.out;omega) (by have:=HX.out;have:=HG.out;omega) hic (by omega) hj;have ISj:Hid (DI Sj d.room):=DI.join HI.out (fun h he=>DI.settle g h he) hj;have hE':Hid ((if ej≠0 then some ((nd0,ej),Sj)else if jj=true then bf d.room d g Sj mj depth (min ic ((pc.n.ks.length:Int)-2)) tt else bf d.room d g Sj pc.n depth (ic+1) tt)=some ((m,er),S')):=hE;have ZU:IntKind.i64.wrap ((pc.n.ks.length:Int)-2)=(pc.n.ks.length:Int)-2:=bM (by omega) (by omega);have Yi:IntKind.i64.wrap (ic+1)=ic+1:=bM (by omega) (by have:=HM.out;omega);have HB:Hid (0<=ic∧ic< (pc.n.ks.length:Int)∧pc.n.ks.length<=500):=⟨hic,by omega,hkl⟩;have HC:Hid (pc∈Pc∧∀x∈P,x∈Pc):=uU.out;clear hE hj hsm lF HI uU
    go_wp2_with fail
    clear c0 c1 c2 c3 g0 g1 g2 g3 ZU;generalize hmn:min ic ((pc.n.ks.length:Int)-2)=fi at*;refine Calls.mono KJ.out ?_;rintro e v2 ⟨pm,P2,d2,hnm,hmm,hs2,rfl,hd2,s2⟩;subst hnm;have D2:Hid (bH d d2):=hd2;have M2:Hid (∀x∈P,x∈P2):=fun x hx=>hs2 x (HC.out.2 x hx);have MC:Hid (pc∈P2):=hs2 _ HC.out.1;have MM:Hid (pm∈P2):=hmm;have S2:Hid (Sep B w0 v2 (DL C Sj d2 P2 (aF q0 (.cells #[.bool pc.n.leaf,.slice pc.ae pc.n.es.length pc.ce,.slice pc.ak pc.n.ks.length pc.ck,.slice pc.az pc.n.ss.length pc.cz] 170)::aF q1 (.cells #[.bool false,.slice none 0 0,.slice none 0 0,.slice none 0 0] 170)::l))):=s2;have HF:Hid (fi<=1000):=by have:=HB.out;show _<=_;omega
    clear s2 hd2 hs2 hmm KJ HS HD HC hmn;obtain⟨_,⟨c0,c1,c2,c3⟩,g0,g1,g2,g3⟩:=Sep.c4 (Sep.dS (S2.out));obtain⟨_,⟨i0,i1,i2,i3⟩,j0,j1,j2,j3⟩:=Sep.c4 (Sep.cX (S2.out));by_cases he:ej≠0
    ·have hE2:=hE'.out;rw[if_pos he]at hE2;obtain⟨hm,hr',hS⟩:nd0=m∧ej=er∧Sj=S':=by
      cases hE2;exact⟨rfl,rfl,rfl⟩
     subst hm hr' hS;have hne:(ej != 0)=true:=bne_iff_ne.2 he;have SF:Hid (Sep B w0 (((((v2.setCell ⟨q1,0,none⟩ (.bool false)).setCell ⟨q1,1,none⟩ (.slice none 0 0)).setCell ⟨q1,2,none⟩ (.slice none 0 0)).setCell ⟨q1,3,none⟩ (.slice none 0 0)).alloc (.cells #[.bool pm.n.leaf,.slice pm.ae pm.n.es.length pm.ce,.slice pm.ak pm.n.ks.length pm.ck,.slice pm.az pm.n.ss.length pm.cz] 170)) _):=Sep.alloc (Sep.oW (Sep.s4 (Sep.cX (S2.out)) _ _ _ _)) _;clear hE2 hE' he S2;go_wp2
     (try simp only[Exit.inBlock,Exit.then])
     generalize World.setCell _ _ _=vf at*;clear c0 c1 c2 c3 g0 g1 g2 g3 i0 i1 i2 i3 j0 j1 j2 j3;obtain⟨_,⟨c0,c1,c2,c3⟩,g0,g1,g2,g3⟩:=Sep.c4 (Sep.cX (SF.out));refine bodyPost_ret (v:=.tuple #[.agg #[.bool false,.slice none 0 0,.slice none 0 0,.slice none 0 0],.int .i64 ej]) ?_ rfl ⟨pZ,pZ::P2,d2,rfl,List.mem_cons_self,fun x hx=>List.mem_cons_of_mem _ (M2.out x hx),rfl,D2.out,DL.zero (Sep.drop (Sep.dS (Sep.drop (Sep.cX (SF.out)))))⟩;rw[aL rfl];go_simp
    ·have hE2:=hE'.out;rw[if_neg he]at hE2;have e0:ej=0:=by simpa using he
     subst e0;clear hE' he;cases jj with
     |true=>
      rw[if_pos rfl]at hE2;have WM:Hid (bf d.room d g Sj pm.n depth fi tt=some ((m,er),S')):=hE2;have HFI:Hid (0<=fi):=by
       cases g with
       |zero=>cases hE2
       |succ g=>
        unfold bf at hE2;by_cases hc:cB pm.n=false∨fi<0
        ·rw[if_pos hc]at hE2;cases hE2
        ·show 0<=fi;omega
      have SF:Hid (Sep B w0 (((((v2.setCell ⟨q0,0,none⟩ (.bool pm.n.leaf)).setCell ⟨q0,1,none⟩ (.slice pm.ae pm.n.es.length pm.ce)).setCell ⟨q0,2,none⟩ (.slice pm.ak pm.n.ks.length pm.ck)).setCell ⟨q0,3,none⟩ (.slice pm.az pm.n.ss.length pm.cz)).alloc (.cells #[.bool pm.n.leaf,.slice pm.ae pm.n.es.length pm.ce,.slice pm.ak pm.n.ks.length pm.ck,.slice pm.az pm.n.ss.length pm.cz] 170)) _):=Sep.alloc (Sep.ur (Sep.s4 (Sep.dS (S2.out)) _ _ _ _)) _;clear hE2 S2;go_wp2
      all_goals go_roundg g
      case measure=>omega
      case rel=>exact⟨g,Sj,pm,P2,d2,fi,rfl,Nat.le_refl _,by have:=HG.out;show _<=_;omega,⟨HFI.out,HF.out⟩,WM.out,ISj.out,⟨MM.out,M2.out⟩,D2.out,SF.out⟩
     |false=>
      rw[if_neg (by simp)]at hE2;have WM:Hid (bf d.room d g Sj pc.n depth (ic+1) tt=some ((m,er),S')):=hE2;have SF:Hid (Sep B w0 (v2.alloc (.cells #[.bool pm.n.leaf,.slice pm.ae pm.n.es.length pm.ce,.slice pm.ak pm.n.ks.length pm.ck,.slice pm.az pm.n.ss.length pm.cz] 170)) _):=Sep.alloc S2.out _;clear hE2 S2;go_wp2
      all_goals go_roundg g
      case measure=>omega
      case rel=>exact⟨g,Sj,pc,P2,d2,ic+1,rfl,Nat.le_refl _,by have:=HG.out;show _<=_;omega,by have:=HB.out;show _∧_;omega,WM.out,ISj.out,⟨MC.out,M2.out⟩,D2.out,SF.out⟩
   ·rw[if_neg hlt]at hE;obtain⟨hm,hr',hS⟩:pc.n=m∧0=er∧Sc=S':=by
     cases hE;exact⟨rfl,rfl,rfl⟩
    subst hm hr' hS;obtain⟨_,⟨i0,i1,i2,i3⟩,j0,j1,j2,j3⟩:=Sep.c4 (Sep.cX (HS.out));have Aq:q0≠q1:=Sep.ne (Sep.cX (Sep.cX (HS.out)));have n10:=Aq.symm;have SF:Hid (Sep B w0 ((((wr.setCell ⟨q1,0,none⟩ (.bool pc.n.leaf)).setCell ⟨q1,1,none⟩ (.slice pc.ae pc.n.es.length pc.ce)).setCell ⟨q1,2,none⟩ (.slice pc.ak pc.n.ks.length pc.ck)).setCell ⟨q1,3,none⟩ (.slice pc.az pc.n.ss.length pc.cz)) _):=Sep.oW (Sep.s4 (Sep.cX (HS.out)) _ _ _ _);clear hE HS hsm lF;go_wp2
    (try simp only[Exit.inBlock,Exit.then])
    generalize World.setCell _ _ _=vf at*;clear c0 c1 c2 c3 g0 g1 g2 g3 i0 i1 i2 i3 j0 j1 j2 j3;obtain⟨_,⟨c0,c1,c2,c3⟩,g0,g1,g2,g3⟩:=Sep.c4 (Sep.cX (SF.out));refine bodyPost_ret (v:=.tuple #[.agg #[.bool pc.n.leaf,.slice pc.ae pc.n.es.length pc.ce,.slice pc.ak pc.n.ks.length pc.ck,.slice pc.az pc.n.ss.length pc.cz],.int .i64 0]) ?_ rfl ⟨pc,Pc,dc,rfl,uU.out.1,uU.out.2,rfl,HD.out,Sep.drop (Sep.dS (Sep.drop (Sep.cX (SF.out))))⟩;rw[aL rfl];go_simp
theorem tM {B:Nat}{w0:World}{C:Cx}{d:Dk}(T:bW B w0)(hr:d.room<=16384)(f:Nat):aW B w0 C d (100000-f) (bn d.room d f):=by
 induction f using Nat.strongRecOn with
 |ind f ih=>exact ib T hr f ih
end
section
open N (Nd nd0 cF dF dZ jo gG Sm)
def RowK (e:TypeId)(k:Nat)(v:Value)(n:Nat)(cs:List Value):aM:=fun w X=>w.ownsRow 0 e k v n cs∧∀q,X q↔v.ownBlock=some q
theorem gB (e:TypeId)(k:Nat)(v:Value)(n:Nat)(cs:List Value):Good (RowK e k v n cs):=
 ⟨fun w w' X h hk _=>⟨gH h.1 (fun q hq=>hk q ((h.2 q).2 hq)),h.2⟩,fun w X h q hq=>(h.1.lt q ((h.2 q).1 hq)).2⟩
section
variable {B:Nat}{w0 w w':World}{l:List aM}{e:TypeId}{k n:Nat}{v v':Value}{cs:List Value}
theorem Sep.Kr (h:Sep B w0 w (RowK e k v n cs::l)):w.ownsRow 0 e k v n cs:=by
 obtain⟨_,_,Y,⟨_,X,_,ha,_⟩,_⟩:=h;exact ha.1
theorem Sep.TI (h:Sep B w0 w l):Sep B w0 w (RowK e k (.slice none 0 0) 0 []::l):=
 h.add (Below.refl _ _) (gB _ _ _ _ _) (X:=fun _=>False) ⟨World.ownsRow_nil w 0 e k,fun q=>by simp[Value.ownBlock]⟩ (fun _ h=>h.elim)
theorem Sep.gf (h:Sep B w0 w (RowK e k v n cs::l))(hn:0<cs.length):∃r c,v=.slice (some ⟨r,0,none⟩) n c∧n<=c∧r<w.heap.size∧∀j,j<cs.length->w.cell? ⟨r,j,none⟩=cs[j]? :=by
 have o:=h.Kr;have hlen:cs.length=n*k:=o.1;rcases o.2 with⟨h1,h2⟩| ⟨g,cap,cur,h1,h2,h3,h4,h5,h6,h7⟩
 ·rw[h2]at hlen;simp at hlen;rw[hlen]at hn;simp at hn
 ·refine⟨g,cap,h1,h4,(Array.getElem?_eq_some_iff.1 h3).1,fun j hj=>?_⟩;simp only[World.cell?,h3];rw[<-h7,List.getElem?_take_of_lt (by omega)];simp
theorem Sep.vT (h:Sep B w0 w (RowK e k v n cs::l)):∃ao c,v=.slice ao n c:=by
 rcases h.Kr.2 with⟨h1,h2⟩| ⟨g,cap,cur,h1,_⟩
 ·exact⟨none,0,by rw[h1,h2]⟩
 ·exact⟨_,_,h1⟩
end
theorem Ks:(Tryz.prog.info? 170).map (fun i=>(i.zero,i.size,i.bytes))=some (some (.agg #[.bool false,.slice none 0 0,.slice none 0 0,.slice none 0 0]),4,80):=by kernel_rfl
def fp (p:NV):List Value:=[.bool p.n.leaf,.slice p.ae p.n.es.length p.ce,.slice p.ak p.n.ks.length p.ck,.slice p.az p.n.ss.length p.cz]
theorem ZW (q:Nat)(u:World):(Instr.slice 204 (.slice (some ⟨q,0,none⟩) 1 1) (some (.int .i64 0)) (some (.int .i64 1)) none).run Tryz.prog u=.ok (.slice (some ⟨q,0,none⟩) 1 1) u:=by kernel_rfl
theorem ZX (q:Nat)(u:World):(Instr.slice 204 (.slice (some ⟨q,0,none⟩) 1 1) none (some (.int .i64 0)) none).run Tryz.prog u=.ok (.slice (some ⟨q,0,none⟩) 0 1) u:=by kernel_rfl
theorem ZY (q:Nat)(u:World):(Instr.slice 48 (.slice (some ⟨q,0,none⟩) 0 0) (some (.int .i64 0)) none none).run Tryz.prog u=.ok (.slice (some ⟨q,0,none⟩) 0 0) u:=by kernel_rfl
section
variable {B:Nat}{w0 w:World}{l:List aM}{q r:Nat}{p pa pb:NV}
theorem Ar (h:Sep B w0 w (aF q (.cells #[.bool p.n.leaf,.slice p.ae p.n.es.length p.ce,.slice p.ak p.n.ks.length p.ck,.slice p.az p.n.ss.length p.cz] 170)::aF r (.cells #[.bool pa.n.leaf,.slice pa.ae pa.n.es.length pa.ce,.slice pa.ak pa.n.ks.length pa.ck,.slice pa.az pa.n.ss.length pa.cz,.bool pb.n.leaf,.slice pb.ae pb.n.es.length pb.ce,.slice pb.ak pb.n.ks.length pb.ck,.slice pb.az pb.n.ss.length pb.cz] 170)::l)):
  Calls Tryz.prog 148 #[.slice (some ⟨q,0,none⟩) 1 1,.int .i64 0,.int .i64 1,.slice (some ⟨r,0,none⟩) 2 2] w fun e w'=>∃g c,e=.returned (.slice (some ⟨g,0,none⟩) 2 c)∧Sep B w0 w' (RowK 170 4 (.slice (some ⟨g,0,none⟩) 2 c) 2 (fp pa++fp pb)::l):=by
 obtain⟨i0,hi,hz0,hz1,hz2⟩:=info_parts Ks;have hq:=h.blk;have hr:=(Sep.pk [_] h).blk;have own:w.ownsRow 0 170 4 (.slice (some ⟨q,0,none⟩) 0 1) 0 []:=⟨rfl,.inr ⟨q,1,_,rfl,Nat.zero_le _,hq,by omega,by unfold maxLen;omega,by simp,by simp⟩⟩;have hn:∀j u,(fp pa++fp pb)[j]? =some u->w.cell? ((⟨r,0,none⟩:Addr).add j)=some u:=fun j u hj=>by
  rw[Go.WideShapes.add_plain,Nat.zero_add];simp only[World.cell?,hr];rw[<-hj];simp[fp]
 have HS:Hid (Sep B w0 w (RowK 170 4 (.slice (some ⟨q,0,none⟩) 0 1) 0 []::l)):=by
  have h1:=Sep.drop (Sep.pk [_] h);exact h1.step (gB _ _ _ _ _) fun X hX=>⟨X,⟨own,fun k=>by rw[hX.2 k];simp[Value.ownBlock,eq_comm]⟩,dw.refl _ _,fun k hk=>.inl hk⟩
 have HN:Hid (∀j u,(fp pa++fp pb)[j]? =some u->w.cell? ((⟨r,0,none⟩:Addr).add j)=some u):=hn;have HI:Hid (Tryz.prog.info? 170=some i0∧i0.zero=some (.agg #[.bool false,.slice none 0 0,.slice none 0 0,.slice none 0 0])∧i0.size=4∧i0.bytes=80):=⟨hi,hz0,hz1,hz2⟩;have r1:=ZW q;have r2:=ZX q;have HO:Hid _:=own;clear h hq hr own hn hi hz0 hz1 hz2;go_enter Tryz.func148,Tryz.ntmps148
 go_wp2_with (at_builtin;refine wpList_append_own_at w rfl _ _ 204 rfl 0 170 i0 _ 4 80 Tryz.underlying204 HI.out.1 HI.out.2.1 HI.out.2.2.1 HI.out.2.2.2 rfl (by decide) _ _ _ rfl HO.out ⟨r,0,none⟩ 2 2 (fp pa++fp pb) rfl rfl HN.out (fun u hu=>by simp[fp]at hu;rcases hu with h|h|h|h|h|h|h|h<;>subst h<;>rfl) (by unfold maxLen;omega) (by omega) (Nat.zero_le _) ?_)
 intro v' w' h2 h3 h4 h5;have SF:Hid (Sep B w0 w' (RowK 170 4 v' 2 (fp pa++fp pb)::l)):=by
  refine HS.out.step (gB _ _ _ _ _) fun X hX=>⟨fun k=>v'.ownBlock=some k,⟨h2,fun k=>Iff.rfl⟩,dw.grown h3 (fun k hk=>(hX.2 k).2 hk),fun k hk=>?_⟩;rcases h5 with e1|e1
  ·exact .inl ((hX.2 k).2 (e1▸hk))
  ·rw[e1]at hk;exact .inr (Nat.le_of_eq (Option.some.inj hk))
 obtain⟨g,c,rfl,_⟩:=Sep.gf SF.out (by simp[fp]);clear h2 h3 h4 h5 HS HN HI HO r1 r2;go_wp2;go_ret;exact⟨g,c,rfl,SF.out⟩
theorem Cr {key:ByteArray}(h:Sep B w0 w (aR 9 (.slice (some ⟨q,0,none⟩) 0 0) []::l))(hc:w.cell? ⟨r,0,none⟩=some (.string key)):
  Calls Tryz.prog 149 #[.slice (some ⟨q,0,none⟩) 0 0,.int .i64 0,.slice (some ⟨r,0,none⟩) 1 1] w fun e w'=>∃ao n c,e=.returned (.slice ao n c)∧Sep B w0 w' (aR 9 (.slice ao n c) [.string key]::l):=by
 have HS:Hid (Sep B w0 w (aR 9 (.slice (some ⟨q,0,none⟩) 0 0) []::l)):=h;have r1:=ZY q;clear h;go_enter Tryz.func149,Tryz.ntmps149
 go_wp2_with (at_builtin;refine Nn rfl _ _ rfl _ _ rfl HS.out r 1 key rfl hc (by simp) ?_)
 intro ao n' c' w3 s3;have SF:Hid (Sep B w0 w3 (aR 9 (.slice ao n' c') [.string key]::l)):=s3;clear s3 HS r1 hc;go_wp2;go_ret;exact⟨ao,n',c',rfl,SF.out⟩
end
end
section
open N (Nd nd0 cF dF dZ jo gG Sm sA sB sM aL)
def GF (B:Nat)(w0:World)(C:Cx)(S':Dr)(d:Dk)(P:List NV)(l:List aM)(parts:List Nd)(keys:List ByteArray)(er:Int)(e:Ending)(w':World):Prop:=
 ∃(ao ay:Option Addr) (cp ny cy:Nat) (ps:List NV) (P':List NV) (d':Dk),ps.map NV.n=parts∧(∀x∈ps,x∈P')∧(∀x∈P,x∈P')∧e=.returned (.tuple #[.slice ao ps.length cp,.slice ay ny cy,.int .i64 er])∧bH d d'∧Sep B w0 w' (DL C S' d' P' (RowK 170 4 (.slice ao ps.length cp) ps.length (ps.flatMap fp)::aR 9 (.slice ay ny cy) (keys.map Value.string)::l))
theorem Pj {l m:List N.En}(h:l.Sublist m):N.cY l<=N.cY m:=by
 induction h with
 |slnil=>exact Nat.le_refl _
 |cons a _ ih=>
  rename_i l m _
  have:N.cY (a::m)=N.lG a+N.cY m:=rfl;omega
 |cons_cons a _ ih=>
  rename_i l m _
  have:N.cY (a::m)=N.lG a+N.cY m:=rfl;have:N.cY (a::l)=N.lG a+N.cY l:=rfl;omega
theorem Pm {l m:List ByteArray}(h:l.Sublist m):N.bV l<=N.bV m:=by
 induction h with
 |slnil=>exact Nat.le_refl _
 |cons a _ ih=>
  rename_i l m _
  have:N.bV (a::m)=5+a.size+N.bV m:=rfl;omega
 |cons_cons a _ ih=>
  rename_i l m _
  have:N.bV (a::m)=5+a.size+N.bV m:=rfl;have:N.bV (a::l)=5+a.size+N.bV l:=rfl;omega
theorem Es {n m:Nd}(h:cB n=true)(h1:m.es.Sublist n.es)(h2:m.ks.Sublist n.ks)(h3:m.ss.Sublist n.ss):cB m=true:=by
 unfold cB at h⊢;simp only[Bool.and_eq_true,decide_eq_true_eq,List.all_eq_true]at h⊢;obtain⟨⟨⟨⟨⟨a1,a2⟩,a3⟩,a4⟩,a5⟩,a6⟩:=h;have b1:=h1.length_le;have b2:=h2.length_le;have b3:=h3.length_le;have b4:=Pj h1;have b5:=Pm h3;exact⟨⟨⟨⟨⟨by omega,by omega⟩,by omega⟩,by omega⟩,by omega⟩,fun k hk=>a6 k (h2.subset hk)⟩
theorem TJ {n:Nd}(h:cB n=true):cB (sA n)=true:=by
 unfold sA;split
 ·unfold N.XK;split
  ·exact Es h (List.take_sublist _ _) (List.nil_sublist _) (List.nil_sublist _)
  ·exact Es h (List.nil_sublist _) (List.take_sublist _ _) (List.take_sublist _ _)
 ·exact h
theorem Sep.Et {B:Nat}{w0 w:World}{l:List aM}{e:TypeId}(h:Sep B w0 w l)(q:Nat)(hq:q=w.heap.size):Sep B w0 (w.alloc (.cells #[] e)) (aR e (.slice (some ⟨q,0,none⟩) 0 0) []::l):=by
 subst hq;exact h.Sv e [] 0 rfl (by omega)
section
variable {B:Nat}{w0 w w':World}{l:List aM}{P:List NV}{C:Cx}{S S':Dr}{d d1:Dk}{depth:Int}{p:NV}{er Nb:Int}{cq:qV}{parts:List Nd}{keys:List ByteArray}
theorem Sep.TK {q:Nat}(h:Sep B w0 w (aF q (.cells (cN p) 170)::l)):Sep B w0 w (RowK 170 4 (.slice (some ⟨q,0,none⟩) 1 1) 1 (fp p)::l):=by
 have hb:=h.blk;exact h.step (gB _ _ _ _ _) fun X hX=>⟨X,⟨⟨rfl,.inr ⟨q,1,_,rfl,Nat.zero_le _,hb,by omega,by unfold maxLen;omega,by simp,by simp[fp]⟩⟩,fun k=>by rw[hX.2 k];simp[Value.ownBlock,eq_comm]⟩,dw.refl _ _,fun k hk=>.inl hk⟩
theorem rh {e:Ending}(h:Sep B w0 w (DL C S d1 P l))(hd:bH d d1)(he:e=.returned (.tuple #[.slice none 0 0,.slice none 0 0,.int .i64 er])):GF B w0 C S d P l [] [] er e w:=by
 refine⟨none,none,0,0,0,[],P,d1,rfl,(fun x hx=>absurd hx List.not_mem_nil),fun _ h=>h,he,hd,?_⟩;exact Sep.ur (Sep.oW (Sep.sS (Sep.TI h) 9))
theorem Gq (hd:bH d d1)(h:Sep B w0 w (DL C S d1 P l))(h0:p.n.es=[])(h1:p.n.ks=[]):Calls Tryz.prog 119 #[ptr C.q,.agg (cN p),.int .i64 depth] w (GF B w0 C S d P l [] [] 0):=by
 have SF:Hid (Sep B w0 (w.alloc (.cells (cN p) 170)) _):=h.alloc _;have e1:((p.n.es.length:Int)==0)=true:=by rw[h0];rfl
 have e2:((p.n.ks.length:Int)==0)=true:=by rw[h1];rfl
 have HD:Hid (bH d d1):=hd;clear h h0 h1 hd;go_enter Tryz.func119,Tryz.ntmps119;go_wp2
 go_ret3
 exact rh SF.out HD.out rfl
theorem Cs (T:bW B w0)(hst:aW B w0 C d Nb cq)(hd:bH d d1)(h:Sep B w0 w (DL C S d1 P l))(hp:p∈P)(hsm:cB p.n=true)(I:DI S d.room)(hr:d.room<=16384)(hd0:-1<=depth)(hd1:depth<=Nb)(h0:p.n.es≠[])(h2:dF p.n=false):Calls Tryz.prog 119 #[ptr C.q,.agg (cN p),.int .i64 depth] w (GF B w0 C S d P l [] [] 3):=by
 have S1:Hid (Sep B w0 (w.alloc (.cells (cN p) 170)) _):=Sep.ur (h.aO _);have e1:((p.n.es.length:Int)==0)=false:=by
  have:=List.length_pos_iff.2 h0;simp;omega
 have HP:Hid (p∈P):=hp;have HD:Hid (bH d d1):=hd;have Eu:Hid (Sm p.n):=(fe hsm).1;have HI:Hid (DI S d.room):=I;have HX:Hid (-1<=depth∧depth<=Nb∧d.room<=16384):=⟨hd0,hd1,hr⟩;have HT:Hid (aW B w0 C d Nb cq):=hst;clear h hd hp hsm I h0 hd0 hd1 hr hst;go_enter Tryz.func119,Tryz.ntmps119
 go_wp2_with fail
 clear e1;generalize World.alloc _ _=v1 at*;generalize w.heap.size=q0 at*;refine Calls.mono (q9 S1.out HP.out Eu.out) ?_;rintro e v2 ⟨rfl,s2⟩;have S2:Hid (Sep B w0 v2 (DL C S d1 P (aF q0 (.cells (cN p) 170)::l))):=s2;clear s2 S1;rw[h2];go_wp2
 go_ret3
 exact rh (Sep.drop (Sep.dS (S2.out))) HD.out rfl
theorem Ct (T:bW B w0)(hst:aW B w0 C d Nb cq)(hd:bH d d1)(h:Sep B w0 w (DL C S d1 P l))(hp:p∈P)(hsm:cB p.n=true)(I:DI S d.room)(hr:d.room<=16384)(hd0:-1<=depth)(hd1:depth<=Nb)(h0:p.n.es=[])(h1:p.n.ks≠[])(h2:dF p.n=false):Calls Tryz.prog 119 #[ptr C.q,.agg (cN p),.int .i64 depth] w (GF B w0 C S d P l [] [] 3):=by
 have S1:Hid (Sep B w0 (w.alloc (.cells (cN p) 170)) _):=Sep.ur (h.aO _);have e1:((p.n.es.length:Int)==0)=true:=by rw[h0];rfl
 have e2:((p.n.ks.length:Int)==0)=false:=by
  have:=List.length_pos_iff.2 h1;simp;omega
 have HP:Hid (p∈P):=hp;have HD:Hid (bH d d1):=hd;have Eu:Hid (Sm p.n):=(fe hsm).1;have HI:Hid (DI S d.room):=I;have HX:Hid (-1<=depth∧depth<=Nb∧d.room<=16384):=⟨hd0,hd1,hr⟩;have HT:Hid (aW B w0 C d Nb cq):=hst;clear h hd hp hsm I h0 h1 hd0 hd1 hr hst;go_enter Tryz.func119,Tryz.ntmps119
 go_wp2_with fail
 clear e1 e2;generalize World.alloc _ _=v1 at*;generalize w.heap.size=q0 at*;refine Calls.mono (q9 S1.out HP.out Eu.out) ?_;rintro e v2 ⟨rfl,s2⟩;have S2:Hid (Sep B w0 v2 (DL C S d1 P (aF q0 (.cells (cN p) 170)::l))):=s2;clear s2 S1;rw[h2];go_wp2
 go_ret3
 exact rh (Sep.drop (Sep.dS (S2.out))) HD.out rfl
theorem Ew:(∀(T:bW B w0) (hst:aW B w0 C d Nb cq) (hd:bH d d1) (h:Sep B w0 w (DL C S d1 P l)) (hp:p∈P) (hsm:cB p.n=true) (I:DI S d.room) (hr:d.room<=16384) (hd0:-1<=depth) (hd1:depth<=Nb) (h0:p.n.es≠[]) (h2:dF p.n=true) (h3:cF p.n=true),Calls Tryz.prog 119 #[ptr C.q,.agg (cN p),.int .i64 depth] w (GF B w0 C S d P l [p.n] [] 0))∧
  (∀(T:bW B w0) (hst:aW B w0 C d Nb cq) (hd:bH d d1) (h:Sep B w0 w (DL C S d1 P l)) (hp:p∈P) (hsm:cB p.n=true) (I:DI S d.room) (hr:d.room<=16384) (hd0:-1<=depth) (hd1:depth<=Nb) (h0:p.n.es=[]) (h1:p.n.ks≠[]) (h2:dF p.n=true) (h3:cF p.n=true),Calls Tryz.prog 119 #[ptr C.q,.agg (cN p),.int .i64 depth] w (GF B w0 C S d P l [p.n] [] 0)):=by
 and_intros
 have jq:=trivial
 rotate_left
 have fC:=trivial
 rotate_left
 all_goals
  first
   |have zz:=fC
    intro T hst hd h hp hsm I hr hd0 hd1 h0 h1 h2 h3
   |intro T hst hd h hp hsm I hr hd0 hd1 h0 h2 h3
  have S1:Hid (Sep B w0 (w.alloc (.cells (cN p) 170)) _):=Sep.ur (h.aO _)
  first
   |have zz:=fC
    have e1:((p.n.es.length:Int)==0)=true:=by rw[h0];rfl
    have e2:((p.n.ks.length:Int)==0)=false:=by
     have:=List.length_pos_iff.2 h1;simp;omega
   |have e1:((p.n.es.length:Int)==0)=false:=by
     have:=List.length_pos_iff.2 h0;simp;omega
  have HP:Hid (p∈P):=hp;have HD:Hid (bH d d1):=hd;have Eu:Hid (Sm p.n):=(fe hsm).1;have HI:Hid (DI S d.room):=I;have HX:Hid (-1<=depth∧depth<=Nb∧d.room<=16384):=⟨hd0,hd1,hr⟩;have HT:Hid (aW B w0 C d Nb cq):=hst
  first
   |have zz:=fC
    clear h hd hp hsm I h0 h1 hd0 hd1 hr hst
   |clear h hd hp hsm I h0 hd0 hd1 hr hst
  go_enter Tryz.func119,Tryz.ntmps119
  go_wp2_with fail
  first
   |have zz:=fC
    clear e1 e2
   |clear e1
  generalize World.alloc _ _=v1 at*;generalize w.heap.size=q0 at*;refine Calls.mono (q9 S1.out HP.out Eu.out) ?_;rintro e v2 ⟨rfl,s2⟩;have S2:Hid (Sep B w0 v2 (DL C S d1 P (aF q0 (.cells (cN p) 170)::l))):=s2;clear s2 S1;rw[h2];have S3:Hid (Sep B w0 ((v2.alloc (.cells (cN p) 170)).alloc (.cells #[] 9)) (DL C S d1 P (aF q0 (.cells (cN p) 170)::aF v2.heap.size (.cells (cN p) 170)::aR 9 (.slice (some ⟨(v2.heap.size+1),0,none⟩) 0 0) []::l))):=Sep.yD (Sep.Et (Sep.oW (Sep.aO S2.out _)) _ (by simp));obtain⟨_,⟨c0,c1,c2,c3⟩,_⟩:=Sep.c4 (Sep.dS (S2.out));clear S2;go_wp2;clear c0 c1 c2 c3;generalize World.alloc _ _=v3 at*;generalize v2.heap.size+1=qk at*;generalize v2.heap.size=qp at*;refine wp_loop_rounds 3 ?_;rw[rounds_succ];obtain⟨_,⟨c0,c1,c2,c3⟩,_⟩:=Sep.c4 (Sep.cX (S3.out))
  go_wp2_with fail
  clear c0 c1 c2 c3;refine Calls.mono (tL S3.out HP.out Eu.out) ?_;rintro e v4 ⟨rfl,s4⟩;have S4:Hid (Sep B w0 v4 (DL C S d1 P (aF q0 (.cells (cN p) 170)::aF qp (.cells (cN p) 170)::aR 9 (.slice (some ⟨qk,0,none⟩) 0 0) []::l))):=s4;clear s4 S3;rw[h3];go_wp2;rw[rounds_succ];go_wp2
  go_ret3
  refine⟨some ⟨qp,0,none⟩,some ⟨qk,0,none⟩,1,0,0,[p],P,d1,rfl,(fun x hx=>by rw[List.mem_singleton.1 hx];exact HP.out),fun _ h=>h,rfl,HD.out,?_⟩;exact Sep.ur (Sep.TK (Sep.dS (Sep.drop (Sep.dS (S4.out)))))
theorem Ex:(∀(T:bW B w0) (hst:aW B w0 C d Nb cq) (hd:bH d d1) (h:Sep B w0 w (DL C S d1 P l)) (hp:p∈P) (hsm:cB p.n=true) (I:DI S d.room) (hr:d.room<=16384) (hd0:-1<=depth) (hd1:depth<=Nb) (h0:p.n.es≠[]) (hsb:cB p.n=true) (h2:dF p.n=true) (h3:cF p.n=false) (he:(match cq S (sA p.n) depth (((sA p.n).ks.length:Int)-1) ((sA p.n).ks.length:Int)with|none=>none|some ((a,e),S1)=>if e≠0 then some (([],[],e),S1)else if(cF a&&cF (sB p.n))=true then some (([a,sB p.n],[sM p.n],0),S1)else none)=some ((parts,keys,er),S')),Calls Tryz.prog 119 #[ptr C.q,.agg (cN p),.int .i64 depth] w (GF B w0 C S' d P l parts keys er))∧
  (∀(T:bW B w0) (hst:aW B w0 C d Nb cq) (hd:bH d d1) (h:Sep B w0 w (DL C S d1 P l)) (hp:p∈P) (hsm:cB p.n=true) (I:DI S d.room) (hr:d.room<=16384) (hd0:-1<=depth) (hd1:depth<=Nb) (h0:p.n.es=[]) (h1:p.n.ks≠[]) (hsb:cB p.n=true) (h2:dF p.n=true) (h3:cF p.n=false) (he:(match cq S (sA p.n) depth (((sA p.n).ks.length:Int)-1) ((sA p.n).ks.length:Int)with|none=>none|some ((a,e),S1)=>if e≠0 then some (([],[],e),S1)else if(cF a&&cF (sB p.n))=true then some (([a,sB p.n],[sM p.n],0),S1)else none)=some ((parts,keys,er),S')),Calls Tryz.prog 119 #[ptr C.q,.agg (cN p),.int .i64 depth] w (GF B w0 C S' d P l parts keys er)):=by
 and_intros
 have jq:=trivial
 rotate_left
 have fC:=trivial
 rotate_left
 all_goals
  first
   |have zz:=fC
    intro T hst hd h hp hsm I hr hd0 hd1 h0 h1 hsb h2 h3 he
   |intro T hst hd h hp hsm I hr hd0 hd1 h0 hsb h2 h3 he
  have S1:Hid (Sep B w0 (w.alloc (.cells (cN p) 170)) _):=Sep.ur (h.aO _)
  first
   |have zz:=fC
    have e1:((p.n.es.length:Int)==0)=true:=by rw[h0];rfl
    have e2:((p.n.ks.length:Int)==0)=false:=by
     have:=List.length_pos_iff.2 h1;simp;omega
   |have e1:((p.n.es.length:Int)==0)=false:=by
     have:=List.length_pos_iff.2 h0;simp;omega
  have HP:Hid (p∈P):=hp;have HD:Hid (bH d d1):=hd;have Eu:Hid (Sm p.n):=(fe hsm).1;have HI:Hid (DI S d.room):=I;have HX:Hid (-1<=depth∧depth<=Nb∧d.room<=16384):=⟨hd0,hd1,hr⟩;have HT:Hid (aW B w0 C d Nb cq):=hst;have ZQ:Hid (cB p.n=true):=hsb;have HE:Hid ((match cq S (sA p.n) depth (((sA p.n).ks.length:Int)-1) ((sA p.n).ks.length:Int)with|none=>none|some ((a,e),S1)=>if e≠0 then some (([],[],e),S1)else if(cF a&&cF (sB p.n))=true then some (([a,sB p.n],[sM p.n],0),S1)else none)=some ((parts,keys,er),S')):=he
  first
   |have zz:=fC
    clear h hd hp hsm I h0 h1 hd0 hd1 hr hst he hsb
   |clear h hd hp hsm I h0 hd0 hd1 hr hst he hsb
  go_enter Tryz.func119,Tryz.ntmps119
  go_wp2_with fail
  first
   |have zz:=fC
    clear e1 e2
   |clear e1
  generalize World.alloc _ _=v1 at*;generalize w.heap.size=q0 at*;refine Calls.mono (q9 S1.out HP.out Eu.out) ?_;rintro e v2 ⟨rfl,s2⟩;have S2:Hid (Sep B w0 v2 (DL C S d1 P (aF q0 (.cells (cN p) 170)::l))):=s2;clear s2 S1;rw[h2];have S3:Hid (Sep B w0 ((v2.alloc (.cells (cN p) 170)).alloc (.cells #[] 9)) (DL C S d1 P (aF q0 (.cells (cN p) 170)::aF v2.heap.size (.cells (cN p) 170)::aR 9 (.slice (some ⟨(v2.heap.size+1),0,none⟩) 0 0) []::l))):=Sep.yD (Sep.Et (Sep.oW (Sep.aO S2.out _)) _ (by simp));obtain⟨_,⟨c0,c1,c2,c3⟩,_⟩:=Sep.c4 (Sep.dS (S2.out));clear S2;go_wp2;clear c0 c1 c2 c3;generalize World.alloc _ _=v3 at*;generalize v2.heap.size+1=qk at*;generalize v2.heap.size=qp at*;refine wp_loop_rounds 5 ?_;rw[rounds_succ];obtain⟨_,⟨c0,c1,c2,c3⟩,_⟩:=Sep.c4 (Sep.cX (S3.out))
  go_wp2_with fail
  clear c0 c1 c2 c3;refine Calls.mono (tL S3.out HP.out Eu.out) ?_;rintro e v4 ⟨rfl,s4⟩;have S4:Hid (Sep B w0 v4 (DL C S d1 P (aF q0 (.cells (cN p) 170)::aF qp (.cells (cN p) 170)::aR 9 (.slice (some ⟨qk,0,none⟩) 0 0) []::l))):=s4;clear s4 S3;rw[h3];obtain⟨_,⟨c0,c1,c2,c3⟩,_⟩:=Sep.c4 (Sep.cX (S4.out))
  go_wp2_with fail
  clear c0 c1 c2 c3;refine Calls.mono (Kn S4.out HP.out Eu.out) ?_;rintro e v5 ⟨pa,pb,hna,hnb,rfl,s5⟩;have NA:Hid (pa.n=sA p.n):=hna;have NB:Hid (pb.n=sB p.n):=hnb;have S6:Hid (Sep B w0 ((v5.alloc (.cells (cN pa) 170)).alloc (.cells (cN pb) 170)) (DL C S d1 (pa::pb::P) (aF q0 (.cells (cN p) 170)::aF qp (.cells (cN p) 170)::aR 9 (.slice (some ⟨qk,0,none⟩) 0 0) []::aF v5.heap.size (.cells (cN pa) 170)::aF (v5.heap.size+1) (.cells (cN pb) 170)::l))):=Sep.Yc (Sep.aZ (Sep.Mc (Sep.aO s5 _)) _ _ (by simp));clear s5 hna hnb S4;have hE:=HE.out;rw[<-NA.out]at hE;have Yf:Hid (cB pa.n=true):=by
   show _=true;rw[NA.out];exact TJ ZQ.out
  have QD:Hid (pa.n.ks.length<=500):=(fe Yf.out).2.1;cases hst:cq S pa.n depth ((pa.n.ks.length:Int)-1) (pa.n.ks.length:Int)with
  |none=>
   rw[hst]at hE;cases hE
  |some rr=>
  obtain⟨⟨m1,e1⟩,S1⟩:=rr;rw[hst]at hE;simp only at hE;have KS:Hid (Calls Tryz.prog 124 #[ptr C.q,.agg (cN pa),.int .i64 depth,.int .i64 ((pa.n.ks.length:Int)-1),.int .i64 (pa.n.ks.length:Int)] ((v5.alloc (.cells (cN pa) 170)).alloc (.cells (cN pb) 170)) fun e w'=>∃pm P4 d4,pm.n=m1∧pm∈P4∧(∀x∈pa::pb::P,x∈P4)∧e=.returned (.tuple #[.agg (cN pm),.int .i64 e1])∧bH d d4∧Sep B w0 w' (DL C S1 d4 P4 (aF q0 (.cells (cN p) 170)::aF qp (.cells (cN p) 170)::aR 9 (.slice (some ⟨qk,0,none⟩) 0 0) []::aF v5.heap.size (.cells (cN pa) 170)::aF (v5.heap.size+1) (.cells (cN pb) 170)::l))):=HT.out S6.out HD.out List.mem_cons_self Yf.out HI.out HX.out.1 HX.out.2.1 (by omega) (by have:=QD.out;omega) (by omega) (by have:=QD.out;omega) hst;have Yi:IntKind.i64.wrap ((pa.n.ks.length:Int)-1)=(pa.n.ks.length:Int)-1:=bM (by omega) (by have:=QD.out;omega);have HE2:Hid ((if e1≠0 then some (([],[],e1),S1)else if(cF m1&&cF (sB p.n))=true then some (([m1,sB p.n],[sM p.n],0),S1)else none)=some ((parts,keys,er),S')):=hE;clear hE hst HE
  go_wp2_with fail
  clear Yi;generalize World.alloc _ _=v6 at*;generalize v5.heap.size+1=qb at*;generalize v5.heap.size=qa at*;refine Calls.mono KS.out ?_;rintro e v7 ⟨pm,P4,d4,hnm,hmm,hs4,rfl,hd4,s7⟩;subst hnm;have D4:Hid (bH d d4):=hd4;have M4:Hid (∀x∈P,x∈P4):=fun x hx=>hs4 x (List.mem_cons_of_mem _ (List.mem_cons_of_mem _ hx));have MM:Hid (pm∈P4):=hmm;have MB:Hid (pb∈P4):=hs4 _ (List.mem_cons_of_mem _ List.mem_cons_self);have S7:Hid (Sep B w0 v7 (DL C S1 d4 P4 (aF q0 (.cells (cN p) 170)::aF qp (.cells (cN p) 170)::aR 9 (.slice (some ⟨qk,0,none⟩) 0 0) []::aF qa (.cells (cN pa) 170)::aF qb (.cells (cN pb) 170)::l))):=s7;clear s7 hd4 hs4 hmm KS S6;obtain⟨_,⟨c0,c1,c2,c3⟩,g0,g1,g2,g3⟩:=Sep.c4 (Sep.je (S7.out));by_cases he1:e1≠0
  ·have hE:=HE2.out;rw[if_pos he1]at hE;obtain⟨hm,hk,hr',hS⟩:[]=parts∧[]=keys∧e1=er∧S1=S':=by
    cases hE;exact⟨rfl,rfl,rfl,rfl⟩
   subst hm hk hr' hS;have hne:(e1 != 0)=true:=bne_iff_ne.2 he1;have SF:Hid (Sep B w0 ((((v7.setCell ⟨qa,0,none⟩ (.bool pm.n.leaf)).setCell ⟨qa,1,none⟩ (.slice pm.ae pm.n.es.length pm.ce)).setCell ⟨qa,2,none⟩ (.slice pm.ak pm.n.ks.length pm.ck)).setCell ⟨qa,3,none⟩ (.slice pm.az pm.n.ss.length pm.cz)) _):=Sep.Mc (Sep.s4 (Sep.je (S7.out)) _ _ _ _);clear S7 hE HE2 he1;go_wp2
   go_ret3
   obtain⟨ao,ay,cp,ny,cy,ps,P',d',t1,t2,t3,t4,t5,t6⟩:=rh (er:=e1) (e:=.returned (.tuple #[.slice none 0 0,.slice none 0 0,.int .i64 e1])) (Sep.drop (Sep.dS (Sep.drop (Sep.cX (Sep.drop (Sep.eH (Sep.drop (Sep.je (Sep.drop (Sep.qw (SF.out))))))))))) D4.out rfl;exact⟨ao,ay,cp,ny,cy,ps,P',d',t1,t2,fun x hx=>t3 x (M4.out x hx),t4,t5,t6⟩
  ·have e0:e1=0:=by simpa using he1
   subst e0;have hE:=HE2.out;rw[if_neg he1]at hE;by_cases hfg:¬(cF pm.n&&cF (sB p.n))=true
   ·rw[if_neg hfg]at hE;cases hE
   have Yl:(cF pm.n&&cF (sB p.n))=true:=by simpa using hfg
   rw[if_pos Yl]at hE;obtain⟨hm,hk,hr',hS⟩:[pm.n,sB p.n]=parts∧[sM p.n]=keys∧(0:Int)=er∧S1=S':=by
    cases hE;exact⟨rfl,rfl,rfl,rfl⟩
   subst hm hk hr' hS;have FM:Hid (cF pm.n=true):=(Bool.and_eq_true_iff.1 Yl).1;have FB:Hid (cF pb.n=true):=by
    show _=true;rw[NB.out];exact(Bool.and_eq_true_iff.1 Yl).2
   generalize sM p.n=key at*;have n1:qa≠qb:=Sep.ne (Sep.qw (Sep.qw (S7.out)));have n2:=n1.symm;obtain⟨_,⟨i0,i1,i2,i3⟩,_⟩:=Sep.c4 (Sep.qw (S7.out));have S8:Hid (Sep B w0 (((((v7.setCell ⟨qa,0,none⟩ (.bool pm.n.leaf)).setCell ⟨qa,1,none⟩ (.slice pm.ae pm.n.es.length pm.ce)).setCell ⟨qa,2,none⟩ (.slice pm.ak pm.n.ks.length pm.ck)).setCell ⟨qa,3,none⟩ (.slice pm.az pm.n.ss.length pm.cz)).alloc (.cells #[.bool pm.n.leaf,.slice pm.ae pm.n.es.length pm.ce,.slice pm.ak pm.n.ks.length pm.ck,.slice pm.az pm.n.ss.length pm.cz,.bool pb.n.leaf,.slice pb.ae pb.n.es.length pb.ce,.slice pb.ak pb.n.ks.length pb.ck,.slice pb.az pb.n.ss.length pb.cz] 170)) (aF qp (.cells (cN p) 170)::aF v7.heap.size (.cells #[.bool pm.n.leaf,.slice pm.ae pm.n.es.length pm.ce,.slice pm.ak pm.n.ks.length pm.ck,.slice pm.az pm.n.ss.length pm.cz,.bool pb.n.leaf,.slice pb.ae pb.n.es.length pb.ce,.slice pb.ak pb.n.ks.length pb.ck,.slice pb.az pb.n.ss.length pb.cz] 170)::DL C S1 d4 P4 (aF q0 (.cells (cN p) 170)::aR 9 (.slice (some ⟨qk,0,none⟩) 0 0) []::aF qa (.cells (cN pm) 170)::aF qb (.cells (cN pb) 170)::l))):=Sep.eH (Sep.aZ (Sep.Mc (Sep.s4 (Sep.je (S7.out)) _ _ _ _)) _ _ (by simp));clear hE HE2 he1 S7 hfg Yl
   go_wp2_with fail
   clear c0 c1 c2 c3 g0 g1 g2 g3 i0 i1 i2 i3;generalize World.setCell _ _ _=v8 at*;generalize v7.heap.size=qr at*;refine Calls.mono (Ar S8.out) ?_;rintro e v9 ⟨g,c,rfl,s9⟩;have S9:Hid (Sep B w0 (v9.alloc (.cells #[.string key] 9)) _):=Sep.alloc (Sep.eH (s9)) _;clear s9 S8
   go_wp2_with fail
   refine Calls.mono (Cr (key:=key) S9.out (by simp)) ?_;rintro e v10 ⟨ay,ny,cy,rfl,s10⟩;have Ep:Hid _:=Sep.ur (Sep.oW (s10));clear s10 S9;go_wp2;rw[rounds_succ];obtain⟨g',c',eg,_,gs,hc⟩:=Sep.gf (Sep.dS (Ep.out)) (by simp[fp]);cases eg;have c0:v10.cell? ⟨g,0,none⟩=some (.bool pm.n.leaf):=hc 0 (by simp[fp]);have c1:v10.cell? ⟨g,1,none⟩=some (.slice pm.ae pm.n.es.length pm.ce):=hc 1 (by simp[fp]);have c2:v10.cell? ⟨g,2,none⟩=some (.slice pm.ak pm.n.ks.length pm.ck):=hc 2 (by simp[fp]);have c3:v10.cell? ⟨g,3,none⟩=some (.slice pm.az pm.n.ss.length pm.cz):=hc 3 (by simp[fp]);clear hc
   go_wp2_with fail
   refine Calls.mono (tL Ep.out MM.out (gI FM.out).1) ?_;rintro e v11 ⟨rfl,s11⟩;have TG:Hid (Sep B w0 v11 (DL C S1 d4 P4 (RowK 170 4 (.slice (some ⟨g,0,none⟩) 2 c) 2 (fp pm++fp pb)::aR 9 (.slice ay ny cy) [.string key]::aF q0 (.cells (cN p) 170)::aF qa (.cells (cN pm) 170)::aF qb (.cells (cN pb) 170)::l))):=s11;clear s11 Ep c0 c1 c2 c3;rw[FM.out];go_wp2;rw[rounds_succ];obtain⟨g',c',eg,_,gs',hc⟩:=Sep.gf (Sep.dS (TG.out)) (by simp[fp]);cases eg;have c4:v11.cell? ⟨g,4,none⟩=some (.bool pb.n.leaf):=hc 4 (by simp[fp]);have c5:v11.cell? ⟨g,5,none⟩=some (.slice pb.ae pb.n.es.length pb.ce):=hc 5 (by simp[fp]);have c6:v11.cell? ⟨g,6,none⟩=some (.slice pb.ak pb.n.ks.length pb.ck):=hc 6 (by simp[fp]);have c7:v11.cell? ⟨g,7,none⟩=some (.slice pb.az pb.n.ss.length pb.cz):=hc 7 (by simp[fp]);clear hc
   go_wp2_with fail
   refine Calls.mono (tL TG.out MB.out (gI FB.out).1) ?_;rintro e v12 ⟨rfl,s12⟩;have Yk:Hid (Sep B w0 v12 (DL C S1 d4 P4 (RowK 170 4 (.slice (some ⟨g,0,none⟩) 2 c) 2 (fp pm++fp pb)::aR 9 (.slice ay ny cy) [.string key]::aF q0 (.cells (cN p) 170)::aF qa (.cells (cN pm) 170)::aF qb (.cells (cN pb) 170)::l))):=s12;clear s12 TG c4 c5 c6 c7;rw[FB.out];go_wp2;rw[rounds_succ];go_wp2
   go_ret3
   refine⟨some ⟨g,0,none⟩,ay,c,ny,cy,[pm,pb],P4,d4,by simp[NB.out],?_,M4.out,rfl,D4.out,?_⟩
   ·intro x hx;rcases List.mem_cons.1 hx with rfl|hx
    ·exact MM.out
    ·rw[List.mem_singleton.1 hx];exact MB.out
   ·exact Sep.drop (Sep.eH (Sep.drop (Sep.eH (Sep.drop (Sep.eH (Yk.out))))))
theorem Gr (T:bW B w0)(hst:aW B w0 C d Nb cq)(hd:bH d d1)(h:Sep B w0 w (DL C S d1 P l))(hp:p∈P)(I:DI S d.room)(hr:d.room<=16384)(hd0:-1<=depth)(hd1:depth<=Nb)(he:bY cq S p.n depth=some ((parts,keys,er),S')):Calls Tryz.prog 119 #[ptr C.q,.agg (cN p),.int .i64 depth] w (GF B w0 C S' d P l parts keys er):=by
 unfold bY at he;by_cases h0:p.n.es=[]∧p.n.ks=[]
 ·rw[if_pos h0]at he;cases he;exact Gq hd h h0.1 h0.2
 ·rw[if_neg h0]at he;by_cases hs:cB p.n=false
  ·rw[if_pos hs]at he;cases he
  ·rw[if_neg hs]at he;have hsm:cB p.n=true:=by simpa using hs
   by_cases hw:dF p.n=false
   ·rw[if_pos hw]at he;cases he;by_cases he0:p.n.es=[]
    ·exact Ct T hst hd h hp hsm I hr hd0 hd1 he0 (fun e=>h0 ⟨he0,e⟩) hw
    ·exact Cs T hst hd h hp hsm I hr hd0 hd1 he0 hw
   ·rw[if_neg hw]at he;have hw':dF p.n=true:=by simpa using hw
    by_cases hf:cF p.n=true
    ·rw[if_pos hf]at he;cases he;by_cases he0:p.n.es=[]
     ·exact Ew.2 T hst hd h hp hsm I hr hd0 hd1 he0 (fun e=>h0 ⟨he0,e⟩) hw' hf
     ·exact Ew.1 T hst hd h hp hsm I hr hd0 hd1 he0 hw' hf
    ·rw[if_neg hf]at he;have hf':cF p.n=false:=by simpa using hf
     by_cases he0:p.n.es=[]
     ·exact Ex.2 T hst hd h hp hsm I hr hd0 hd1 he0 (fun e=>h0 ⟨he0,e⟩) hsm hw' hf' he
     ·exact Ex.1 T hst hd h hp hsm I hr hd0 hd1 he0 hsm hw' hf' he
theorem DI.fitting {room:Nat}(hI:∀ {S S':Dr} {n:Nd} {depth i tt:Int} {r:Nd×Int},DI S room->cq S n depth i tt=some (r,S')->DI S' room){n:Nd}{r:List Nd×List ByteArray×Int}(I:DI S room)(he:bY cq S n depth=some (r,S')):DI S' room:=by
 unfold bY at he
 repeat' split at he
 all_goals first
  |(cases he;done)
  |(cases he;exact I)
  |(cases he;exact hI I (by assumption))
  |skip
end
end
end Go.Proofs.YtcenfooehjcddaaGreatDoor

/- Walks of the package cowtree and of what it stands on: lemmas, made short. -/
import Derived.Test.YtdcpfbidcpfboaaGreatDoorR5
import Derived.Test.YtdcpfbidcpfboaaGreatDoorR11
import Derived.Deep.LoopGhost
import Derived.Maps.AppendAt
set_option maxHeartbeats 16000000
set_option maxRecDepth 100000
set_option linter.unusedVariables false
set_option linter.unusedSimpArgs false
namespace Go.Proofs.YtdcpfbidcpfboaaGreatDoor
open Go.Shelf Go.RowKit Go.Lib Go.Sort
namespace N
section
attribute [local go_sem ↓] Go.wp_at_zero Go.wp_at_succ
def I6 (W:World)(p fr tr fa ta no:Nat)(ae ak az ao ay:Option Addr)(ce ck cz co cy:Nat)(es:List En)(ks kk:List Int)(ss yy:List ByteArray){y6 y7 y8 y9 y13 tW pN pO sN wF wG y20 y21 y22 y23 y24 y25 yJ y27 y28 y29 yK y31 y32 wK y34 ua ub wL y38 y39 yL yM yN yO Ex Ey Ez EA EB EC AG AH AJ AK AL AO:Value}(C:List Bool->Act->Prop)(w:World):Prop:=∀{f0 f1 f2 f3 f4 f5 f6 f7 f8 f9 f10 f11 f12 f13 f14 f15 f16 f17:Bool}{Nc Nf Ng I7 Nh Ni Cz xF Mk Ig x66 Ih Ml x69 Mm Ii Mo:Value},f17=false->RB W (p+1) 184 w->Hid (f0=true->Nc=.pointer (some ⟨p,1,none⟩))->Hid (f1=true->Nf=.slice ae es.length ce)->Hid (f2=true->∃qq,Ng=.slice (some ⟨qq,0,none⟩) 1 1∧Cl w qq #[.slice ae es.length ce] 55)->Hid (f3=true->∃ao n c,I7=.slice ao n c∧bc (p+2) w I7 (es))->Hid (f4=true->Nh=.pointer (some ⟨p,2,none⟩))->Hid (f5=true->Ni=.slice ak ks.length ck)->Hid (f6=true->Cz=.int .i64 fr)->Hid (f7=true->xF=.int .i64 tr)->Hid (f8=true->Mk=.slice ao no co)->Hid (f9=true->∃ao n c,Ig=.slice ao n c∧dP (p+2) w Ig (iG ks fr tr kk))->Hid (f10=true->x66=.pointer (some ⟨p,3,none⟩))->Hid (f11=true->Ih=.slice az ss.length cz)->Hid (f12=true->Ml=.int .i64 fa)->Hid (f13=true->x69=.int .i64 ta)->Hid (f14=true->Mm=.slice ay yy.length cy)->Hid (f15=true->∃ao n c,Ii=.slice ao n c∧cH (p+2) w Ii (iG ss fa ta yy))->Hid (f16=true->f3=true∧f9=true∧f15=true∧Mo=.agg #[.bool false,I7,Ig,Ii])->C [f0,f1,f2,f3,f4,f5,f6,f7,f8,f9,f10,f11,f12,f13,f14,f15,f16,f17] {tmps:=#[.agg #[.bool false,.slice ae es.length ce,.slice ak ks.length ck,.slice az ss.length cz],.int .i64 fr,.int .i64 tr,.slice ao no co,.slice ay yy.length cy,.pointer (some ⟨p,0,none⟩),y6,y7,y8,y9,.pointer (some ⟨p+1,0,none⟩),.int .i64 fa,.int .i64 ta,y13,tW,pN,pO,sN,wF,wG,y20,y21,y22,y23,y24,y25,yJ,y27,y28,y29,yK,y31,y32,wK,y34,ua,ub,wL,y38,y39,yL,yM,yN,yO,Ex,Ey,Ez,EA,EB,EC,AG,AH,AJ,AK,AL,AO,Nc,Nf,Ng,I7,Nh,Ni,Cz,xF,Mk,Ig,x66,Ih,Ml,x69,Mm,Ii,Mo],defers:=[]}
theorem A9:(∀(es:List En) (ks kk:List Int) (ss yy:List ByteArray) (fr tr:Nat) (ve vk vs vo vy:Value) (w:World) (he:Row aG 2 w ve es) (hk:Row encI 1 w vk ks) (hss:Row encS 1 w vs ss) (hkk:Row encI 1 w vo kk) (kO:Row encS 1 w vy yy) (s1:es.length<=1000) (s2:ks.length<=1000) (s3:ss.length<=1000) (s4:kk.length<=1000) (s5:yy.length<=1000) (hft:fr<tr) (htk:tr<=ks.length) (hyk:(yy.length:Int)=max ((kk.length:Int)-1) 0) (ta:Nat) (g:0<kk.length) (ht1:ta=tr-1),Calls Tryz.prog 137 #[.agg #[.bool false,ve,vk,vs],.int .i64 fr,.int .i64 tr,vo,vy] w (Eu w ⟨false,es,iG ks fr tr kk,iG ss fr ta yy⟩))∧
  (∀(es:List En) (ks kk:List Int) (ss yy:List ByteArray) (fr tr:Nat) (ve vk vs vo vy:Value) (w:World) (he:Row aG 2 w ve es) (hk:Row encI 1 w vk ks) (hss:Row encS 1 w vs ss) (hkk:Row encI 1 w vo kk) (kO:Row encS 1 w vy yy) (s1:es.length<=1000) (s2:ks.length<=1000) (s3:ss.length<=1000) (s4:kk.length<=1000) (s5:yy.length<=1000) (hft:fr<tr) (htk:tr<=ks.length) (hyk:(yy.length:Int)=max ((kk.length:Int)-1) 0) (fa ta:Nat) (g:kk.length=0) (g2:0<fr) (hf1:fa=fr-1) (ht1:ta=tr-1),Calls Tryz.prog 137 #[.agg #[.bool false,ve,vk,vs],.int .i64 fr,.int .i64 tr,vo,vy] w (Eu w ⟨false,es,iG ks fr tr kk,iG ss fa ta yy⟩))∧
  (∀(es:List En) (ks kk:List Int) (ss yy:List ByteArray) (fr tr:Nat) (ve vk vs vo vy:Value) (w:World) (he:Row aG 2 w ve es) (hk:Row encI 1 w vk ks) (hss:Row encS 1 w vs ss) (hkk:Row encI 1 w vo kk) (kO:Row encS 1 w vy yy) (s1:es.length<=1000) (s2:ks.length<=1000) (s3:ss.length<=1000) (s4:kk.length<=1000) (s5:yy.length<=1000) (hft:fr<tr) (htk:tr<=ks.length) (hyk:(yy.length:Int)=max ((kk.length:Int)-1) 0) (g:kk.length=0) (g2:fr=0),Calls Tryz.prog 137 #[.agg #[.bool false,ve,vk,vs],.int .i64 fr,.int .i64 tr,vo,vy] w (Eu w ⟨false,es,iG ks fr tr kk,iG ss fr tr yy⟩)):=by
 refine⟨have jk:=trivial; ?_,have fu:=trivial; ?_,have QE:=trivial; ?_⟩
 all_goals
  first
   |have zz:=fu
    intro es ks kk ss yy fr tr ve vk vs vo vy w he hk hss hkk kO s1 s2 s3 s4 s5 hft htk hyk fa ta g g2 hf1 ht1
   |have zz:=jk
    intro es ks kk ss yy fr tr ve vk vs vo vy w he hk hss hkk kO s1 s2 s3 s4 s5 hft htk hyk ta g ht1
   |intro es ks kk ss yy fr tr ve vk vs vo vy w he hk hss hkk kO s1 s2 s3 s4 s5 hft htk hyk g g2
  obtain⟨ae,ce,rfl,_⟩:=aF he;obtain⟨ak,ck,rfl,_⟩:=aF hk;obtain⟨az,cz,rfl,_⟩:=aF hss;obtain⟨ao,co,rfl,_⟩:=aF hkk;obtain⟨ay,cy,rfl,_⟩:=aF kO;have K1:Cl ((w.alloc (.cells #[.bool false,.slice ae es.length ce,.slice ak ks.length ck,.slice az ss.length cz] 184)).alloc (.cells #[.bool false,.slice none 0 0,.slice none 0 0,.slice none 0 0] 184)) w.heap.size #[.bool false,.slice ae es.length ce,.slice ak ks.length ck,.slice az ss.length cz] 184:=(Cl.lT _ _ _).alloc _;have K2:Cl ((w.alloc (.cells #[.bool false,.slice ae es.length ce,.slice ak ks.length ck,.slice az ss.length cz] 184)).alloc (.cells #[.bool false,.slice none 0 0,.slice none 0 0,.slice none 0 0] 184)) (w.heap.size+1) #[.bool false,.slice none 0 0,.slice none 0 0,.slice none 0 0] 184:=Cl.pI _ _ _ _;have BW:Hid (Below w.heap.size w ((w.alloc (.cells #[.bool false,.slice ae es.length ce,.slice ak ks.length ck,.slice az ss.length cz] 184)).alloc (.cells #[.bool false,.slice none 0 0,.slice none 0 0,.slice none 0 0] 184))):=aq _ (aq _ (Below.refl _ _))
  first
   |have zz:=fu
    have gz:decide ((0:Int)< (kk.length:Int))=false:=decide_eq_false (by omega);have Ym:decide (0<kk.length)=false:=decide_eq_false (by omega);have Yn:(0:Int)< (fr:Int):=by omega
    have e1:(fa:Int)=(fr:Int)-1:=by omega
    have e2:(ta:Int)=(tr:Int)-1:=by omega
   |have zz:=QE
    have gz:decide ((0:Int)< (kk.length:Int))=false:=decide_eq_false (by omega);have Ym:decide (0<kk.length)=false:=decide_eq_false (by omega);have Yn:decide ((0:Int)< (fr:Int))=false:=decide_eq_false (by omega);have Yo:decide (0<fr)=false:=decide_eq_false (by omega)
   |have gz:(0:Int)< (kk.length:Int):=by omega
    have e2:(ta:Int)=(tr:Int)-1:=by omega
  have q1:¬(fr:Int)<0:=by omega
  have q2:¬(ks.length:Int)< (tr:Int):=by omega
  have q3:¬(tr:Int)<=(fr:Int):=by omega
  have q4:((yy.length:Int) != max ((kk.length:Int)-1) 0)=false:=by rw[bne_eq_false_iff_eq];exact hyk
  generalize hlo:kk.length=no at*
  first
   |have zz:=QE
    clear hyk g g2
   |have zz:=fu
    clear hyk g
   |clear hyk
  go_enter Tryz.func137,Tryz.ntmps137
  go_upto_region 1 with fail
  generalize World.alloc _ _=W at*;obtain⟨p,hp⟩:∃p,w.heap.size=p:=⟨_,rfl⟩;rw[hp]at K1 K2 BW⊢;obtain⟨c0,c1,c2,c3⟩:=K1.four;have lw:=K2.lt;have R0:Hid (RB W (p+1) 184 W.drew):=⟨(Below.refl _ W).drew,_,_,_,_,K2⟩;have BX:∀X,RB W (p+1) 184 X->Below p w X:=fun X hX=>BW.out.trans (hX.1.mono (Nat.le_succ p));have RE:Hid (∀X,RB W (p+1) 184 X->Row aG 2 X (.slice ae es.length ce) es):=fun X hX=>he.below (by rw[hp];exact BX X hX);have RK:Hid (∀X,RB W (p+1) 184 X->Row encI 1 X (.slice ak ks.length ck) ks):=fun X hX=>hk.below (by rw[hp];exact BX X hX);have RS:Hid (∀X,RB W (p+1) 184 X->Row encS 1 X (.slice az ss.length cz) ss):=fun X hX=>hss.below (by rw[hp];exact BX X hX);have RO:Hid (∀X,RB W (p+1) 184 X->Row encI 1 X (.slice ao no co) kk):=fun X hX=>hkk.below (by rw[hp];exact BX X hX);have RY:Hid (∀X,RB W (p+1) 184 X->Row encS 1 X (.slice ay yy.length cy) yy):=fun X hX=>kO.below (by rw[hp];exact BX X hX);have MK:Hid (∀X,RB W (p+1) 184 X->X.cell? ⟨p,0,none⟩=some (.bool false)∧X.cell? ⟨p,1,none⟩=some (.slice ae es.length ce)∧X.cell? ⟨p,2,none⟩=some (.slice ak ks.length ck)∧X.cell? ⟨p,3,none⟩=some (.slice az ss.length cz)):=fun X hX=>(K1.below hX.1 (Nat.lt_succ_self p)).four;have Tv:Hid (∀X,RB W (p+1) 184 X->Below p w X):=BX;have HLO:Hid (kk.length=no):=hlo;have HP:Hid (w.heap.size=p):=hp;clear he hk hss hkk kO K1 K2 BW BX hlo hp
  go_upto_region 8 with fail
  (try rw[<-e1])
  (try rw[<-e2])
  first
   |have zz:=jk
    have ZY:fr<=1000:=by omega
    have ZZ:ta<=1000:=by omega
   |have zz:=fu
    have ZY:fa<=1000:=by omega
    have ZZ:ta<=1000:=by omega
   |have ZY:fr<=1000:=by omega
    have ZZ:tr<=1000:=by omega
  have hlo:=HLO.out
  first
   |have zz:=fu
    clear e1 e2 hf1 ht1 gz Ym Yn g2 q1 q2 q3 q4
   |have zz:=QE
    clear gz Ym Yn Yo q1 q2 q3 q4
   |clear e2 ht1 gz g q1 q2 q3 q4
  have hp:=HP.out;clear c0 c1 c2 c3
  first
   |have zz:=jk
    refine bf 17 (I6 W p fr tr fr ta no ae ak az ao ay ce ck cz co cy es ks kk ss yy) (by kernel_rfl) (by kernel_rfl) (by kernel_rfl) (fun _ k=>k rfl R0.out ar ar ar ar ar ar ar ar ar ar ar ar ar ar ar ar ar) ?_ ?_ ?_
   |have zz:=fu
    refine bf 17 (I6 W p fr tr fa ta no ae ak az ao ay ce ck cz co cy es ks kk ss yy) (by kernel_rfl) (by kernel_rfl) (by kernel_rfl) (fun _ k=>k rfl R0.out ar ar ar ar ar ar ar ar ar ar ar ar ar ar ar ar ar) ?_ ?_ ?_
   |refine bf 17 (I6 W p fr tr fr tr no ae ak az ao ay ce ck cz co cy es ks kk ss yy) (by kernel_rfl) (by kernel_rfl) (by kernel_rfl) (fun _ k=>k rfl R0.out ar ar ar ar ar ar ar ar ar ar ar ar ar ar ar ar ar) ?_ ?_ ?_
  ·intro i w' hne f0 f1 f2 f3 f4 f5 f6 f7 f8 f9 f10 f11 f12 f13 f14 f15 f16 f17 Nc Nf Ng I7 Nh Ni Cz xF Mk Ig x66 Ih Ml x69 Mm Ii Mo e17 hB h0 h1 h2 h3 h4 h5 h6 h7 h8 h9 h10 h11 h12 dI fJ qD h16 hi;obtain⟨hlt,hun,_⟩:=aP hi;have hlt':i<18:=hlt;clear hlt;rcases(by omega:i=0∨i=1∨i=2∨i=3∨i=4∨i=5∨i=6∨i=7∨i=8∨i=9∨i=10∨i=11∨i=12∨i=13∨i=14∨i=15∨i=16)with rfl|rfl|rfl|rfl|rfl|rfl|rfl|rfl|rfl|rfl|rfl|rfl|rfl|rfl|rfl|rfl|rfl
   ·refine ai rfl fun K HK=>?_;go_simp;exact HK.out _ _ fun _ k=>by apply k<;>first|assumption|exact hidR|(repeat' first|apply Exists.intro|assumption|rfl|apply And.intro|exact fun _=>rfl)
   ·cases h0 (ah 0 hi (by kernel_rfl));have cell:=(MK.out _ hB).2.1;refine ai rfl fun K HK=>?_;go_simp;exact HK.out _ _ fun _ k=>by apply k<;>first|assumption|exact hidR|(repeat' first|apply Exists.intro|assumption|rfl|apply And.intro|exact fun _=>rfl)
   ·cases h1 (ah 1 hi (by kernel_rfl));refine ai rfl fun K HK=>?_;go_simp;exact HK.out _ _ fun _ k=>k e17 (RB.alloc hB _) h0 h1 (fun _=>⟨_,rfl,Cl.new _ _ _⟩) (fun d=>let⟨ao,n,c,e,o⟩:=h3.out d;⟨ao,n,c,e,ownsRow_below o (aq _ (Below.refl _ _))⟩) h4 h5 h6 h7 h8 (fun d=>let⟨ao,n,c,e,o⟩:=h9.out d;⟨ao,n,c,e,ownsRow_below o (aq _ (Below.refl _ _))⟩) h10 h11 h12 dI fJ (fun d=>let⟨ao,n,c,e,o⟩:=qD.out d;⟨ao,n,c,e,ownsRow_below o (aq _ (Below.refl _ _))⟩) h16
   ·have un:f3=false:=hun;obtain⟨q2,rfl,c2⟩:=h2.out (ah 2 hi (by kernel_rfl));refine ai rfl fun K HK=>?_;go_simp;refine Calls.mono (mV q2 55 (.slice ae es.length ce) es w' c2 (RE.out _ hB) (by omega)) ?_;rintro e w1 ⟨ao,nn,cc,rfl,ow,b1⟩;exact HK.out _ _ fun _ k=>k e17 (RB.call hB b1) h0 h1 (fun d=>let⟨q,e,c⟩:=h2.out d;⟨q,e,Cl.on c (b1)⟩) (fun _=>⟨ao,nn,cc,rfl,aH ow (RB.lt hB)⟩) h4 h5 h6 h7 h8 (fun d=>let⟨ao,n,c,e,o⟩:=h9.out d;⟨ao,n,c,e,ownsRow_below o (b1)⟩) h10 h11 h12 dI fJ (fun d=>let⟨ao,n,c,e,o⟩:=qD.out d;⟨ao,n,c,e,ownsRow_below o (b1)⟩) (fun d=>by have e:=(h16.out d).1;rw[un]at e;cases e)
   ·refine ai rfl fun K HK=>?_;go_simp;exact HK.out _ _ fun _ k=>by apply k<;>first|assumption|exact hidR|(repeat' first|apply Exists.intro|assumption|rfl|apply And.intro|exact fun _=>rfl)
   ·cases h4 (ah 4 hi (by kernel_rfl));have cell:=(MK.out _ hB).2.2.1;refine ai rfl fun K HK=>?_;go_simp;exact HK.out _ _ fun _ k=>by apply k<;>first|assumption|exact hidR|(repeat' first|apply Exists.intro|assumption|rfl|apply And.intro|exact fun _=>rfl)
   ·refine ai rfl fun K HK=>?_;go_simp;exact HK.out _ _ fun _ k=>by apply k<;>first|assumption|exact hidR|(repeat' first|apply Exists.intro|assumption|rfl|apply And.intro|exact fun _=>rfl)
   ·refine ai rfl fun K HK=>?_;go_simp;exact HK.out _ _ fun _ k=>by apply k<;>first|assumption|exact hidR|(repeat' first|apply Exists.intro|assumption|rfl|apply And.intro|exact fun _=>rfl)
   ·refine ai rfl fun K HK=>?_;go_simp;exact HK.out _ _ fun _ k=>by apply k<;>first|assumption|exact hidR|(repeat' first|apply Exists.intro|assumption|rfl|apply And.intro|exact fun _=>rfl)
   ·have un:f9=false:=hun;cases h5 (ah 5 hi (by kernel_rfl));cases h6 (ah 6 hi (by kernel_rfl));cases h7 (ah 7 hi (by kernel_rfl));cases h8 (ah 8 hi (by kernel_rfl));refine ai rfl fun K HK=>?_;go_simp;refine Calls.mono (kI.1 (.slice ak ks.length ck) (.slice ao no co) ks kk fr tr w' (RK.out _ hB) (RO.out _ hB) (by omega) (by omega) (by omega) (by omega)) ?_;rintro e w1 ⟨ao,nn,cc,rfl,ow,b1⟩;exact HK.out _ _ fun _ k=>k e17 (RB.call hB b1) h0 h1 (fun d=>let⟨q,e,c⟩:=h2.out d;⟨q,e,Cl.on c (b1)⟩) (fun d=>let⟨ao,n,c,e,o⟩:=h3.out d;⟨ao,n,c,e,ownsRow_below o (b1)⟩) h4 h5 h6 h7 h8 (fun _=>⟨ao,nn,cc,rfl,aH ow (RB.lt hB)⟩) h10 h11 h12 dI fJ (fun d=>let⟨ao,n,c,e,o⟩:=qD.out d;⟨ao,n,c,e,ownsRow_below o (b1)⟩) (fun d=>by have e:=(h16.out d).2.1;rw[un]at e;cases e)
   ·refine ai rfl fun K HK=>?_;go_simp;exact HK.out _ _ fun _ k=>by apply k<;>first|assumption|exact hidR|(repeat' first|apply Exists.intro|assumption|rfl|apply And.intro|exact fun _=>rfl)
   ·cases h10 (ah 10 hi (by kernel_rfl));have cell:=(MK.out _ hB).2.2.2;refine ai rfl fun K HK=>?_;go_simp;exact HK.out _ _ fun _ k=>by apply k<;>first|assumption|exact hidR|(repeat' first|apply Exists.intro|assumption|rfl|apply And.intro|exact fun _=>rfl)
   ·refine ai rfl fun K HK=>?_;go_simp;exact HK.out _ _ fun _ k=>by apply k<;>first|assumption|exact hidR|(repeat' first|apply Exists.intro|assumption|rfl|apply And.intro|exact fun _=>rfl)
   ·refine ai rfl fun K HK=>?_;go_simp;exact HK.out _ _ fun _ k=>by apply k<;>first|assumption|exact hidR|(repeat' first|apply Exists.intro|assumption|rfl|apply And.intro|exact fun _=>rfl)
   ·refine ai rfl fun K HK=>?_;go_simp;exact HK.out _ _ fun _ k=>by apply k<;>first|assumption|exact hidR|(repeat' first|apply Exists.intro|assumption|rfl|apply And.intro|exact fun _=>rfl)
   ·have un:f15=false:=hun;cases h11 (ah 11 hi (by kernel_rfl));cases h12 (ah 12 hi (by kernel_rfl));cases dI (ah 13 hi (by kernel_rfl));cases fJ (ah 14 hi (by kernel_rfl));refine ai rfl fun K HK=>?_;go_simp
    first
     |have zz:=jk
      refine Calls.mono (kI.2 (.slice az ss.length cz) (.slice ay yy.length cy) ss yy fr ta w' (RS.out _ hB) (RY.out _ hB) (by omega) (by omega) (by omega) (by omega)) ?_
     |have zz:=fu
      refine Calls.mono (kI.2 (.slice az ss.length cz) (.slice ay yy.length cy) ss yy fa ta w' (RS.out _ hB) (RY.out _ hB) (by omega) (by omega) (by omega) (by omega)) ?_
     |refine Calls.mono (kI.2 (.slice az ss.length cz) (.slice ay yy.length cy) ss yy fr tr w' (RS.out _ hB) (RY.out _ hB) (by omega) (by omega) (by omega) (by omega)) ?_
    rintro e w1 ⟨ao,nn,cc,rfl,ow,b1⟩;exact HK.out _ _ fun _ k=>k e17 (RB.call hB b1) h0 h1 (fun d=>let⟨q,e,c⟩:=h2.out d;⟨q,e,Cl.on c (b1)⟩) (fun d=>let⟨ao,n,c,e,o⟩:=h3.out d;⟨ao,n,c,e,ownsRow_below o (b1)⟩) h4 h5 h6 h7 h8 (fun d=>let⟨ao,n,c,e,o⟩:=h9.out d;⟨ao,n,c,e,ownsRow_below o (b1)⟩) h10 h11 h12 dI fJ (fun _=>⟨ao,nn,cc,rfl,aH ow (RB.lt hB)⟩) (fun d=>by have e:=(h16.out d).2.2.1;rw[un]at e;cases e)
   ·have d3:f3=true:=ah 3 hi (by kernel_rfl);obtain⟨a3,n3,m3,rfl,o3⟩:=h3.out d3;have d9:f9=true:=ah 9 hi (by kernel_rfl);obtain⟨a9,n9,m9,rfl,o9⟩:=h9.out d9;have d15:f15=true:=ah 15 hi (by kernel_rfl);obtain⟨I8,n15,m15,rfl,Wy⟩:=qD.out d15;refine ai rfl fun K HK=>?_;go_simp;exact HK.out _ _ fun _ k=>k e17 hB h0 h1 h2 h3 h4 h5 h6 h7 h8 h9 h10 h11 h12 dI fJ qD (fun _=>⟨d3,d9,d15,rfl⟩)
  ·intro w' f0 f1 f2 f3 f4 f5 f6 f7 f8 f9 f10 f11 f12 f13 f14 f15 f16 f17 Nc Nf Ng I7 Nh Ni Cz xF Mk Ig x66 Ih Ml x69 Mm Ii Mo e17 hB h0 h1 h2 h3 h4 h5 h6 h7 h8 h9 h10 h11 h12 dI fJ qD h16 hi;have d16:f16=true:=ah 16 hi (by kernel_rfl);obtain⟨_,_,_,rfl⟩:=h16.out d16;have d3:f3=true:=ah 3 hi (by kernel_rfl);obtain⟨a3,n3,m3,rfl,o3⟩:=h3.out d3;have d9:f9=true:=ah 9 hi (by kernel_rfl);obtain⟨a9,n9,m9,rfl,o9⟩:=h9.out d9;have d15:f15=true:=ah 15 hi (by kernel_rfl);obtain⟨I8,n15,m15,rfl,Wy⟩:=qD.out d15;clear hi;obtain⟨⟨z0,y0⟩,⟨z1,y1⟩,⟨z2,y2⟩,⟨z3,y3⟩,g0,g1,g2,g3⟩:=hB.four;refine ai rfl fun K HK=>?_;go_simp;refine HK.out _ _ ?_;have KF:Cl ((((w'.setCell ⟨p+1,0,none⟩ (.bool false)).setCell ⟨p+1,1,none⟩ (.slice a3 n3 m3)).setCell ⟨p+1,2,none⟩ (.slice a9 n9 m9)).setCell ⟨p+1,3,none⟩ (.slice I8 n15 m15)) (p+1) #[.bool false,.slice a3 n3 m3,.slice a9 n9 m9,.slice I8 n15 m15] 184:=by
    obtain⟨_,u0,u1,u2,u3,kc⟩:=hB;exact kc.fo _ _ _ _
   have BF:Hid (Below p w ((((w'.setCell ⟨p+1,0,none⟩ (.bool false)).setCell ⟨p+1,1,none⟩ (.slice a3 n3 m3)).setCell ⟨p+1,2,none⟩ (.slice a9 n9 m9)).setCell ⟨p+1,3,none⟩ (.slice I8 n15 m15))):=cU (Tv.out _ hB) (Nat.le_succ p)
   first
    |have zz:=jk
     have OF:Hid (kH p ((((w'.setCell ⟨p+1,0,none⟩ (.bool false)).setCell ⟨p+1,1,none⟩ (.slice a3 n3 m3)).setCell ⟨p+1,2,none⟩ (.slice a9 n9 m9)).setCell ⟨p+1,3,none⟩ (.slice I8 n15 m15)) (.slice a3 n3 m3) (.slice a9 n9 m9) (.slice I8 n15 m15) ⟨false,es,iG ks fr tr kk,iG ss fr ta yy⟩):=⟨aH (bE o3 (Nat.lt_succ_self _)) (by omega),aH (bE o9 (Nat.lt_succ_self _)) (by omega),aH (bE Wy (Nat.lt_succ_self _)) (by omega)⟩
    |have zz:=fu
     have OF:Hid (kH p ((((w'.setCell ⟨p+1,0,none⟩ (.bool false)).setCell ⟨p+1,1,none⟩ (.slice a3 n3 m3)).setCell ⟨p+1,2,none⟩ (.slice a9 n9 m9)).setCell ⟨p+1,3,none⟩ (.slice I8 n15 m15)) (.slice a3 n3 m3) (.slice a9 n9 m9) (.slice I8 n15 m15) ⟨false,es,iG ks fr tr kk,iG ss fa ta yy⟩):=⟨aH (bE o3 (Nat.lt_succ_self _)) (by omega),aH (bE o9 (Nat.lt_succ_self _)) (by omega),aH (bE Wy (Nat.lt_succ_self _)) (by omega)⟩
    |have OF:Hid (kH p ((((w'.setCell ⟨p+1,0,none⟩ (.bool false)).setCell ⟨p+1,1,none⟩ (.slice a3 n3 m3)).setCell ⟨p+1,2,none⟩ (.slice a9 n9 m9)).setCell ⟨p+1,3,none⟩ (.slice I8 n15 m15)) (.slice a3 n3 m3) (.slice a9 n9 m9) (.slice I8 n15 m15) ⟨false,es,iG ks fr tr kk,iG ss fr tr yy⟩):=⟨aH (bE o3 (Nat.lt_succ_self _)) (by omega),aH (bE o9 (Nat.lt_succ_self _)) (by omega),aH (bE Wy (Nat.lt_succ_self _)) (by omega)⟩
   generalize World.setCell _ _ _=X at*;obtain⟨k0,k1,k2,k3⟩:=KF.four;clear y0 y1 y2 y3 g0 g1 g2 g3 hB h0 h1 h2 h3 h4 h5 h6 h7 h8 h9 h10 h11 h12 dI fJ qD h16;go_wp2;refine bodyPost_ret (v:=.agg #[.bool false,.slice a3 n3 m3,.slice a9 n9 m9,.slice I8 n15 m15]) ?_ rfl ⟨_,_,_,rfl,by rw[hp];exact OF.out,by rw[hp];exact BF.out⟩;rw[bC rfl];go_simp
  ·intro _ _;intros;assumption
theorem wT:(∀(n:Nd) (fr tr:Int) (kk:List Int) (yy:List ByteArray) (ve vk vs vo vy:Value) (w:World) (h1:im w ve vk vs n) (hm1:xE n) (hkk:Row encI 1 w vo kk) (kO:Row encS 1 w vy yy) (lf:Bool) (hlf:n.leaf=lf) (hkl:kk.length<=1000) (q1:fr<0),Calls Tryz.prog 137 #[.agg #[.bool n.leaf,ve,vk,vs],.int .i64 fr,.int .i64 tr,vo,vy] w (Eu w n))∧
  (∀(n:Nd) (fr tr:Int) (kk:List Int) (yy:List ByteArray) (ve vk vs vo vy:Value) (w:World) (h1:im w ve vk vs n) (hm1:xE n) (hkk:Row encI 1 w vo kk) (kO:Row encS 1 w vy yy) (lf:Bool) (hlf:n.leaf=lf) (hkl:kk.length<=1000) (q1:¬fr<0) (q2:(n.ks.length:Int)<tr),Calls Tryz.prog 137 #[.agg #[.bool n.leaf,ve,vk,vs],.int .i64 fr,.int .i64 tr,vo,vy] w (Eu w n))∧
  (∀(n:Nd) (fr tr:Int) (kk:List Int) (yy:List ByteArray) (ve vk vs vo vy:Value) (w:World) (h1:im w ve vk vs n) (hm1:xE n) (hkk:Row encI 1 w vo kk) (kO:Row encS 1 w vy yy) (lf:Bool) (hlf:n.leaf=lf) (hkl:kk.length<=1000) (q1:¬fr<0) (q2:¬(n.ks.length:Int)<tr) (q3:tr<=fr),Calls Tryz.prog 137 #[.agg #[.bool n.leaf,ve,vk,vs],.int .i64 fr,.int .i64 tr,vo,vy] w (Eu w n))∧
  (∀(n:Nd) (fr tr:Int) (kk:List Int) (yy:List ByteArray) (ve vk vs vo vy:Value) (w:World) (h1:im w ve vk vs n) (hm1:xE n) (hkk:Row encI 1 w vo kk) (kO:Row encS 1 w vy yy) (lf:Bool) (hlf:n.leaf=lf) (hkl:kk.length<=1000) (q1:¬fr<0) (q2:¬(n.ks.length:Int)<tr) (q3:¬tr<=fr) (q4:((yy.length:Int) != max ((kk.length:Int)-1) 0)=true),Calls Tryz.prog 137 #[.agg #[.bool n.leaf,ve,vk,vs],.int .i64 fr,.int .i64 tr,vo,vy] w (Eu w n)):=by
 refine⟨have jk:=trivial; ?_,have fu:=trivial; ?_,have QE:=trivial; ?_,have zz3:=trivial; ?_⟩
 all_goals
  first
   |have zz:=zz3
    intro n fr tr kk yy ve vk vs vo vy w h1 hm1 hkk kO lf hlf hkl q1 q2 q3 q4
   |have zz:=QE
    intro n fr tr kk yy ve vk vs vo vy w h1 hm1 hkk kO lf hlf hkl q1 q2 q3
   |have zz:=fu
    intro n fr tr kk yy ve vk vs vo vy w h1 hm1 hkk kO lf hlf hkl q1 q2
   |intro n fr tr kk yy ve vk vs vo vy w h1 hm1 hkk kO lf hlf hkl q1
  obtain⟨ae,ce,rfl,_⟩:=aF h1.e;obtain⟨ak,ck,rfl,_⟩:=aF h1.k;obtain⟨az,cz,rfl,_⟩:=aF h1.s;obtain⟨ao,co,rfl,_⟩:=aF hkk;obtain⟨ay,cy,rfl,_⟩:=aF kO;have BW:Hid (Below w.heap.size w ((w.alloc (.cells #[.bool lf,.slice ae n.es.length ce,.slice ak n.ks.length ck,.slice az n.ss.length cz] 184)).alloc (.cells #[.bool false,.slice none 0 0,.slice none 0 0,.slice none 0 0] 184))):=aq _ (aq _ (Below.refl _ _));have K1:Cl ((w.alloc (.cells #[.bool lf,.slice ae n.es.length ce,.slice ak n.ks.length ck,.slice az n.ss.length cz] 184)).alloc (.cells #[.bool false,.slice none 0 0,.slice none 0 0,.slice none 0 0] 184)) w.heap.size #[.bool lf,.slice ae n.es.length ce,.slice ak n.ks.length ck,.slice az n.ss.length cz] 184:=(Cl.lT _ _ _).alloc _;have K3:Cl ((w.alloc (.cells #[.bool lf,.slice ae n.es.length ce,.slice ak n.ks.length ck,.slice az n.ss.length cz] 184)).alloc (.cells #[.bool false,.slice none 0 0,.slice none 0 0,.slice none 0 0] 184)) (w.heap.size+1) #[.bool false,.slice none 0 0,.slice none 0 0,.slice none 0 0] 184:=Cl.pI _ _ _ _;have C:Hid _:=iT n _ _ _ ((w.alloc (.cells #[.bool lf,.slice ae n.es.length ce,.slice ak n.ks.length ck,.slice az n.ss.length cz] 184)).alloc (.cells #[.bool false,.slice none 0 0,.slice none 0 0,.slice none 0 0] 184)) (h1.below BW.out) hm1;rw[hlf]at C⊢;have HL:Hid (n.leaf=lf):=hlf;generalize n.es.length=n1 at*;generalize n.ks.length=n2 at*;generalize n.ss.length=n3 at*;generalize kk.length=n4 at*;generalize yy.length=n5 at*;clear h1 hlf hkk kO;go_enter Tryz.func137,Tryz.ntmps137
  go_upto_region 1 with fail
  generalize World.alloc _ _=W at*;obtain⟨p,hp⟩:∃p,w.heap.size=p:=⟨_,rfl⟩;rw[hp]at K1 K3 BW⊢;obtain⟨c0,c1,c2,c3⟩:=K1.four;have l1:=K3.lt;have HP:Hid (w.heap.size=p):=hp;clear K1 hp
  go_wp2_with fail
  refine Calls.mono C.out ?_;rintro e w1 ⟨zU,zV,vs',rfl,O1,B1⟩;obtain⟨av,cv,rfl⟩:=bN O1.e;obtain⟨bv,dv,rfl⟩:=bN O1.k;obtain⟨gv,hv,rfl⟩:=bN O1.s;have K4:Cl w1 (p+1) #[.bool false,.slice none 0 0,.slice none 0 0,.slice none 0 0] 184:=K3.on B1;obtain⟨f0,f1,f2,f3⟩:=K4.four;obtain⟨g0,g1,g2,g3⟩:=K4.thaw;have KF:Cl ((((w1.setCell ⟨p+1,0,none⟩ (.bool lf)).setCell ⟨p+1,1,none⟩ (.slice av n.es.length cv)).setCell ⟨p+1,2,none⟩ (.slice bv n.ks.length dv)).setCell ⟨p+1,3,none⟩ (.slice gv n.ss.length hv)) (p+1) #[.bool lf,.slice av n.es.length cv,.slice bv n.ks.length dv,.slice gv n.ss.length hv] 184:=K4.fo _ _ _ _;have BF:Hid (Below p w ((((w1.setCell ⟨p+1,0,none⟩ (.bool lf)).setCell ⟨p+1,1,none⟩ (.slice av n.es.length cv)).setCell ⟨p+1,2,none⟩ (.slice bv n.ks.length dv)).setCell ⟨p+1,3,none⟩ (.slice gv n.ss.length hv))):=cU (BW.out.trans (B1.mono (by omega))) (by omega);have OF:Hid (kH p ((((w1.setCell ⟨p+1,0,none⟩ (.bool lf)).setCell ⟨p+1,1,none⟩ (.slice av n.es.length cv)).setCell ⟨p+1,2,none⟩ (.slice bv n.ks.length dv)).setCell ⟨p+1,3,none⟩ (.slice gv n.ss.length hv)) (.slice av n.es.length cv) (.slice bv n.ks.length dv) (.slice gv n.ss.length hv) n):=⟨aH (bE O1.e l1) (by omega),aH (bE O1.k l1) (by omega),aH (bE O1.s l1) (by omega)⟩;clear C B1 O1 K3 K4 c0 c1 c2 c3;go_wp2
  (try simp only[Exit.inBlock,Exit.then])
  generalize World.setCell _ _ _=X at*;obtain⟨k0,k1,k2,k3⟩:=KF.four;refine bodyPost_ret (v:=.agg #[.bool lf,.slice av n.es.length cv,.slice bv n.ks.length dv,.slice gv n.ss.length hv]) ?_ rfl ⟨_,_,_,by rw[HL.out],by rw[HP.out];exact OF.out,by rw[HP.out];exact BF.out⟩;rw[bC rfl];go_simp
theorem Nj (n:Nd)(fr tr:Int)(kk:List Int)(yy:List ByteArray)(ve vk vs vo vy:Value)(w:World)(h1:im w ve vk vs n)(hm1:xE n)(hkk:Row encI 1 w vo kk)(kO:Row encS 1 w vy yy)(hlf:n.leaf=true)(hkl:kk.length<=1000)(q1:¬fr<0)(q2:¬(n.ks.length:Int)<tr)(q3:¬tr<=fr)(q4:((yy.length:Int) != max ((kk.length:Int)-1) 0)=false):
  Calls Tryz.prog 137 #[.agg #[.bool n.leaf,ve,vk,vs],.int .i64 fr,.int .i64 tr,vo,vy] w (Eu w n):=by
 obtain⟨ae,ce,rfl,_⟩:=aF h1.e;obtain⟨ak,ck,rfl,_⟩:=aF h1.k;obtain⟨az,cz,rfl,_⟩:=aF h1.s;obtain⟨ao,co,rfl,_⟩:=aF hkk;obtain⟨ay,cy,rfl,_⟩:=aF kO;have BW:Hid (Below w.heap.size w ((w.alloc (.cells #[.bool true,.slice ae n.es.length ce,.slice ak n.ks.length ck,.slice az n.ss.length cz] 184)).alloc (.cells #[.bool false,.slice none 0 0,.slice none 0 0,.slice none 0 0] 184))):=aq _ (aq _ (Below.refl _ _));have K1:Cl ((w.alloc (.cells #[.bool true,.slice ae n.es.length ce,.slice ak n.ks.length ck,.slice az n.ss.length cz] 184)).alloc (.cells #[.bool false,.slice none 0 0,.slice none 0 0,.slice none 0 0] 184)) w.heap.size #[.bool true,.slice ae n.es.length ce,.slice ak n.ks.length ck,.slice az n.ss.length cz] 184:=(Cl.lT _ _ _).alloc _;have K3:Cl ((w.alloc (.cells #[.bool true,.slice ae n.es.length ce,.slice ak n.ks.length ck,.slice az n.ss.length cz] 184)).alloc (.cells #[.bool false,.slice none 0 0,.slice none 0 0,.slice none 0 0] 184)) (w.heap.size+1) #[.bool false,.slice none 0 0,.slice none 0 0,.slice none 0 0] 184:=Cl.pI _ _ _ _;have C:Hid _:=iT n _ _ _ ((w.alloc (.cells #[.bool true,.slice ae n.es.length ce,.slice ak n.ks.length ck,.slice az n.ss.length cz] 184)).alloc (.cells #[.bool false,.slice none 0 0,.slice none 0 0,.slice none 0 0] 184)) (h1.below BW.out) hm1;rw[hlf]at C⊢;have HL:Hid (n.leaf=true):=hlf;generalize n.es.length=n1 at*;generalize n.ks.length=n2 at*;generalize n.ss.length=n3 at*;generalize kk.length=n4 at*;generalize yy.length=n5 at*;clear h1 hlf hkk kO;go_enter Tryz.func137,Tryz.ntmps137
 go_upto_region 1 with fail
 generalize World.alloc _ _=W at*;obtain⟨p,hp⟩:∃p,w.heap.size=p:=⟨_,rfl⟩;rw[hp]at K1 K3 BW⊢;obtain⟨c0,c1,c2,c3⟩:=K1.four;have l1:=K3.lt;have HP:Hid (w.heap.size=p):=hp;clear K1 hp
 go_wp2_with fail
 refine Calls.mono C.out ?_;rintro e w1 ⟨zU,zV,vs',rfl,O1,B1⟩;obtain⟨av,cv,rfl⟩:=bN O1.e;obtain⟨bv,dv,rfl⟩:=bN O1.k;obtain⟨gv,hv,rfl⟩:=bN O1.s;have K4:Cl w1 (p+1) #[.bool false,.slice none 0 0,.slice none 0 0,.slice none 0 0] 184:=K3.on B1;obtain⟨f0,f1,f2,f3⟩:=K4.four;obtain⟨g0,g1,g2,g3⟩:=K4.thaw;have KF:Cl ((((w1.setCell ⟨p+1,0,none⟩ (.bool true)).setCell ⟨p+1,1,none⟩ (.slice av n.es.length cv)).setCell ⟨p+1,2,none⟩ (.slice bv n.ks.length dv)).setCell ⟨p+1,3,none⟩ (.slice gv n.ss.length hv)) (p+1) #[.bool true,.slice av n.es.length cv,.slice bv n.ks.length dv,.slice gv n.ss.length hv] 184:=K4.fo _ _ _ _;have BF:Hid (Below p w ((((w1.setCell ⟨p+1,0,none⟩ (.bool true)).setCell ⟨p+1,1,none⟩ (.slice av n.es.length cv)).setCell ⟨p+1,2,none⟩ (.slice bv n.ks.length dv)).setCell ⟨p+1,3,none⟩ (.slice gv n.ss.length hv))):=cU (BW.out.trans (B1.mono (by omega))) (by omega);have OF:Hid (kH p ((((w1.setCell ⟨p+1,0,none⟩ (.bool true)).setCell ⟨p+1,1,none⟩ (.slice av n.es.length cv)).setCell ⟨p+1,2,none⟩ (.slice bv n.ks.length dv)).setCell ⟨p+1,3,none⟩ (.slice gv n.ss.length hv)) (.slice av n.es.length cv) (.slice bv n.ks.length dv) (.slice gv n.ss.length hv) n):=⟨aH (bE O1.e l1) (by omega),aH (bE O1.k l1) (by omega),aH (bE O1.s l1) (by omega)⟩;clear C B1 O1 K3 K4 c0 c1 c2 c3;go_wp2
 (try simp only[Exit.inBlock,Exit.then])
 generalize World.setCell _ _ _=X at*;obtain⟨k0,k1,k2,k3⟩:=KF.four;refine bodyPost_ret (v:=.agg #[.bool true,.slice av n.es.length cv,.slice bv n.ks.length dv,.slice gv n.ss.length hv]) ?_ rfl ⟨_,_,_,by rw[HL.out],by rw[HP.out];exact OF.out,by rw[HP.out];exact BF.out⟩;rw[bC rfl];go_simp
theorem E8 (n:Nd)(fr tr:Int)(kk:List Int)(yy:List ByteArray)(ve vk vs vo vy:Value)(w:World)(h1:im w ve vk vs n)(hm1:xE n)(hkk:Row encI 1 w vo kk)(kO:Row encS 1 w vy yy)(hkl:kk.length<=1000)(hyl:yy.length<=1000):
  Calls Tryz.prog 137 #[.agg #[.bool n.leaf,ve,vk,vs],.int .i64 fr,.int .i64 tr,vo,vy] w (Eu w (gp n fr tr kk yy)):=by
 by_cases q1:fr<0
 ·have e:gp n fr tr kk yy=n:=by unfold gp swB;rw[decide_eq_false (show¬0<=fr by omega)];rfl
  rw[e];exact wT.1 n fr tr kk yy ve vk vs vo vy w h1 hm1 hkk kO _ rfl hkl q1
 ·by_cases q2:(n.ks.length:Int)<tr
  ·have e:gp n fr tr kk yy=n:=by unfold gp swB;rw[decide_eq_false (show¬tr<=n.ks.length by omega)];simp
   rw[e];exact wT.2.1 n fr tr kk yy ve vk vs vo vy w h1 hm1 hkk kO _ rfl hkl q1 q2
  ·by_cases q3:tr<=fr
   ·have e:gp n fr tr kk yy=n:=by unfold gp swB;rw[decide_eq_false (show¬fr<tr by omega)];simp
    rw[e];exact wT.2.2.1 n fr tr kk yy ve vk vs vo vy w h1 hm1 hkk kO _ rfl hkl q1 q2 q3
   ·by_cases q4:(yy.length:Int)=max ((kk.length:Int)-1) 0
    ·cases hl:n.leaf with
     |true=>
      have e:gp n fr tr kk yy=n:=by unfold gp swB;rw[hl];simp
      rw[e,<-hl];exact Nj n fr tr kk yy ve vk vs vo vy w h1 hm1 hkk kO hl hkl q1 q2 q3 (by rw[bne_eq_false_iff_eq];exact q4)
     |false=>
      have hb:swB n fr tr kk yy=true:=by
       unfold swB;rw[decide_eq_true (show 0<=fr by omega),decide_eq_true (show tr<=n.ks.length by omega),decide_eq_true (show fr<tr by omega),decide_eq_true q4,hl];rfl
      obtain⟨f,rfl⟩:∃f:Nat,fr=f:=⟨fr.toNat,by omega⟩;obtain⟨t,rfl⟩:∃t:Nat,tr=t:=⟨tr.toNat,by omega⟩;have e:gp n f t kk yy=⟨false,n.es,iG n.ks f t kk,iG n.ss (uN f kk) (uO f t kk) yy⟩:=by
       unfold gp;rw[if_pos hb];simp
      rw[e];obtain⟨lf,es,ks,ss⟩:=n;obtain⟨he,hk,hss⟩:=h1;obtain⟨s1,s2,s3⟩:=hm1;simp only at he hk hss s1 s2 s3 hl q2⊢;have hft:f<t:=by omega
      have htk:t<=ks.length:=by omega
      unfold uN uO;by_cases g:0<kk.length
      ·rw[if_pos g,if_pos g];exact A9.1 es ks kk ss yy f t ve vk vs vo vy w he hk hss hkk kO s1 s2 s3 hkl hyl hft htk q4 (t-1) g rfl
      ·have g':kk.length=0:=by omega
       rw[if_neg g,if_neg g];by_cases g2:0<f
       ·rw[if_pos g2];exact A9.2.1 es ks kk ss yy f t ve vk vs vo vy w he hk hss hkk kO s1 s2 s3 hkl hyl hft htk q4 (f-1) (t-1) g' g2 rfl rfl
       ·rw[if_neg g2];have g3:f=0:=by omega
        rw[show f-1=f by omega];exact A9.2.2 es ks kk ss yy f t ve vk vs vo vy w he hk hss hkk kO s1 s2 s3 hkl hyl hft htk q4 g' g3
    ·have e:gp n fr tr kk yy=n:=by unfold gp swB;rw[decide_eq_false q4];simp
     rw[e];exact wT.2.2.2 n fr tr kk yy ve vk vs vo vy w h1 hm1 hkk kO _ rfl hkl q1 q2 q3 (by rw[bne_iff_ne];exact q4)
end
end N
section
open N (Nd nd0 cE dx dZ ji gp sA sB sM dy nO kK uf Sm)
section
variable {B:Nat}{w0 w w':World}{l:List aN}{P:List NV}{C:Cx}{S:Dr}{d d1:Dk}{p pa pb:NV}
theorem DL.add (h:Sep B w0 w (DL C S d P l))(hb:Below w.heap.size w w')(hp:p.W w.heap.size w'):Sep B w0 w' (DL C S d (p::P) l):=
 Sep.pb [_,_,_,_] (Sep.wQ (Sep.pk [_,_,_,_] (Sep.po h hb hp)) fun x hx=>List.mem_cons_of_mem _ hx)
theorem DL.Yp (h:Sep B w0 w (DL C S d P l))(hb:Below w.heap.size w w')(hp:pa.W w.heap.size w')(hq:pb.W w.heap.size w'):Sep B w0 w' (DL C S d (pa::pb::P) l):=by
 obtain⟨hB,hbe,Y,⟨g,X,Z,hr,hl,hdj,hy⟩,hY⟩:=Sep.pk [_,_,_] h;have hl':=hl.kept hb.size (fun k hk=>hb.block k (hl.lt k hk));have k1:Sep B w0 w' (Pl (pa::pb::P)::([Tx C.t C.f S.x,File C.f C.b d,nc C]++Q2 C S P::l)):=by
  refine⟨Nat.le_trans hB hb.size,hbe.trans (hb.mono hB),fun k=>(X k∨(w.heap.size<=k∧k<w'.heap.size))∨Z k,⟨wP _,fun k=>X k∨(w.heap.size<=k∧k<w'.heap.size),Z,⟨fun k hk=>?_,fun w2 h2 hs2 q hq'=>?_⟩,hl',fun k hk hz=>?_,fun _=>Iff.rfl⟩,fun k hk=>?_⟩
  ·rcases hk with hk|hk
   ·exact Nat.lt_of_lt_of_le (hr.1 k hk) hb.size
   ·exact hk.2
  ·rcases List.mem_cons.1 hq' with rfl|hq'
   ·exact hp.kept (fun k h1 h3=>h2 k (.inr ⟨h1,h3⟩)) hs2
   ·rcases List.mem_cons.1 hq' with rfl|hq'
    ·exact hq.kept (fun k h1 h3=>h2 k (.inr ⟨h1,h3⟩)) hs2
    ·exact hr.2 w2 (fun k hk=>(h2 k (.inl hk)).trans (hb.block k (hr.1 k hk))) (Nat.le_trans hb.size hs2) q hq'
  ·rcases hk with hk|hk
   ·exact hdj k hk hz
   ·have:=hl.lt k hz;omega
  ·rcases hk with(hk|hk)|hk
   ·exact hY k ((hy k).2 (.inl hk))
   ·exact Nat.le_trans hB hk.1
   ·exact hY k ((hy k).2 (.inr hk))
 exact Sep.pb [_,_,_,_] (Sep.wQ (Sep.pk [_,_,_,_] (Sep.pb [_,_,_] k1)) fun x hx=>List.mem_cons_of_mem _ (List.mem_cons_of_mem _ hx))
theorem DL.nd (h:Sep B w0 w (DL C S d P l))(hp:p∈P):p.R w:=Sep.pool (Sep.pk [_,_,_] h) p hp
theorem Ba (h:Sep B w0 w (DL C S d P l))(hp:p∈P)(hs:Sm p.n):Calls Tryz.prog 138 #[.agg (cN p)] w fun e w'=>e=.returned (.int .i64 (dZ p.n))∧Sep B w0 w' (DL C S d P l):=
 (N.kJ p.n _ _ _ w (DL.nd h hp) hs).mono fun _ _ ⟨h1,h2⟩=>⟨h1,h.below h2⟩
theorem sR (h:Sep B w0 w (DL C S d P l))(hp:p∈P)(hs:Sm p.n):Calls Tryz.prog 157 #[.agg (cN p)] w fun e w'=>e=.returned (.bool (cE p.n))∧Sep B w0 w' (DL C S d P l):=
 (N.H9 p.n _ _ _ w (DL.nd h hp) hs).mono fun _ _ ⟨h1,h2⟩=>⟨h1,h.below h2⟩
theorem qJ (h:Sep B w0 w (DL C S d P l))(hp:p∈P)(hs:Sm p.n):Calls Tryz.prog 145 #[.agg (cN p)] w fun e w'=>e=.returned (.bool (dx p.n))∧Sep B w0 w' (DL C S d P l):=
 (N.eU p.n _ _ _ w (DL.nd h hp) hs).mono fun _ _ ⟨h1,h2⟩=>⟨h1,h.below h2⟩
theorem Nk (h:Sep B w0 w (DL C S d P l))(hp:p∈P)(hs:Sm p.n)(key:ByteArray):Calls Tryz.prog 125 #[.agg (cN p),.string key] w fun e w'=>e=.returned (.int .i64 (dy p.n.ss key))∧Sep B w0 w' (DL C S d P l):=
 (N.oy p.n key _ _ _ w (DL.nd h hp) hs).mono fun _ _ ⟨h1,h2⟩=>⟨h1,h.below h2⟩
def GM (B:Nat)(w0:World)(C:Cx)(S:Dr)(d:Dk)(P:List NV)(l:List aN)(n:Nd)(e:Ending)(w':World):Prop:=
 ∃p,p.n=n∧e=.returned (.agg (cN p))∧Sep B w0 w' (DL C S d (p::P) l)
theorem O8 {n:Nd}{e:Ending}(h:Sep B w0 w (DL C S d P l))(hg:N.Eu w n e w'):GM B w0 C S d P l n e w':=by
 obtain⟨ve,vk,vs,h1,h2,h3⟩:=hg;obtain⟨p,p1,p2,p3⟩:=NV.of h2.w;exact⟨p,p1,by rw[h1,p2];rfl,DL.add h h3 p3⟩
theorem Nl (h:Sep B w0 w (DL C S d P l))(ha:pa∈P)(hb:pb∈P)(hsa:Sm pa.n)(hsb:Sm pb.n)(key:ByteArray):Calls Tryz.prog 200 #[.agg (cN pa),.string key,.agg (cN pb)] w (GM B w0 C S d P l (ji pa.n key pb.n)):=
 (N.Ew key pa.n pb.n _ _ _ _ _ _ w (DL.nd h ha) (DL.nd h hb) hsa.l hsb.l).mono fun _ _ hg=>O8 h hg
theorem qK (h:Sep B w0 w (DL C S d P l))(hp:p∈P)(hs:Sm p.n)(fr tr:Int)(kk:List Int)(yy:List ByteArray)(vo vy:Value)(hkk:N.Row N.encI 1 w vo kk)(kO:N.Row N.encS 1 w vy yy)(hkl:kk.length<=1000)(hyl:yy.length<=1000):Calls Tryz.prog 137 #[.agg (cN p),.int .i64 fr,.int .i64 tr,vo,vy] w (GM B w0 C S d P l (gp p.n fr tr kk yy)):=
 (N.E8 p.n fr tr kk yy _ _ _ vo vy w (DL.nd h hp) hs.l hkk kO hkl hyl).mono fun _ _ hg=>O8 h hg
theorem Ja (h:Sep B w0 w (DL C S d P l))(hp:p∈P)(hs:Sm p.n):Calls Tryz.prog 158 #[.agg (cN p)] w fun e w'=>∃pa pb,pa.n=sA p.n∧pb.n=sB p.n∧e=.returned (.tuple #[.agg (cN pa),.string (sM p.n),.agg (cN pb)])∧Sep B w0 w' (DL C S d (pa::pb::P) l):=by
 refine(N.ED p.n _ _ _ w (DL.nd h hp) hs).mono fun e w' hg=>?_;obtain⟨ve,vk,vs,ue,uk,us,h1,h2,h2',h3⟩:=hg;obtain⟨pa,p1,p2,p3⟩:=NV.of h2.w;obtain⟨pb,r1,r2,r3⟩:=NV.of h2'.w;refine⟨pa,pb,p1,r1,by rw[h1,p2,r2];rfl,?_⟩;exact DL.Yp h h3 p3 r3
theorem wU {id depth:Int}(T:cd B w0)(hd:bI d d1)(h:Sep B w0 w (DL C S d1 P l))(hk:Wf id)(I:DI S d.room)(hr:d.room<=16384):
  Calls Tryz.prog 133 #[ptr C.q,.int .i64 id,.int .i64 depth] w (GD B w0 C S d P l (S.read d id depth).1 (S.read d id depth).2):=by
 have:=qI (depth:=depth) T h hk (by rw[hd.room];exact I.ok) (by rw[hd.room];exact hr) I.sz;rw[hd.read]at this;exact this.mono fun e w' ⟨p,P',d',h1,h2,h3,h4,h5,h6⟩=>⟨p,P',d',h1,h2,h3,h4,hd.trans h5,h6⟩
theorem Jb {S':Dr}{id k er:Int}(hd:bI d d1)(h:Sep B w0 w (DL C S d1 P l))(hk:Wf id)(I:DI S d.room)(hr:d.room<=16384)(hp:p∈P)(he:S.put d.room id p.n=some ((k,er),S')):Calls Tryz.prog 136 #[ptr C.q,.int .i64 id,.agg (cN p)] w fun e w'=>e=.returned (.tuple #[.int .i64 k,.int .i64 er])∧Sep B w0 w' (DL C S' d1 P l):=
 IZ h hk (by rw[hd.room];exact I.ok) (by rw[hd.room];exact hr) hp (by rw[hd.room];exact he)
theorem E9 {S':Dr}{a b k er:Int}(hd:bI d d1)(h:Sep B w0 w (DL C S d1 P l))(ha:Wf a)(hb:Wf b)(I:DI S d.room)(hr:d.room<=16384)(hp:p∈P)(he:S.fS d.room a b p.n=some ((k,er),S')):Calls Tryz.prog 201 #[ptr C.q,.int .i64 a,.int .i64 b,.agg (cN p)] w fun e w'=>e=.returned (.tuple #[.int .i64 k,.int .i64 er])∧Sep B w0 w' (DL C S' d1 P l):=
 E6 h ha hb (by rw[hd.room];exact I.ok) (by rw[hd.room];exact hr) hp (by rw[hd.room];exact he)
def zj (S:Dr)(d:Dk)(n:Nd)(depth:Int)(i:Nat):Nd×Nd×Int:=
 if(S.read d (n.ks.getD i 0) (depth+1)).2≠0 then(nd0,nd0,(S.read d (n.ks.getD i 0) (depth+1)).2)else((S.read d (n.ks.getD i 0) (depth+1)).1,(S.read d (n.ks.getD (i+1) 0) (depth+1)).1,(S.read d (n.ks.getD (i+1) 0) (depth+1)).2)
theorem Q8 {depth:Int}{i:Nat}(T:cd B w0)(hd:bI d d1)(h:Sep B w0 w (DL C S d1 P l))(hp:p∈P)(hi:i+1<p.n.ks.length)(hl:p.n.ks.length<=500)(hk:∀k∈p.n.ks,Wf k)(I:DI S d.room)(hr:d.room<=16384)(hd0:-1<=depth)(hd1:depth<=1000000):
  Calls Tryz.prog 199 #[ptr C.q,.agg (cN p),.int .i64 depth,.int .i64 (i:Int)] w fun e w'=>∃pa pb P' d',pa.n=(zj S d p.n depth i).1∧pb.n=(zj S d p.n depth i).2.1∧pa∈P'∧pb∈P'∧(∀x∈P,x∈P')∧e=.returned (.tuple #[.agg (cN pa),.agg (cN pb),.int .i64 (zj S d p.n depth i).2.2])∧bI d d'∧Sep B w0 w' (DL C S d' P' l):=by
 obtain⟨ae,ce,ak,ck,az,cz,n⟩:=p;unfold zj;by_cases h0:(S.read d (n.ks.getD i 0) (depth+1)).2≠0
 ·rw[if_pos h0];have:=I4 (depth:=depth) (i:=i) T h hp hi hl hk (by rw[hd.room];exact I.ok) (by rw[hd.room];exact hr) I.sz hd0 hd1 (by rw[hd.read];exact h0);rw[hd.read]at this;exact this.mono fun e w' ⟨pa,pb,P',d',h1,h1',h2,h2',h3,h4,h5,h6⟩=>⟨pa,pb,P',d',h1,h1',h2,h2',h3,h4,hd.trans h5,h6⟩
 ·rw[if_neg h0];have:=Na (depth:=depth) (i:=i) T h hp hi hl hk (by rw[hd.room];exact I.ok) (by rw[hd.room];exact hr) I.sz hd0 hd1 (by rw[hd.read];simpa using h0);rw[hd.read,hd.read]at this;exact this.mono fun e w' ⟨pa,pb,P',d',h1,h1',h2,h2',h3,h4,h5,h6⟩=>⟨pa,pb,P',d',h1,h1',h2,h2',h3,h4,hd.trans h5,h6⟩
end
end
section
open N (Nd nd0 cE dx dZ ji gp Sm bf hidR ar ai Ch aP ah waits)
theorem bU {fn:Func}{p q r:Tmp}{ty:TypeId}(h:fn.results=#[.cell p ty,.tmp q,.tmp r])(tmps:Array Value)(P:Program)(w:World):
  (results fn tmps).run P w=((asAddr (tmps.getD p undef)).run P w).andThen fun a w₁=>((loadVar ty a).run P w₁).andThen fun x w₂=>.ok (.tuple #[x,tmps.getD q undef,tmps.getD r undef]) w₂:=by
 simp only[results,h];simp[Sem.run_bind,Result.andThen]
theorem NV.key {p:NV}{w:World}(h:p.R w){i:Nat}(hi:i<p.n.ss.length):∃r o,p.az=some ⟨r,o,none⟩∧r<w.heap.size∧w.cell? ⟨r,o+i,none⟩=some (.string (p.n.ss.getD i ⟨#[]⟩)):=by
 obtain⟨ao,cap,e,h1,h2,h3⟩:=h.s;have hne:p.n.ss≠[]:=fun e=>by rw[e]at hi;simp at hi
 obtain⟨b,off,e2,hb,hc⟩:=h3 hne;injection e with e1 _ _;refine⟨b,off,e1.trans e2,hb,?_⟩;rw[hc i (by simpa using hi)];have hs:i<p.n.ss.toArray.size*1:=by simpa using hi
 rw[get_flatK _ _ _ _ hs,Nat.div_one,Nat.mod_one];simp[N.encS,List.getD_eq_getElem?_getD,hi]
def GJ (B:Nat)(w0:World)(C:Cx)(S':Dr)(d:Dk)(P:List NV)(l:List aN)(n:Nd)(j:Bool)(er:Int)(e:Ending)(w':World):Prop:=
 ∃p P' d',p.n=n∧p∈P'∧(∀x∈P,x∈P')∧e=.returned (.tuple #[p.v,.bool j,.int .i64 er])∧bI d d'∧Sep B w0 w' (DL C S' d' P' l)
theorem zk:∀ {ss:List ByteArray} {k:Nat},k<ss.length->(ss.getD k ⟨#[]⟩).size<=N.bW ss
 |[],k,h=>by simp at h
 |x::ss,0,h=>by
  have:N.bW (x::ss)=5+x.size+N.bW ss:=rfl;rw[this];simp;omega
 |x::ss,k+1,h=>by
  have:N.bW (x::ss)=5+x.size+N.bW ss:=rfl;rw[this];have ih:=zk (ss:=ss) (k:=k) (by simpa using h);simp at ih⊢;omega
theorem zl {n:Nd}(h:cE n=true):n.es.length<=120∧n.ks.length<=49∧n.ss.length<=48∧N.cP n.es<=240∧N.bW n.ss<=240:=by
 unfold cE at h;simp only[Bool.and_eq_true,decide_eq_true_eq]at h;have a:=N.kL n.es;have b:=N.kM n.ss;obtain⟨h1,h2⟩:=h;unfold dZ at h2;cases hl:n.leaf
 ·rw[hl,if_neg (by simp)]at h2;obtain⟨e1,e2,e3,_⟩:=(N.fE hl).1 h1;have z:N.cP n.es=0:=by rw[e1];rfl
  have z2:n.es.length=0:=by rw[e1];rfl
  omega
 ·rw[hl,if_pos rfl]at h2;obtain⟨e1,e2,_⟩:=(N.fR hl).1 h1;have z:N.bW n.ss=0:=by rw[e2];rfl
  have z2:n.ss.length=0:=by rw[e2];rfl
  have z3:n.ks.length=0:=by rw[e1];rfl
  omega
theorem Q9 {a b:Nd}{key:ByteArray}(ha:cE a=true)(hb:cE b=true)(hk:key.size<=100000):Sm (ji a key b):=by
 obtain⟨a1,a2,a3,a4,a5⟩:=zl ha;obtain⟨b1,b2,b3,b4,b5⟩:=zl hb;unfold ji;split
 ·refine⟨?_,?_,?_,?_,?_⟩
  ·simp only[List.length_append];omega
  ·simp only[List.length_append];omega
  ·simp only[List.length_append];split<;>simp<;>omega
  ·simp only[N.js];omega
  ·simp only[N.dE];split
   ·simp[N.bW];omega
   ·have:N.bW [key]=5+key.size+N.bW []:=rfl;rw[this];simp[N.bW];omega
 ·exact(gq ha).1
def aX (B:Nat)(w0:World)(C:Cx)(d:Dk)(Nb:Int)(rec:qF):Prop:=
 ∀ {w:World} {S S':Dr} {d1:Dk} {P:List NV} {l:List aN} {p:NV} {depth i tt:Int} {m:Nd} {e:Int},Sep B w0 w (DL C S d1 P l)->bI d d1->p∈P->cB p.n=true->DI S d.room->-1<=depth->depth<=Nb->-2<=i->i<=1000->-2<=tt->tt<=1000->rec S p.n depth i tt=some ((m,e),S')->
  Calls Tryz.prog 139 #[ptr C.q,.agg (cN p),.int .i64 depth,.int .i64 i,.int .i64 tt] w (GD B w0 C S' d P l m e)
def JB (B:Nat)(w0:World)(C:Cx)(S:Dr)(d:Dk)(P:List NV)(L:List aN)(nn:Nd)(f7 f8:Bool)(tU xF:Value)(w:World):Prop:=
 ∃P' bl,(∀x∈P,x∈P')∧Sep B w0 w (DL C S d P' (bl++L))∧(f7=true->∃p∈P',p.n=nn∧xF=.agg (cN p))∧(f8=true->∃qq,tU=.pointer (some ⟨qq,0,none⟩)∧bl=[ax qq (.cells cZ 184)])∧(f8=false->bl=[])
theorem JB.sep {B:Nat}{w0:World}{C:Cx}{S:Dr}{d:Dk}{P:List NV}{L:List aN}{nn:Nd}{f7 f8:Bool}{tU xF:Value}{w:World}(h:JB B w0 C S d P L nn f7 f8 tU xF w):∃P',(∀x∈P,x∈P')∧Sep B w0 w (DL C S d P' L):=by
 obtain⟨P',bl,h1,h2,_,h4,h5⟩:=h;cases f8 with
 |true=>
  obtain⟨qq,_,rfl⟩:=h4 rfl;exact⟨P',h1,Sep.drop (Sep.dS h2)⟩
 |false=>
  obtain rfl:=h5 rfl;exact⟨P',h1,h2⟩
def JC (B:Nat)(w0:World)(C:Cx)(S1 S2:Dr)(d:Dk)(P:List NV)(L:List aN)(f:Bool)(w:World):Prop:=
 (f=false->Sep B w0 w (DL C S1 d P L))∧(f=true->Sep B w0 w (DL C S2 d P L))
theorem JC.sep {B:Nat}{w0:World}{C:Cx}{S1 S2:Dr}{d:Dk}{P:List NV}{L:List aN}{f:Bool}{w:World}(h:JC B w0 C S1 S2 d P L f w):∃S,Sep B w0 w (DL C S d P L):=by
 cases f with
 |false=>exact⟨S1,h.1 rfl⟩
 |true=>exact⟨S2,h.2 rfl⟩
def J9 (B:Nat)(w0:World)(CC:Cx)(S:Dr)(d:Dk)(P:List NV)(L:List aN)(nn:Nd)(q0 q3 q4 k zr zo nz cz:Nat)(key:ByteArray)(VA VB:Value){y0 y1 y2 y3 y5 y7 y8 y9 wE sK sL y13 tW wF wG y20 y21 y22 y23 y24 y25 yJ y27 y28 y29 yK y31 y32 wK y34 ua ub wL y38 y39 yL yM yN yO Ex Ey Ez EA EB EC AG AH AJ AK AL AO Mp Mq Mr Ms Mt Mu Mv Mw Mx My Mz MD QM QN QO UG UH UI UJ UK UL UM QP QQ QR Mi y90 y91 Mj y93 Ie y95 y96 Vg y98 y99 Ra y101 y102 Rb y104 Rc Re Rf Yq Yr Ys Yt y112 y113 y114 y115 Rh Ri Rj Rk:Value}(C:List Bool->Act->Prop)(w:World):Prop:=∀{f0 f1 f2 f3 f4 f5 f6 f7 f8 f9:Bool}{tU Nc Nf Ng I7 Nh Ni Cz xF:Value},f9=false->JB B w0 CC S d P L nn f7 f8 tU xF w->Hid (f0=true->Nc=VA)->Hid (f1=true->Nf=.pointer (some ⟨q0,3,none⟩))->Hid (f2=true->Ng=.slice (some ⟨zr,zo,none⟩) nz cz)->Hid (f3=true->I7=.int .i64 (k:Int))->Hid (f4=true->Nh=.pointer (some ⟨zr,zo+k,none⟩))->Hid (f5=true->Ni=.string key)->Hid (f6=true->Cz=VB)->Hid (f7=true->True)->Hid (f8=true->True)->C [f0,f1,f2,f3,f4,f5,f6,f7,f8,f9] {tmps:=#[y0,y1,y2,y3,.int .i64 (k:Int),y5,.pointer (some ⟨q0,0,none⟩),y7,y8,y9,wE,sK,sL,y13,tW,.pointer (some ⟨q3,0,none⟩),.pointer (some ⟨q4,0,none⟩),tU,wF,wG,y20,y21,y22,y23,y24,y25,yJ,y27,y28,y29,yK,y31,y32,wK,y34,ua,ub,wL,y38,y39,yL,yM,yN,yO,Ex,Ey,Ez,EA,EB,EC,AG,AH,AJ,AK,AL,AO,Nc,Nf,Ng,I7,Nh,Ni,Cz,xF,Mp,Mq,Mr,Ms,Mt,Mu,Mv,Mw,Mx,My,Mz,MD,QM,QN,QO,UG,UH,UI,UJ,UK,UL,UM,QP,QQ,QR,Mi,y90,y91,Mj,y93,Ie,y95,y96,Vg,y98,y99,Ra,y101,y102,Rb,y104,Rc,Re,Rf,Yq,Yr,Ys,Yt,y112,y113,y114,y115,Rh,Ri,Rj,Rk],defers:=[]}
def J15 (B:Nat)(w0:World)(CC:Cx)(S1 S2:Dr)(d:Dk)(P:List NV)(L:List aN)(q0 q5 k r ro TF ck:Nat)(ka kb:Int)(pg e2:Int)(VM Vh:Value){y1 y2 y3 y5 y7 y8 y9 wE sK sL y13 pN pO wG y20 y21 y22 y23 y24 y25 yJ y27 y28 y29 yK y31 y32 wK y34 ua ub wL y38 y39 yL yM yN yO Ex Ey Ez EA EB EC AG AH AJ AK AL AO Ic Md Me Mf Mg Mh QS QT Mp Mq Mr Ms Mt Mu Mv Mw Mx My Mz MD QM QN QO UG UH UI UJ UK UL UM QP QQ QR Mi y90 y91 Mj y93 Ie y112 y113 y114 y115 Rh Ri Rj Rk:Value}(C:List Bool->Act->Prop)(w:World):Prop:=∀{f0 f1 f2 f3 f4 f5 f6 f7 f8 f9 f10 f11 f12 f13 f14 f15 f16 f17 f18:Bool}{tT yG x95 x96 Wz x98 x99 x100 x101 x102 x103 x104 x105 Nn x107 Np Nq Nr Ns:Value},f18=false->JC B w0 CC S1 S2 d P L f13 w->Hid (f0=true->x96=ptr CC.q)->Hid (f1=true->Wz=.pointer (some ⟨q0,2,none⟩))->Hid (f2=true->x98=.slice (some ⟨r,ro,none⟩) TF ck)->Hid (f3=true->x99=.int .i64 (k:Int))->Hid (f4=true->x100=.pointer (some ⟨r,ro+k,none⟩))->Hid (f5=true->x101=.int .i64 ka)->Hid (f6=true->x102=.pointer (some ⟨q0,2,none⟩))->Hid (f7=true->x103=.slice (some ⟨r,ro,none⟩) TF ck)->Hid (f8=true->x104=.int .i64 (k:Int))->Hid (f9=true->x105=.int .i64 ((k+1:Nat):Int))->Hid (f10=true->Nn=.pointer (some ⟨r,ro+(k+1),none⟩))->Hid (f11=true->x107=.int .i64 kb)->Hid (f12=true->Np=VM)->Hid (f13=true->Nq=Vh)->Hid (f14=true->x95=Vh)->Hid (f15=true->Nr=.int .i64 pg)->Hid (f16=true->Ns=.int .i64 e2)->Hid (f17=true->yG=.int .i64 pg)->C [f0,f1,f2,f3,f4,f5,f6,f7,f8,f9,f10,f11,f12,f13,f14,f15,f16,f17,f18] {tmps:=#[ptr CC.q,y1,y2,y3,.int .i64 (k:Int),y5,.pointer (some ⟨q0,0,none⟩),y7,y8,y9,wE,sK,sL,y13,tT,pN,pO,.pointer (some ⟨q5,0,none⟩),yG,wG,y20,y21,y22,y23,y24,y25,yJ,y27,y28,y29,yK,y31,y32,wK,y34,ua,ub,wL,y38,y39,yL,yM,yN,yO,Ex,Ey,Ez,EA,EB,EC,AG,AH,AJ,AK,AL,AO,Ic,Md,Me,Mf,Mg,Mh,QS,QT,Mp,Mq,Mr,Ms,Mt,Mu,Mv,Mw,Mx,My,Mz,MD,QM,QN,QO,UG,UH,UI,UJ,UK,UL,UM,QP,QQ,QR,Mi,y90,y91,Mj,y93,Ie,x95,x96,Wz,x98,x99,x100,x101,x102,x103,x104,x105,Nn,x107,Np,Nq,Nr,Ns,y112,y113,y114,y115,Rh,Ri,Rj,Rk],defers:=[]}
section
variable {B:Nat}{w0 w w':World}{l:List aN}{P:List NV}{C:Cx}{S S':Dr}{d d1:Dk}{depth:Int}{ae ak az:Option Addr}{ce ck cz:Nat}{n m:Nd}{j:Bool}{er Nb:Int}{rec:qF}
theorem Jc {i first:Int}(hd:bI d d1)(h:Sep B w0 w (DL C S d1 P l))(hp:(⟨ae,ce,ak,ck,az,cz,n⟩:NV)∈P)(hf:first<0):Calls Tryz.prog 168 #[ptr C.q,.agg #[.bool n.leaf,.slice ae n.es.length ce,.slice ak n.ks.length ck,.slice az n.ss.length cz],.int .i64 depth,.int .i64 i,.int .i64 first] w (GJ B w0 C S d P l n false 0):=by
 have SF:Hid (Sep B w0 ((w.alloc (.cells #[.bool n.leaf,.slice ae n.es.length ce,.slice ak n.ks.length ck,.slice az n.ss.length cz] 184)).alloc (.cells #[.bool n.leaf,.slice ae n.es.length ce,.slice ak n.ks.length ck,.slice az n.ss.length cz] 184)) (DL C S d1 P (ax w.heap.size (.cells #[.bool n.leaf,.slice ae n.es.length ce,.slice ak n.ks.length ck,.slice az n.ss.length cz] 184)::ax (w.heap.size+1) (.cells #[.bool n.leaf,.slice ae n.es.length ce,.slice ak n.ks.length ck,.slice az n.ss.length cz] 184)::l))):=Sep.oC (Sep.aZ (Sep.tH (h.aQ _)) _ _ (by simp));have HP:Hid ((⟨ae,ce,ak,ck,az,cz,n⟩:NV)∈P):=hp;have HD:Hid (bI d d1):=hd;clear h hp hd;go_enter Tryz.func168,Tryz.ntmps168;go_wp2
 (try simp only[Exit.inBlock,Exit.then])
 generalize World.alloc _ _=vf at*;generalize w.heap.size+1=q1 at*;generalize w.heap.size=q0 at*;obtain⟨_,⟨c0,c1,c2,c3⟩,g0,g1,g2,g3⟩:=Sep.c4 (Sep.cR (SF.out));refine bodyPost_ret (v:=.tuple #[.agg #[.bool n.leaf,.slice ae n.es.length ce,.slice ak n.ks.length ck,.slice az n.ss.length cz],.bool false,.int .i64 0]) ?_ rfl ⟨_,P,d1,rfl,HP.out,fun _ h=>h,rfl,HD.out,Sep.drop (Sep.dS (Sep.drop (Sep.cR (SF.out))))⟩;rw[bU rfl];go_simp
theorem Jd {t k:Nat}(T:cd B w0)(hrec:aX B w0 C d Nb rec)(Dh:∀ {S S':Dr} {n:Nd} {depth i tt:Int} {r:Nd×Int},DI S d.room->rec S n depth i tt=some (r,S')->DI S' d.room)(hd:bI d d1)(h:Sep B w0 w (DL C S d1 P l))(hp:(⟨ae,ce,ak,ck,az,cz,n⟩:NV)∈P)(hsm:cB n=true)(I:DI S d.room)(hr:d.room<=16384)(hd0:-1<=depth)(hd1:depth<=100000)(hN:depth+1<=Nb)(ht:t<n.ks.length)(hk2:k+1<n.ks.length)(he:fV rec d.room d S n depth t k=some ((m,j,er),S')):
  Calls Tryz.prog 168 #[ptr C.q,.agg #[.bool n.leaf,.slice ae n.es.length ce,.slice ak n.ks.length ck,.slice az n.ss.length cz],.int .i64 depth,.int .i64 (t:Int),.int .i64 (k:Int)] w (GJ B w0 C S' d P l m j er):=by
 obtain⟨kZ,hkl,hel,hsl,hks⟩:=fe hsm;obtain⟨r,ro,hak,_⟩:=NV.kid (p:=(⟨ae,ce,ak,ck,az,cz,n⟩:NV)) (DL.nd h hp) (i:=t) ht;simp only at hak;subst hak;have K1:Hid (∀u d' P' L,bI d d'->Sep B w0 u (DL C S d' P' L)->Calls Tryz.prog 133 #[ptr C.q,.int .i64 (n.ks.getD t 0),.int .i64 (depth+1)] u fun e w'=>∃pa P2 d2,pa.n=(S.read d (n.ks.getD t 0) (depth+1)).1∧pa∈P2∧(∀x∈P',x∈P2)∧e=.returned (.tuple #[.agg (cN pa),.int .i64 (S.read d (n.ks.getD t 0) (depth+1)).2])∧bI d d2∧Sep B w0 w' (DL C S d2 P2 L)):=fun u d' P' L hd hu=>wU T hd hu (hks _ (dN ht)) I hr;have K2:Hid (∀u d' P' L,bI d d'->Sep B w0 u (DL C S d' P' L)->(⟨ae,ce,some ⟨r,ro,none⟩,ck,az,cz,n⟩:NV)∈P'->Calls Tryz.prog 199 #[ptr C.q,.agg #[.bool n.leaf,.slice ae n.es.length ce,.slice (some ⟨r,ro,none⟩) n.ks.length ck,.slice az n.ss.length cz],.int .i64 depth,.int .i64 (k:Int)] u fun e w'=>∃pa pb P2 d2,pa.n=(zj S d n depth k).1∧pb.n=(zj S d n depth k).2.1∧pa∈P2∧pb∈P2∧(∀x∈P',x∈P2)∧e=.returned (.tuple #[.agg (cN pa),.agg (cN pb),.int .i64 (zj S d n depth k).2.2])∧bI d d2∧Sep B w0 w' (DL C S d2 P2 L)):=fun u d' P' L hd hu hp'=>Q8 (p:=(⟨ae,ce,some ⟨r,ro,none⟩,ck,az,cz,n⟩:NV)) T hd hu hp' hk2 hkl hks I hr hd0 (by omega);have S1:Hid (Sep B w0 ((w.alloc (.cells #[.bool n.leaf,.slice ae n.es.length ce,.slice (some ⟨r,ro,none⟩) n.ks.length ck,.slice az n.ss.length cz] 184)).alloc (.cells cZ 184)) (DL C S d1 P (ax w.heap.size (.cells #[.bool n.leaf,.slice ae n.es.length ce,.slice (some ⟨r,ro,none⟩) n.ks.length ck,.slice az n.ss.length cz] 184)::ax (w.heap.size+1) (.cells cZ 184)::l))):=Sep.oC (Sep.aZ (Sep.tH (h.aQ _)) _ _ (by simp));obtain⟨r',ro',hak,hrs,hrc⟩:=NV.kid (p:=(⟨ae,ce,some ⟨r,ro,none⟩,ck,az,cz,n⟩:NV)) (DL.nd S1.out hp) (i:=t) ht;cases hak;simp only at hrc;have w1:IntKind.i64.wrap (depth+1)=depth+1:=bR (by omega) (by omega);have hil:(t:Int)< (n.ks.length:Int):=by omega
 have HP:Hid ((⟨ae,ce,some ⟨r,ro,none⟩,ck,az,cz,n⟩:NV)∈P):=hp;have HD:Hid (bI d d1):=hd;have HI:Hid (DI S d.room):=I;have HE:Hid (fV rec d.room d S n depth t k=some ((m,j,er),S')):=he;have HR:Hid (aX B w0 C d Nb rec):=hrec;have HRI:Hid (∀(S S':Dr) (n:Nd) (depth i tt:Int) (r:Nd×Int),DI S d.room->rec S n depth i tt=some (r,S')->DI S' d.room):=fun _ _ _ _ _ _ _ h1 h2=>Dh h1 h2;have HN:Hid (depth+1<=Nb):=hN;have HX:Hid (d.room<=16384∧-1<=depth∧depth<=100000∧k+1<n.ks.length∧(∀k∈n.ks,Wf k)∧Sm n∧t<n.ks.length):=⟨hr,hd0,hd1,hk2,hks,kZ,ht⟩;have kn0:¬(k:Int)<0:=by omega
 have Yu:Hid (cB n=true):=hsm;unfold fV at HE;generalize wV:n.ks.getD t 0=kid at*;generalize hrd:S.read d kid (depth+1)=rd at*;obtain⟨nk,ek⟩:=rd;simp only[Int.toNat_natCast]at HE K1;rw[wV,hrd]at HE;simp only at HE;clear hN h hp hd I he hrec Dh hr hsm kZ hks hd0 hd1 hk2 ht hel hsl;go_enter Tryz.func168,Tryz.ntmps168
 go_wp2_with fail
 clear hrs hrc;generalize World.alloc _ _=v1 at*;generalize w.heap.size+1=q1 at*;generalize w.heap.size=q0 at*;refine Calls.mono (K1.out _ _ _ _ HD.out S1.out) ?_;rintro e v2 ⟨pk,P1,d2,hn1,hm1,hs1,rfl,hd2,s2⟩;have D2:Hid (bI d d2):=hd2;have M1:Hid (∀x∈P,x∈P1):=hs1;have N1:Hid (pk.n=nk):=hn1;have MK:Hid (pk∈P1):=hm1;have S2:Hid (Sep B w0 v2 (DL C S d2 P1 (ax q0 (.cells #[.bool n.leaf,.slice ae n.es.length ce,.slice (some ⟨r,ro,none⟩) n.ks.length ck,.slice az n.ss.length cz] 184)::ax q1 (.cells cZ 184)::l))):=s2;clear s2 hd2 hs1 hn1 hm1 S1 K1 HD;by_cases e0:ek≠0
 ·rw[if_neg (by omega),if_pos e0]at HE;obtain⟨hm,hj,hr',hS⟩:n=m∧false=j∧ek=er∧S=S':=by
   have:=Option.some.inj HE.out;cases this;exact⟨rfl,rfl,rfl,rfl⟩
  subst hm hj hr' hS;have hne:(ek != 0)=true:=bne_iff_ne.2 e0;clear HE e0;obtain⟨_,⟨c0,c1,c2,c3⟩,g0,g1,g2,g3⟩:=Sep.c4 (Sep.dS (S2.out));obtain⟨_,⟨i0,i1,i2,i3⟩,j0,j1,j2,j3⟩:=Sep.c4 (Sep.cR (S2.out));have zm:q0≠q1:=Sep.ne (Sep.cR (Sep.cR (S2.out)));have n10:=zm.symm;have SF:Hid (Sep B w0 (((((v2.setCell ⟨q1,0,none⟩ (.bool n.leaf)).setCell ⟨q1,1,none⟩ (.slice ae n.es.length ce)).setCell ⟨q1,2,none⟩ (.slice (some ⟨r,ro,none⟩) n.ks.length ck)).setCell ⟨q1,3,none⟩ (.slice az n.ss.length cz)).alloc (.cells (cN pk) 184)) _):=Sep.alloc (Sep.oC (Sep.s4 (Sep.cR (S2.out)) _ _ _ _)) _;clear S2;go_wp2
  (try simp only[Exit.inBlock,Exit.then])
  generalize World.setCell _ _ _=vf at*;clear c0 c1 c2 c3 g0 g1 g2 g3 i0 i1 i2 i3 j0 j1 j2 j3;obtain⟨_,⟨c0,c1,c2,c3⟩,g0,g1,g2,g3⟩:=Sep.c4 (Sep.cR (SF.out));refine bodyPost_ret (v:=.tuple #[.agg #[.bool n.leaf,.slice ae n.es.length ce,.slice (some ⟨r,ro,none⟩) n.ks.length ck,.slice az n.ss.length cz],.bool false,.int .i64 ek]) ?_ rfl ⟨_,P1,d2,rfl,M1.out _ HP.out,fun x hx=>M1.out x hx,rfl,D2.out,Sep.drop (Sep.dS (Sep.drop (Sep.cR (SF.out))))⟩;rw[bU rfl];go_simp
 ·have e1:ek=0:=by simpa using e0
  subst e1;rw[if_neg (by omega),if_neg (by simp)]at HE;have S3:Hid (Sep B w0 (v2.alloc (.cells (cN pk) 184)) _):=Sep.xH (Sep.aQ S2.out _);have SMK:Hid (cE pk.n=true):=by
   show _=true;rw[N1.out];have:=HI.out.read (d:=d) (id:=kid) (depth:=depth+1) (by rw[hrd]);rw[hrd]at this;exact this
  clear S2;have hz0:((0:Int) != 0)=false:=rfl
  go_wp2_with fail
  generalize World.alloc _ _=v3 at*;generalize v2.heap.size=q2 at*;refine Calls.mono (Ba S3.out MK.out (gq SMK.out).1) ?_;rintro e v4 ⟨rfl,s4⟩;have S4:Hid (Sep B w0 v4 (DL C S d2 P1 (ax q0 (.cells #[.bool n.leaf,.slice ae n.es.length ce,.slice (some ⟨r,ro,none⟩) n.ks.length ck,.slice az n.ss.length cz] 184)::ax q1 (.cells cZ 184)::ax q2 (.cells (cN pk) 184)::l))):=s4;clear s4 S3;by_cases e1:80<=dZ nk
  ·rw[if_pos e1]at HE;obtain⟨hm,hj,hr',hS⟩:n=m∧false=j∧0=er∧S=S':=by
    have:=Option.some.inj HE.out;cases this;exact⟨rfl,rfl,rfl,rfl⟩
   subst hm hj hr' hS;have hne:(80:Int)<=(dZ pk.n:Int):=by rw[N1.out];omega
   generalize(dZ pk.n:Int)=zz at*;clear HE e1;obtain⟨_,⟨c0,c1,c2,c3⟩,g0,g1,g2,g3⟩:=Sep.c4 (Sep.dS (S4.out));obtain⟨_,⟨i0,i1,i2,i3⟩,j0,j1,j2,j3⟩:=Sep.c4 (Sep.cR (S4.out));have zm:q0≠q1:=Sep.ne (Sep.cR (Sep.cR (S4.out)));have n10:=zm.symm;have SF:Hid (Sep B w0 ((((v4.setCell ⟨q1,0,none⟩ (.bool n.leaf)).setCell ⟨q1,1,none⟩ (.slice ae n.es.length ce)).setCell ⟨q1,2,none⟩ (.slice (some ⟨r,ro,none⟩) n.ks.length ck)).setCell ⟨q1,3,none⟩ (.slice az n.ss.length cz)) _):=Sep.oC (Sep.s4 (Sep.cR (S4.out)) _ _ _ _);clear S4;go_wp2
   (try simp only[Exit.inBlock,Exit.then])
   generalize World.setCell _ _ _=vf at*;clear c0 c1 c2 c3 g0 g1 g2 g3 i0 i1 i2 i3 j0 j1 j2 j3;obtain⟨_,⟨c0,c1,c2,c3⟩,g0,g1,g2,g3⟩:=Sep.c4 (Sep.cR (SF.out));refine bodyPost_ret (v:=.tuple #[.agg #[.bool n.leaf,.slice ae n.es.length ce,.slice (some ⟨r,ro,none⟩) n.ks.length ck,.slice az n.ss.length cz],.bool false,.int .i64 0]) ?_ rfl ⟨_,P1,d2,rfl,M1.out _ HP.out,fun x hx=>M1.out x hx,rfl,D2.out,Sep.drop (Sep.dS (Sep.drop (Sep.cR (Sep.drop (Sep.eN (SF.out))))))⟩;rw[bU rfl];go_simp
  ·rw[if_neg e1]at HE;have hne:¬(80:Int)<=(dZ pk.n:Int):=by rw[N1.out];omega
   generalize(dZ pk.n:Int)=zz at*;obtain⟨_,⟨c0,c1,c2,c3⟩,g0,g1,g2,g3⟩:=Sep.c4 (Sep.dS (S4.out));have Yv:Hid _:=M1.out _ HP.out;clear e1
   go_wp2_with fail
   clear c0 c1 c2 c3 g0 g1 g2 g3;refine Calls.mono (K2.out _ _ _ _ D2.out S4.out Yv.out) ?_;rintro e v5 ⟨pa,pb,P2,d3,hna,hnb,Z4,hmb,hs2,rfl,hd3,s5⟩;have D3:Hid (bI d d3):=hd3;have M2:Hid (∀x∈P1,x∈P2):=hs2;have NA:Hid (pa.n=(zj S d n depth k).1):=hna;have NB:Hid (pb.n=(zj S d n depth k).2.1):=hnb;have MA:Hid (pa∈P2):=Z4;have MB:Hid (pb∈P2):=hmb;have S5:Hid (Sep B w0 v5 (DL C S d3 P2 (ax q0 (.cells #[.bool n.leaf,.slice ae n.es.length ce,.slice (some ⟨r,ro,none⟩) n.ks.length ck,.slice az n.ss.length cz] 184)::ax q1 (.cells cZ 184)::ax q2 (.cells (cN pk) 184)::l))):=s5;clear s5 hd3 hs2 hna hnb Z4 hmb S4 K2 D2;have D2:Hid (bI d d3):=D3.out;clear D3;by_cases e2:(zj S d n depth k).2.2≠0
   ·have FD:Hid (n=m∧false=j∧(zj S d n depth k).2.2=er∧S=S'):=by
     have hE:=HE.out;unfold zj at e2⊢;by_cases ea:(S.read d (n.ks.getD k 0) (depth+1)).2≠0
     ·rw[if_pos ea]at hE e2⊢;cases hE;exact⟨rfl,rfl,rfl,rfl⟩
     ·rw[if_neg ea]at hE e2⊢;simp only at e2;rw[if_pos e2]at hE;cases hE;exact⟨rfl,rfl,rfl,rfl⟩
    have hne:((zj S d n depth k).2.2 != 0)=true:=bne_iff_ne.2 e2;clear HE e2 NA NB;generalize(zj S d n depth k).2.2=e3 at*;obtain⟨hm,hj,hr',hS⟩:=FD.out;subst hm hj hr' hS;clear FD;obtain⟨_,⟨c0,c1,c2,c3⟩,g0,g1,g2,g3⟩:=Sep.c4 (Sep.dS (S5.out));obtain⟨_,⟨i0,i1,i2,i3⟩,j0,j1,j2,j3⟩:=Sep.c4 (Sep.cR (S5.out));have zm:q0≠q1:=Sep.ne (Sep.cR (Sep.cR (S5.out)));have n10:=zm.symm;have SF:Hid (Sep B w0 ((((((v5.setCell ⟨q1,0,none⟩ (.bool n.leaf)).setCell ⟨q1,1,none⟩ (.slice ae n.es.length ce)).setCell ⟨q1,2,none⟩ (.slice (some ⟨r,ro,none⟩) n.ks.length ck)).setCell ⟨q1,3,none⟩ (.slice az n.ss.length cz)).alloc (.cells (cN pa) 184)).alloc (.cells (cN pb) 184)) (DL C S d3 P2 (ax q0 (.cells #[.bool n.leaf,.slice ae n.es.length ce,.slice (some ⟨r,ro,none⟩) n.ks.length ck,.slice az n.ss.length cz] 184)::ax q1 (.cells #[.bool n.leaf,.slice ae n.es.length ce,.slice (some ⟨r,ro,none⟩) n.ks.length ck,.slice az n.ss.length cz] 184)::ax q2 (.cells (cN pk) 184)::l))):=Sep.alloc (Sep.alloc (Sep.oC (Sep.s4 (Sep.cR (S5.out)) _ _ _ _)) _) _;clear S5;go_wp2
    (try simp only[Exit.inBlock,Exit.then])
    generalize(((((v5.setCell ⟨q1,0,none⟩ (.bool n.leaf)).setCell ⟨q1,1,none⟩ (.slice ae n.es.length ce)).setCell ⟨q1,2,none⟩ (.slice (some ⟨r,ro,none⟩) n.ks.length ck)).setCell ⟨q1,3,none⟩ (.slice az n.ss.length cz)).alloc (.cells (cN pa) 184)).alloc (.cells (cN pb) 184)=vf at*;clear c0 c1 c2 c3 g0 g1 g2 g3 i0 i1 i2 i3 j0 j1 j2 j3;obtain⟨_,⟨c0,c1,c2,c3⟩,g0,g1,g2,g3⟩:=Sep.c4 (Sep.cR (SF.out));refine bodyPost_ret (v:=.tuple #[.agg #[.bool n.leaf,.slice ae n.es.length ce,.slice (some ⟨r,ro,none⟩) n.ks.length ck,.slice az n.ss.length cz],.bool false,.int .i64 e3]) ?_ rfl ⟨_,P2,d3,rfl,M2.out _ (M1.out _ HP.out),fun x hx=>M2.out x (M1.out x hx),rfl,D2.out,Sep.drop (Sep.dS (Sep.drop (Sep.cR (Sep.drop (Sep.eN (SF.out))))))⟩;rw[bU rfl];go_simp
   ·obtain⟨ea,eb,ep⟩:(S.read d (n.ks.getD k 0) (depth+1)).2=0∧(S.read d (n.ks.getD (k+1) 0) (depth+1)).2=0∧zj S d n depth k=((S.read d (n.ks.getD k 0) (depth+1)).1,(S.read d (n.ks.getD (k+1) 0) (depth+1)).1,0):=by
     unfold zj at e2⊢;by_cases ea:(S.read d (n.ks.getD k 0) (depth+1)).2≠0
     ·rw[if_pos ea]at e2;exact absurd ea e2
     ·rw[if_neg ea]at e2⊢;simp only[Decidable.not_not]at e2 ea;exact⟨ea,e2,by rw[e2]⟩
    have FA:Hid (cE pa.n=true):=by
     show _=true;rw[NA.out,ep];exact HI.out.read ea
    have FB:Hid (cE pb.n=true):=by
     show _=true;rw[NB.out,ep];exact HI.out.read eb
    have WC:Hid (Sm pa.n):=(gq FA.out).1;have SMB:Hid (Sm pb.n):=(gq FB.out).1;have O9:Hid (pa.n.ks.length<=500):=(fe (gq FA.out).2.1).2.1;rw[if_neg (by simpa using ea),if_neg (by simpa using eb)]at HE;by_cases hss:n.ss.length<=k
    ·rw[if_pos hss]at HE;have:=HE.out;cases this
    rw[if_neg hss]at HE;have hkz:k<n.ss.length:=by omega
    have aaj:(k:Int)< (n.ss.length:Int):=by omega
    have e20:((zj S d n depth k).2.2)=0:=by rw[ep]
    rw[e20];have Z5:(S.read d (n.ks.getD k 0) (depth+1)).1=pa.n:=by rw[NA.out,ep]
    have Z6:(S.read d (n.ks.getD (k+1) 0) (depth+1)).1=pb.n:=by rw[NB.out,ep]
    rw[Z5,Z6]at HE;clear Z5 Z6 NA NB e2 ea eb ep e20 hss;obtain⟨zr,zo,haz,_⟩:=NV.key (p:=(⟨ae,ce,some ⟨r,ro,none⟩,ck,az,cz,n⟩:NV)) (DL.nd S5.out (M2.out _ Yv.out)) (i:=k) hkz;simp only at haz;subst haz;have MY:Hid ((⟨ae,ce,some ⟨r,ro,none⟩,ck,some ⟨zr,zo,none⟩,cz,n⟩:NV)∈P2):=M2.out _ Yv.out;have HKS:Hid ((n.ss.getD k ⟨#[]⟩).size<=100000):=by
     have h1:=zk hkz;have h2:=Yu.out;unfold cB at h2;simp only[Bool.and_eq_true,decide_eq_true_eq]at h2;exact Nat.le_trans h1 h2.1.2
    generalize WD:n.ss.getD k ⟨#[]⟩=key at*;have HK9:Hid (n.ss.getD k ⟨#[]⟩=key):=WD;clear WD;have S6:Hid (Sep B w0 ((v5.alloc (.cells (cN pa) 184)).alloc (.cells (cN pb) 184)) (DL C S d3 P2 (ax q0 (.cells #[.bool n.leaf,.slice ae n.es.length ce,.slice (some ⟨r,ro,none⟩) n.ks.length ck,.slice (some ⟨zr,zo,none⟩) n.ss.length cz] 184)::ax q1 (.cells cZ 184)::ax q2 (.cells (cN pk) 184)::ax v5.heap.size (.cells (cN pa) 184)::ax (v5.heap.size+1) (.cells (cN pb) 184)::l))):=Sep.Wx (Sep.aZ (Sep.Kr (Sep.aQ S5.out _)) _ _ (by simp));clear S5
    go_wp2_with fail
    generalize(v5.alloc (.cells (cN pa) 184)).alloc (.cells (cN pb) 184)=v6 at*;generalize v5.heap.size+1=q4 at*;generalize v5.heap.size=q3 at*;refine bf 9 (J9 B w0 C S d3 P2 (ax q0 (.cells #[.bool n.leaf,.slice ae n.es.length ce,.slice (some ⟨r,ro,none⟩) n.ks.length ck,.slice (some ⟨zr,zo,none⟩) n.ss.length cz] 184)::ax q1 (.cells cZ 184)::ax q2 (.cells (cN pk) 184)::ax q3 (.cells (cN pa) 184)::ax q4 (.cells (cN pb) 184)::l) (ji pa.n key pb.n) q0 q3 q4 k zr zo n.ss.length cz key (.agg (cN pa)) (.agg (cN pb))) (by kernel_rfl) (by kernel_rfl) (by kernel_rfl) (fun _ k=>k rfl ⟨P2,[],fun _ h=>h,S6.out.drew,(fun h=>by cases h),(fun h=>by cases h),fun _=>rfl⟩ ar ar ar ar ar ar ar ar ar) ?_ ?_ ?_
    ·intro i w' hne f0 f1 f2 f3 f4 f5 f6 f7 f8 f9 tU Nc Nf Ng I7 Nh Ni Cz xF e9 hB h0 h1 h2 h3 h4 h5 h6 h7 h8 hi;obtain⟨hlt,hun,_⟩:=aP hi;have hlt':i<10:=hlt;clear hlt;rcases(by omega:i=0∨i=1∨i=2∨i=3∨i=4∨i=5∨i=6∨i=7∨i=8)with rfl|rfl|rfl|rfl|rfl|rfl|rfl|rfl|rfl
     ·obtain⟨P9,WE,s9⟩:=JB.sep hB;obtain⟨_,⟨c0,c1,c2,c3⟩,_⟩:=Sep.c4 (Sep.iZ (s9));clear s9;refine ai rfl fun K HK=>?_;go_simp;exact HK.out _ _ fun _ k=>k e9 hB hidR h1 h2 h3 h4 h5 h6 h7 h8
     ·refine ai rfl fun K HK=>?_;go_simp;exact HK.out _ _ fun _ k=>k e9 hB h0 hidR h2 h3 h4 h5 h6 h7 h8
     ·cases h1 (ah 1 hi (by kernel_rfl));obtain⟨P9,WE,s9⟩:=JB.sep hB;obtain⟨_,⟨c0,c1,c2,c3⟩,_⟩:=Sep.c4 (Sep.dS (s9));clear s9;refine ai rfl fun K HK=>?_;go_simp;exact HK.out _ _ fun _ k=>k e9 hB h0 h1 hidR h3 h4 h5 h6 h7 h8
     ·refine ai rfl fun K HK=>?_;go_simp;exact HK.out _ _ fun _ k=>k e9 hB h0 h1 h2 hidR h4 h5 h6 h7 h8
     ·cases h2 (ah 2 hi (by kernel_rfl));cases h3 (ah 3 hi (by kernel_rfl));refine ai rfl fun K HK=>?_;go_simp;exact HK.out _ _ fun _ k=>k e9 hB h0 h1 h2 h3 hidR h5 h6 h7 h8
     ·cases h4 (ah 4 hi (by kernel_rfl));obtain⟨P9,WE,s9⟩:=JB.sep hB;obtain⟨z1,z2,hz3,hzs,hzc⟩:=NV.key (p:=(⟨ae,ce,some ⟨r,ro,none⟩,ck,some ⟨zr,zo,none⟩,cz,n⟩:NV)) (DL.nd s9 (WE _ MY.out)) (i:=k) hkz;cases hz3;simp only at hzc;rw[HK9.out]at hzc;clear s9;refine ai rfl fun K HK=>?_;go_simp;exact HK.out _ _ fun _ k=>k e9 hB h0 h1 h2 h3 h4 hidR h6 h7 h8
     ·obtain⟨P9,WE,s9⟩:=JB.sep hB;obtain⟨_,⟨c0,c1,c2,c3⟩,_⟩:=Sep.c4 (Sep.pQ (s9));clear s9;refine ai rfl fun K HK=>?_;go_simp;exact HK.out _ _ fun _ k=>k e9 hB h0 h1 h2 h3 h4 h5 hidR h7 h8
     ·cases h0 (ah 0 hi (by kernel_rfl));cases h5 (ah 5 hi (by kernel_rfl));cases h6 (ah 6 hi (by kernel_rfl));refine ai rfl fun K HK=>?_;go_simp;obtain⟨P9,Yw,u1,u2,u3,u4,u5⟩:=hB;refine Calls.mono (Nl u2 (u1 _ MA.out) (u1 _ MB.out) WC.out SMB.out key) ?_;rintro e w1 ⟨pj,hn,rfl,s1⟩;exact HK.out _ _ fun _ k=>k e9 ⟨pj::P9,Yw,fun x hx=>List.mem_cons_of_mem _ (u1 x hx),s1,fun _=>⟨pj,List.mem_cons_self,hn,rfl⟩,u4,u5⟩ h0 h1 h2 h3 h4 h5 h6 (fun _=>trivial) h8
     ·have un:f8=false:=hun;refine ai rfl fun K HK=>?_;go_simp;obtain⟨P9,Yw,u1,u2,u3,u4,u5⟩:=hB;obtain rfl:=u5 un;exact HK.out _ _ fun _ k=>k e9 ⟨P9,[_],u1,Sep.tH (Sep.aQ u2 _),u3,fun _=>⟨_,rfl,rfl⟩,fun h=>by cases h⟩ h0 h1 h2 h3 h4 h5 h6 h7 (fun _=>trivial)
    ·intro w' f0 f1 f2 f3 f4 f5 f6 f7 f8 f9 tU Nc Nf Ng I7 Nh Ni Cz xF e9 hB h0 h1 h2 h3 h4 h5 h6 h7 h8 hi;have d7:f7=true:=ah 7 hi (by kernel_rfl);have d8:f8=true:=ah 8 hi (by kernel_rfl);clear hi;obtain⟨P9,Yw,u1,u2,u3,u4,u5⟩:=hB;obtain⟨pj,mj,nj,e63⟩:=u3 d7;have NJ:Hid (pj.n=ji pa.n key pb.n):=nj;clear nj;obtain⟨qq,e17,ebl⟩:=u4 d8;subst ebl;subst e17;subst e63;obtain⟨_,⟨c0,c1,c2,c3⟩,g0,g1,g2,g3⟩:=Sep.c4 (Sep.dS (u2));refine ai rfl fun K HK=>?_;go_simp;refine HK.out _ _ ?_;have S7:Hid (Sep B w0 ((((w'.setCell ⟨qq,0,none⟩ (.bool pj.n.leaf)).setCell ⟨qq,1,none⟩ (.slice pj.ae pj.n.es.length pj.ce)).setCell ⟨qq,2,none⟩ (.slice pj.ak pj.n.ks.length pj.ck)).setCell ⟨qq,3,none⟩ (.slice pj.az pj.n.ss.length pj.cz)) _):=Sep.A8 (Sep.s4 (Sep.dS (u2)) _ _ _ _);have M3:Hid (∀x∈P2,x∈P9):=u1;have MJ:Hid (pj∈P9):=mj;clear u1 u2 u3 u4 u5 mj h0 h1 h2 h3 h4 h5 h6 h7 h8 c0 c1 c2 c3 g0 g1 g2 g3 S6 d7 d8;rw[<-NJ.out]at HE;generalize World.setCell _ _ _=v7 at*;obtain⟨_,⟨c0,c1,c2,c3⟩,_⟩:=Sep.c4 (Sep.iZ (S7.out));obtain⟨_,⟨i0,i1,i2,i3⟩,_⟩:=Sep.c4 (Sep.pQ (S7.out));obtain⟨_,⟨j0,j1,j2,j3⟩,_⟩:=Sep.c4 (Sep.eZ (S7.out));have M4:Hid (∀x∈P,x∈P9):=fun x hx=>M3.out x (M2.out x (M1.out x hx));by_cases hlf:pa.n.leaf≠pb.n.leaf
     ·rw[if_pos (.inl hlf)]at HE;obtain⟨hm,hj,hr',hS⟩:n=m∧false=j∧0=er∧S=S':=by
       have:=Option.some.inj HE.out;cases this;exact⟨rfl,rfl,rfl,rfl⟩
      subst hm hj hr' hS;have hlx:(pa.n.leaf=true∧pb.n.leaf=false)∨(pa.n.leaf=false∧pb.n.leaf=true):=by
       cases hx:pa.n.leaf<;>cases hy:pb.n.leaf<;>simp[hx,hy]at hlf⊢
      have a0:=c0;have b0:=i0;clear HE hlf c0 c1 c2 c3 i0 i1 i2 i3 j0 j1 j2 j3;rcases hlx with⟨hla,hlb⟩| ⟨hla,hlb⟩
      ·rw[hla]at a0;rw[hlb]at b0;clear hla hlb;obtain⟨_,⟨c0,c1,c2,c3⟩,g0,g1,g2,g3⟩:=Sep.c4 (Sep.dS (S7.out));obtain⟨_,⟨i0,i1,i2,i3⟩,j0,j1,j2,j3⟩:=Sep.c4 (Sep.cR (S7.out));have zm:q0≠q1:=Sep.ne (Sep.cR (Sep.cR (S7.out)));have n10:=zm.symm;have SF:Hid (Sep B w0 ((((v7.setCell ⟨q1,0,none⟩ (.bool n.leaf)).setCell ⟨q1,1,none⟩ (.slice ae n.es.length ce)).setCell ⟨q1,2,none⟩ (.slice (some ⟨r,ro,none⟩) n.ks.length ck)).setCell ⟨q1,3,none⟩ (.slice (some ⟨zr,zo,none⟩) n.ss.length cz)) _):=Sep.oC (Sep.s4 (Sep.cR (S7.out)) _ _ _ _);clear S7;go_wp2
       (try simp only[Exit.inBlock,Exit.then])
       generalize World.setCell _ _ _=vf at*;clear c0 c1 c2 c3 g0 g1 g2 g3 i0 i1 i2 i3 j0 j1 j2 j3;obtain⟨_,⟨c0,c1,c2,c3⟩,g0,g1,g2,g3⟩:=Sep.c4 (Sep.cR (SF.out));refine bodyPost_ret (v:=.tuple #[.agg #[.bool n.leaf,.slice ae n.es.length ce,.slice (some ⟨r,ro,none⟩) n.ks.length ck,.slice (some ⟨zr,zo,none⟩) n.ss.length cz],.bool false,.int .i64 0]) ?_ rfl ⟨_,P9,d3,rfl,M4.out _ HP.out,fun x hx=>M4.out x hx,rfl,D2.out,Sep.drop (Sep.dS (Sep.drop (Sep.cR (Sep.drop (Sep.eN (Sep.drop (Sep.iZ (Sep.drop (Sep.pQ (Sep.drop (Sep.eZ (SF.out))))))))))))⟩;rw[bU rfl];go_simp
      ·rw[hla]at a0;rw[hlb]at b0;clear hla hlb;obtain⟨_,⟨c0,c1,c2,c3⟩,g0,g1,g2,g3⟩:=Sep.c4 (Sep.dS (S7.out));obtain⟨_,⟨i0,i1,i2,i3⟩,j0,j1,j2,j3⟩:=Sep.c4 (Sep.cR (S7.out));have zm:q0≠q1:=Sep.ne (Sep.cR (Sep.cR (S7.out)));have n10:=zm.symm;have SF:Hid (Sep B w0 ((((v7.setCell ⟨q1,0,none⟩ (.bool n.leaf)).setCell ⟨q1,1,none⟩ (.slice ae n.es.length ce)).setCell ⟨q1,2,none⟩ (.slice (some ⟨r,ro,none⟩) n.ks.length ck)).setCell ⟨q1,3,none⟩ (.slice (some ⟨zr,zo,none⟩) n.ss.length cz)) _):=Sep.oC (Sep.s4 (Sep.cR (S7.out)) _ _ _ _);clear S7;go_wp2
       (try simp only[Exit.inBlock,Exit.then])
       generalize World.setCell _ _ _=vf at*;clear c0 c1 c2 c3 g0 g1 g2 g3 i0 i1 i2 i3 j0 j1 j2 j3;obtain⟨_,⟨c0,c1,c2,c3⟩,g0,g1,g2,g3⟩:=Sep.c4 (Sep.cR (SF.out));refine bodyPost_ret (v:=.tuple #[.agg #[.bool n.leaf,.slice ae n.es.length ce,.slice (some ⟨r,ro,none⟩) n.ks.length ck,.slice (some ⟨zr,zo,none⟩) n.ss.length cz],.bool false,.int .i64 0]) ?_ rfl ⟨_,P9,d3,rfl,M4.out _ HP.out,fun x hx=>M4.out x hx,rfl,D2.out,Sep.drop (Sep.dS (Sep.drop (Sep.cR (Sep.drop (Sep.eN (Sep.drop (Sep.iZ (Sep.drop (Sep.pQ (Sep.drop (Sep.eZ (SF.out))))))))))))⟩;rw[bU rfl];go_simp
     ·have hlx:(pa.n.leaf != pb.n.leaf)=false:=by simpa using hlf
      have SMJ:Hid (Sm pj.n):=by
       show Sm _;rw[NJ.out];exact Q9 FA.out FB.out HKS.out
      go_wp2_with fail
      clear c0 c1 c2 c3 i0 i1 i2 i3 j0 j1 j2 j3;refine Calls.mono (sR S7.out MJ.out SMJ.out) ?_;rintro e v8 ⟨rfl,s8⟩;have S8:Hid (Sep B w0 v8 (DL C S d3 P9 (ax q0 (.cells #[.bool n.leaf,.slice ae n.es.length ce,.slice (some ⟨r,ro,none⟩) n.ks.length ck,.slice (some ⟨zr,zo,none⟩) n.ss.length cz] 184)::ax q1 (.cells cZ 184)::ax q2 (.cells (cN pk) 184)::ax q3 (.cells (cN pa) 184)::ax q4 (.cells (cN pb) 184)::ax qq (.cells (cN pj) 184)::l))):=s8;clear s8 S7;by_cases hfj:cE pj.n=false
      ·rw[if_pos (.inr hfj)]at HE;obtain⟨hm,hj,hr',hS⟩:n=m∧false=j∧0=er∧S=S':=by
        have:=Option.some.inj HE.out;cases this;exact⟨rfl,rfl,rfl,rfl⟩
       subst hm hj hr' hS;rw[hfj];clear HE hfj hlf;obtain⟨_,⟨c0,c1,c2,c3⟩,g0,g1,g2,g3⟩:=Sep.c4 (Sep.dS (S8.out));obtain⟨_,⟨i0,i1,i2,i3⟩,j0,j1,j2,j3⟩:=Sep.c4 (Sep.cR (S8.out));have zm:q0≠q1:=Sep.ne (Sep.cR (Sep.cR (S8.out)));have n10:=zm.symm;have SF:Hid (Sep B w0 ((((v8.setCell ⟨q1,0,none⟩ (.bool n.leaf)).setCell ⟨q1,1,none⟩ (.slice ae n.es.length ce)).setCell ⟨q1,2,none⟩ (.slice (some ⟨r,ro,none⟩) n.ks.length ck)).setCell ⟨q1,3,none⟩ (.slice (some ⟨zr,zo,none⟩) n.ss.length cz)) _):=Sep.oC (Sep.s4 (Sep.cR (S8.out)) _ _ _ _);clear S8;go_wp2
       (try simp only[Exit.inBlock,Exit.then])
       generalize World.setCell _ _ _=vf at*;clear c0 c1 c2 c3 g0 g1 g2 g3 i0 i1 i2 i3 j0 j1 j2 j3;obtain⟨_,⟨c0,c1,c2,c3⟩,g0,g1,g2,g3⟩:=Sep.c4 (Sep.cR (SF.out));refine bodyPost_ret (v:=.tuple #[.agg #[.bool n.leaf,.slice ae n.es.length ce,.slice (some ⟨r,ro,none⟩) n.ks.length ck,.slice (some ⟨zr,zo,none⟩) n.ss.length cz],.bool false,.int .i64 0]) ?_ rfl ⟨_,P9,d3,rfl,M4.out _ HP.out,fun x hx=>M4.out x hx,rfl,D2.out,Sep.drop (Sep.dS (Sep.drop (Sep.cR (Sep.drop (Sep.eN (Sep.drop (Sep.iZ (Sep.drop (Sep.pQ (Sep.drop (Sep.eZ (SF.out))))))))))))⟩;rw[bU rfl];go_simp
      ·have hft:cE pj.n=true:=by simpa using hfj
       rw[if_neg (by rintro(h|h);exact hlf h;exact hfj h)]at HE;rw[hft];have FJ:Hid (cE pj.n=true):=hft;cases hrc:rec S pj.n (depth+1) ((pa.n.ks.length:Int)-1) ((pa.n.ks.length:Int)+1)with
       |none=>
        rw[hrc]at HE;have:=HE.out;cases this
       |some rr=>
       obtain⟨⟨m1,e1⟩,S1⟩:=rr;rw[hrc]at HE;simp only at HE;have IS1:Hid (DI S1 d.room):=HRI.out _ _ _ _ _ _ _ HI.out hrc;have KS:Hid (Calls Tryz.prog 139 #[ptr C.q,.agg (cN pj),.int .i64 (depth+1),.int .i64 ((pa.n.ks.length:Int)-1),.int .i64 ((pa.n.ks.length:Int)+1)] v8 fun e w'=>∃pm P4 d4,pm.n=m1∧pm∈P4∧(∀x∈P9,x∈P4)∧e=.returned (.tuple #[.agg (cN pm),.int .i64 e1])∧bI d d4∧Sep B w0 w' (DL C S1 d4 P4 (ax q0 (.cells #[.bool n.leaf,.slice ae n.es.length ce,.slice (some ⟨r,ro,none⟩) n.ks.length ck,.slice (some ⟨zr,zo,none⟩) n.ss.length cz] 184)::ax q1 (.cells cZ 184)::ax q2 (.cells (cN pk) 184)::ax q3 (.cells (cN pa) 184)::ax q4 (.cells (cN pb) 184)::ax qq (.cells (cN pj) 184)::l))):=HR.out S8.out D2.out MJ.out (gq FJ.out).2.1 HI.out (by have:=HX.out;omega) HN.out (by omega) (by have:=O9.out;omega) (by omega) (by have:=O9.out;omega) hrc;have WG:IntKind.i64.wrap ((pa.n.ks.length:Int)-1)=(pa.n.ks.length:Int)-1:=bR (by omega) (by have:=O9.out;omega);have Yx:IntKind.i64.wrap ((pa.n.ks.length:Int)+1)=(pa.n.ks.length:Int)+1:=bR (by omega) (by have:=O9.out;omega);obtain⟨_,⟨c0,c1,c2,c3⟩,_⟩:=Sep.c4 (Sep.iZ (S8.out));obtain⟨_,⟨i0,i1,i2,i3⟩,_⟩:=Sep.c4 (Sep.eZ (S8.out));clear hrc hlf hfj hft
       go_wp2_with fail
       clear c0 c1 c2 c3 i0 i1 i2 i3 WG Yx;refine Calls.mono KS.out ?_;rintro e v9 ⟨pm,P4,d4,hnm,hmm,hs4,rfl,hd4,s9⟩;subst hnm;have D4:Hid (bI d d4):=hd4;have M5:Hid (∀x∈P9,x∈P4):=hs4;have MM:Hid (pm∈P4):=hmm;have S9:Hid (Sep B w0 v9 (DL C S1 d4 P4 (ax q0 (.cells #[.bool n.leaf,.slice ae n.es.length ce,.slice (some ⟨r,ro,none⟩) n.ks.length ck,.slice (some ⟨zr,zo,none⟩) n.ss.length cz] 184)::ax q1 (.cells cZ 184)::ax q2 (.cells (cN pk) 184)::ax q3 (.cells (cN pa) 184)::ax q4 (.cells (cN pb) 184)::ax qq (.cells (cN pj) 184)::l))):=s9;have WH:Hid _:=hs4 _ (M4.out _ HP.out);clear s9 hd4 hs4 hmm KS S8 D2;have D2:Hid (bI d d4):=D4.out;clear D4;obtain⟨_,⟨i0,i1,i2,i3⟩,j0,j1,j2,j3⟩:=Sep.c4 (Sep.eZ (S9.out));by_cases he1:e1≠0
       ·rw[if_pos he1]at HE;obtain⟨hm,hj,hr',hS⟩:n=m∧false=j∧e1=er∧S1=S':=by
         have:=Option.some.inj HE.out;cases this;exact⟨rfl,rfl,rfl,rfl⟩
        subst hm hj hr' hS;have hne:(e1 != 0)=true:=bne_iff_ne.2 he1;clear HE he1;obtain⟨_,⟨c0,c1,c2,c3⟩,_⟩:=Sep.c4 (Sep.dS (S9.out));obtain⟨_,⟨b0,b1,b2,b3⟩,g0,g1,g2,g3⟩:=Sep.c4 (Sep.cR (S9.out));have zm:q0≠q1:=Sep.ne (Sep.cR (Sep.cR (S9.out)));have n10:=zm.symm;have n05:q0≠qq:=Sep.ne (Sep.cR (Sep.eZ (S9.out)));have n50:=n05.symm;have n15:q1≠qq:=Sep.ne (Sep.eN (Sep.eZ (S9.out)));have n51:=n15.symm;have SF:Hid (Sep B w0 ((((((((v9.setCell ⟨qq,0,none⟩ (.bool pm.n.leaf)).setCell ⟨qq,1,none⟩ (.slice pm.ae pm.n.es.length pm.ce)).setCell ⟨qq,2,none⟩ (.slice pm.ak pm.n.ks.length pm.ck)).setCell ⟨qq,3,none⟩ (.slice pm.az pm.n.ss.length pm.cz)).setCell ⟨q1,0,none⟩ (.bool n.leaf)).setCell ⟨q1,1,none⟩ (.slice ae n.es.length ce)).setCell ⟨q1,2,none⟩ (.slice (some ⟨r,ro,none⟩) n.ks.length ck)).setCell ⟨q1,3,none⟩ (.slice (some ⟨zr,zo,none⟩) n.ss.length cz)) _):=Sep.oC (Sep.s4 (Sep.cR (Sep.A8 (Sep.s4 (Sep.eZ (S9.out)) _ _ _ _))) _ _ _ _);clear S9;go_wp2
        (try simp only[Exit.inBlock,Exit.then])
        generalize World.setCell _ _ _=vf at*;clear c0 c1 c2 c3 g0 g1 g2 g3 i0 i1 i2 i3 j0 j1 j2 j3 b0 b1 b2 b3;obtain⟨_,⟨c0,c1,c2,c3⟩,g0,g1,g2,g3⟩:=Sep.c4 (Sep.cR (SF.out));refine bodyPost_ret (v:=.tuple #[.agg #[.bool n.leaf,.slice ae n.es.length ce,.slice (some ⟨r,ro,none⟩) n.ks.length ck,.slice (some ⟨zr,zo,none⟩) n.ss.length cz],.bool false,.int .i64 e1]) ?_ rfl ⟨_,P4,d4,rfl,WH.out,fun x hx=>M5.out x (M4.out x hx),rfl,D2.out,Sep.drop (Sep.dS (Sep.drop (Sep.cR (Sep.drop (Sep.eN (Sep.drop (Sep.iZ (Sep.drop (Sep.pQ (Sep.drop (Sep.eZ (SF.out))))))))))))⟩;rw[bU rfl];go_simp
       ·have e10:e1=0:=by simpa using he1
        subst e10;rw[if_neg he1]at HE;clear he1;generalize hka:n.ks.getD k 0=ka at*;generalize hkb:n.ks.getD (k+1) 0=kb at*;have HKA:Hid (n.ks.getD k 0=ka):=hka;have HKB:Hid (n.ks.getD (k+1) 0=kb):=hkb;have WA:Hid (Wf ka∧Wf kb):=by
         obtain⟨_,_,_,x4,x5,_,_⟩:=HX.out;rw[<-hka,<-hkb];exact⟨x5 _ (dN (by omega)),x5 _ (dN x4)⟩
        cases hput:S1.fS d.room ka kb pm.n with
        |none=>
         rw[hput]at HE;have:=HE.out;cases this
        |some rr=>
        obtain⟨⟨pg,e2⟩,S2⟩:=rr;rw[hput]at HE;simp only at HE;obtain⟨hm,hj,hr',hS⟩:(gp n k ((k:Int)+2) [pg] [])=m∧true=j∧e2=er∧S2=S':=by
         have:=Option.some.inj HE.out;cases this;exact⟨rfl,rfl,rfl,rfl⟩
        subst hm hj hr' hS;have Z7:Hid (∀u L,Sep B w0 u (DL C S1 d4 P4 L)->Calls Tryz.prog 201 #[ptr C.q,.int .i64 ka,.int .i64 kb,.agg (cN pm)] u fun e w'=>e=.returned (.tuple #[.int .i64 pg,.int .i64 e2])∧Sep B w0 w' (DL C S2 d4 P4 L)):=fun u L hu=>E9 D2.out hu WA.out.1 WA.out.2 IS1.out HX.out.1 MM.out hput;have hk1:k+1<n.ks.length:=HX.out.2.2.2.1;have hkI:(k:Int)< (n.ks.length:Int):=by omega
        have aak:((k+1:Nat):Int)< (n.ks.length:Int):=by omega
        have Nt:IntKind.i64.wrap ((k:Int)+1)=((k+1:Nat):Int):=by rw[bR (by omega) (by omega)];rfl
        have aal:(k:Int)+1< (n.ks.length:Int):=by omega
        have aam:0<=(k:Int)+1:=by omega
        have tnk:((k:Int)+1).toNat=k+1:=by omega
        have Di:Hid (Sep B w0 ((((v9.setCell ⟨qq,0,none⟩ (.bool pm.n.leaf)).setCell ⟨qq,1,none⟩ (.slice pm.ae pm.n.es.length pm.ce)).setCell ⟨qq,2,none⟩ (.slice pm.ak pm.n.ks.length pm.ck)).setCell ⟨qq,3,none⟩ (.slice pm.az pm.n.ss.length pm.cz)) _):=Sep.A8 (Sep.s4 (Sep.eZ (S9.out)) _ _ _ _);clear HE hput hka hkb S9
        go_wp2_with fail
        clear i0 i1 i2 i3 j0 j1 j2 j3;generalize World.setCell _ _ _=v10 at*;refine bf 18 (J15 B w0 C S1 S2 d4 P4 (ax q0 (.cells #[.bool n.leaf,.slice ae n.es.length ce,.slice (some ⟨r,ro,none⟩) n.ks.length ck,.slice (some ⟨zr,zo,none⟩) n.ss.length cz] 184)::ax q1 (.cells cZ 184)::ax q2 (.cells (cN pk) 184)::ax q3 (.cells (cN pa) 184)::ax q4 (.cells (cN pb) 184)::ax qq (.cells (cN pm) 184)::l) q0 qq k r ro n.ks.length ck ka kb pg e2 (.agg (cN pm)) (.tuple #[.int .i64 pg,.int .i64 e2])) (by kernel_rfl) (by kernel_rfl) (by kernel_rfl) (fun _ k=>k rfl ⟨fun _=>Di.out.drew,(fun h=>by cases h)⟩ ar ar ar ar ar ar ar ar ar ar ar ar ar ar ar ar ar ar) ?_ ?_ ?_
        ·intro i w' hne f0 f1 f2 f3 f4 f5 f6 f7 f8 f9 f10 f11 f12 f13 f14 f15 f16 f17 f18 tT yG x95 x96 Wz x98 x99 x100 x101 x102 x103 x104 x105 Nn x107 Np Nq Nr Ns e18 hB h0 h1 h2 h3 h4 h5 h6 h7 h8 h9 h10 h11 h12 dI fJ qD h16 AD hi;obtain⟨hlt,hun,_⟩:=aP hi;have hlt':i<19:=hlt;clear hlt;rcases(by omega:i=0∨i=1∨i=2∨i=3∨i=4∨i=5∨i=6∨i=7∨i=8∨i=9∨i=10∨i=11∨i=12∨i=13∨i=14∨i=15∨i=16∨i=17)with rfl|rfl|rfl|rfl|rfl|rfl|rfl|rfl|rfl|rfl|rfl|rfl|rfl|rfl|rfl|rfl|rfl|rfl
         ·refine ai rfl fun K HK=>?_;go_simp;exact HK.out _ _ fun _ k=>by apply k<;>first|assumption|exact hidR|(repeat' first|apply Exists.intro|assumption|rfl|apply And.intro|exact fun _=>rfl)
         ·refine ai rfl fun K HK=>?_;go_simp;exact HK.out _ _ fun _ k=>by apply k<;>first|assumption|exact hidR|(repeat' first|apply Exists.intro|assumption|rfl|apply And.intro|exact fun _=>rfl)
         ·cases h1 (ah 1 hi (by kernel_rfl));obtain⟨S9,s9⟩:=JC.sep hB;obtain⟨_,⟨c0,c1,c2,c3⟩,_⟩:=Sep.c4 (Sep.dS (s9));clear s9;refine ai rfl fun K HK=>?_;go_simp;exact HK.out _ _ fun _ k=>by apply k<;>first|assumption|exact hidR|(repeat' first|apply Exists.intro|assumption|rfl|apply And.intro|exact fun _=>rfl)
         ·refine ai rfl fun K HK=>?_;go_simp;exact HK.out _ _ fun _ k=>by apply k<;>first|assumption|exact hidR|(repeat' first|apply Exists.intro|assumption|rfl|apply And.intro|exact fun _=>rfl)
         ·cases h2 (ah 2 hi (by kernel_rfl));cases h3 (ah 3 hi (by kernel_rfl));refine ai rfl fun K HK=>?_;go_simp;exact HK.out _ _ fun _ k=>by apply k<;>first|assumption|exact hidR|(repeat' first|apply Exists.intro|assumption|rfl|apply And.intro|exact fun _=>rfl)
         ·cases h4 (ah 4 hi (by kernel_rfl));obtain⟨S9,s9⟩:=JC.sep hB;obtain⟨z1,z2,hz3,hzs,hzc⟩:=NV.kid (p:=(⟨ae,ce,some ⟨r,ro,none⟩,ck,some ⟨zr,zo,none⟩,cz,n⟩:NV)) (DL.nd s9 WH.out) (i:=k) (by simp only;omega);cases hz3;simp only at hzc;rw[HKA.out]at hzc;clear s9;refine ai rfl fun K HK=>?_;go_simp;exact HK.out _ _ fun _ k=>by apply k<;>first|assumption|exact hidR|(repeat' first|apply Exists.intro|assumption|rfl|apply And.intro|exact fun _=>rfl)
         ·refine ai rfl fun K HK=>?_;go_simp;exact HK.out _ _ fun _ k=>by apply k<;>first|assumption|exact hidR|(repeat' first|apply Exists.intro|assumption|rfl|apply And.intro|exact fun _=>rfl)
         ·cases h6 (ah 6 hi (by kernel_rfl));obtain⟨S9,s9⟩:=JC.sep hB;obtain⟨_,⟨c0,c1,c2,c3⟩,_⟩:=Sep.c4 (Sep.dS (s9));clear s9;refine ai rfl fun K HK=>?_;go_simp;exact HK.out _ _ fun _ k=>by apply k<;>first|assumption|exact hidR|(repeat' first|apply Exists.intro|assumption|rfl|apply And.intro|exact fun _=>rfl)
         ·refine ai rfl fun K HK=>?_;go_simp;exact HK.out _ _ fun _ k=>by apply k<;>first|assumption|exact hidR|(repeat' first|apply Exists.intro|assumption|rfl|apply And.intro|exact fun _=>rfl)
         ·cases h8 (ah 8 hi (by kernel_rfl));refine ai rfl fun K HK=>?_;go_simp;exact HK.out _ _ fun _ k=>by apply k<;>first|assumption|exact hidR|(repeat' first|apply Exists.intro|assumption|rfl|apply And.intro|exact fun _=>rfl)
         ·cases h7 (ah 7 hi (by kernel_rfl));cases h9 (ah 9 hi (by kernel_rfl));refine ai rfl fun K HK=>?_;go_simp;exact HK.out _ _ fun _ k=>by apply k<;>first|assumption|exact hidR|(repeat' first|apply Exists.intro|assumption|rfl|apply And.intro|exact fun _=>rfl)
         ·cases h10 (ah 10 hi (by kernel_rfl));obtain⟨S9,s9⟩:=JC.sep hB;obtain⟨z1,z2,hz3,hzs,hzc⟩:=NV.kid (p:=(⟨ae,ce,some ⟨r,ro,none⟩,ck,some ⟨zr,zo,none⟩,cz,n⟩:NV)) (DL.nd s9 WH.out) (i:=k+1) (by simp only;omega);cases hz3;simp only at hzc;rw[HKB.out]at hzc;clear s9;refine ai rfl fun K HK=>?_;go_simp;exact HK.out _ _ fun _ k=>by apply k<;>first|assumption|exact hidR|(repeat' first|apply Exists.intro|assumption|rfl|apply And.intro|exact fun _=>rfl)
         ·obtain⟨S9,s9⟩:=JC.sep hB;obtain⟨_,⟨c0,c1,c2,c3⟩,_⟩:=Sep.c4 (Sep.eZ (s9));clear s9;refine ai rfl fun K HK=>?_;go_simp;exact HK.out _ _ fun _ k=>by apply k<;>first|assumption|exact hidR|(repeat' first|apply Exists.intro|assumption|rfl|apply And.intro|exact fun _=>rfl)
         ·have un:f13=false:=hun;cases h0 (ah 0 hi (by kernel_rfl));cases h5 (ah 5 hi (by kernel_rfl));cases h11 (ah 11 hi (by kernel_rfl));cases h12 (ah 12 hi (by kernel_rfl));refine ai rfl fun K HK=>?_;go_simp;have s9:=hB.1 un;refine Calls.mono (Z7.out _ _ s9) ?_;rintro e w1 ⟨rfl,s1⟩;exact HK.out _ _ fun _ k=>k e18 ⟨(fun h=>by cases h),fun _=>s1⟩ h0 h1 h2 h3 h4 h5 h6 h7 h8 h9 h10 h11 h12 hidR fJ qD h16 AD
         ·cases dI (ah 13 hi (by kernel_rfl));refine ai rfl fun K HK=>?_;go_simp;exact HK.out _ _ fun _ k=>by apply k<;>first|assumption|exact hidR|(repeat' first|apply Exists.intro|assumption|rfl|apply And.intro|exact fun _=>rfl)
         ·cases fJ (ah 14 hi (by kernel_rfl));refine ai rfl fun K HK=>?_;go_simp;exact HK.out _ _ fun _ k=>by apply k<;>first|assumption|exact hidR|(repeat' first|apply Exists.intro|assumption|rfl|apply And.intro|exact fun _=>rfl)
         ·cases fJ (ah 14 hi (by kernel_rfl));refine ai rfl fun K HK=>?_;go_simp;exact HK.out _ _ fun _ k=>by apply k<;>first|assumption|exact hidR|(repeat' first|apply Exists.intro|assumption|rfl|apply And.intro|exact fun _=>rfl)
         ·cases qD (ah 15 hi (by kernel_rfl));refine ai rfl fun K HK=>?_;go_simp;exact HK.out _ _ fun _ k=>by apply k<;>first|assumption|exact hidR|(repeat' first|apply Exists.intro|assumption|rfl|apply And.intro|exact fun _=>rfl)
        ·intro w' f0 f1 f2 f3 f4 f5 f6 f7 f8 f9 f10 f11 f12 f13 f14 f15 f16 f17 f18 tT yG x95 x96 Wz x98 x99 x100 x101 x102 x103 x104 x105 Nn x107 Np Nq Nr Ns e18 hB h0 h1 h2 h3 h4 h5 h6 h7 h8 h9 h10 h11 h12 dI fJ qD h16 AD hi;have d16:f16=true:=ah 16 hi (by kernel_rfl);cases h16 d16;have d17:f17=true:=ah 17 hi (by kernel_rfl);cases AD d17;have d13:f13=true:=ah 13 hi (by kernel_rfl);cases dI d13;clear hi;refine ai rfl fun K HK=>?_;go_simp;refine HK.out _ _ ?_;have Rl:Hid _:=hB.2 d13;clear hB h0 h1 h2 h3 h4 h5 h6 h7 h8 h9 h10 h11 h12 dI fJ qD h16 AD Di Z7 d13 d16 d17;obtain⟨_,⟨c0,c1,c2,c3⟩,_⟩:=Sep.c4 (Sep.dS (Rl.out));have WI:Hid (Sep B w0 (w'.alloc (.cells #[.int .i64 pg] 3)) _):=Sep.alloc Rl.out _;have SW:Hid (Calls Tryz.prog 137 #[.agg #[.bool n.leaf,.slice ae n.es.length ce,.slice (some ⟨r,ro,none⟩) n.ks.length ck,.slice (some ⟨zr,zo,none⟩) n.ss.length cz],.int .i64 (k:Int),.int .i64 ((k:Int)+2),.slice (some ⟨w'.heap.size,0,none⟩) 1 1,.slice none 0 0] (w'.alloc (.cells #[.int .i64 pg] 3)) (GM B w0 C S2 d4 P4 (ax q0 (.cells #[.bool n.leaf,.slice ae n.es.length ce,.slice (some ⟨r,ro,none⟩) n.ks.length ck,.slice (some ⟨zr,zo,none⟩) n.ss.length cz] 184)::ax q1 (.cells cZ 184)::ax q2 (.cells (cN pk) 184)::ax q3 (.cells (cN pa) 184)::ax q4 (.cells (cN pb) 184)::ax qq (.cells (cN pm) 184)::l) (gp n k ((k:Int)+2) [pg] []))):=qK (p:=(⟨ae,ce,some ⟨r,ro,none⟩,ck,some ⟨zr,zo,none⟩,cz,n⟩:NV)) WI.out WH.out HX.out.2.2.2.2.2.1 _ _ [pg] [] _ _ (N.Cl.L6 (N.Cl.new _ _ _)) N.wD (by simp) (by simp);have Yy:IntKind.i64.wrap ((k:Int)+2)=(k:Int)+2:=bR (by omega) (by omega);clear Rl
         go_wp2_with fail
         clear c0 c1 c2 c3 Yy Nt;refine Calls.mono SW.out ?_;rintro e v12 ⟨ps,hns,rfl,s12⟩;have NS:Hid (ps.n=gp n k ((k:Int)+2) [pg] []):=hns;obtain⟨_,⟨c0,c1,c2,c3⟩,g0,g1,g2,g3⟩:=Sep.c4 (Sep.cR (s12));have SF:Hid (Sep B w0 ((((v12.setCell ⟨q1,0,none⟩ (.bool ps.n.leaf)).setCell ⟨q1,1,none⟩ (.slice ps.ae ps.n.es.length ps.ce)).setCell ⟨q1,2,none⟩ (.slice ps.ak ps.n.ks.length ps.ck)).setCell ⟨q1,3,none⟩ (.slice ps.az ps.n.ss.length ps.cz)) _):=Sep.oC (Sep.s4 (Sep.cR (s12)) _ _ _ _);clear s12 hns SW WI;go_wp2
         (try simp only[Exit.inBlock,Exit.then])
         generalize World.setCell _ _ _=vf at*;clear c0 c1 c2 c3 g0 g1 g2 g3;obtain⟨_,⟨c0,c1,c2,c3⟩,g0,g1,g2,g3⟩:=Sep.c4 (Sep.cR (SF.out));refine bodyPost_ret (v:=.tuple #[.agg (cN ps),.bool true,.int .i64 e2]) ?_ rfl ⟨ps,ps::P4,d4,NS.out,List.mem_cons_self,fun x hx=>List.mem_cons_of_mem _ (M5.out x (M4.out x hx)),rfl,D2.out,Sep.drop (Sep.dS (Sep.drop (Sep.cR (Sep.drop (Sep.eN (Sep.drop (Sep.iZ (Sep.drop (Sep.pQ (Sep.drop (Sep.eZ (SF.out))))))))))))⟩;rw[bU rfl];go_simp
        ·intro _ _;intros;assumption
    ·intro _ _;intros;assumption
end
end
section
open N (Nd nd0 cE dx dZ ji gp Sm aL)
section
variable {B:Nat}{w0 w w':World}{l:List aN}{P:List NV}{C:Cx}{S S':Dr}{d d1:Dk}{depth:Int}{p:NV}{m:Nd}{j:Bool}{er Nb:Int}{rec:qF}
theorem Rm {i:Int}(T:cd B w0)(hrec:aX B w0 C d Nb rec)(Dh:∀ {S S':Dr} {n:Nd} {depth i tt:Int} {r:Nd×Int},DI S d.room->rec S n depth i tt=some (r,S')->DI S' d.room)(hd:bI d d1)(h:Sep B w0 w (DL C S d1 P l))(hp:p∈P)(hsm:cB p.n=true)(I:DI S d.room)(hr:d.room<=16384)(hd0:-1<=depth)(hd1:depth<=100000)(hN:depth+1<=Nb)(hi0:0<=i)(hi:i< (p.n.ks.length:Int))(he:fV rec d.room d S p.n depth i (min i ((p.n.ks.length:Int)-2))=some ((m,j,er),S')):
  Calls Tryz.prog 168 #[ptr C.q,.agg #[.bool p.n.leaf,.slice p.ae p.n.es.length p.ce,.slice p.ak p.n.ks.length p.ck,.slice p.az p.n.ss.length p.cz],.int .i64 depth,.int .i64 i,.int .i64 (min i ((p.n.ks.length:Int)-2))] w fun e w'=>∃pm P' d',pm.n=m∧pm∈P'∧(∀x∈P,x∈P')∧e=.returned (.tuple #[.agg #[.bool pm.n.leaf,.slice pm.ae pm.n.es.length pm.ce,.slice pm.ak pm.n.ks.length pm.ck,.slice pm.az pm.n.ss.length pm.cz],.bool j,.int .i64 er])∧bI d d'∧Sep B w0 w' (DL C S' d' P' l):=by
 obtain⟨ae,ce,ak,ck,az,cz,n⟩:=p;simp only at hsm hi he hp⊢;by_cases hf:min i ((n.ks.length:Int)-2)<0
 ·have he2:=he;unfold fV at he2;rw[if_pos hf]at he2;obtain⟨hm,hj,hr',hS⟩:n=m∧false=j∧(0:Int)=er∧S=S':=by
   cases he2;exact⟨rfl,rfl,rfl,rfl⟩
  subst hm hj hr' hS;exact Jc hd h hp hf
 ·obtain⟨t,rfl⟩:=Int.eq_ofNat_of_zero_le hi0;obtain⟨k,hk⟩:=Int.eq_ofNat_of_zero_le (by omega:0<=min (t:Int) ((n.ks.length:Int)-2));rw[hk]at he⊢;exact Jd T hrec Dh hd h hp hsm I hr hd0 hd1 hN (by omega) (by omega) he
end
theorem gV {B:Nat}{w0:World}{C:Cx}{d:Dk}(T:cd B w0)(hr:d.room<=16384)(f:Nat)(ih:∀g,g<f->aX B w0 C d (100000-g) (bA d.room d g)):aX B w0 C d (100000-f) (bA d.room d f):=by
 intro w S S' d1 P l p depth i tt m er h hd hp hsm I hd0 hd1 hi0 hi1 ht0 ht1 he;have S1:Hid (Sep B w0 ((w.alloc (.cells #[.bool p.n.leaf,.slice p.ae p.n.es.length p.ce,.slice p.ak p.n.ks.length p.ck,.slice p.az p.n.ss.length p.cz] 184)).alloc (.cells #[.bool false,.slice none 0 0,.slice none 0 0,.slice none 0 0] 184)) (DL C S d1 P (ax w.heap.size (.cells #[.bool p.n.leaf,.slice p.ae p.n.es.length p.ce,.slice p.ak p.n.ks.length p.ck,.slice p.az p.n.ss.length p.cz] 184)::ax (w.heap.size+1) (.cells #[.bool false,.slice none 0 0,.slice none 0 0,.slice none 0 0] 184)::l))):=Sep.oC (Sep.aZ (Sep.tH (h.aQ _)) _ _ (by simp));have HP:Hid (p∈P):=hp;have HD:Hid (bI d d1):=hd;have HI:Hid (DI S d.room):=I;have HE:Hid (bh d.room d f S p.n depth (max i 0) tt=some ((m,er),S')):=he;have HX:Hid (-1<=depth∧depth<=100000-f∧-2<=tt∧tt<=1000):=⟨hd0,hd1,ht0,ht1⟩;have HM:Hid (0<=max i 0∧max i 0<=1000):=⟨by omega,by omega⟩;have HR:Hid (d.room<=16384):=hr;have IH:Hid (∀g,g<f->aX B w0 C d (100000-g) (bA d.room d g)):=ih;clear h hd hp hsm I he hd0 hd1 ht0 ht1 hi0 hi1 hr ih;go_enter Tryz.func139,Tryz.ntmps139;go_wp2;generalize World.alloc _ _=v1 at*;generalize w.heap.size+1=q1 at*;generalize w.heap.size=q0 at*
 go_loopg [12] f (fun kx s12 wr=>∃(g:Nat) (Sc:Dr) (pc:NV) (Pc:List NV) (dc:Dk) (ic:Int),s12=.int .i64 ic∧g<=kx∧Hid (g<=f)∧Hid (0<=ic∧ic<=1000)∧Hid (bh d.room d g Sc pc.n depth ic tt=some ((m,er),S'))∧Hid (DI Sc d.room)∧Hid (pc∈Pc∧∀x∈P,x∈Pc)∧Hid (bI d dc)∧Hid (Sep B w0 wr (DL C Sc dc Pc (ax q0 (.cells #[.bool pc.n.leaf,.slice pc.ae pc.n.es.length pc.ce,.slice pc.ak pc.n.ks.length pc.ck,.slice pc.az pc.n.ss.length pc.cz] 184)::ax q1 (.cells #[.bool false,.slice none 0 0,.slice none 0 0,.slice none 0 0] 184)::l))))
 case atStart=>exact⟨f,S,p,P,d1,_,rfl,Nat.le_refl _,Nat.le_refl _,HM.out,HE.out,HI.out,⟨HP.out,fun _ h=>h⟩,HD.out,S1.out⟩
 case round=>
  clear S1 HP HD HI HE HM;obtain⟨g,Sc,pc,Pc,dc,ic,rfl,Vi,HG,HM,HE,HI,ui,HD,HS⟩:=hrel;cases g with
  |zero=>
   have:=HE.out;cases this
  |succ g=>
   have hE:=HE.out;unfold bh at hE;by_cases hc:cB pc.n=false∨ic<0
   ·rw[if_pos hc]at hE;cases hE
   rw[if_neg hc]at hE;have hsm:cB pc.n=true:=by
    cases hx:cB pc.n
    ·exact absurd (.inl hx) hc
    ·rfl
   obtain⟨kZ,hkl,_⟩:=fe hsm;have hic:0<=ic:=by omega
   obtain⟨_,⟨c0,c1,c2,c3⟩,g0,g1,g2,g3⟩:=Sep.c4 (Sep.dS (HS.out));clear hc HE;by_cases hlt:ic<min tt (pc.n.ks.length:Int)
   ·rw[if_pos hlt]at hE;cases hj:fV (fun S n depth i tt=>bh d.room d g S n depth (max i 0) tt) d.room d Sc pc.n depth ic (min ic ((pc.n.ks.length:Int)-2))with
    |none=>
     rw[hj]at hE;cases hE
    |some rr=>
    obtain⟨⟨mj,jj,ej⟩,Sj⟩:=rr;rw[hj]at hE;simp only at hE;have KJ:Hid _:=Rm (i:=ic) (depth:=depth) T (IH.out g (by have:=HG.out;omega)) (fun h he=>DI.settle g h he) HD.out HS.out ui.out.1 hsm HI.out HR.out HX.out.1 (by have:=HX.out;omega) (by have:=HX.out;have:=HG.out;omega) hic (by omega) hj;have Z8:Hid (DI Sj d.room):=DI.join HI.out (fun h he=>DI.settle g h he) hj;have hE':Hid ((if ej≠0 then some ((nd0,ej),Sj)else if jj=true then bh d.room d g Sj mj depth (min ic ((pc.n.ks.length:Int)-2)) tt else bh d.room d g Sj pc.n depth (ic+1) tt)=some ((m,er),S')):=hE;have Yx:IntKind.i64.wrap ((pc.n.ks.length:Int)-2)=(pc.n.ks.length:Int)-2:=bR (by omega) (by omega);have WG:IntKind.i64.wrap (ic+1)=ic+1:=bR (by omega) (by have:=HM.out;omega);have HB:Hid (0<=ic∧ic< (pc.n.ks.length:Int)∧pc.n.ks.length<=500):=⟨hic,by omega,hkl⟩;have HC:Hid (pc∈Pc∧∀x∈P,x∈Pc):=ui.out;clear hE hj hsm kZ HI ui
    go_wp2_with fail
    clear c0 c1 c2 c3 g0 g1 g2 g3 Yx;generalize hmn:min ic ((pc.n.ks.length:Int)-2)=fi at*;refine Calls.mono KJ.out ?_;rintro e v2 ⟨pm,P2,d2,hnm,hmm,hs2,rfl,hd2,s2⟩;subst hnm;have D2:Hid (bI d d2):=hd2;have M2:Hid (∀x∈P,x∈P2):=fun x hx=>hs2 x (HC.out.2 x hx);have MC:Hid (pc∈P2):=hs2 _ HC.out.1;have MM:Hid (pm∈P2):=hmm;have S2:Hid (Sep B w0 v2 (DL C Sj d2 P2 (ax q0 (.cells #[.bool pc.n.leaf,.slice pc.ae pc.n.es.length pc.ce,.slice pc.ak pc.n.ks.length pc.ck,.slice pc.az pc.n.ss.length pc.cz] 184)::ax q1 (.cells #[.bool false,.slice none 0 0,.slice none 0 0,.slice none 0 0] 184)::l))):=s2;have HF:Hid (fi<=1000):=by have:=HB.out;show _<=_;omega
    clear s2 hd2 hs2 hmm KJ HS HD HC hmn;obtain⟨_,⟨c0,c1,c2,c3⟩,g0,g1,g2,g3⟩:=Sep.c4 (Sep.dS (S2.out));obtain⟨_,⟨i0,i1,i2,i3⟩,j0,j1,j2,j3⟩:=Sep.c4 (Sep.cR (S2.out));by_cases he:ej≠0
    ·have hE2:=hE'.out;rw[if_pos he]at hE2;obtain⟨hm,hr',hS⟩:nd0=m∧ej=er∧Sj=S':=by
      cases hE2;exact⟨rfl,rfl,rfl⟩
     subst hm hr' hS;have hne:(ej != 0)=true:=bne_iff_ne.2 he;have SF:Hid (Sep B w0 (((((v2.setCell ⟨q1,0,none⟩ (.bool false)).setCell ⟨q1,1,none⟩ (.slice none 0 0)).setCell ⟨q1,2,none⟩ (.slice none 0 0)).setCell ⟨q1,3,none⟩ (.slice none 0 0)).alloc (.cells #[.bool pm.n.leaf,.slice pm.ae pm.n.es.length pm.ce,.slice pm.ak pm.n.ks.length pm.ck,.slice pm.az pm.n.ss.length pm.cz] 184)) _):=Sep.alloc (Sep.oC (Sep.s4 (Sep.cR (S2.out)) _ _ _ _)) _;clear hE2 hE' he S2;go_wp2
     (try simp only[Exit.inBlock,Exit.then])
     generalize World.setCell _ _ _=vf at*;clear c0 c1 c2 c3 g0 g1 g2 g3 i0 i1 i2 i3 j0 j1 j2 j3;obtain⟨_,⟨c0,c1,c2,c3⟩,g0,g1,g2,g3⟩:=Sep.c4 (Sep.cR (SF.out));refine bodyPost_ret (v:=.tuple #[.agg #[.bool false,.slice none 0 0,.slice none 0 0,.slice none 0 0],.int .i64 ej]) ?_ rfl ⟨pZ,pZ::P2,d2,rfl,List.mem_cons_self,fun x hx=>List.mem_cons_of_mem _ (M2.out x hx),rfl,D2.out,DL.zero (Sep.drop (Sep.dS (Sep.drop (Sep.cR (SF.out)))))⟩;rw[aL rfl];go_simp
    ·have hE2:=hE'.out;rw[if_neg he]at hE2;have e0:ej=0:=by simpa using he
     subst e0;clear hE' he;cases jj with
     |true=>
      rw[if_pos rfl]at hE2;have Vj:Hid (bh d.room d g Sj pm.n depth fi tt=some ((m,er),S')):=hE2;have HFI:Hid (0<=fi):=by
       cases g with
       |zero=>cases hE2
       |succ g=>
        unfold bh at hE2;by_cases hc:cB pm.n=false∨fi<0
        ·rw[if_pos hc]at hE2;cases hE2
        ·show 0<=fi;omega
      have SF:Hid (Sep B w0 (((((v2.setCell ⟨q0,0,none⟩ (.bool pm.n.leaf)).setCell ⟨q0,1,none⟩ (.slice pm.ae pm.n.es.length pm.ce)).setCell ⟨q0,2,none⟩ (.slice pm.ak pm.n.ks.length pm.ck)).setCell ⟨q0,3,none⟩ (.slice pm.az pm.n.ss.length pm.cz)).alloc (.cells #[.bool pm.n.leaf,.slice pm.ae pm.n.es.length pm.ce,.slice pm.ak pm.n.ks.length pm.ck,.slice pm.az pm.n.ss.length pm.cz] 184)) _):=Sep.alloc (Sep.tH (Sep.s4 (Sep.dS (S2.out)) _ _ _ _)) _;clear hE2 S2;go_wp2
      all_goals go_roundg g
      case measure=>omega
      case rel=>exact⟨g,Sj,pm,P2,d2,fi,rfl,Nat.le_refl _,by have:=HG.out;show _<=_;omega,⟨HFI.out,HF.out⟩,Vj.out,Z8.out,⟨MM.out,M2.out⟩,D2.out,SF.out⟩
     |false=>
      rw[if_neg (by simp)]at hE2;have Vj:Hid (bh d.room d g Sj pc.n depth (ic+1) tt=some ((m,er),S')):=hE2;have SF:Hid (Sep B w0 (v2.alloc (.cells #[.bool pm.n.leaf,.slice pm.ae pm.n.es.length pm.ce,.slice pm.ak pm.n.ks.length pm.ck,.slice pm.az pm.n.ss.length pm.cz] 184)) _):=Sep.alloc S2.out _;clear hE2 S2;go_wp2
      all_goals go_roundg g
      case measure=>omega
      case rel=>exact⟨g,Sj,pc,P2,d2,ic+1,rfl,Nat.le_refl _,by have:=HG.out;show _<=_;omega,by have:=HB.out;show _∧_;omega,Vj.out,Z8.out,⟨MC.out,M2.out⟩,D2.out,SF.out⟩
   ·rw[if_neg hlt]at hE;obtain⟨hm,hr',hS⟩:pc.n=m∧0=er∧Sc=S':=by
     cases hE;exact⟨rfl,rfl,rfl⟩
    subst hm hr' hS;obtain⟨_,⟨i0,i1,i2,i3⟩,j0,j1,j2,j3⟩:=Sep.c4 (Sep.cR (HS.out));have zm:q0≠q1:=Sep.ne (Sep.cR (Sep.cR (HS.out)));have n10:=zm.symm;have SF:Hid (Sep B w0 ((((wr.setCell ⟨q1,0,none⟩ (.bool pc.n.leaf)).setCell ⟨q1,1,none⟩ (.slice pc.ae pc.n.es.length pc.ce)).setCell ⟨q1,2,none⟩ (.slice pc.ak pc.n.ks.length pc.ck)).setCell ⟨q1,3,none⟩ (.slice pc.az pc.n.ss.length pc.cz)) _):=Sep.oC (Sep.s4 (Sep.cR (HS.out)) _ _ _ _);clear hE HS hsm kZ;go_wp2
    (try simp only[Exit.inBlock,Exit.then])
    generalize World.setCell _ _ _=vf at*;clear c0 c1 c2 c3 g0 g1 g2 g3 i0 i1 i2 i3 j0 j1 j2 j3;obtain⟨_,⟨c0,c1,c2,c3⟩,g0,g1,g2,g3⟩:=Sep.c4 (Sep.cR (SF.out));refine bodyPost_ret (v:=.tuple #[.agg #[.bool pc.n.leaf,.slice pc.ae pc.n.es.length pc.ce,.slice pc.ak pc.n.ks.length pc.ck,.slice pc.az pc.n.ss.length pc.cz],.int .i64 0]) ?_ rfl ⟨pc,Pc,dc,rfl,ui.out.1,ui.out.2,rfl,HD.out,Sep.drop (Sep.dS (Sep.drop (Sep.cR (SF.out))))⟩;rw[aL rfl];go_simp
theorem sS {B:Nat}{w0:World}{C:Cx}{d:Dk}(T:cd B w0)(hr:d.room<=16384)(f:Nat):aX B w0 C d (100000-f) (bA d.room d f):=by
 induction f using Nat.strongRecOn with
 |ind f ih=>exact gV T hr f ih
end
section
open N (Nd nd0 cE dx dZ ji gp Sm)
def RowK (e:TypeId)(k:Nat)(v:Value)(n:Nat)(cs:List Value):aN:=fun w X=>w.ownsRow 0 e k v n cs∧∀q,X q↔v.ownBlock=some q
theorem fZ (e:TypeId)(k:Nat)(v:Value)(n:Nat)(cs:List Value):Good (RowK e k v n cs):=
 ⟨fun w w' X h hk _=>⟨gj h.1 (fun q hq=>hk q ((h.2 q).2 hq)),h.2⟩,fun w X h q hq=>(h.1.lt q ((h.2 q).1 hq)).2⟩
section
variable {B:Nat}{w0 w w':World}{l:List aN}{e:TypeId}{k n:Nat}{v v':Value}{cs:List Value}
theorem Sep.Je (h:Sep B w0 w (RowK e k v n cs::l)):w.ownsRow 0 e k v n cs:=by
 obtain⟨_,_,Y,⟨_,X,_,ha,_⟩,_⟩:=h;exact ha.1
theorem Sep.Rn (h:Sep B w0 w l):Sep B w0 w (RowK e k (.slice none 0 0) 0 []::l):=
 h.add (Below.refl _ _) (fZ _ _ _ _ _) (X:=fun _=>False) ⟨World.ownsRow_nil w 0 e k,fun q=>by simp[Value.ownBlock]⟩ (fun _ h=>h.elim)
theorem Sep.gC (h:Sep B w0 w (RowK e k v n cs::l))(hn:0<cs.length):∃r c,v=.slice (some ⟨r,0,none⟩) n c∧n<=c∧r<w.heap.size∧∀j,j<cs.length->w.cell? ⟨r,j,none⟩=cs[j]? :=by
 have o:=h.Je;have hlen:cs.length=n*k:=o.1;rcases o.2 with⟨h1,h2⟩| ⟨g,cap,cur,h1,h2,h3,h4,h5,h6,h7⟩
 ·rw[h2]at hlen;simp at hlen;rw[hlen]at hn;simp at hn
 ·refine⟨g,cap,h1,h4,(Array.getElem?_eq_some_iff.1 h3).1,fun j hj=>?_⟩;simp only[World.cell?,h3];rw[<-h7,List.getElem?_take_of_lt (by omega)];simp
theorem Sep.uX (h:Sep B w0 w (RowK e k v n cs::l)):∃ao c,v=.slice ao n c:=by
 rcases h.Je.2 with⟨h1,h2⟩| ⟨g,cap,cur,h1,_⟩
 ·exact⟨none,0,by rw[h1,h2]⟩
 ·exact⟨_,_,h1⟩
end
theorem Jf:(Tryz.prog.info? 184).map (fun i=>(i.zero,i.size,i.bytes))=some (some (.agg #[.bool false,.slice none 0 0,.slice none 0 0,.slice none 0 0]),4,80):=by kernel_rfl
def fp (p:NV):List Value:=[.bool p.n.leaf,.slice p.ae p.n.es.length p.ce,.slice p.ak p.n.ks.length p.ck,.slice p.az p.n.ss.length p.cz]
theorem Yz (q:Nat)(u:World):(Instr.slice 213 (.slice (some ⟨q,0,none⟩) 1 1) (some (.int .i64 0)) (some (.int .i64 1)) none).run Tryz.prog u=.ok (.slice (some ⟨q,0,none⟩) 1 1) u:=by kernel_rfl
theorem YA (q:Nat)(u:World):(Instr.slice 213 (.slice (some ⟨q,0,none⟩) 1 1) none (some (.int .i64 0)) none).run Tryz.prog u=.ok (.slice (some ⟨q,0,none⟩) 0 1) u:=by kernel_rfl
theorem YB (q:Nat)(u:World):(Instr.slice 54 (.slice (some ⟨q,0,none⟩) 0 0) (some (.int .i64 0)) none none).run Tryz.prog u=.ok (.slice (some ⟨q,0,none⟩) 0 0) u:=by kernel_rfl
section
variable {B:Nat}{w0 w:World}{l:List aN}{q r:Nat}{p pa pb:NV}
theorem zn (h:Sep B w0 w (ax q (.cells #[.bool p.n.leaf,.slice p.ae p.n.es.length p.ce,.slice p.ak p.n.ks.length p.ck,.slice p.az p.n.ss.length p.cz] 184)::ax r (.cells #[.bool pa.n.leaf,.slice pa.ae pa.n.es.length pa.ce,.slice pa.ak pa.n.ks.length pa.ck,.slice pa.az pa.n.ss.length pa.cz,.bool pb.n.leaf,.slice pb.ae pb.n.es.length pb.ce,.slice pb.ak pb.n.ks.length pb.ck,.slice pb.az pb.n.ss.length pb.cz] 184)::l)):
  Calls Tryz.prog 159 #[.slice (some ⟨q,0,none⟩) 1 1,.int .i64 0,.int .i64 1,.slice (some ⟨r,0,none⟩) 2 2] w fun e w'=>∃g c,e=.returned (.slice (some ⟨g,0,none⟩) 2 c)∧Sep B w0 w' (RowK 184 4 (.slice (some ⟨g,0,none⟩) 2 c) 2 (fp pa++fp pb)::l):=by
 obtain⟨i0,hi,hz0,hz1,hz2⟩:=info_parts Jf;have hq:=h.blk;have hr:=(Sep.pk [_] h).blk;have own:w.ownsRow 0 184 4 (.slice (some ⟨q,0,none⟩) 0 1) 0 []:=⟨rfl,.inr ⟨q,1,_,rfl,Nat.zero_le _,hq,by omega,by unfold maxLen;omega,by simp,by simp⟩⟩;have hn:∀j u,(fp pa++fp pb)[j]? =some u->w.cell? ((⟨r,0,none⟩:Addr).add j)=some u:=fun j u hj=>by
  rw[Go.WideShapes.add_plain,Nat.zero_add];simp only[World.cell?,hr];rw[<-hj];simp[fp]
 have HS:Hid (Sep B w0 w (RowK 184 4 (.slice (some ⟨q,0,none⟩) 0 1) 0 []::l)):=by
  have h1:=Sep.drop (Sep.pk [_] h);exact h1.step (fZ _ _ _ _ _) fun X hX=>⟨X,⟨own,fun k=>by rw[hX.2 k];simp[Value.ownBlock,eq_comm]⟩,df.refl _ _,fun k hk=>.inl hk⟩
 have HN:Hid (∀j u,(fp pa++fp pb)[j]? =some u->w.cell? ((⟨r,0,none⟩:Addr).add j)=some u):=hn;have HI:Hid (Tryz.prog.info? 184=some i0∧i0.zero=some (.agg #[.bool false,.slice none 0 0,.slice none 0 0,.slice none 0 0])∧i0.size=4∧i0.bytes=80):=⟨hi,hz0,hz1,hz2⟩;have r1:=Yz q;have r2:=YA q;have HO:Hid _:=own;clear h hq hr own hn hi hz0 hz1 hz2;go_enter Tryz.func159,Tryz.ntmps159
 go_wp2_with (at_builtin;refine wpList_append_own_at w rfl _ _ 213 rfl 0 184 i0 _ 4 80 Tryz.underlying213 HI.out.1 HI.out.2.1 HI.out.2.2.1 HI.out.2.2.2 rfl (by decide) _ _ _ rfl HO.out ⟨r,0,none⟩ 2 2 (fp pa++fp pb) rfl rfl HN.out (fun u hu=>by simp[fp]at hu;rcases hu with h|h|h|h|h|h|h|h<;>subst h<;>rfl) (by unfold maxLen;omega) (by omega) (Nat.zero_le _) ?_)
 intro v' w' h2 h3 h4 h5;have SF:Hid (Sep B w0 w' (RowK 184 4 v' 2 (fp pa++fp pb)::l)):=by
  refine HS.out.step (fZ _ _ _ _ _) fun X hX=>⟨fun k=>v'.ownBlock=some k,⟨h2,fun k=>Iff.rfl⟩,df.grown h3 (fun k hk=>(hX.2 k).2 hk),fun k hk=>?_⟩;rcases h5 with e1|e1
  ·exact .inl ((hX.2 k).2 (e1▸hk))
  ·rw[e1]at hk;exact .inr (Nat.le_of_eq (Option.some.inj hk))
 obtain⟨g,c,rfl,_⟩:=Sep.gC SF.out (by simp[fp]);clear h2 h3 h4 h5 HS HN HI HO r1 r2;go_wp2;go_ret;exact⟨g,c,rfl,SF.out⟩
theorem Bb {key:ByteArray}(h:Sep B w0 w (aR 9 (.slice (some ⟨q,0,none⟩) 0 0) []::l))(hc:w.cell? ⟨r,0,none⟩=some (.string key)):
  Calls Tryz.prog 160 #[.slice (some ⟨q,0,none⟩) 0 0,.int .i64 0,.slice (some ⟨r,0,none⟩) 1 1] w fun e w'=>∃ao n c,e=.returned (.slice ao n c)∧Sep B w0 w' (aR 9 (.slice ao n c) [.string key]::l):=by
 have HS:Hid (Sep B w0 w (aR 9 (.slice (some ⟨q,0,none⟩) 0 0) []::l)):=h;have r1:=YB q;clear h;go_enter Tryz.func160,Tryz.ntmps160
 go_wp2_with (at_builtin;refine Lz rfl _ _ rfl _ _ rfl HS.out r 1 key rfl hc (by simp) ?_)
 intro ao n' c' w3 s3;have SF:Hid (Sep B w0 w3 (aR 9 (.slice ao n' c') [.string key]::l)):=s3;clear s3 HS r1 hc;go_wp2;go_ret;exact⟨ao,n',c',rfl,SF.out⟩
end
end
section
open N (Nd nd0 cE dx dZ ji gp Sm sA sB sM aL)
def GF (B:Nat)(w0:World)(C:Cx)(S':Dr)(d:Dk)(P:List NV)(l:List aN)(parts:List Nd)(keys:List ByteArray)(er:Int)(e:Ending)(w':World):Prop:=
 ∃(ao ay:Option Addr) (cp ny cy:Nat) (ps:List NV) (P':List NV) (d':Dk),ps.map NV.n=parts∧(∀x∈ps,x∈P')∧(∀x∈P,x∈P')∧e=.returned (.tuple #[.slice ao ps.length cp,.slice ay ny cy,.int .i64 er])∧bI d d'∧Sep B w0 w' (DL C S' d' P' (RowK 184 4 (.slice ao ps.length cp) ps.length (ps.flatMap fp)::aR 9 (.slice ay ny cy) (keys.map Value.string)::l))
theorem Nu {l m:List N.En}(h:l.Sublist m):N.cP l<=N.cP m:=by
 induction h with
 |slnil=>exact Nat.le_refl _
 |cons a _ ih=>
  rename_i l m _
  have:N.cP (a::m)=N.k8 a+N.cP m:=rfl;omega
 |cons_cons a _ ih=>
  rename_i l m _
  have:N.cP (a::m)=N.k8 a+N.cP m:=rfl;have:N.cP (a::l)=N.k8 a+N.cP l:=rfl;omega
theorem Nv {l m:List ByteArray}(h:l.Sublist m):N.bW l<=N.bW m:=by
 induction h with
 |slnil=>exact Nat.le_refl _
 |cons a _ ih=>
  rename_i l m _
  have:N.bW (a::m)=5+a.size+N.bW m:=rfl;omega
 |cons_cons a _ ih=>
  rename_i l m _
  have:N.bW (a::m)=5+a.size+N.bW m:=rfl;have:N.bW (a::l)=5+a.size+N.bW l:=rfl;omega
theorem Dj {n m:Nd}(h:cB n=true)(h1:m.es.Sublist n.es)(h2:m.ks.Sublist n.ks)(h3:m.ss.Sublist n.ss):cB m=true:=by
 unfold cB at h⊢;simp only[Bool.and_eq_true,decide_eq_true_eq,List.all_eq_true]at h⊢;obtain⟨⟨⟨⟨⟨a1,a2⟩,a3⟩,a4⟩,a5⟩,a6⟩:=h;have b1:=h1.length_le;have b2:=h2.length_le;have b3:=h3.length_le;have b4:=Nu h1;have b5:=Nv h3;exact⟨⟨⟨⟨⟨by omega,by omega⟩,by omega⟩,by omega⟩,by omega⟩,fun k hk=>a6 k (h2.subset hk)⟩
theorem Ro {n:Nd}(h:cB n=true):cB (sA n)=true:=by
 unfold sA;split
 ·unfold N.We;split
  ·exact Dj h (List.take_sublist _ _) (List.nil_sublist _) (List.nil_sublist _)
  ·exact Dj h (List.nil_sublist _) (List.take_sublist _ _) (List.take_sublist _ _)
 ·exact h
theorem Sep.Dl {B:Nat}{w0 w:World}{l:List aN}{e:TypeId}(h:Sep B w0 w l)(q:Nat)(hq:q=w.heap.size):Sep B w0 (w.alloc (.cells #[] e)) (aR e (.slice (some ⟨q,0,none⟩) 0 0) []::l):=by
 subst hq;exact h.Qh e [] 0 rfl (by omega)
section
variable {B:Nat}{w0 w w':World}{l:List aN}{P:List NV}{C:Cx}{S S':Dr}{d d1:Dk}{depth:Int}{p:NV}{er Nb:Int}{cq:qF}{parts:List Nd}{keys:List ByteArray}
theorem Sep.Rp {q:Nat}(h:Sep B w0 w (ax q (.cells (cN p) 184)::l)):Sep B w0 w (RowK 184 4 (.slice (some ⟨q,0,none⟩) 1 1) 1 (fp p)::l):=by
 have hb:=h.blk;exact h.step (fZ _ _ _ _ _) fun X hX=>⟨X,⟨⟨rfl,.inr ⟨q,1,_,rfl,Nat.zero_le _,hb,by omega,by unfold maxLen;omega,by simp,by simp[fp]⟩⟩,fun k=>by rw[hX.2 k];simp[Value.ownBlock,eq_comm]⟩,df.refl _ _,fun k hk=>.inl hk⟩
theorem qL {e:Ending}(h:Sep B w0 w (DL C S d1 P l))(hd:bI d d1)(he:e=.returned (.tuple #[.slice none 0 0,.slice none 0 0,.int .i64 er])):GF B w0 C S d P l [] [] er e w:=by
 refine⟨none,none,0,0,0,[],P,d1,rfl,(fun x hx=>absurd hx List.not_mem_nil),fun _ h=>h,he,hd,?_⟩;exact Sep.tH (Sep.oC (Sep.rP (Sep.Rn h) 9))
theorem Fa (hd:bI d d1)(h:Sep B w0 w (DL C S d1 P l))(h0:p.n.es=[])(h1:p.n.ks=[]):Calls Tryz.prog 134 #[ptr C.q,.agg (cN p),.int .i64 depth] w (GF B w0 C S d P l [] [] 0):=by
 have SF:Hid (Sep B w0 (w.alloc (.cells (cN p) 184)) _):=h.alloc _;have e1:((p.n.es.length:Int)==0)=true:=by rw[h0];rfl
 have e2:((p.n.ks.length:Int)==0)=true:=by rw[h1];rfl
 have HD:Hid (bI d d1):=hd;clear h h0 h1 hd;go_enter Tryz.func134,Tryz.ntmps134;go_wp2
 go_ret3
 exact qL SF.out HD.out rfl
theorem Bc (T:cd B w0)(hst:aX B w0 C d Nb cq)(hd:bI d d1)(h:Sep B w0 w (DL C S d1 P l))(hp:p∈P)(hsm:cB p.n=true)(I:DI S d.room)(hr:d.room<=16384)(hd0:-1<=depth)(hd1:depth<=Nb)(h0:p.n.es≠[])(h2:dx p.n=false):Calls Tryz.prog 134 #[ptr C.q,.agg (cN p),.int .i64 depth] w (GF B w0 C S d P l [] [] 3):=by
 have S1:Hid (Sep B w0 (w.alloc (.cells (cN p) 184)) _):=Sep.tH (h.aQ _);have e1:((p.n.es.length:Int)==0)=false:=by
  have:=List.length_pos_iff.2 h0;simp;omega
 have HP:Hid (p∈P):=hp;have HD:Hid (bI d d1):=hd;have Dm:Hid (Sm p.n):=(fe hsm).1;have HI:Hid (DI S d.room):=I;have HX:Hid (-1<=depth∧depth<=Nb∧d.room<=16384):=⟨hd0,hd1,hr⟩;have HT:Hid (aX B w0 C d Nb cq):=hst;clear h hd hp hsm I h0 hd0 hd1 hr hst;go_enter Tryz.func134,Tryz.ntmps134
 go_wp2_with fail
 clear e1;generalize World.alloc _ _=v1 at*;generalize w.heap.size=q0 at*;refine Calls.mono (qJ S1.out HP.out Dm.out) ?_;rintro e v2 ⟨rfl,s2⟩;have S2:Hid (Sep B w0 v2 (DL C S d1 P (ax q0 (.cells (cN p) 184)::l))):=s2;clear s2 S1;rw[h2];go_wp2
 go_ret3
 exact qL (Sep.drop (Sep.dS (S2.out))) HD.out rfl
theorem Be (T:cd B w0)(hst:aX B w0 C d Nb cq)(hd:bI d d1)(h:Sep B w0 w (DL C S d1 P l))(hp:p∈P)(hsm:cB p.n=true)(I:DI S d.room)(hr:d.room<=16384)(hd0:-1<=depth)(hd1:depth<=Nb)(h0:p.n.es=[])(h1:p.n.ks≠[])(h2:dx p.n=false):Calls Tryz.prog 134 #[ptr C.q,.agg (cN p),.int .i64 depth] w (GF B w0 C S d P l [] [] 3):=by
 have S1:Hid (Sep B w0 (w.alloc (.cells (cN p) 184)) _):=Sep.tH (h.aQ _);have e1:((p.n.es.length:Int)==0)=true:=by rw[h0];rfl
 have e2:((p.n.ks.length:Int)==0)=false:=by
  have:=List.length_pos_iff.2 h1;simp;omega
 have HP:Hid (p∈P):=hp;have HD:Hid (bI d d1):=hd;have Dm:Hid (Sm p.n):=(fe hsm).1;have HI:Hid (DI S d.room):=I;have HX:Hid (-1<=depth∧depth<=Nb∧d.room<=16384):=⟨hd0,hd1,hr⟩;have HT:Hid (aX B w0 C d Nb cq):=hst;clear h hd hp hsm I h0 h1 hd0 hd1 hr hst;go_enter Tryz.func134,Tryz.ntmps134
 go_wp2_with fail
 clear e1 e2;generalize World.alloc _ _=v1 at*;generalize w.heap.size=q0 at*;refine Calls.mono (qJ S1.out HP.out Dm.out) ?_;rintro e v2 ⟨rfl,s2⟩;have S2:Hid (Sep B w0 v2 (DL C S d1 P (ax q0 (.cells (cN p) 184)::l))):=s2;clear s2 S1;rw[h2];go_wp2
 go_ret3
 exact qL (Sep.drop (Sep.dS (S2.out))) HD.out rfl
theorem Dn:(∀(T:cd B w0) (hst:aX B w0 C d Nb cq) (hd:bI d d1) (h:Sep B w0 w (DL C S d1 P l)) (hp:p∈P) (hsm:cB p.n=true) (I:DI S d.room) (hr:d.room<=16384) (hd0:-1<=depth) (hd1:depth<=Nb) (h0:p.n.es≠[]) (h2:dx p.n=true) (h3:cE p.n=true),Calls Tryz.prog 134 #[ptr C.q,.agg (cN p),.int .i64 depth] w (GF B w0 C S d P l [p.n] [] 0))∧
  (∀(T:cd B w0) (hst:aX B w0 C d Nb cq) (hd:bI d d1) (h:Sep B w0 w (DL C S d1 P l)) (hp:p∈P) (hsm:cB p.n=true) (I:DI S d.room) (hr:d.room<=16384) (hd0:-1<=depth) (hd1:depth<=Nb) (h0:p.n.es=[]) (h1:p.n.ks≠[]) (h2:dx p.n=true) (h3:cE p.n=true),Calls Tryz.prog 134 #[ptr C.q,.agg (cN p),.int .i64 depth] w (GF B w0 C S d P l [p.n] [] 0)):=by
 and_intros
 have jk:=trivial
 rotate_left
 have fu:=trivial
 rotate_left
 all_goals
  first
   |have zz:=fu
    intro T hst hd h hp hsm I hr hd0 hd1 h0 h1 h2 h3
   |intro T hst hd h hp hsm I hr hd0 hd1 h0 h2 h3
  have S1:Hid (Sep B w0 (w.alloc (.cells (cN p) 184)) _):=Sep.tH (h.aQ _)
  first
   |have zz:=fu
    have e1:((p.n.es.length:Int)==0)=true:=by rw[h0];rfl
    have e2:((p.n.ks.length:Int)==0)=false:=by
     have:=List.length_pos_iff.2 h1;simp;omega
   |have e1:((p.n.es.length:Int)==0)=false:=by
     have:=List.length_pos_iff.2 h0;simp;omega
  have HP:Hid (p∈P):=hp;have HD:Hid (bI d d1):=hd;have Dm:Hid (Sm p.n):=(fe hsm).1;have HI:Hid (DI S d.room):=I;have HX:Hid (-1<=depth∧depth<=Nb∧d.room<=16384):=⟨hd0,hd1,hr⟩;have HT:Hid (aX B w0 C d Nb cq):=hst
  first
   |have zz:=fu
    clear h hd hp hsm I h0 h1 hd0 hd1 hr hst
   |clear h hd hp hsm I h0 hd0 hd1 hr hst
  go_enter Tryz.func134,Tryz.ntmps134
  go_wp2_with fail
  first
   |have zz:=fu
    clear e1 e2
   |clear e1
  generalize World.alloc _ _=v1 at*;generalize w.heap.size=q0 at*;refine Calls.mono (qJ S1.out HP.out Dm.out) ?_;rintro e v2 ⟨rfl,s2⟩;have S2:Hid (Sep B w0 v2 (DL C S d1 P (ax q0 (.cells (cN p) 184)::l))):=s2;clear s2 S1;rw[h2];have S3:Hid (Sep B w0 ((v2.alloc (.cells (cN p) 184)).alloc (.cells #[] 9)) (DL C S d1 P (ax q0 (.cells (cN p) 184)::ax v2.heap.size (.cells (cN p) 184)::aR 9 (.slice (some ⟨(v2.heap.size+1),0,none⟩) 0 0) []::l))):=Sep.xH (Sep.Dl (Sep.oC (Sep.aQ S2.out _)) _ (by simp));obtain⟨_,⟨c0,c1,c2,c3⟩,_⟩:=Sep.c4 (Sep.dS (S2.out));clear S2;go_wp2;clear c0 c1 c2 c3;generalize World.alloc _ _=v3 at*;generalize v2.heap.size+1=qk at*;generalize v2.heap.size=qp at*;refine wp_loop_rounds 3 ?_;rw[rounds_succ];obtain⟨_,⟨c0,c1,c2,c3⟩,_⟩:=Sep.c4 (Sep.cR (S3.out))
  go_wp2_with fail
  clear c0 c1 c2 c3;refine Calls.mono (sR S3.out HP.out Dm.out) ?_;rintro e v4 ⟨rfl,s4⟩;have S4:Hid (Sep B w0 v4 (DL C S d1 P (ax q0 (.cells (cN p) 184)::ax qp (.cells (cN p) 184)::aR 9 (.slice (some ⟨qk,0,none⟩) 0 0) []::l))):=s4;clear s4 S3;rw[h3];go_wp2;rw[rounds_succ];go_wp2
  go_ret3
  refine⟨some ⟨qp,0,none⟩,some ⟨qk,0,none⟩,1,0,0,[p],P,d1,rfl,(fun x hx=>by rw[List.mem_singleton.1 hx];exact HP.out),fun _ h=>h,rfl,HD.out,?_⟩;exact Sep.tH (Sep.Rp (Sep.dS (Sep.drop (Sep.dS (S4.out)))))
theorem Dp:(∀(T:cd B w0) (hst:aX B w0 C d Nb cq) (hd:bI d d1) (h:Sep B w0 w (DL C S d1 P l)) (hp:p∈P) (hsm:cB p.n=true) (I:DI S d.room) (hr:d.room<=16384) (hd0:-1<=depth) (hd1:depth<=Nb) (h0:p.n.es≠[]) (hsb:cB p.n=true) (h2:dx p.n=true) (h3:cE p.n=false) (he:(match cq S (sA p.n) depth (((sA p.n).ks.length:Int)-1) ((sA p.n).ks.length:Int)with|none=>none|some ((a,e),S1)=>if e≠0 then some (([],[],e),S1)else if(cE a&&cE (sB p.n))=true then some (([a,sB p.n],[sM p.n],0),S1)else none)=some ((parts,keys,er),S')),Calls Tryz.prog 134 #[ptr C.q,.agg (cN p),.int .i64 depth] w (GF B w0 C S' d P l parts keys er))∧
  (∀(T:cd B w0) (hst:aX B w0 C d Nb cq) (hd:bI d d1) (h:Sep B w0 w (DL C S d1 P l)) (hp:p∈P) (hsm:cB p.n=true) (I:DI S d.room) (hr:d.room<=16384) (hd0:-1<=depth) (hd1:depth<=Nb) (h0:p.n.es=[]) (h1:p.n.ks≠[]) (hsb:cB p.n=true) (h2:dx p.n=true) (h3:cE p.n=false) (he:(match cq S (sA p.n) depth (((sA p.n).ks.length:Int)-1) ((sA p.n).ks.length:Int)with|none=>none|some ((a,e),S1)=>if e≠0 then some (([],[],e),S1)else if(cE a&&cE (sB p.n))=true then some (([a,sB p.n],[sM p.n],0),S1)else none)=some ((parts,keys,er),S')),Calls Tryz.prog 134 #[ptr C.q,.agg (cN p),.int .i64 depth] w (GF B w0 C S' d P l parts keys er)):=by
 and_intros
 have jk:=trivial
 rotate_left
 have fu:=trivial
 rotate_left
 all_goals
  first
   |have zz:=fu
    intro T hst hd h hp hsm I hr hd0 hd1 h0 h1 hsb h2 h3 he
   |intro T hst hd h hp hsm I hr hd0 hd1 h0 hsb h2 h3 he
  have S1:Hid (Sep B w0 (w.alloc (.cells (cN p) 184)) _):=Sep.tH (h.aQ _)
  first
   |have zz:=fu
    have e1:((p.n.es.length:Int)==0)=true:=by rw[h0];rfl
    have e2:((p.n.ks.length:Int)==0)=false:=by
     have:=List.length_pos_iff.2 h1;simp;omega
   |have e1:((p.n.es.length:Int)==0)=false:=by
     have:=List.length_pos_iff.2 h0;simp;omega
  have HP:Hid (p∈P):=hp;have HD:Hid (bI d d1):=hd;have Dm:Hid (Sm p.n):=(fe hsm).1;have HI:Hid (DI S d.room):=I;have HX:Hid (-1<=depth∧depth<=Nb∧d.room<=16384):=⟨hd0,hd1,hr⟩;have HT:Hid (aX B w0 C d Nb cq):=hst;have Yu:Hid (cB p.n=true):=hsb;have HE:Hid ((match cq S (sA p.n) depth (((sA p.n).ks.length:Int)-1) ((sA p.n).ks.length:Int)with|none=>none|some ((a,e),S1)=>if e≠0 then some (([],[],e),S1)else if(cE a&&cE (sB p.n))=true then some (([a,sB p.n],[sM p.n],0),S1)else none)=some ((parts,keys,er),S')):=he
  first
   |have zz:=fu
    clear h hd hp hsm I h0 h1 hd0 hd1 hr hst he hsb
   |clear h hd hp hsm I h0 hd0 hd1 hr hst he hsb
  go_enter Tryz.func134,Tryz.ntmps134
  go_wp2_with fail
  first
   |have zz:=fu
    clear e1 e2
   |clear e1
  generalize World.alloc _ _=v1 at*;generalize w.heap.size=q0 at*;refine Calls.mono (qJ S1.out HP.out Dm.out) ?_;rintro e v2 ⟨rfl,s2⟩;have S2:Hid (Sep B w0 v2 (DL C S d1 P (ax q0 (.cells (cN p) 184)::l))):=s2;clear s2 S1;rw[h2];have S3:Hid (Sep B w0 ((v2.alloc (.cells (cN p) 184)).alloc (.cells #[] 9)) (DL C S d1 P (ax q0 (.cells (cN p) 184)::ax v2.heap.size (.cells (cN p) 184)::aR 9 (.slice (some ⟨(v2.heap.size+1),0,none⟩) 0 0) []::l))):=Sep.xH (Sep.Dl (Sep.oC (Sep.aQ S2.out _)) _ (by simp));obtain⟨_,⟨c0,c1,c2,c3⟩,_⟩:=Sep.c4 (Sep.dS (S2.out));clear S2;go_wp2;clear c0 c1 c2 c3;generalize World.alloc _ _=v3 at*;generalize v2.heap.size+1=qk at*;generalize v2.heap.size=qp at*;refine wp_loop_rounds 5 ?_;rw[rounds_succ];obtain⟨_,⟨c0,c1,c2,c3⟩,_⟩:=Sep.c4 (Sep.cR (S3.out))
  go_wp2_with fail
  clear c0 c1 c2 c3;refine Calls.mono (sR S3.out HP.out Dm.out) ?_;rintro e v4 ⟨rfl,s4⟩;have S4:Hid (Sep B w0 v4 (DL C S d1 P (ax q0 (.cells (cN p) 184)::ax qp (.cells (cN p) 184)::aR 9 (.slice (some ⟨qk,0,none⟩) 0 0) []::l))):=s4;clear s4 S3;rw[h3];obtain⟨_,⟨c0,c1,c2,c3⟩,_⟩:=Sep.c4 (Sep.cR (S4.out))
  go_wp2_with fail
  clear c0 c1 c2 c3;refine Calls.mono (Ja S4.out HP.out Dm.out) ?_;rintro e v5 ⟨pa,pb,hna,hnb,rfl,s5⟩;have NA:Hid (pa.n=sA p.n):=hna;have NB:Hid (pb.n=sB p.n):=hnb;have S6:Hid (Sep B w0 ((v5.alloc (.cells (cN pa) 184)).alloc (.cells (cN pb) 184)) (DL C S d1 (pa::pb::P) (ax q0 (.cells (cN p) 184)::ax qp (.cells (cN p) 184)::aR 9 (.slice (some ⟨qk,0,none⟩) 0 0) []::ax v5.heap.size (.cells (cN pa) 184)::ax (v5.heap.size+1) (.cells (cN pb) 184)::l))):=Sep.Wx (Sep.aZ (Sep.Kr (Sep.aQ s5 _)) _ _ (by simp));clear s5 hna hnb S4;have hE:=HE.out;rw[<-NA.out]at hE;have WC:Hid (cB pa.n=true):=by
   show _=true;rw[NA.out];exact Ro Yu.out
  have O9:Hid (pa.n.ks.length<=500):=(fe WC.out).2.1;cases hst:cq S pa.n depth ((pa.n.ks.length:Int)-1) (pa.n.ks.length:Int)with
  |none=>
   rw[hst]at hE;cases hE
  |some rr=>
  obtain⟨⟨m1,e1⟩,S1⟩:=rr;rw[hst]at hE;simp only at hE;have KS:Hid (Calls Tryz.prog 139 #[ptr C.q,.agg (cN pa),.int .i64 depth,.int .i64 ((pa.n.ks.length:Int)-1),.int .i64 (pa.n.ks.length:Int)] ((v5.alloc (.cells (cN pa) 184)).alloc (.cells (cN pb) 184)) fun e w'=>∃pm P4 d4,pm.n=m1∧pm∈P4∧(∀x∈pa::pb::P,x∈P4)∧e=.returned (.tuple #[.agg (cN pm),.int .i64 e1])∧bI d d4∧Sep B w0 w' (DL C S1 d4 P4 (ax q0 (.cells (cN p) 184)::ax qp (.cells (cN p) 184)::aR 9 (.slice (some ⟨qk,0,none⟩) 0 0) []::ax v5.heap.size (.cells (cN pa) 184)::ax (v5.heap.size+1) (.cells (cN pb) 184)::l))):=HT.out S6.out HD.out List.mem_cons_self WC.out HI.out HX.out.1 HX.out.2.1 (by omega) (by have:=O9.out;omega) (by omega) (by have:=O9.out;omega) hst;have WG:IntKind.i64.wrap ((pa.n.ks.length:Int)-1)=(pa.n.ks.length:Int)-1:=bR (by omega) (by have:=O9.out;omega);have HE2:Hid ((if e1≠0 then some (([],[],e1),S1)else if(cE m1&&cE (sB p.n))=true then some (([m1,sB p.n],[sM p.n],0),S1)else none)=some ((parts,keys,er),S')):=hE;clear hE hst HE
  go_wp2_with fail
  clear WG;generalize World.alloc _ _=v6 at*;generalize v5.heap.size+1=qb at*;generalize v5.heap.size=qa at*;refine Calls.mono KS.out ?_;rintro e v7 ⟨pm,P4,d4,hnm,hmm,hs4,rfl,hd4,s7⟩;subst hnm;have D4:Hid (bI d d4):=hd4;have M4:Hid (∀x∈P,x∈P4):=fun x hx=>hs4 x (List.mem_cons_of_mem _ (List.mem_cons_of_mem _ hx));have MM:Hid (pm∈P4):=hmm;have MB:Hid (pb∈P4):=hs4 _ (List.mem_cons_of_mem _ List.mem_cons_self);have S7:Hid (Sep B w0 v7 (DL C S1 d4 P4 (ax q0 (.cells (cN p) 184)::ax qp (.cells (cN p) 184)::aR 9 (.slice (some ⟨qk,0,none⟩) 0 0) []::ax qa (.cells (cN pa) 184)::ax qb (.cells (cN pb) 184)::l))):=s7;clear s7 hd4 hs4 hmm KS S6;obtain⟨_,⟨c0,c1,c2,c3⟩,g0,g1,g2,g3⟩:=Sep.c4 (Sep.iZ (S7.out));by_cases he1:e1≠0
  ·have hE:=HE2.out;rw[if_pos he1]at hE;obtain⟨hm,hk,hr',hS⟩:[]=parts∧[]=keys∧e1=er∧S1=S':=by
    cases hE;exact⟨rfl,rfl,rfl,rfl⟩
   subst hm hk hr' hS;have hne:(e1 != 0)=true:=bne_iff_ne.2 he1;have SF:Hid (Sep B w0 ((((v7.setCell ⟨qa,0,none⟩ (.bool pm.n.leaf)).setCell ⟨qa,1,none⟩ (.slice pm.ae pm.n.es.length pm.ce)).setCell ⟨qa,2,none⟩ (.slice pm.ak pm.n.ks.length pm.ck)).setCell ⟨qa,3,none⟩ (.slice pm.az pm.n.ss.length pm.cz)) _):=Sep.Kr (Sep.s4 (Sep.iZ (S7.out)) _ _ _ _);clear S7 hE HE2 he1;go_wp2
   go_ret3
   obtain⟨ao,ay,cp,ny,cy,ps,P',d',t1,t2,t3,t4,t5,t6⟩:=qL (er:=e1) (e:=.returned (.tuple #[.slice none 0 0,.slice none 0 0,.int .i64 e1])) (Sep.drop (Sep.dS (Sep.drop (Sep.cR (Sep.drop (Sep.eN (Sep.drop (Sep.iZ (Sep.drop (Sep.pQ (SF.out))))))))))) D4.out rfl;exact⟨ao,ay,cp,ny,cy,ps,P',d',t1,t2,fun x hx=>t3 x (M4.out x hx),t4,t5,t6⟩
  ·have e0:e1=0:=by simpa using he1
   subst e0;have hE:=HE2.out;rw[if_neg he1]at hE;by_cases hfg:¬(cE pm.n&&cE (sB p.n))=true
   ·rw[if_neg hfg]at hE;cases hE
   have WJ:(cE pm.n&&cE (sB p.n))=true:=by simpa using hfg
   rw[if_pos WJ]at hE;obtain⟨hm,hk,hr',hS⟩:[pm.n,sB p.n]=parts∧[sM p.n]=keys∧(0:Int)=er∧S1=S':=by
    cases hE;exact⟨rfl,rfl,rfl,rfl⟩
   subst hm hk hr' hS;have FM:Hid (cE pm.n=true):=(Bool.and_eq_true_iff.1 WJ).1;have FB:Hid (cE pb.n=true):=by
    show _=true;rw[NB.out];exact(Bool.and_eq_true_iff.1 WJ).2
   generalize sM p.n=key at*;have n1:qa≠qb:=Sep.ne (Sep.pQ (Sep.pQ (S7.out)));have n2:=n1.symm;obtain⟨_,⟨i0,i1,i2,i3⟩,_⟩:=Sep.c4 (Sep.pQ (S7.out));have S8:Hid (Sep B w0 (((((v7.setCell ⟨qa,0,none⟩ (.bool pm.n.leaf)).setCell ⟨qa,1,none⟩ (.slice pm.ae pm.n.es.length pm.ce)).setCell ⟨qa,2,none⟩ (.slice pm.ak pm.n.ks.length pm.ck)).setCell ⟨qa,3,none⟩ (.slice pm.az pm.n.ss.length pm.cz)).alloc (.cells #[.bool pm.n.leaf,.slice pm.ae pm.n.es.length pm.ce,.slice pm.ak pm.n.ks.length pm.ck,.slice pm.az pm.n.ss.length pm.cz,.bool pb.n.leaf,.slice pb.ae pb.n.es.length pb.ce,.slice pb.ak pb.n.ks.length pb.ck,.slice pb.az pb.n.ss.length pb.cz] 184)) (ax qp (.cells (cN p) 184)::ax v7.heap.size (.cells #[.bool pm.n.leaf,.slice pm.ae pm.n.es.length pm.ce,.slice pm.ak pm.n.ks.length pm.ck,.slice pm.az pm.n.ss.length pm.cz,.bool pb.n.leaf,.slice pb.ae pb.n.es.length pb.ce,.slice pb.ak pb.n.ks.length pb.ck,.slice pb.az pb.n.ss.length pb.cz] 184)::DL C S1 d4 P4 (ax q0 (.cells (cN p) 184)::aR 9 (.slice (some ⟨qk,0,none⟩) 0 0) []::ax qa (.cells (cN pm) 184)::ax qb (.cells (cN pb) 184)::l))):=Sep.eN (Sep.aZ (Sep.Kr (Sep.s4 (Sep.iZ (S7.out)) _ _ _ _)) _ _ (by simp));clear hE HE2 he1 S7 hfg WJ
   go_wp2_with fail
   clear c0 c1 c2 c3 g0 g1 g2 g3 i0 i1 i2 i3;generalize World.setCell _ _ _=v8 at*;generalize v7.heap.size=qr at*;refine Calls.mono (zn S8.out) ?_;rintro e v9 ⟨g,c,rfl,s9⟩;have S9:Hid (Sep B w0 (v9.alloc (.cells #[.string key] 9)) _):=Sep.alloc (Sep.eN (s9)) _;clear s9 S8
   go_wp2_with fail
   refine Calls.mono (Bb (key:=key) S9.out (by simp)) ?_;rintro e v10 ⟨ay,ny,cy,rfl,s10⟩;have Di:Hid _:=Sep.tH (Sep.oC (s10));clear s10 S9;go_wp2;rw[rounds_succ];obtain⟨g',c',eg,_,gs,hc⟩:=Sep.gC (Sep.dS (Di.out)) (by simp[fp]);cases eg;have c0:v10.cell? ⟨g,0,none⟩=some (.bool pm.n.leaf):=hc 0 (by simp[fp]);have c1:v10.cell? ⟨g,1,none⟩=some (.slice pm.ae pm.n.es.length pm.ce):=hc 1 (by simp[fp]);have c2:v10.cell? ⟨g,2,none⟩=some (.slice pm.ak pm.n.ks.length pm.ck):=hc 2 (by simp[fp]);have c3:v10.cell? ⟨g,3,none⟩=some (.slice pm.az pm.n.ss.length pm.cz):=hc 3 (by simp[fp]);clear hc
   go_wp2_with fail
   refine Calls.mono (sR Di.out MM.out (gq FM.out).1) ?_;rintro e v11 ⟨rfl,s11⟩;have Rl:Hid (Sep B w0 v11 (DL C S1 d4 P4 (RowK 184 4 (.slice (some ⟨g,0,none⟩) 2 c) 2 (fp pm++fp pb)::aR 9 (.slice ay ny cy) [.string key]::ax q0 (.cells (cN p) 184)::ax qa (.cells (cN pm) 184)::ax qb (.cells (cN pb) 184)::l))):=s11;clear s11 Di c0 c1 c2 c3;rw[FM.out];go_wp2;rw[rounds_succ];obtain⟨g',c',eg,_,gs',hc⟩:=Sep.gC (Sep.dS (Rl.out)) (by simp[fp]);cases eg;have c4:v11.cell? ⟨g,4,none⟩=some (.bool pb.n.leaf):=hc 4 (by simp[fp]);have c5:v11.cell? ⟨g,5,none⟩=some (.slice pb.ae pb.n.es.length pb.ce):=hc 5 (by simp[fp]);have c6:v11.cell? ⟨g,6,none⟩=some (.slice pb.ak pb.n.ks.length pb.ck):=hc 6 (by simp[fp]);have c7:v11.cell? ⟨g,7,none⟩=some (.slice pb.az pb.n.ss.length pb.cz):=hc 7 (by simp[fp]);clear hc
   go_wp2_with fail
   refine Calls.mono (sR Rl.out MB.out (gq FB.out).1) ?_;rintro e v12 ⟨rfl,s12⟩;have WI:Hid (Sep B w0 v12 (DL C S1 d4 P4 (RowK 184 4 (.slice (some ⟨g,0,none⟩) 2 c) 2 (fp pm++fp pb)::aR 9 (.slice ay ny cy) [.string key]::ax q0 (.cells (cN p) 184)::ax qa (.cells (cN pm) 184)::ax qb (.cells (cN pb) 184)::l))):=s12;clear s12 Rl c4 c5 c6 c7;rw[FB.out];go_wp2;rw[rounds_succ];go_wp2
   go_ret3
   refine⟨some ⟨g,0,none⟩,ay,c,ny,cy,[pm,pb],P4,d4,by simp[NB.out],?_,M4.out,rfl,D4.out,?_⟩
   ·intro x hx;rcases List.mem_cons.1 hx with rfl|hx
    ·exact MM.out
    ·rw[List.mem_singleton.1 hx];exact MB.out
   ·exact Sep.drop (Sep.eN (Sep.drop (Sep.eN (Sep.drop (Sep.eN (WI.out))))))
theorem Fb (T:cd B w0)(hst:aX B w0 C d Nb cq)(hd:bI d d1)(h:Sep B w0 w (DL C S d1 P l))(hp:p∈P)(I:DI S d.room)(hr:d.room<=16384)(hd0:-1<=depth)(hd1:depth<=Nb)(he:bZ cq S p.n depth=some ((parts,keys,er),S')):Calls Tryz.prog 134 #[ptr C.q,.agg (cN p),.int .i64 depth] w (GF B w0 C S' d P l parts keys er):=by
 unfold bZ at he;by_cases h0:p.n.es=[]∧p.n.ks=[]
 ·rw[if_pos h0]at he;cases he;exact Fa hd h h0.1 h0.2
 ·rw[if_neg h0]at he;by_cases hs:cB p.n=false
  ·rw[if_pos hs]at he;cases he
  ·rw[if_neg hs]at he;have hsm:cB p.n=true:=by simpa using hs
   by_cases hw:dx p.n=false
   ·rw[if_pos hw]at he;cases he;by_cases he0:p.n.es=[]
    ·exact Be T hst hd h hp hsm I hr hd0 hd1 he0 (fun e=>h0 ⟨he0,e⟩) hw
    ·exact Bc T hst hd h hp hsm I hr hd0 hd1 he0 hw
   ·rw[if_neg hw]at he;have hw':dx p.n=true:=by simpa using hw
    by_cases hf:cE p.n=true
    ·rw[if_pos hf]at he;cases he;by_cases he0:p.n.es=[]
     ·exact Dn.2 T hst hd h hp hsm I hr hd0 hd1 he0 (fun e=>h0 ⟨he0,e⟩) hw' hf
     ·exact Dn.1 T hst hd h hp hsm I hr hd0 hd1 he0 hw' hf
    ·rw[if_neg hf]at he;have hf':cE p.n=false:=by simpa using hf
     by_cases he0:p.n.es=[]
     ·exact Dp.2 T hst hd h hp hsm I hr hd0 hd1 he0 (fun e=>h0 ⟨he0,e⟩) hsm hw' hf' he
     ·exact Dp.1 T hst hd h hp hsm I hr hd0 hd1 he0 hsm hw' hf' he
theorem DI.fitting {room:Nat}(hI:∀ {S S':Dr} {n:Nd} {depth i tt:Int} {r:Nd×Int},DI S room->cq S n depth i tt=some (r,S')->DI S' room){n:Nd}{r:List Nd×List ByteArray×Int}(I:DI S room)(he:bZ cq S n depth=some (r,S')):DI S' room:=by
 unfold bZ at he
 repeat' split at he
 all_goals first
  |(cases he;done)
  |(cases he;exact I)
  |(cases he;exact hI I (by assumption))
  |skip
end
end
end Go.Proofs.YtdcpfbidcpfboaaGreatDoor

/- Walks of the package cowtree and of what it stands on: lemmas, made short. -/
import Derived.Test.YtceoeaemenhbhabGreatDoorR16
set_option maxHeartbeats 16000000
set_option maxRecDepth 100000
set_option linter.unusedVariables false
set_option linter.unusedSimpArgs false
section
namespace Go.Proofs.YtceoeaemenhbhabGreatDoor.P
open Go.Shelf Go.RowKit Go.Lib Go.Sort
open N (Nd En eU cF jq lJ jo pE Rg bn cD)
theorem Vv {V:List ze}{k:Nat}{v:ze}(h:V[k]? =some v):(V.flatMap sS)[k*6]? =some (.int .i64 v.1)∧(V.flatMap sS)[k*6+1]? =some (.int .i64 v.2.1)∧k*6+6<=(V.flatMap sS).length:=by
 induction V generalizing k with
 |nil=>simp at h
 |cons u V ih=>
  rw[List.flatMap_cons];have hl:(sS u).length=6:=rfl;cases k with
  |zero=>
   simp at h;subst h;refine⟨rfl,rfl,?_⟩;rw[List.length_append,hl];omega
  |succ k=>
   obtain⟨h1,h2,h3⟩:=ih (by simpa using h);refine⟨?_,?_,?_⟩
   ·rw[List.getElem?_append_right (by omega),hl,show(k+1)*6-6=k*6 by omega];exact h1
   ·rw[List.getElem?_append_right (by omega),hl,show(k+1)*6+1-6=k*6+1 by omega];exact h2
   ·rw[List.length_append,hl];omega
theorem Kh:∀(h:Nat) (dp:Int) (u:KT h) (p:Pg),p∈Dw h dp u->dp<=p.2.1∧p.2.1<=dp+h
 |0,dp,u,p,hp=>by
  obtain rfl:p=(u.1,dp,aU 0 u.2):=List.mem_singleton.1 hp;exact⟨Int.le_refl _,by show dp<=dp+((0:Nat):Int);omega⟩
 |h+1,dp,(q,b),p,hp=>by
  obtain⟨K,ss,rfl⟩:=fh b;rw[sT]at hp;rcases List.mem_cons.1 hp with rfl|hp
  ·exact⟨Int.le_refl _,by show dp<=dp+((h+1:Nat):Int);omega⟩
  ·obtain⟨L,hL,hp⟩:=List.mem_flatten.1 hp;obtain⟨v,hv,rfl⟩:=List.mem_map.1 hL;have:=Kh h (dp+1) v p hp;omega
theorem Bo (H:Nat):H+1<=2^H∧4*H<=5*2^H:=by
 induction H with
 |zero=>exact⟨Nat.le_refl _,by omega⟩
 |succ n ih=>rw[Nat.pow_succ];omega
theorem Vw {x:TX}{d:Dk}{r:Int}{E:List En}{X:List Int}{H:Nat}{V:List ze}(TT:Tx d.room d x r E X H)(hw:Vn (V.map Fu) r E X H)(hE:E.length<=200):
  V.length<=3*E.length+1∧∀v∈V,0<=v.2.1∧v.2.1<=12∧v.2.1<=(E.length:Int):=by
 have h1:=TT.ts.cnt.1;have h2:=TT.ts.low hE;have h7:H<=E.length∧(H=0∨2^H<=E.length):=by
  rcases TT.ts.cnt.2 with h|h
  ·exact⟨by omega,.inl h⟩
  ·have:=Bo H;exact⟨by omega,.inr h⟩
 have hX:X.length<=3*E.length+1:=by
  rcases h7.2 with h|h
  ·omega
  ·have:=Bo H;omega
 rcases hw with⟨_,e1,_,_,_⟩| ⟨_,h,u,_,e1,_,_,e2,_,rfl,_⟩
 ·have e3:V=[]:=List.map_eq_nil_iff.1 e1;subst e3;exact⟨Nat.zero_le _,fun v hv=>by cases hv⟩
 ·have hl:V.length=X.length:=by rw[<-e2,<-qy h 0 u,<-e1,List.length_map]
  refine⟨by omega,fun v hv=>?_⟩;have hm:Fu v∈Dw h 0 u:=by rw[<-e1];exact List.mem_map_of_mem hv
  have:=Kh h 0 u _ hm;have e3:(Fu v).2.1=v.2.1:=rfl;have hH:h<=12:=by
   rcases h7.2 with h9|h9
   ·omega
   ·rcases Nat.lt_or_ge 12 h with h8|h8
    ·have:2^13<=2^h:=Nat.pow_le_pow_right (by omega) h8;omega
    ·exact h8
  omega
theorem Vx {x:TX}{d:Dk}{r:Int}{X:List Int}{H:Nat}{V:List ze}(TT:Tx d.room d x r [] X H)(hw:Vn (V.map Fu) r [] X H):V.length=0∧r=0:=by
 rcases hw with⟨h1,e1,_,_,_⟩| ⟨_,h,u,_,e1,_,_,e2,_,rfl,_⟩
 ·exact⟨by rw[List.map_eq_nil_iff.1 e1];rfl,h1⟩
 ·have h1:=TT.ts.cnt.1;have h3:1<=X.length:=by
   rw[<-e2,<-qy h 0 u];cases h with
   |zero=>exact Nat.le_refl _
   |succ n=>exact Nat.succ_le_succ (Nat.zero_le _)
  rcases TT.ts.cnt.2 with h9|h9
  ·simp only[List.length_nil]at h1;omega
  ·have:=Bo h;simp only[List.length_nil]at*;omega
section
variable {B:Nat}{w0 w:World}{C:Cx}{x:TX}{d:Dk}{P:List NV}{l:List aN}
theorem SR (h:Sep B w0 w (TL C x d P l)):Calls Tryz.prog 20 #[ptr C.tq] w fun e w'=>e=.returned (.int .i64 (if C.err=0 then C.root else 0))∧w=w':=by
 have KE:Hid _:=OD h;have KG:Hid _:=gy w C.tq;obtain⟨ts,⟨t0,t1,t2⟩,_⟩:=Sep.uI (Sep.pk [_,_] h);clear h;by_cases h0:C.err=0
 ·rw[if_pos h0];rw[h0]at KE;clear h0;go_enter Tryz.func20,Tryz.ntmps20
  go_wp2_with fail
  refine Calls.mono KE.out ?_;rintro e w1 ⟨rfl,rfl⟩;clear KE
  go_wp2_with fail
  refine Calls.mono KG.out ?_;rintro e w1 ⟨rfl,rfl⟩;clear KG;go_wp2;go_ret;exact⟨rfl,rfl⟩
 ·rw[if_neg h0];have hne:(C.err != 0)=true:=bne_iff_ne.2 h0;generalize C.err=er at*;clear h0;go_enter Tryz.func20,Tryz.ntmps20
  go_wp2_with fail
  refine Calls.mono KE.out ?_;rintro e w1 ⟨rfl,rfl⟩;clear KE KG;go_wp2;go_ret;exact⟨rfl,rfl⟩
end
theorem Ki {y:En}{E:List En}(hr:Rg (y::E)):lJ (y::E) y.1=E∧jo (y::E) y.1=true:=by
 refine⟨?_,?_⟩
 ·unfold lJ;rw[List.filter_cons,if_neg (by simp)];rw[List.filter_eq_self];intro z hz;have h1:=hr.head z hz;have h2:=N.fq h1;simp only[Bool.not_eq_true',decide_eq_false_iff_not];exact fun e=>h2 e.symm
 ·unfold jo;simp
theorem N8 {E:List En}(i:Nat)(hr:Rg E):Rg (E.drop i):=hr.sub (List.drop_sublist i E)
end Go.Proofs.YtceoeaemenhbhabGreatDoor.P
end

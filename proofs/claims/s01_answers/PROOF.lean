import PyProof.Rows.All
import Wide.All
import OpenK.AllK
import Wide.FinOn
import PyProof.EqAt
import PyProof.EqKinds
import PyProof.TupleCall
import KE.BitLaws
import PySem.SetTable
import PyProof.Rows.CallKwBuiltin
import KE.KMinKey
import KE.KRevIter
import PyProof.ListRange
import PyProof.Rows.InDataRows
import PyProof.Rows.TupDisplay
import PyProof.Rows.SortShellAny
import PyProof.Rows.SetFrom
import KE.KSortTupG
import PyFlatLaws
import Open.SpecLaws
import KE.OsHead
import KE.OsGo
import PySem.Challenge.RW_graphwaves_s01_answers
set_option Elab.async false
set_option linter.all false
set_option maxRecDepth 100000
set_option maxHeartbeats 0
namespace GW
open Vblcas
abbrev Nb(nb:Near)(v:Nat):List Nat:=nb.getD v []
structure NbOk(nb:Near):Prop where
 lt: ∀v u,u∈Nb nb v->u<nb.length
 sym: ∀v u,u∈Nb nb v->v∈Nb nb u
 srt: ∀v,(Nb nb v).Pairwise (·< ·)
theorem NbOk.ltL{nb:Near}(h:NbOk nb){v u:Nat}(m:u∈Nb nb v):v<nb.length:=h.lt u v (h.sym v u m)
structure Cert(nb:Near)(R D:Nat->Nat):Prop where
 rle: ∀v,v<nb.length->R v<=v
 redge: ∀v u,u∈Nb nb v->R u=R v
 d0: ∀v,v<nb.length->(D v=0↔R v=v)
 dle: ∀v u,u∈Nb nb v->D u<=D v+1
 dn: ∀v,v<nb.length->D v≠0->∃u,u∈Nb nb v/\D u+1=D v
theorem Cert.down{nb:Near}{R D:Nat->Nat}(ok:NbOk nb)(c:Cert nb R D): ∀(k v:Nat),v<nb.length->D v=k->∃z,z<nb.length/\D z=0/\∀R':Nat->Nat,(∀v u,u∈Nb nb v->R' u=R' v)->R' z=R' v
 |0,v,hv,h=>⟨v,hv,h,fun _ _=>rfl⟩
 |k+1,v,hv,h=>by
  obtain⟨u,hu,e⟩:=c.dn v hv (by omega);obtain⟨z,hz,e0,hr⟩:=Cert.down ok c k u (ok.lt v u hu) (by omega);exact⟨z,hz,e0,fun R' h'=>(hr R' h').trans (h' v u hu)⟩
theorem Cert.rroot{nb:Near}{R D:Nat->Nat}(ok:NbOk nb)(c:Cert nb R D){v:Nat}(hv:v<nb.length):R v<nb.length/\D (R v)=0/\R (R v)=R v/\∀R':Nat->Nat,(∀v u,u∈Nb nb v->R' u=R' v)->R' (R v)=R' v:=by
 obtain⟨z,hz,e0,hr⟩:=c.down ok _ v hv rfl;have e1:R z=z:=(c.d0 z hz).mp e0;have e2:=hr R c.redge;have e3:R v=z:=by omega
 rw[e3];exact⟨hz,e0,e1,hr⟩
theorem Cert.uniqR{nb:Near}{R D R' D':Nat->Nat}(ok:NbOk nb)(c:Cert nb R D)(c':Cert nb R' D'){v:Nat}(hv:v<nb.length):R v=R' v:=by
 obtain⟨h1,_,_,h4⟩:=c.rroot ok hv;obtain⟨g1,_,_,g4⟩:=c'.rroot ok hv;have a:=h4 R' c'.redge;have b:=g4 R c.redge;have a2:=c'.rle _ h1;have b2:=c.rle _ g1;omega
theorem Cert.leD{nb:Near}{R D R' D':Nat->Nat}(ok:NbOk nb)(c:Cert nb R D)(c':Cert nb R' D'): ∀(k v:Nat),v<nb.length->D' v=k->D v<=k
 |0,v,hv,h=>by
  have e:=c.uniqR ok c' hv;have e2:=(c'.d0 v hv).mp h;have:=(c.d0 v hv).mpr (by omega);omega
 |k+1,v,hv,h=>by
  obtain⟨u,hu,e⟩:=c'.dn v hv (by omega);have:=Cert.leD ok c c' k u (ok.lt v u hu) (by omega);have:=c.dle u v (ok.sym v u hu);omega
theorem Cert.uniqD{nb:Near}{R D R' D':Nat->Nat}(ok:NbOk nb)(c:Cert nb R D)(c':Cert nb R' D'){v:Nat}(hv:v<nb.length):D v=D' v:=by
 have a:=Cert.leD ok c c' _ v hv rfl;have b:=Cert.leD ok c' c _ v hv rfl;omega
def IsPar(nb:Near)(D:Nat->Nat)(v:Nat):Option Nat->Prop
 |none=>D v=0
 |some p=>D v≠0/\p∈Nb nb v/\D p+1=D v/\∀w,w∈Nb nb v->D w+1=D v->p<=w
theorem pigeon{n:Nat}{l:List Nat}(nd:l.Nodup)(h: ∀x,x∈l->x<n):l.length<=n:=by
 have:=List.Nodup.length_le_of_subset nd (l₂:=List.range n) (fun x hx=>List.mem_range.mpr (h x hx));simpa using this
abbrev Rd(r:List (Option Place))(v:Nat):Option Place:=r.getD v none
structure Grow(nb:Near)(r0:List (Option Place))(root k:Nat)(r:List (Option Place))(D:Nat->Nat):Prop where
 len:r.length=nb.length
 old: ∀v,(Rd r0 v).isSome=true->Rd r v=Rd r0 v
 new: ∀v p,Rd r0 v=none->Rd r v=some p->v<nb.length/\p.root=root/\D v<=k/\(D v=0↔v=root)/\
  (match p.parent with|none=>D v=0|some q=>D v≠0/\q∈Nb nb v/\(Rd r q).isSome=true/\D q+1=D v/\∀w,w∈Nb nb v->(Rd r w).isSome=true->D w+1=D v->q<=w)
 hasRoot:Rd r0 root=none/\(Rd r root).isSome=true
 full: ∀v,Rd r0 v=none->(Rd r v).isSome=true->D v<k->∀w,w∈Nb nb v->(Rd r w).isSome=true
 step: ∀v w,Rd r0 v=none->(Rd r v).isSome=true->w∈Nb nb v->(Rd r w).isSome=true->D w<=D v+1
def Closed(nb:Near)(r:List (Option Place)):Prop:=∀v w,w∈Nb nb v->(Rd r v).isSome=true->(Rd r w).isSome=true
def round(nb:Near)(r:List (Option Place)):List (Option Place):=(List.range nb.length).map fun v=>match r.getD v none with
  |some p=>some p
  |none=>((nb.getD v []).find? fun u=>(r.getD u none).isSome).bind fun u=>(r.getD u none).map fun p=>{root:=p.root,parent:=some u}
theorem spread_succ(nb:Near)(k:Nat)(r:List (Option Place)):spread nb (k+1) r=spread nb k (round nb r):=rfl
theorem JK{nb:Near}{r:List (Option Place)}{v:Nat}(hv:v<nb.length):Rd (round nb r) v=match Rd r v with
  |some p=>some p
  |none=>((Nb nb v).find? fun u=>(Rd r u).isSome).bind fun u=>(Rd r u).map fun p=>{root:=p.root,parent:=some u}:=by
 unfold round Rd;simp[List.getD_eq_getElem?_getD,hv]
theorem rd_lt{nb:Near}{r:List (Option Place)}{v:Nat}(hl:r.length=nb.length)(h:(Rd r v).isSome=true):v<nb.length:=by
 rw[<-hl];apply Classical.byContradiction;intro hn;have:Rd r v=none:=by
  unfold Rd;rw[List.getD_eq_getElem?_getD,List.getElem?_eq_none (by omega)];rfl
 rw[this] at h;cases h
theorem find_least{l:List Nat}(hs:l.Pairwise (·< ·)){p:Nat->Bool}{q:Nat}(h:l.find? p=some q): ∀w,w∈l->p w=true->q<=w:=by
 induction l with
 |nil=>simp at h
 |cons a l ih=>
  intro w hw hp;rw[List.pairwise_cons] at hs;by_cases ha:p a=true
  ·rw[List.find?_cons_of_pos ha] at h;cases h;rcases List.mem_cons.mp hw with e|e
   ·omega
   ·have:=hs.1 w e;omega
  ·rw[List.find?_cons_of_neg ha] at h;rcases List.mem_cons.mp hw with e|e
   ·subst e;exact absurd hp ha
   ·exact ih hs.2 h w e hp
theorem Grow.round{nb:Near}(ok:NbOk nb){r0:List (Option Place)}(cl:Closed nb r0){root k:Nat}{r:List (Option Place)}{D:Nat->Nat}(g:Grow nb r0 root k r D):
  ∃D',Grow nb r0 root (k+1) (GW.round nb r) D':=by
 have rl:(GW.round nb r).length=nb.length:=by simp[GW.round]
 have keep: ∀v p,Rd r v=some p->Rd (GW.round nb r) v=some p:=fun v p e=>by
  rw[JK (rd_lt g.len (by rw[e];rfl)),e]
 have keepS: ∀v,(Rd r v).isSome=true->(Rd (GW.round nb r) v).isSome=true:=fun v e=>by
  obtain⟨p,hp⟩:=Option.isSome_iff_exists.mp e;rw[keep v p hp];rfl
 have fresh: ∀v p,Rd r v=none->Rd (GW.round nb r) v=some p->v<nb.length/\∃q pq,(Nb nb v).find? (fun u=>(Rd r u).isSome)=some q/\Rd r q=some pq/\p={root:=pq.root,parent:=some q}:=fun v p e h=>by
  have hv:=rd_lt rl (v:=v) (by rw[h];rfl);rw[JK hv,e] at h;refine⟨hv,?_⟩;simp only[] at h;cases e1:(Nb nb v).find? (fun u=>(Rd r u).isSome) with
  |none=>rw[e1] at h;cases h
  |some q=>
   rw[e1] at h;have h:(Rd r q).map (fun p=>({root:=p.root,parent:=some q}:Place))=some p:=h;cases e2:Rd r q with
   |none=>rw[e2] at h;cases h
   |some pq=>
    rw[e2] at h;have h:some ({root:=pq.root,parent:=some q}:Place)=some p:=h;exact⟨q,pq,rfl,e2,(Option.some.inj h).symm⟩
 have nbk: ∀v w,Rd r v=none->w∈Nb nb v->(Rd r w).isSome=true->Rd r0 w=none/\D w=k:=fun v w e m h=>by
  have n0:Rd r0 w=none:=by
   cases e0:Rd r0 w with
   |none=>rfl
   |some p=>
    have h1:=cl w v (ok.sym v w m) (by rw[e0];rfl);have h2:=g.old v h1;rw[e] at h2;rw[<-h2] at h1;cases h1
  refine⟨n0,?_⟩;obtain⟨p,hp⟩:=Option.isSome_iff_exists.mp h;obtain⟨_,_,h3,_⟩:=g.new w p n0 hp;rcases Nat.lt_or_ge (D w) k with h4|h4
  ·have:=g.full w n0 h h4 v (ok.sym v w m);rw[e] at this;cases this
  ·omega
 have old0: ∀v,(Rd r0 v).isSome=true->(Rd r v).isSome=true:=fun v h=>by rw[g.old v h];exact h
 obtain⟨D',hD1,hD2⟩: ∃D':Nat->Nat,(∀v,(Rd r v).isSome=true->D' v=D v)/\∀v,Rd r v=none->D' v=k+1:=
  ⟨fun v=>if(Rd r v).isSome=true then D v else k+1,fun v h=>if_pos h,fun v h=>if_neg (by rw[h];simp)⟩
 have dec: ∀v,(Rd r v).isSome=true∨Rd r v=none:=fun v=>by
  cases Rd r v with
  |none=>exact .inr rfl
  |some p=>exact .inl rfl
 refine⟨D',⟨rl,?_,?_,?_,?_,?_⟩⟩
 ·intro v h;have e:=g.old v h;obtain⟨p,hp⟩:=Option.isSome_iff_exists.mp h;rw[hp] at e;rw[keep v p e,hp]
 ·intro v p e0 h;rcases dec v with hs|e
  ·obtain⟨p',e⟩:=Option.isSome_iff_exists.mp hs;have e1:=keep v p' e;rw[h] at e1;obtain rfl:p=p':=Option.some.inj e1;obtain⟨h1,h2,h3,h4,h5⟩:=g.new v p e0 e;rw[hD1 v hs];refine⟨h1,h2,by omega,h4,?_⟩;cases hpar:p.parent with
   |none=>rw[hpar] at h5;exact h5
   |some q=>
    rw[hpar] at h5;obtain⟨a1,a2,a3,a4,a5⟩:=h5;refine⟨a1,a2,keepS q a3,by rw[hD1 q a3];exact a4,fun w hw hs' hd=> ?_⟩;rcases dec w with hw2|hw2
    ·rw[hD1 w hw2] at hd;exact a5 w hw hw2 hd
    ·rw[hD2 w hw2] at hd;omega
  ·obtain⟨hv,q,pq,f1,f2,rfl⟩:=fresh v p e h;have hq:q∈Nb nb v:=List.mem_of_find?_eq_some f1;have sq:(Rd r q).isSome=true:=by rw[f2];rfl
   obtain⟨n0,dk⟩:=nbk v q e hq sq;obtain⟨b1,b2,b3,b4,b5⟩:=g.new q pq n0 f2;rw[hD2 v e];refine⟨hv,b2,by omega,⟨fun z=>by omega,fun z=> ?_⟩,by omega,hq,keepS q sq,by rw[hD1 q sq];omega,fun w hw hs' hd=> ?_⟩
   ·subst z;have:=g.hasRoot.2;rw[e] at this;cases this
   ·rcases dec w with hw2|hw2
    ·exact find_least (ok.srt v) f1 w hw hw2
    ·rw[hD2 w hw2] at hd;omega
 ·exact⟨g.hasRoot.1,keepS _ g.hasRoot.2⟩
 ·intro v e0 hs hd w hw;rcases dec v with hv|hv
  ·rw[hD1 v hv] at hd;rcases dec w with hw2|hn
   ·exact keepS w hw2
   ·
    have hwl:=ok.lt v w hw;rw[JK hwl,hn];show(((Nb nb w).find? fun u=>(Rd r u).isSome).bind _).isSome=true;cases e1:(Nb nb w).find? (fun u=>(Rd r u).isSome) with
    |none=>
     have:=List.find?_eq_none.mp e1 v (ok.sym v w hw);exact absurd hv this
    |some q=>
     have sq:(Rd r q).isSome=true:=List.find?_some (p:=fun u=>(Rd r u).isSome) e1;obtain⟨pq,hpq⟩:=Option.isSome_iff_exists.mp sq;show((Rd r q).map _).isSome=true;rw[hpq];rfl
  ·rw[hD2 v hv] at hd;omega
 ·intro v w e0 hs hw hs2;rcases dec v with hv|hv
  ·rcases dec w with hw2|hn
   ·rw[hD1 v hv,hD1 w hw2];exact g.step v w e0 hv hw hw2
   ·have:=(nbk w v hn (ok.sym v w hw) hv).2;rw[hD1 v hv,hD2 w hn];omega
  ·rw[hD2 v hv];rcases dec w with hw2|hn
   ·have:=(nbk v w hv hw hw2).2;rw[hD1 w hw2];omega
   ·rw[hD2 w hn];omega
theorem Grow.levels{nb:Near}{r0:List (Option Place)}{root k:Nat}{r:List (Option Place)}{D:Nat->Nat}(g:Grow nb r0 root k r D)(cl:Closed nb r0)(ok:NbOk nb):
  ∀(j v:Nat),Rd r0 v=none->(Rd r v).isSome=true->D v=j->∃l:List Nat,l.length=j+1/\l.Nodup/\∀x,x∈l->x<nb.length/\D x<=j
 |0,v,e0,hs,h=>⟨[v],rfl,by simp,fun x hx=>by
   obtain rfl:x=v:=by simpa using hx
   exact⟨rd_lt g.len hs,by omega⟩⟩
 |j+1,v,e0,hs,h=>by
  obtain⟨p,hp⟩:=Option.isSome_iff_exists.mp hs;obtain⟨h1,h2,h3,h4,h5⟩:=g.new v p e0 hp;cases hpar:p.parent with
  |none=>rw[hpar] at h5;omega
  |some q=>
   rw[hpar] at h5;obtain⟨a1,a2,a3,a4,a5⟩:=h5;have n0:Rd r0 q=none:=by
    cases e:Rd r0 q with
    |none=>rfl
    |some pq=>
     have:=cl q v (ok.sym v q a2) (by rw[e];rfl);rw[e0] at this;cases this
   obtain⟨l,l1,l2,l3⟩:=Grow.levels g cl ok j q n0 a3 (by omega);refine⟨v::l,by simp[l1],List.nodup_cons.mpr ⟨fun m=> ?_,l2⟩,fun x hx=> ?_⟩
   ·have:=(l3 v m).2;omega
   ·rcases List.mem_cons.mp hx with e|e
    ·subst e;exact⟨h1,by omega⟩
    ·have:=l3 x e;exact⟨this.1,by omega⟩
theorem Grow.depth_lt{nb:Near}{r0:List (Option Place)}{root k:Nat}{r:List (Option Place)}{D:Nat->Nat}(g:Grow nb r0 root k r D)(cl:Closed nb r0)(ok:NbOk nb){v:Nat}(e0:Rd r0 v=none)(hs:(Rd r v).isSome=true):D v<nb.length:=by
 obtain⟨l,l1,l2,l3⟩:=g.levels cl ok _ v e0 hs rfl;have:=pigeon l2 fun x hx=>(l3 x hx).1;omega
theorem Grow.spread{nb:Near}(ok:NbOk nb){r0:List (Option Place)}(cl:Closed nb r0){root:Nat}: ∀(j k:Nat) {r:List (Option Place)} {D:Nat->Nat},Grow nb r0 root k r D->∃D',Grow nb r0 root (k+j) (Vblcas.spread nb j r) D'
 |0,k,r,D,g=>⟨D,g⟩
 |j+1,k,r,D,g=>by
  obtain⟨D1,g1⟩:=g.round ok cl;obtain⟨D2,g2⟩:=Grow.spread ok cl j (k+1) g1;refine⟨D2,?_⟩;rw[spread_succ];have e:k+(j+1)=k+1+j:=by omega
  rw[e];exact g2
structure Part(nb:Near)(m:Nat)(r:List (Option Place))(R D:Nat->Nat):Prop where
 len:r.length=nb.length
 cl:Closed nb r
 all: ∀v,v<m->v<nb.length->(Rd r v).isSome=true
 at_: ∀v p,Rd r v=some p->v<nb.length/\p.root=R v/\IsPar nb D v p.parent/\R v<=v/\(D v=0↔R v=v)
 edge: ∀v w,(Rd r v).isSome=true->w∈Nb nb v->R w=R v/\D w<=D v+1
theorem Part.start(nb:Near):Part nb 0 (List.replicate nb.length none) (fun v=>v) (fun _=>0):=by
 have none_at: ∀v,Rd (List.replicate nb.length none) v=none:=fun v=>by
  unfold Rd;rw[List.getD_eq_getElem?_getD,List.getElem?_replicate];split<;>rfl
 refine⟨by simp,fun v w _ h=> ?_,fun v h _=>by omega,fun v p h=> ?_,fun v w h=> ?_⟩
 ·rw[none_at] at h;cases h
 ·rw[none_at] at h;cases h
 ·rw[none_at] at h;cases h
theorem Part.step{nb:Near}(ok:NbOk nb){m:Nat}(hm:m<nb.length){r:List (Option Place)}{R D:Nat->Nat}(P:Part nb m r R D):
  ∃R' D',Part nb (m+1) (if(r.getD m none).isSome=true then r else Vblcas.spread nb nb.length (r.set m (some {root:=m,parent:=none}))) R' D':=by
 by_cases hs:(Rd r m).isSome=true
 ·refine⟨R,D,?_⟩;rw[if_pos hs];refine⟨P.len,P.cl,fun v h1 h2=> ?_,P.at_,P.edge⟩;by_cases e:v=m
  ·subst e;exact hs
  ·exact P.all v (by omega) h2
 ·rw[if_neg hs];have hn:Rd r m=none:=by
   cases e:Rd r m with
   |none=>rfl
   |some p=>rw[e] at hs;exact absurd rfl hs
  have set_at: ∀v,Rd (r.set m (some {root:=m,parent:=none})) v=if v=m then some {root:=m,parent:=none} else Rd r v:=fun v=>by
   unfold Rd;rw[List.getD_eq_getElem?_getD,List.getD_eq_getElem?_getD,List.getElem?_set];by_cases e:m=v
   ·subst e;rw[if_pos rfl,if_pos (by rw[P.len];exact hm),if_pos rfl];rfl
   ·rw[if_neg e,if_neg (fun z=>e z.symm)]
  have g0:Grow nb r m 0 (r.set m (some {root:=m,parent:=none})) (fun _=>0):=by
   refine⟨by rw[List.length_set,P.len],fun v h=> ?_,fun v p e0 h=> ?_,⟨hn,by rw[set_at,if_pos rfl];rfl⟩,fun v _ _ h=>by omega,fun v w _ _ _ _=>by omega⟩
   ·rw[set_at,if_neg (fun e=>by subst e;rw[hn] at h;cases h)]
   ·rw[set_at] at h;by_cases e:v=m
    ·subst e;rw[if_pos rfl] at h;cases h;exact⟨hm,rfl,Nat.le_refl _,⟨fun _=>rfl,fun _=>rfl⟩,rfl⟩
    ·rw[if_neg e,e0] at h;cases h
  obtain⟨D2,g⟩:=Grow.spread ok P.cl nb.length 0 g0;rw[Nat.zero_add] at g;generalize Vblcas.spread nb nb.length (r.set m (some {root:=m,parent:=none}))=r2 at g;have dec: ∀(q:List (Option Place)) v,(Rd q v).isSome=true∨Rd q v=none:=fun q v=>by
   cases Rd q v with
   |none=>exact .inr rfl
   |some p=>exact .inl rfl
  have nbnew: ∀v w,Rd r v=none->w∈Nb nb v->Rd r w=none:=fun v w e h=>by
   rcases dec r w with z|z
   ·have:=P.cl w v (ok.sym v w h) z;rw[e] at this;cases this
   ·exact z
  have full: ∀v w,Rd r v=none->(Rd r2 v).isSome=true->w∈Nb nb v->(Rd r2 w).isSome=true:=fun v w e h hw=>g.full v e h (g.depth_lt P.cl ok e h) w hw;obtain⟨R',hR1,hR2⟩: ∃R':Nat->Nat,(∀v,(Rd r v).isSome=true->R' v=R v)/\∀v,Rd r v=none->R' v=m:=
   ⟨fun v=>if(Rd r v).isSome=true then R v else m,fun v h=>if_pos h,fun v h=>if_neg (by rw[h];simp)⟩
  obtain⟨D',hD1,hD2⟩: ∃D':Nat->Nat,(∀v,(Rd r v).isSome=true->D' v=D v)/\∀v,Rd r v=none->D' v=D2 v:=
   ⟨fun v=>if(Rd r v).isSome=true then D v else D2 v,fun v h=>if_pos h,fun v h=>if_neg (by rw[h];simp)⟩
  refine⟨R',D',⟨g.len,fun v w hw h=> ?_,fun v h1 h2=> ?_,fun v p h=> ?_,fun v w h hw=> ?_⟩⟩
  ·rcases dec r v with z|z
   ·have:=P.cl v w hw z;rw[g.old w this];exact this
   ·exact full v w z h hw
  ·by_cases e:v=m
   ·subst e;exact g.hasRoot.2
   ·have:=P.all v (by omega) h2;rw[g.old v this];exact this
  ·rcases dec r v with z|z
   ·rw[g.old v z] at h;obtain⟨h1,h2,h3,h4,h5⟩:=P.at_ v p h;rw[hR1 v z,hD1 v z];refine⟨h1,h2,?_,h4,h5⟩;cases hpar:p.parent with
    |none=>rw[hpar] at h3;show D' v=0;rw[hD1 v z];exact h3
    |some q=>
     rw[hpar] at h3;obtain⟨a1,a2,a3,a4⟩:=h3;have zz: ∀w,w∈Nb nb v->D' w=D w:=fun w hw=>hD1 w (P.cl v w hw z);refine⟨by rw[hD1 v z];exact a1,a2,by rw[hD1 v z,zz q a2];exact a3,fun w hw hd=>a4 w hw ?_⟩;rw[hD1 v z,zz w hw] at hd;exact hd
   ·obtain⟨h1,h2,h3,h4,h5⟩:=g.new v p z h;have hs2:(Rd r2 v).isSome=true:=by rw[h];rfl
    rw[hR2 v z,hD2 v z];have mle:m<=v:=by
     rcases Nat.lt_or_ge v m with q|q
     ·have:=P.all v q h1;rw[z] at this;cases this
     ·exact q
    refine⟨h1,h2,?_,mle,⟨fun q=>(h4.mp q).symm,fun q=>h4.mpr q.symm⟩⟩;have zz: ∀w,w∈Nb nb v->D' w=D2 w:=fun w hw=>hD2 w (nbnew v w z hw);cases hpar:p.parent with
    |none=>rw[hpar] at h5;show D' v=0;rw[hD2 v z];exact h5
    |some q=>
     rw[hpar] at h5;obtain⟨a1,a2,a3,a4,a5⟩:=h5;refine⟨by rw[hD2 v z];exact a1,a2,by rw[hD2 v z,zz q a2];exact a4,fun w hw hd=>a5 w hw (full v w z hs2 hw) ?_⟩;rw[hD2 v z,zz w hw] at hd;exact hd
  ·rcases dec r v with z|z
   ·have zw:=P.cl v w hw z;rw[hR1 v z,hR1 w zw,hD1 v z,hD1 w zw];exact P.edge v w z hw
   ·have zw:=nbnew v w z hw;rw[hR2 v z,hR2 w zw,hD2 v z,hD2 w zw];exact⟨rfl,g.step v w z h hw (full v w z h hw)⟩
theorem Part.fold{nb:Near}(ok:NbOk nb): ∀(m:Nat),m<=nb.length->∃R D,Part nb m ((List.range m).foldl (fun r v=>if(r.getD v none).isSome=true then r else Vblcas.spread nb nb.length (r.set v (some {root:=v,parent:=none}))) (List.replicate nb.length none)) R D
 |0,_=>⟨_,_,Part.start nb⟩
 |m+1,h=>by
  obtain⟨R,D,P⟩:=Part.fold ok m (by omega);rw[List.range_succ,List.foldl_append];exact P.step ok (by omega)
theorem jV{nb:Near}(ok:NbOk nb): ∃R D,Cert nb R D/\(forest nb).length=nb.length/\∀v,v<nb.length->∃p,(forest nb)[v]? =some p/\p.root=R v/\IsPar nb D v p.parent:=by
 obtain⟨R,D,P⟩:=Part.fold ok nb.length (Nat.le_refl _);unfold forest;generalize (List.range nb.length).foldl (fun r v=>if(r.getD v none).isSome=true then r else Vblcas.spread nb nb.length (r.set v (some {root:=v,parent:=none}))) (List.replicate nb.length none)=r at P;have get: ∀v,v<nb.length->∃p,Rd r v=some p/\r[v]? =some (some p):=fun v hv=>by
  obtain⟨p,hp⟩:=Option.isSome_iff_exists.mp (P.all v hv hv);refine⟨p,hp,?_⟩;unfold Rd at hp;rw[List.getD_eq_getElem?_getD] at hp;rw[List.getElem?_eq_getElem (by rw[P.len];exact hv)] at hp ⊢;exact congrArg some hp
 refine⟨R,D,⟨fun v hv=> ?_,fun v u hu=> ?_,fun v hv=> ?_,fun v u hu=> ?_,fun v hv hd=> ?_⟩,by rw[List.length_map,P.len],fun v hv=> ?_⟩
 ·obtain⟨p,hp,_⟩:=get v hv;exact(P.at_ v p hp).2.2.2.1
 ·have hv:=ok.ltL hu;exact(P.edge v u (P.all v hv hv) hu).1
 ·obtain⟨p,hp,_⟩:=get v hv;exact(P.at_ v p hp).2.2.2.2
 ·have hv:=ok.ltL hu;exact(P.edge v u (P.all v hv hv) hu).2
 ·obtain⟨p,hp,_⟩:=get v hv;have h:=(P.at_ v p hp).2.2.1;cases hpar:p.parent with
  |none=>rw[hpar] at h;exact absurd h hd
  |some q=>
   rw[hpar] at h;exact⟨q,h.2.1,h.2.2.1⟩
 ·obtain⟨p,hp,hg⟩:=get v hv;refine⟨p,?_,(P.at_ v p hp).2.1.symm ▸ rfl,(P.at_ v p hp).2.2.1⟩;rw[List.getElem?_map,hg];rfl
abbrev Dd(ds:List (Option Nat))(v:Nat):Option Nat:=ds.getD v none
abbrev dep(ds:List (Option Nat))(v:Nat):Nat:=(Dd ds v).getD 0
theorem dd_set{ds:List (Option Nat)}{w:Nat}{x:Option Nat}(hw:w<ds.length)(v:Nat):Dd (ds.set w x) v=if v=w then x else Dd ds v:=by
 unfold Dd;rw[List.getD_eq_getElem?_getD,List.getD_eq_getElem?_getD,List.getElem?_set];by_cases e:w=v
 ·subst e;rw[if_pos rfl,if_pos hw,if_pos rfl];rfl
 ·rw[if_neg e,if_neg (fun z=>e z.symm)]
theorem dd_lt{ds:List (Option Nat)}{v:Nat}(h:(Dd ds v).isSome=true):v<ds.length:=by
 apply Classical.byContradiction;intro hn;have:Dd ds v=none:=by
  unfold Dd;rw[List.getD_eq_getElem?_getD,List.getElem?_eq_none (by omega)];rfl
 rw[this] at h;cases h
theorem jG(q:List (Option Nat))(v:Nat):(Dd q v).isSome=true∨Dd q v=none:=by
 cases Dd q v with
 |none=>exact .inr rfl
 |some p=>exact .inl rfl
def ClosedD(nb:Near)(ds:List (Option Nat)):Prop:=∀v w,w∈Nb nb v->(Dd ds v).isSome=true->(Dd ds w).isSome=true
structure Bfs(nb:Near)(d0:List (Option Nat))(root:Nat)(ds:List (Option Nat))(found:List Nat)(place:Nat):Prop where
 len:ds.length=nb.length
 old: ∀v,(Dd d0 v).isSome=true->Dd ds v=Dd d0 v
 fnd: ∀v,v∈found↔Dd d0 v=none/\(Dd ds v).isSome=true
 nd:found.Nodup
 rt:root∈found
 zero: ∀v,v∈found->(dep ds v=0↔v=root)
 mono: ∀(i j:Nat) (a b:Nat),i<=j->found[i]? =some a->found[j]? =some b->dep ds a<=dep ds b
 win: ∀(j:Nat) (a b:Nat),found[place]? =some a->found[j]? =some b->dep ds b<=dep ds a+1
 done: ∀(i:Nat) (a:Nat),i<place->found[i]? =some a->∀w,w∈Nb nb a->(Dd ds w).isSome=true/\dep ds w<=dep ds a+1
 par: ∀v,v∈found->dep ds v≠0->∃u,u∈Nb nb v/\u∈found/\dep ds u+1=dep ds v
 ple:place<=found.length
theorem Bfs.start{nb:Near}{d0:List (Option Nat)}(hl:d0.length=nb.length){root:Nat}(hr:root<nb.length)(hn:Dd d0 root=none):Bfs nb d0 root (d0.set root (some 0)) [root] 0:=by
 have e: ∀v,Dd (d0.set root (some 0)) v=if v=root then some 0 else Dd d0 v:=dd_set (by omega)
 refine⟨by rw[List.length_set,hl],fun v h=> ?_,fun v=>⟨fun h=> ?_,fun h=> ?_⟩,by simp,by simp,fun v h=> ?_,fun i j a b _ h1 h2=> ?_,fun j a b h1 h2=> ?_,fun i a h=>by omega,fun v h hd=> ?_,by simp⟩
 ·rw[e,if_neg (fun z=>by subst z;rw[hn] at h;cases h)]
 ·obtain rfl:v=root:=by simpa using h
  exact⟨hn,by rw[e,if_pos rfl];rfl⟩
 ·rw[e] at h;by_cases z:v=root
  ·simp[z]
  ·rw[if_neg z] at h;obtain⟨h1,h2⟩:=h;rw[h1] at h2;cases h2
 ·obtain rfl:v=root:=by simpa using h
  refine⟨fun _=>rfl,fun _=> ?_⟩;unfold dep;rw[e,if_pos rfl];rfl
 ·have m1:a∈[root]:=List.mem_of_getElem? h1;have m2:b∈[root]:=List.mem_of_getElem? h2;obtain rfl:a=root:=by simpa using m1
  obtain rfl:b=a:=by simpa using m2
  exact Nat.le_refl _
 ·have m1:a∈[root]:=List.mem_of_getElem? h1;have m2:b∈[root]:=List.mem_of_getElem? h2;obtain rfl:a=root:=by simpa using m1
  obtain rfl:b=a:=by simpa using m2
  exact Nat.le_succ _
 ·obtain rfl:v=root:=by simpa using h
  refine absurd ?_ hd;unfold dep;rw[e,if_pos rfl];rfl
theorem Bfs.lt{nb:Near}{d0:List (Option Nat)}{root:Nat}{ds:List (Option Nat)}{found:List Nat}{place:Nat}(b:Bfs nb d0 root ds found place){v:Nat}(h:v∈found):v<nb.length:=by
 rw[<-b.len];exact dd_lt ((b.fnd v).mp h).2
theorem Bfs.small{nb:Near}{d0:List (Option Nat)}{root:Nat}{ds:List (Option Nat)}{found:List Nat}{place:Nat}(b:Bfs nb d0 root ds found place):found.length<=nb.length:=
 pigeon b.nd fun _ h=>b.lt h
theorem Bfs.reach{nb:Near}(ok:NbOk nb){d0:List (Option Nat)}(cl:ClosedD nb d0){root:Nat}{ds:List (Option Nat)}{found:List Nat}{place:Nat}(b:Bfs nb d0 root ds found place){a w:Nat}
  (ha:found[place]? =some a)(hw:w∈Nb nb a)(hn:Dd ds w=none):Bfs nb d0 root (ds.set w (some (dep ds a+1))) (found++[w]) place:=by
 have hwl:w<ds.length:=by rw[b.len];exact ok.lt a w hw
 have e:=dd_set (x:=some (dep ds a+1)) hwl;have n0:Dd d0 w=none:=by
  rcases jG d0 w with z|z
  ·have:=b.old w z;rw[hn] at this;rw[<-this] at z;cases z
  ·exact z
 have wn:w∉found:=fun m=>by
  have:=((b.fnd w).mp m).2;rw[hn] at this;cases this
 have am:a∈found:=List.mem_of_getElem? ha;have same: ∀v,v∈found->dep (ds.set w (some (dep ds a+1))) v=dep ds v:=fun v m=>by
  unfold dep;rw[e,if_neg (fun z=>by subst z;exact wn m)]
 have sameS: ∀v,(Dd ds v).isSome=true->(Dd (ds.set w (some (dep ds a+1))) v).isSome=true/\dep (ds.set w (some (dep ds a+1))) v=dep ds v:=fun v h=>by
  have:v≠w:=fun z=>by subst z;rw[hn] at h;cases h
  unfold dep;rw[e,if_neg this];exact⟨h,rfl⟩
 have dw:dep (ds.set w (some (dep ds a+1))) w=dep ds a+1:=by
  unfold dep;rw[e,if_pos rfl];rfl
 have plt:place<found.length:=(List.getElem?_eq_some_iff.mp ha).1;have item: ∀j c,(found++[w])[j]? =some c->(found[j]? =some c/\c∈found)∨(j=found.length/\c=w):=fun j c h=>by
  rcases Nat.lt_or_ge j found.length with q|q
  ·rw[List.getElem?_append_left q] at h;exact .inl ⟨h,List.mem_of_getElem? h⟩
  ·rw[List.getElem?_append_right q] at h;have hj:j - found.length=0:=by
    have:=(List.getElem?_eq_some_iff.mp h).1;simp at this;omega
   rw[hj] at h;have:w=c:=by simpa using h
   exact .inr ⟨by omega,this.symm⟩
 refine⟨by rw[List.length_set,b.len],fun v h=> ?_,fun v=>⟨fun h=> ?_,fun h=> ?_⟩,?_,List.mem_append_left _ b.rt,fun v h=> ?_,fun i j x y hij h1 h2=> ?_,fun j x y h1 h2=> ?_,fun i x hi h1 u hu=> ?_,fun v h hd=> ?_,?_⟩
 ·rw[e,if_neg (fun z=>by subst z;rw[n0] at h;cases h)];exact b.old v h
 ·rcases List.mem_append.mp h with m|m
  ·have:=(b.fnd v).mp m;exact⟨this.1,(sameS v this.2).1⟩
  ·obtain rfl:v=w:=by simpa using m
   exact⟨n0,by rw[e,if_pos rfl];rfl⟩
 ·by_cases z:v=w
  ·subst z;simp
  ·rw[e,if_neg z] at h;exact List.mem_append_left _ ((b.fnd v).mpr h)
 ·rw[List.nodup_append];refine⟨b.nd,by simp,fun x hx y hy z=> ?_⟩;have hy':y=w:=by simpa using hy
  rw[z,hy'] at hx;exact wn hx
 ·rcases List.mem_append.mp h with m|m
  ·rw[same v m];exact b.zero v m
  ·obtain rfl:v=w:=by simpa using m
   rw[dw];refine⟨fun z=>by omega,fun z=> ?_⟩;subst z;exact absurd b.rt wn
 ·rcases item i x h1 with⟨a1,a2⟩|⟨a1,a2⟩
  ·rcases item j y h2 with⟨b1,b2⟩|⟨b1,b2⟩
   ·rw[same x a2,same y b2];exact b.mono i j x y hij a1 b1
   ·subst b2;rw[same x a2,dw];exact b.win i a x ha a1
  ·rcases item j y h2 with⟨b1,b2⟩|⟨b1,b2⟩
   ·have:=(List.getElem?_eq_some_iff.mp b1).1;omega
   ·subst a2 b2;exact Nat.le_refl _
 ·have hx:found[place]? =some x:=by rwa [List.getElem?_append_left plt] at h1
  obtain rfl:a=x:=by rw[ha] at hx;exact Option.some.inj hx
  rw[same a am];rcases item j y h2 with⟨b1,b2⟩|⟨b1,b2⟩
  ·rw[same y b2];exact b.win j a y ha b1
  ·subst b2;rw[dw];exact Nat.le_refl _
 ·have hx:found[i]? =some x:=by rwa [List.getElem?_append_left (by omega)] at h1
  obtain⟨q1,q2⟩:=b.done i x hi hx u hu;obtain⟨s1,s2⟩:=sameS u q1;rw[s2,same x (List.mem_of_getElem? hx)];exact⟨s1,q2⟩
 ·rcases List.mem_append.mp h with m|m
  ·rw[same v m] at hd;obtain⟨u,u1,u2,u3⟩:=b.par v m hd;exact⟨u,u1,List.mem_append_left _ u2,by rw[same u u2,same v m];exact u3⟩
  ·obtain rfl:v=w:=by simpa using m
   exact⟨a,ok.sym a v hw,List.mem_append_left _ am,by rw[same a am,dw]⟩
 ·rw[List.length_append];omega
theorem Bfs.next{nb:Near}{d0:List (Option Nat)}{root:Nat}{ds:List (Option Nat)}{found:List Nat}{place:Nat}(b:Bfs nb d0 root ds found place)(ok:NbOk nb)(cl:ClosedD nb d0){a:Nat}
  (ha:found[place]? =some a)(hall: ∀w,w∈Nb nb a->(Dd ds w).isSome=true):Bfs nb d0 root ds found (place+1):=by
 have plt:place<found.length:=(List.getElem?_eq_some_iff.mp ha).1;have am:a∈found:=List.mem_of_getElem? ha;have a0:=((b.fnd a).mp am).1;refine⟨b.len,b.old,b.fnd,b.nd,b.rt,b.zero,b.mono,fun j x y h1 h2=> ?_,fun i x hi h1 w hw=> ?_,b.par,plt⟩
 ·have:=b.win j a y ha h2;have:=b.mono place (place+1) a x (by omega) ha h1;omega
 ·by_cases e:i=place
  ·subst e;obtain rfl:a=x:=by rw[ha] at h1;exact Option.some.inj h1
   have hs:=hall w hw;refine⟨hs,?_⟩;have w0:Dd d0 w=none:=by
    rcases jG d0 w with z|z
    ·have:=cl w a (ok.sym a w hw) z;rw[a0] at this;cases this
    ·exact z
   have wm:=(b.fnd w).mpr ⟨w0,hs⟩;obtain⟨j,hj⟩:=List.mem_iff_getElem?.mp wm;exact b.win j a w ha hj
  ·exact b.done i x (by omega) h1 w hw
structure DPart(nb:Near)(m:Nat)(ds:List (Option Nat))(R:Nat->Nat):Prop where
 len:ds.length=nb.length
 cl:ClosedD nb ds
 all: ∀v,v<m->v<nb.length->(Dd ds v).isSome=true
 at_: ∀v,(Dd ds v).isSome=true->R v<=v/\(dep ds v=0↔R v=v)/\(dep ds v≠0->∃u,u∈Nb nb v/\dep ds u+1=dep ds v)
 edge: ∀v w,(Dd ds v).isSome=true->w∈Nb nb v->R w=R v/\dep ds w<=dep ds v+1
theorem DPart.start(nb:Near):DPart nb 0 (List.replicate nb.length none) (fun v=>v):=by
 have none_at: ∀v,Dd (List.replicate nb.length none) v=none:=fun v=>by
  unfold Dd;rw[List.getD_eq_getElem?_getD,List.getElem?_replicate];split<;>rfl
 refine⟨by simp,fun v w _ h=> ?_,fun v h _=>by omega,fun v h=> ?_,fun v w h=> ?_⟩
 ·rw[none_at] at h;cases h
 ·rw[none_at] at h;cases h
 ·rw[none_at] at h;cases h
theorem DPart.skip{nb:Near}{m:Nat}{ds:List (Option Nat)}{R:Nat->Nat}(P:DPart nb m ds R)(h:(Dd ds m).isSome=true):DPart nb (m+1) ds R:=by
 refine⟨P.len,P.cl,fun v h1 h2=> ?_,P.at_,P.edge⟩;by_cases e:v=m
 ·subst e;exact h
 ·exact P.all v (by omega) h2
theorem DPart.grown{nb:Near}(ok:NbOk nb){m:Nat}{d0 ds:List (Option Nat)}{R:Nat->Nat}{found:List Nat}{place:Nat}(P:DPart nb m d0 R)(b:Bfs nb d0 m ds found place)(hp:found.length<=place): ∃R',DPart nb (m+1) ds R':=by
 have full: ∀v w,v∈found->w∈Nb nb v->(Dd ds w).isSome=true/\dep ds w<=dep ds v+1:=fun v w hv hw=>by
  obtain⟨j,hj⟩:=List.mem_iff_getElem?.mp hv;have:=(List.getElem?_eq_some_iff.mp hj).1;exact b.done j v (by omega) hj w hw
 have nbnew: ∀v w,v∈found->w∈Nb nb v->w∈found:=fun v w hv hw=>by
  have hs:=(full v w hv hw).1;rcases jG d0 w with z|z
  ·have:=P.cl w v (ok.sym v w hw) z;rw[((b.fnd v).mp hv).1] at this;cases this
  ·exact(b.fnd w).mpr ⟨z,hs⟩
 obtain⟨R',hR1,hR2⟩: ∃R':Nat->Nat,(∀v,(Dd d0 v).isSome=true->R' v=R v)/\∀v,Dd d0 v=none->R' v=m:=
  ⟨fun v=>if(Dd d0 v).isSome=true then R v else m,fun v h=>if_pos h,fun v h=>if_neg (by rw[h];simp)⟩
 have oldD: ∀v,(Dd d0 v).isSome=true->dep ds v=dep d0 v:=fun v h=>by unfold dep;rw[b.old v h]
 refine⟨R',⟨b.len,fun v w hw h=> ?_,fun v h1 h2=> ?_,fun v h=> ?_,fun v w h hw=> ?_⟩⟩
 ·rcases jG d0 v with z|z
  ·have:=P.cl v w hw z;rw[b.old w this];exact this
  ·exact(full v w ((b.fnd v).mpr ⟨z,h⟩) hw).1
 ·by_cases e:v=m
  ·subst e;exact((b.fnd v).mp b.rt).2
  ·have:=P.all v (by omega) h2;rw[b.old v this];exact this
 ·rcases jG d0 v with z|z
  ·obtain⟨h1,h2,h3⟩:=P.at_ v z;rw[hR1 v z,oldD v z];refine⟨h1,h2,fun hd=> ?_⟩;obtain⟨u,u1,u2⟩:=h3 hd;exact⟨u,u1,by rw[oldD u (P.cl v u u1 z)];exact u2⟩
  ·have hv:=(b.fnd v).mpr ⟨z,h⟩;rw[hR2 v z];have mle:m<=v:=by
    rcases Nat.lt_or_ge v m with q|q
    ·have:=P.all v q (b.lt hv);rw[z] at this;cases this
    ·exact q
   refine⟨mle,⟨fun q=>((b.zero v hv).mp q).symm,fun q=>(b.zero v hv).mpr q.symm⟩,fun hd=> ?_⟩;obtain⟨u,u1,_,u3⟩:=b.par v hv hd;exact⟨u,u1,u3⟩
 ·rcases jG d0 v with z|z
  ·have zw:=P.cl v w hw z;rw[hR1 v z,hR1 w zw,oldD v z,oldD w zw];exact P.edge v w z hw
  ·have hv:=(b.fnd v).mpr ⟨z,h⟩;have wv:=nbnew v w hv hw;rw[hR2 v z,hR2 w ((b.fnd w).mp wv).1];exact⟨rfl,(full v w hv hw).2⟩
theorem DPart.cert{nb:Near}(ok:NbOk nb){ds:List (Option Nat)}{R:Nat->Nat}(P:DPart nb nb.length ds R):Cert nb R (dep ds):=by
 have a: ∀v,v<nb.length->(Dd ds v).isSome=true:=fun v h=>P.all v h h;refine⟨fun v h=>(P.at_ v (a v h)).1,fun v u h=>(P.edge v u (a v (ok.ltL h)) h).1,fun v h=>(P.at_ v (a v h)).2.1,fun v u h=>(P.edge v u (a v (ok.ltL h)) h).2,fun v h hd=>(P.at_ v (a v h)).2.2 hd⟩
theorem Yi{nb:Near}(ok:NbOk nb){R D:Nat->Nat}(c:Cert nb R D){v:Nat}(hv:v<nb.length){p:Option Nat}(h:IsPar nb D v p):parentOf (forest nb) v=p/\rootOf (forest nb) v=R v:=by
 obtain⟨R',D',c',_,hf⟩:=jV ok;obtain⟨pl,e1,e2,e3⟩:=hf v hv;have dv:=c.uniqD ok c' hv;constructor
 ·unfold parentOf;rw[e1];show pl.parent=p;cases hp:pl.parent with
  |none=>
   rw[hp] at e3;have e3:D' v=0:=e3;cases p with
   |none=>rfl
   |some q=>exact absurd (by omega) h.1
  |some q'=>
   rw[hp] at e3;obtain⟨a1,a2,a3,a4⟩:=e3;cases p with
   |none=>
    have h:D v=0:=h;omega
   |some q=>
    obtain⟨b1,b2,b3,b4⟩:=h;have x1:=c.uniqD ok c' (ok.lt v q b2);have x2:=c.uniqD ok c' (ok.lt v q' a2);have y1:=a4 q b2 (by omega);have y2:=b4 q' a2 (by omega);have:q=q':=by omega
    rw[this]
 ·unfold rootOf;rw[e1];show pl.root=R v;rw[e2];exact(c.uniqR ok c' hv).symm
end GW
namespace ST
def iter{α:Type}(f:α->α):Nat->α->α
 |0,x=>x
 |n+1,x=>iter f n (f x)
theorem ZX{α:Type}(f:α->α): ∀(a b:Nat) (x:α),iter f (a+b) x=iter f b (iter f a x)
 |0,b,x=>by rw[Nat.zero_add];rfl
 |a+1,b,x=>by
  rw[show a+1+b=(a+b)+1 by omega];exact ZX f a b (f x)
theorem zu{α:Type}(f:α->α)(n:Nat)(x:α):iter f (n+1) x=f (iter f n x):=by
 rw[ZX f n 1];rfl
end ST
namespace GW
structure FCert(nb:Vblcas.Near)(R D:Nat->Nat):Prop where
 c:Cert nb R D
 len:(Vblcas.forest nb).length=nb.length
 par: ∀v,v<nb.length->IsPar nb D v (Vblcas.parentOf (Vblcas.forest nb) v)
 root: ∀v,v<nb.length->Vblcas.rootOf (Vblcas.forest nb) v=R v
theorem fcert{nb:Vblcas.Near}(ok:NbOk nb): ∃R D,FCert nb R D:=by
 obtain⟨R,D,c,hl,hf⟩:=jV ok;refine⟨R,D,c,hl,fun v hv=> ?_,fun v hv=> ?_⟩
 ·obtain⟨p,e1,e2,e3⟩:=hf v hv;unfold Vblcas.parentOf;rw[e1];exact e3
 ·obtain⟨p,e1,e2,e3⟩:=hf v hv;unfold Vblcas.rootOf;rw[e1];exact e2
theorem yt(x:Vblcas.Config): ∀(l:List Nat) (a b:Nat),Vblcas.sumAlong x (l++[a]++[b])=Vblcas.sumAlong x (l++[a])+Vblcas.lean (Vblcas.at_ x a) (Vblcas.at_ x b)
 |[],a,b=>by
  show Vblcas.lean _ _+0=0+Vblcas.lean _ _;omega
 |[c],a,b=>by
  show Vblcas.lean _ _+(Vblcas.lean _ _+0)=Vblcas.lean _ _+0+Vblcas.lean _ _;omega
 |c::d::l,a,b=>by
  have ih:=yt x (d::l) a b;show Vblcas.lean _ _+Vblcas.sumAlong x (d::l++[a]++[b])=Vblcas.lean _ _+Vblcas.sumAlong x (d::l++[a])+_;rw[ih];omega
def sAnc(f:Vblcas.Forest)(x:Vblcas.Config)(k v:Nat):Int:=Vblcas.sumAlong x (Vblcas.ancestors f k v).reverse
theorem anc_head(f:Vblcas.Forest)(k v:Nat): ∃l,Vblcas.ancestors f k v=v::l:=by
 cases k with
 |zero=>exact⟨[],rfl⟩
 |succ k=>
  unfold Vblcas.ancestors;cases Vblcas.parentOf f v with
  |none=>exact⟨[],rfl⟩
  |some u=>exact⟨_,rfl⟩
theorem yD{f:Vblcas.Forest}{x:Vblcas.Config}{v:Nat}(h:Vblcas.parentOf f v=none)(k:Nat):sAnc f x k v=0:=by
 unfold sAnc;cases k with
 |zero=>rfl
 |succ k=>
  unfold Vblcas.ancestors;rw[h];rfl
theorem Yt{f:Vblcas.Forest}{x:Vblcas.Config}{v u:Nat}(h:Vblcas.parentOf f v=some u)(k:Nat):sAnc f x (k+1) v=sAnc f x k u+Vblcas.lean (Vblcas.at_ x u) (Vblcas.at_ x v):=by
 unfold sAnc;have e:Vblcas.ancestors f (k+1) v=v::Vblcas.ancestors f k u:=by
  show(match Vblcas.parentOf f v with|none=>[v]|some u=>v::Vblcas.ancestors f k u)=_;rw[h]
 obtain⟨l,hl⟩:=anc_head f k u;rw[e,hl,List.reverse_cons,List.reverse_cons];exact yt x l.reverse u v
theorem FCert.stable{nb:Vblcas.Near}(ok:NbOk nb){R D:Nat->Nat}(F:FCert nb R D)(x:Vblcas.Config): ∀(k v:Nat),v<nb.length->D v<=k->sAnc (Vblcas.forest nb) x (k+1) v=sAnc (Vblcas.forest nb) x k v
 |0,v,hv,h=>by
  have hp:=F.par v hv;cases e:Vblcas.parentOf (Vblcas.forest nb) v with
  |none=>rw[yD e,yD e]
  |some u=>
   rw[e] at hp;exact absurd (by omega) hp.1
 |k+1,v,hv,h=>by
  have hp:=F.par v hv;cases e:Vblcas.parentOf (Vblcas.forest nb) v with
  |none=>rw[yD e,yD e]
  |some u=>
   rw[e] at hp;obtain⟨h1,h2,h3,_⟩:=hp;rw[Yt e,Yt e,FCert.stable ok F x k u (ok.lt v u h2) (by omega)]
theorem FCert.dlt{nb:Vblcas.Near}(ok:NbOk nb){R D:Nat->Nat}(F:FCert nb R D){v:Nat}(hv:v<nb.length):D v<nb.length:=by
 have lev: ∀(j v:Nat),v<nb.length->D v=j->∃l:List Nat,l.length=j+1/\l.Nodup/\∀x,x∈l->x<nb.length/\D x<=j:=by
  intro j;induction j with
  |zero=>
   intro v hv h;refine⟨[v],rfl,by simp,fun x hx=> ?_⟩;have e:x=v:=by simpa using hx
   rw[e];exact⟨hv,by omega⟩
  |succ j ih=>
   intro v hv h;obtain⟨u,hu,e⟩:=F.c.dn v hv (by omega);obtain⟨l,l1,l2,l3⟩:=ih u (ok.lt v u hu) (by omega);refine⟨v::l,by simp[l1],List.nodup_cons.mpr ⟨fun m=> ?_,l2⟩,fun x hx=> ?_⟩
   ·have:=(l3 v m).2;omega
   ·rcases List.mem_cons.mp hx with q|q
    ·subst q;exact⟨hv,by omega⟩
    ·have:=l3 x q;exact⟨this.1,by omega⟩
 obtain⟨l,l1,l2,l3⟩:=lev _ v hv rfl;have:=pigeon l2 fun x hx=>(l3 x hx).1;omega
abbrev hS(nb:Vblcas.Near)(x:Vblcas.Config)(v:Nat):Int:=Vblcas.height (Vblcas.forest nb) x v
theorem FCert.h_root{nb:Vblcas.Near}(ok:NbOk nb){R D:Nat->Nat}(F:FCert nb R D)(x:Vblcas.Config){v:Nat}(hv:v<nb.length)(h:Vblcas.parentOf (Vblcas.forest nb) v=none):hS nb x v=(Vblcas.at_ x v:Nat):=by
 have hp:=F.par v hv;rw[h] at hp;have hp:D v=0:=hp;have er:Vblcas.rootOf (Vblcas.forest nb) v=v:=by rw[F.root v hv];exact(F.c.d0 v hv).mp hp
 show(Vblcas.at_ x (Vblcas.rootOf (Vblcas.forest nb) v):Int)+sAnc _ x _ v=_;rw[yD h,er];omega
theorem FCert.h_step{nb:Vblcas.Near}(ok:NbOk nb){R D:Nat->Nat}(F:FCert nb R D)(x:Vblcas.Config){v u:Nat}(hv:v<nb.length)(h:Vblcas.parentOf (Vblcas.forest nb) v=some u):hS nb x v=hS nb x u+Vblcas.lean (Vblcas.at_ x u) (Vblcas.at_ x v):=by
 have hp:=F.par v hv;rw[h] at hp;obtain⟨h1,h2,h3,_⟩:=hp;have hu:=ok.lt v u h2;have er:Vblcas.rootOf (Vblcas.forest nb) v=Vblcas.rootOf (Vblcas.forest nb) u:=by rw[F.root v hv,F.root u hu];exact(F.c.redge v u h2).symm
 have hd:=F.dlt ok hv;obtain⟨m,hm⟩: ∃m,(Vblcas.forest nb).length=m+1:=⟨nb.length - 1,by rw[F.len];omega⟩;have hml:=F.len;show(Vblcas.at_ x (Vblcas.rootOf (Vblcas.forest nb) v):Int)+sAnc _ x (Vblcas.forest nb).length v=(Vblcas.at_ x (Vblcas.rootOf (Vblcas.forest nb) u):Int)+sAnc _ x (Vblcas.forest nb).length u+_;rw[er,hm,Yt h,F.stable ok x m u hu (by omega)];omega
def St3(x:List Nat):Prop:=∀s,s∈x->s<3
theorem St3.at{x:List Nat}(h:St3 x)(v:Nat):Vblcas.at_ x v<3:=by
 unfold Vblcas.at_;rw[List.getD_eq_getElem?_getD];cases e:x[v]? with
 |none=>decide
 |some s=>exact h s (List.mem_of_getElem? e)
theorem zR{α:Type}{n i:Nat}(f:Nat->α)(h:i<n):((List.range n).map f)[i]? =some (f i):=by
 rw[List.getElem?_map,List.getElem?_range h];rfl
open Vblcas
theorem adj_comm(g:Graph)(a b:Nat):g.adjacent a b=g.adjacent b a:=by
 unfold Graph.adjacent;rw[Nat.min_comm,Nat.max_comm]
theorem zf(g:Graph):g.near.length=g.n:=by
 unfold Graph.near;rw[List.length_map,List.length_range]
theorem nb_near(g:Graph){v:Nat}(h:v<g.n):Nb g.near v=g.neighbours v:=by
 unfold Nb Graph.near;rw[List.getD_eq_getElem?_getD,List.getElem?_map,List.getElem?_range h];rfl
theorem nb_out(g:Graph){v:Nat}(h: ¬v<g.n):Nb g.near v=[]:=by
 unfold Nb;rw[List.getD_eq_getElem?_getD,List.getElem?_eq_none (by rw[zf];omega)];rfl
theorem ZM{g:Graph}{v u:Nat}:u∈Nb g.near v↔v<g.n/\u<g.n/\g.adjacent v u=true:=by
 by_cases h:v<g.n
 ·rw[nb_near g h];unfold Graph.neighbours;rw[List.mem_filter,List.mem_range];exact⟨fun q=>⟨h,q⟩,fun q=>q.2⟩
 ·rw[nb_out g h];exact⟨fun q=>(by cases q),fun q=>absurd q.1 h⟩
theorem nbOk(g:Graph):NbOk g.near:=by
 refine⟨fun v u h=> ?_,fun v u h=> ?_,fun v=> ?_⟩
 ·rw[zf];exact(ZM.mp h).2.1
 ·obtain⟨h1,h2,h3⟩:=ZM.mp h;exact ZM.mpr ⟨h2,h1,by rw[adj_comm];exact h3⟩
 ·by_cases h:v<g.n
  ·rw[nb_near g h];exact List.Pairwise.filter _ List.pairwise_lt_range
  ·rw[nb_out g h];exact List.Pairwise.nil
structure EOk(g:Graph):Prop where
 lt: ∀e,e∈g.edges->e.1<e.2/\e.2<g.n
def lexLt2(a b:Nat×Nat):Prop:=a.1<b.1∨(a.1=b.1/\a.2<b.2)
theorem Ye{a b:Nat×Nat}:lessPair a b=true↔lexLt2 a b:=by
 unfold lessPair lexLt2;rw[Bool.or_eq_true,Bool.and_eq_true,decide_eq_true_eq,decide_eq_true_eq,beq_iff_eq]
theorem yK(p:Nat×Nat): ∀l:List (Nat×Nat),(putPair p l).Perm (p::l)
 |[]=>List.Perm.refl _
 |q::l=>by
  unfold putPair;split
  ·exact List.Perm.refl _
  ·exact((yK p l).cons q).trans (List.Perm.swap p q l)
theorem yW(p:Nat×Nat): ∀l:List (Nat×Nat),l.Pairwise lexLt2->p∉l->(putPair p l).Pairwise lexLt2
 |[],_,_=>List.pairwise_singleton _ _
 |q::l,h,hn=>by
  obtain⟨h1,h2⟩:=List.pairwise_cons.mp h;unfold putPair;split
  ·rename_i c
   have c:=Ye.mp c;refine List.pairwise_cons.mpr ⟨fun x hx=> ?_,h⟩;rcases List.mem_cons.mp hx with e|e
   ·rw[e];exact c
   ·have:=h1 x e;unfold lexLt2 at c this ⊢;omega
  ·rename_i c
   have hnq: ¬lexLt2 p q:=fun z=>c (Ye.mpr z);refine List.pairwise_cons.mpr ⟨fun x hx=> ?_,yW p l h2 fun z=>hn (List.mem_cons_of_mem _ z)⟩;rcases List.mem_cons.mp ((yK p l).mem_iff.mp hx) with e|e
   ·subst e;have:x≠q:=fun z=>hn (by rw[z];exact List.mem_cons_self);unfold lexLt2 at hnq ⊢;have: ¬(x.1=q.1/\x.2=q.2):=fun z=>this (Prod.ext z.1 z.2);omega
   ·exact h1 x e
theorem putAll(l:List (Nat×Nat))(hn:l.Nodup):(l.foldl (fun m p=>putPair p m) []).Perm l/\(l.foldl (fun m p=>putPair p m) []).Pairwise lexLt2:=by
 have key: ∀(l acc:List (Nat×Nat)),(acc++l).Nodup->acc.Pairwise lexLt2->(l.foldl (fun m p=>putPair p m) acc).Perm (acc++l)/\(l.foldl (fun m p=>putPair p m) acc).Pairwise lexLt2:=by
  intro l;induction l with
  |nil=>intro acc _ h;rw[List.append_nil];exact⟨List.Perm.refl _,h⟩
  |cons p l ih=>
   intro acc hn h;have hp:=yK p acc;have pn:p∉acc:=fun z=>by
    rw[List.nodup_append] at hn;exact hn.2.2 p z p List.mem_cons_self rfl
   have e:(putPair p acc++l).Perm (acc++p::l):=(hp.append_right l).trans (List.perm_middle.symm);obtain⟨i1,i2⟩:=ih (putPair p acc) (e.symm.nodup hn) (yW p acc h pn);exact⟨i1.trans e,i2⟩
 exact key l [] hn List.Pairwise.nil
def one(nb:Near)(k:Nat)(p:Config×List Nat):Config×List Nat:=(step1 nb k p.1,(List.range nb.length).map fun v=>p.2.getD v 0+(if goes nb k p.1 v=true then 1 else 0))
theorem JG(nb:Near)(k:Nat): ∀(t:Nat) (x:Config) (c:List Nat),run nb k t x c=ST.iter (one nb k) t (x,c)
 |0,_,_=>rfl
 |t+1,x,c=>JG nb k t _ _
structure POk(nb:Near)(p:Config×List Nat):Prop where
 xl:p.1.length=nb.length
 cl:p.2.length=nb.length
 x3:St3 p.1
theorem at_lt{x:List Nat}{v:Nat}(h:v<x.length):x[v]? =some (at_ x v):=by
 unfold at_;rw[List.getD_eq_getElem?_getD,List.getElem?_eq_getElem h];rfl
theorem POk.one{nb:Near}{k:Nat}{p:Config×List Nat}(h:POk nb p):POk nb (one nb k p):=by
 refine⟨by unfold GW.one step1;rw[List.length_map,List.length_range],by unfold GW.one;rw[List.length_map,List.length_range],fun s hs=> ?_⟩;unfold GW.one step1 at hs;obtain⟨v,_,rfl⟩:=List.mem_map.mp hs;split
 ·exact Nat.mod_lt _ (by decide)
 ·exact h.x3.at v
theorem POk.iter{nb:Near}{k:Nat}: ∀(t:Nat) {p:Config×List Nat},POk nb p->POk nb (ST.iter (GW.one nb k) t p)
 |0,_,h=>h
 |t+1,_,h=>POk.iter t h.one
def stepsN(nb:Near)(k:Nat)(x:Config):List Nat:=(List.range nb.length).map fun v=>if goes nb k x v=true then 1 else 0
theorem one_fst{nb:Near}{k:Nat}{p:Config×List Nat}(h:POk nb p){v:Nat}(hv:v<nb.length):(one nb k p).1[v]? =some ((at_ p.1 v+(stepsN nb k p.1).getD v 0) % 3):=by
 unfold one step1 stepsN;rw[zR _ hv,List.getD_eq_getElem?_getD,zR _ hv];have:=h.x3.at v;show some (if goes nb k p.1 v=true then(at_ p.1 v+1) % 3 else at_ p.1 v)=some ((at_ p.1 v+(if goes nb k p.1 v=true then 1 else 0)) % 3);split
 ·rfl
 ·rw[Nat.add_zero,Nat.mod_eq_of_lt this]
theorem one_snd{nb:Near}{k:Nat}{p:Config×List Nat}{v:Nat}(hv:v<nb.length):(one nb k p).2[v]? =some (p.2.getD v 0+(stepsN nb k p.1).getD v 0):=by
 unfold one stepsN;rw[zR _ hv,List.getD_eq_getElem?_getD,List.getD_eq_getElem?_getD,zR _ hv];rfl
theorem yS{nb:Near}{k:Nat}{x:Config}(h:(stepsN nb k x).sum=0){v:Nat}(hv:v<nb.length):goes nb k x v=false:=by
 have hz: ∀(l:List Nat),l.sum=0->∀z,z∈l->z=0:=by
  intro l;induction l with
  |nil=>intro _ z hz;cases hz
  |cons a l ih=>
   intro hs z hz;rw[List.sum_cons] at hs;rcases List.mem_cons.mp hz with e|e
   ·omega
   ·exact ih (by omega) z e
 have hm:(if goes nb k x v=true then 1 else 0)∈stepsN nb k x:=List.mem_map.mpr ⟨v,List.mem_range.mpr hv,rfl⟩;have:=hz _ h _ hm;cases q:goes nb k x v with
 |false=>rfl
 |true=>rw[q] at this;cases this
theorem vD{nb:Near}{k:Nat}{p:Config×List Nat}(h:POk nb p)(h0:(stepsN nb k p.1).sum=0):one nb k p=p:=by
 have g: ∀v,v<nb.length->goes nb k p.1 v=false:=fun v hv=>yS h0 hv;refine Prod.ext ?_ ?_
 ·refine List.ext_getElem? fun i=> ?_;by_cases hi:i<nb.length
  ·unfold one step1;rw[zR _ hi,g i hi,at_lt (by rw[h.xl];exact hi)];rfl
  ·rw[List.getElem?_eq_none (by rw[h.one.xl];omega),List.getElem?_eq_none (by rw[h.xl];omega)]
 ·refine List.ext_getElem? fun i=> ?_;by_cases hi:i<nb.length
  ·unfold one;rw[zR _ hi,g i hi,List.getD_eq_getElem?_getD,List.getElem?_eq_getElem (by rw[h.cl];exact hi)];rfl
  ·rw[List.getElem?_eq_none (by rw[(h.one (k:=k)).cl];omega),List.getElem?_eq_none (by rw[h.cl];omega)]
theorem JZ{nb:Near}{k:Nat}{p:Config×List Nat}(h:POk nb p)(h0:(stepsN nb k p.1).sum=0): ∀t,ST.iter (one nb k) t p=p
 |0=>rfl
 |t+1=>by
  show ST.iter (one nb k) t (one nb k p)=p;rw[vD h h0];exact JZ h h0 t
theorem sum_map_add(l:List Nat)(f g:Nat->Nat):(l.map fun v=>f v+g v).sum=(l.map f).sum+(l.map g).sum:=by
 induction l with
 |nil=>rfl
 |cons a l ih=>rw[List.map_cons,List.sum_cons,List.map_cons,List.sum_cons,List.map_cons,List.sum_cons,ih];omega
theorem map_getD{c:List Nat}{n:Nat}(h:c.length=n):(List.range n).map (fun v=>c.getD v 0)=c:=by
 refine List.ext_getElem? fun i=> ?_;by_cases hi:i<n
 ·rw[zR _ hi,List.getD_eq_getElem?_getD,List.getElem?_eq_getElem (by omega)];rfl
 ·rw[List.getElem?_eq_none (by rw[List.length_map,List.length_range];omega),List.getElem?_eq_none (by omega)]
theorem one_sum{nb:Near}{k:Nat}{p:Config×List Nat}(h:POk nb p):(one nb k p).2.sum=p.2.sum+(stepsN nb k p.1).sum:=by
 unfold one stepsN;rw[sum_map_add,map_getD h.cl]
theorem foldl_sum(l:List Nat):l.foldl (fun a b=>a+b) 0=l.sum:=by
 have key: ∀(l:List Nat) (a:Nat),l.foldl (fun a b=>a+b) a=a+l.sum:=by
  intro l;induction l with
  |nil=>intro a;rfl
  |cons b l ih=>intro a;rw[List.foldl_cons,ih,List.sum_cons];omega
 rw[key,Nat.zero_add]
structure StOk(s:Vblcas.State):Prop where
 n1:1<=s.graph.n
 n16:s.graph.n<=16
 e:EOk s.graph
 srt:s.graph.edges.Pairwise lexLt2
 k:s.kind<=1
 xl:s.config.length=s.graph.n
 x3:St3 s.config
 cl:s.counts.length=s.graph.n
theorem StOk.few{s:Vblcas.State}(h:StOk s):s.graph.edges.length<=256:=by
 have nd:(s.graph.edges.map fun e=>e.1 * 16+e.2).Nodup:=by
  rw[List.nodup_iff_pairwise_ne,List.pairwise_map];refine h.srt.imp_of_mem fun{x y} hx hy q e=> ?_;have:=h.e.lt x hx;have:=h.e.lt y hy;have:=h.n16;unfold lexLt2 at q;omega
 have:=pigeon (n:=256) nd fun z hz=>by
  obtain⟨e,he,rfl⟩:=List.mem_map.mp hz;have:=h.e.lt e he;have:=h.n16;omega
 rw[List.length_map] at this;exact this
end GW
namespace ST
open PySem PySem.SetTable
def advM(mask:Nat)(p:Probe):Probe:=if p.more>0 then{p with j:=p.j+1,more:=p.more - 1} else{p with j:=(leap mask p.i p.perturb).1,more:=runEnd mask (leap mask p.i p.perturb).1 - (leap mask p.i p.perturb).1,i:=(leap mask p.i p.perturb).1,perturb:=(leap mask p.i p.perturb).2}
def startM(mask:Nat)(h:Int):Probe:={j:=bits h % (mask+1),more:=runEnd mask (bits h % (mask+1)) - bits h % (mask+1),i:=bits h % (mask+1),perturb:=bits h,dummy:=none}
def stAt(mask:Nat)(h:Int)(m:Nat):Probe:=iter (advM mask) m (startM mask h)
def path(mask:Nat)(h:Int)(m:Nat):Nat:=(stAt mask h m).j
theorem Ys(mask:Nat)(h:Int)(m:Nat):stAt mask h (m+1)=advM mask (stAt mask h m):=zu _ _ _
def MaskOk(mask:Nat):Prop:=mask=7∨mask=31∨mask=127∨mask=511
def lp(mask:Nat)(x:Nat×Nat):Nat×Nat:=leap mask x.1 x.2
theorem lp_snd(mask:Nat): ∀(k:Nat) (x:Nat×Nat),x.2<32 ^ k->(iter (lp mask) k x).2=0
 |0,x,h=>by
  have:x.2<1:=h;show x.2=0;omega
 |k+1,x,h=>by
  refine lp_snd mask k (lp mask x) ?_;show x.2 / 32<32 ^ k;refine Nat.div_lt_of_lt_mul ?_;rw[Nat.pow_succ] at h;omega
def f5(M i:Nat):Nat:=(i * 5+1) % M
theorem lp_zero(mask:Nat): ∀(k i:Nat),iter (lp mask) k (i,0)=(iter (f5 (mask+1)) k i,0)
 |0,_=>rfl
 |k+1,i=>by
  show iter (lp mask) k (lp mask (i,0))=_;have:lp mask (i,0)=(f5 (mask+1) i,0):=by
   show((i * 5+1+0 / 32) % (mask+1),0 / 32)=_;simp[f5]
  rw[this,lp_zero mask k];rfl
def orbit(M:Nat):Nat->Nat->List Nat
 |0,_=>[]
 |n+1,i=>i::orbit M n (f5 M i)
theorem Yz(M:Nat): ∀(n i z:Nat),z∈orbit M n i->∃s,s<n/\iter (f5 M) s i=z
 |0,_,_,h=>by cases h
 |n+1,i,z,h=>by
  rcases List.mem_cons.mp h with e|e
  ·exact⟨0,by omega,e.symm⟩
  ·obtain⟨s,h1,h2⟩:=Yz M n (f5 M i) z e;exact⟨s+1,by omega,h2⟩
def coverC(M:Nat):Bool:=(List.range M).all (fun z=>(orbit M M 0).contains z)&&(iter (f5 M) M 0==0)
theorem cover8:coverC 8=true:=by decide +kernel
theorem cover32:coverC 32=true:=by decide +kernel
theorem cover128:coverC 128=true:=by decide +kernel
theorem cover512:coverC 512=true:=by decide +kernel
theorem cover_of{mask:Nat}(h:MaskOk mask):coverC (mask+1)=true:=by
 rcases h with rfl|rfl|rfl|rfl
 ·exact cover8
 ·exact cover32
 ·exact cover128
 ·exact cover512
theorem cycle{mask:Nat}(h:MaskOk mask){i z:Nat}(hi:i<mask+1)(hz:z<mask+1): ∃s,s<mask+1/\iter (f5 (mask+1)) s i=z:=by
 have c:=cover_of h;unfold coverC at c;rw[Bool.and_eq_true,List.all_eq_true] at c;obtain⟨c1,c2⟩:=c;have c2:iter (f5 (mask+1)) (mask+1) 0=0:=by simpa using c2
 obtain⟨a,ha,ea⟩:=Yz (mask+1) _ _ _ (List.contains_iff_mem.mp (c1 i (List.mem_range.mpr hi)));obtain⟨b,hb,eb⟩:=Yz (mask+1) _ _ _ (List.contains_iff_mem.mp (c1 z (List.mem_range.mpr hz)));by_cases hab:a<=b
 ·refine⟨b - a,by omega,?_⟩;rw[<-ea,<-ZX,show a+(b - a)=b by omega];exact eb
 ·refine⟨mask+1 - a+b,by omega,?_⟩;rw[<-ea,<-ZX,show a+(mask+1 - a+b)=(mask+1)+b by omega,ZX,c2];exact eb
theorem lp_lt(mask:Nat): ∀(k:Nat) (x:Nat×Nat),0<k->(iter (lp mask) k x).1<mask+1
 |k+1,x,_=>by
  rw[zu];exact Nat.mod_lt _ (Nat.succ_pos _)
theorem JV{mask:Nat}(h:MaskOk mask){x:Nat×Nat}(hx:x.2<2 ^ 64){z:Nat}(hz:z<mask+1): ∃q,0<q/\q<mask+14/\(iter (lp mask) q x).1=z:=by
 have e0:(iter (lp mask) 13 x).2=0:=lp_snd mask 13 x (Nat.lt_trans hx (by decide));obtain⟨s,hs,es⟩:=cycle h (lp_lt mask 13 x (by decide)) hz;refine⟨13+s,by omega,by omega,?_⟩;rw[ZX];have:iter (lp mask) 13 x=((iter (lp mask) 13 x).1,0):=Prod.ext rfl e0;rw[this,lp_zero];exact es
theorem Yu(mask i:Nat):runEnd mask i - i<=9:=by
 unfold runEnd;split<;>omega
theorem yp(mask i:Nat):i<=runEnd mask i:=by
 unfold runEnd;split<;>omega
theorem jO{mask i:Nat}(h:i<=mask):runEnd mask i<=mask:=by
 unfold runEnd;split<;>omega
theorem run_in(mask:Nat): ∀(k:Nat) (p:Probe),k<=p.more->iter (advM mask) k p={p with j:=p.j+k,more:=p.more - k}
 |0,p,_=>rfl
 |k+1,p,h=>by
  rw[zu,run_in mask k p (by omega)];unfold advM;rw[if_pos (show p.more - k>0 by omega)];show({p with j:=p.j+k+1,more:=p.more - k - 1}:Probe)={p with j:=p.j+(k+1),more:=p.more - (k+1)};rfl
def landed(mask:Nat)(x:Nat×Nat)(d:Option Nat):Probe:={j:=x.1,more:=runEnd mask x.1 - x.1,i:=x.1,perturb:=x.2,dummy:=d}
theorem JF(mask:Nat)(p:Probe):iter (advM mask) (p.more+1) p=landed mask (lp mask (p.i,p.perturb)) p.dummy:=by
 rw[zu,run_in mask p.more p (Nat.le_refl _)];unfold advM;rw[if_neg (show ¬p.more - p.more>0 by omega)];rfl
theorem leaps_at(mask:Nat): ∀(q:Nat) (p:Probe),p.more<=9->∃m,m<=10 * (q+1)/\iter (advM mask) m p=landed mask (iter (lp mask) (q+1) (p.i,p.perturb)) p.dummy
 |0,p,h=>⟨p.more+1,by omega,JF mask p⟩
 |q+1,p,h=>by
  obtain⟨m,hm,e⟩:=leaps_at mask q p h;have hr:=Yu mask (iter (lp mask) (q+1) (p.i,p.perturb)).1;refine⟨m+((runEnd mask (iter (lp mask) (q+1) (p.i,p.perturb)).1 - (iter (lp mask) (q+1) (p.i,p.perturb)).1)+1),by omega,?_⟩;rw[ZX,e];have:=JF mask (landed mask (iter (lp mask) (q+1) (p.i,p.perturb)) p.dummy);rw[show(landed mask (iter (lp mask) (q+1) (p.i,p.perturb)) p.dummy).more=runEnd mask (iter (lp mask) (q+1) (p.i,p.perturb)).1 - (iter (lp mask) (q+1) (p.i,p.perturb)).1 from rfl] at this;rw[this,zu (lp mask) (q+1)];rfl
theorem cover{mask:Nat}(h:MaskOk mask){p:Probe}(hm:p.more<=9)(hp:p.perturb<2 ^ 64){z:Nat}(hz:z<mask+1): ∃m,m<10 * (mask+15)/\(iter (advM mask) m p).j=z:=by
 obtain⟨q,hq,hq2,e⟩:=JV h (x:=(p.i,p.perturb)) hp hz;obtain⟨q',rfl⟩: ∃q',q=q'+1:=⟨q - 1,by omega⟩;obtain⟨m,hm2,e2⟩:=leaps_at mask q' p hm;exact⟨m,by omega,by rw[e2];exact e⟩
theorem bits_lt(h:Int):bits h<2 ^ 64:=by
 unfold bits;have:=Int.emod_lt_of_pos h (show(0:Int)<2 ^ 64 by decide);have:=Int.emod_nonneg h (show(2 ^ 64:Int)≠0 by decide);omega
theorem jd(mask:Nat)(h:Int): ∀m,(stAt mask h m).more<=9/\(stAt mask h m).perturb<2 ^ 64/\(stAt mask h m).dummy=none/\(stAt mask h m).j+(stAt mask h m).more<=mask
 |0=>by
  have hi:bits h % (mask+1)<=mask:=Nat.le_of_lt_succ (Nat.mod_lt _ (Nat.succ_pos _));have h1:=jO hi;have h2:=yp mask (bits h % (mask+1));refine⟨Yu _ _,bits_lt h,rfl,?_⟩;show bits h % (mask+1)+(runEnd mask (bits h % (mask+1)) - bits h % (mask+1))<=mask;omega
 |m+1=>by
  obtain⟨h1,h2,h3,h4⟩:=jd mask h m;rw[Ys];unfold advM;by_cases hp:(stAt mask h m).more>0
  ·rw[if_pos hp];refine⟨?_,h2,h3,?_⟩
   ·show(stAt mask h m).more - 1<=9;omega
   ·show(stAt mask h m).j+1+((stAt mask h m).more - 1)<=mask;omega
  ·rw[if_neg hp];have hi:(leap mask (stAt mask h m).i (stAt mask h m).perturb).1<=mask:=Nat.le_of_lt_succ (Nat.mod_lt _ (Nat.succ_pos _));have g1:=jO hi;have g2:=yp mask (leap mask (stAt mask h m).i (stAt mask h m).perturb).1;refine⟨Yu _ _,?_,h3,?_⟩
   ·show(stAt mask h m).perturb / 32<2 ^ 64;exact Nat.lt_of_le_of_lt (Nat.div_le_self _ _) h2
   ·show(leap mask _ _).1+(runEnd mask (leap mask _ _).1 - (leap mask _ _).1)<=mask;omega
theorem path_le(mask:Nat)(h:Int)(m:Nat):path mask h m<=mask:=by
 have:=(jd mask h m).2.2.2;unfold path;omega
theorem JR{mask:Nat}(hk:MaskOk mask)(h:Int)(m:Nat){z:Nat}(hz:z<mask+1): ∃d,d<10 * (mask+15)/\path mask h (m+d)=z:=by
 obtain⟨h1,h2,_,_⟩:=jd mask h m;obtain⟨d,hd,e⟩:=cover hk h1 h2 hz;refine⟨d,hd,?_⟩;unfold path stAt;rw[ZX];exact e
theorem go_spec(xs:Array Nat)(j:Nat)(hs:xs.toList.Pairwise (·< ·)): ∀(fuel lo hi:Nat),hi - lo<=fuel->lo<=hi->hi<=xs.size->(∀i v,i<lo->xs[i]? =some v->v<j)->(∀i v,hi<=i->xs[i]? =some v->j<=v)->
  below.go xs j fuel lo hi<=xs.size/\(∀i v,i<below.go xs j fuel lo hi->xs[i]? =some v->v<j)/\∀i v,below.go xs j fuel lo hi<=i->xs[i]? =some v->j<=v
 |0,lo,hi,h1,h2,h3,h4,h5=>by
  have e:lo=hi:=by omega
  subst e;exact⟨h3,h4,h5⟩
 |fuel+1,lo,hi,h1,h2,h3,h4,h5=>by
  unfold below.go;by_cases hlt:lo<hi
  ·rw[if_pos hlt];have hm:(lo+hi) / 2<xs.size:=by omega
   have em:xs[(lo+hi) / 2]? =some (xs.getD ((lo+hi) / 2) j):=by
    rw[Array.getD_eq_getD_getElem?,Array.getElem?_eq_getElem hm];rfl
   have ord: ∀a b va vb,a<b->xs[a]? =some va->xs[b]? =some vb->va<vb:=fun a b va vb hab ea eb=>by
    rw[<-Array.getElem?_toList] at ea eb;obtain⟨la,ea⟩:=List.getElem?_eq_some_iff.mp ea;obtain⟨lb,eb⟩:=List.getElem?_eq_some_iff.mp eb;have:=List.pairwise_iff_getElem.mp hs a b la lb hab;rw[ea,eb] at this;exact this
   show(if xs.getD ((lo+hi) / 2) j<j then below.go xs j fuel ((lo+hi) / 2+1) hi else below.go xs j fuel lo ((lo+hi) / 2))<=xs.size/\_;by_cases hv:xs.getD ((lo+hi) / 2) j<j
   ·simp only[if_pos hv];refine go_spec xs j hs fuel _ hi (by omega) (by omega) h3 (fun i v hi' e=> ?_) h5;by_cases q:i=(lo+hi) / 2
    ·subst q;rw[em] at e;have:=Option.some.inj e;omega
    ·have:=ord i _ v _ (by omega) e em;omega
   ·simp only[if_neg hv];refine go_spec xs j hs fuel lo _ (by omega) (by omega) (by omega) h4 (fun i v hi' e=> ?_);by_cases q:i=(lo+hi) / 2
    ·subst q;rw[em] at e;have:=Option.some.inj e;omega
    ·have:=ord _ i _ v (by omega) em e;omega
  ·rw[if_neg hlt];have e:lo=hi:=by omega
   subst e;exact⟨h3,h4,h5⟩
theorem Ji{xs:Array Nat}(j:Nat)(hs:xs.toList.Pairwise (·< ·)):below xs j<=xs.size/\(∀i v,i<below xs j->xs[i]? =some v->v<j)/\∀i v,below xs j<=i->xs[i]? =some v->j<=v:=
 go_spec xs j hs xs.size 0 xs.size (by omega) (by omega) (Nat.le_refl _) (fun i v h=>by omega) fun i v h e=>by
  have:=(Array.getElem?_eq_some_iff.mp e).1;omega
theorem below_at{xs:Array Nat}{i j:Nat}(hs:xs.toList.Pairwise (·< ·))(h:xs[i]? =some j):below xs j=i:=by
 obtain⟨h1,h2,h3⟩:=Ji j hs;rcases Nat.lt_trichotomy (below xs j) i with q|q|q
 ·
  have lt:below xs j<xs.size:=Nat.lt_trans q (Array.getElem?_eq_some_iff.mp h).1;have e1:xs[below xs j]? =some xs[below xs j]:=Array.getElem?_eq_getElem lt;have a:=h3 _ _ (Nat.le_refl _) e1;have hl:xs.toList[below xs j]? =some xs[below xs j]:=by rw[Array.getElem?_toList];exact e1
  have hr:xs.toList[i]? =some j:=by rw[Array.getElem?_toList];exact h
  obtain⟨la,ea⟩:=List.getElem?_eq_some_iff.mp hl;obtain⟨lb,eb⟩:=List.getElem?_eq_some_iff.mp hr;have:=List.pairwise_iff_getElem.mp hs _ _ la lb q;rw[ea,eb] at this;omega
 ·exact q
 ·have:=h2 i j q h;omega
theorem slot_live{t:SetTable}{i j:Nat}(hs:t.place.toList.Pairwise (·< ·))(h:t.place[i]? =some j):t.slot j=.live i:=by
 unfold slot;rw[below_at hs h];simp[h]
theorem slot_empty{t:SetTable}{j:Nat}(hd:t.dummies=#[])(h:j∉t.place.toList):t.slot j=.empty:=by
 unfold slot;have e1: ¬(t.place[below t.place j]? ==some j)=true:=fun q=>h (by
  have q:t.place[below t.place j]? =some j:=by simpa using q
  rw[<-Array.getElem?_toList] at q;exact List.mem_of_getElem? q)
 have e2:has t.dummies j=false:=by rw[hd];rfl
 simp only[if_neg e1,e2];rfl
theorem yx{α:Type}(xs:Array α)(p:Nat)(x:α)(hp:p<=xs.size):(insertAt xs p x).toList=xs.toList.take p++x::xs.toList.drop p:=by
 unfold insertAt;simp[Array.toList_extract,List.extract_eq_drop_take];rw[List.take_of_length_le (by simp)]
structure TOk{β:Type}(es:Array (Int×β))(t:SetTable)(ts:List (Nat×Int×β)):Prop where
 pl:t.place.toList=ts.map (·.1)
 es:es.toList=ts.map (·.2)
 up:(ts.map (·.1)).Pairwise (·< ·)
 dm:t.dummies=#[]
 mo:MaskOk t.mask
 bd: ∀e,e∈ts->e.1<=t.mask
 rc: ∀e,e∈ts->∃m,path t.mask e.2.1 m=e.1/\∀m',m'<m->path t.mask e.2.1 m'∈ts.map (·.1)
section
variable {β:Type}{es:Array (Int×β)}{t:SetTable}{ts:List (Nat×Int×β)}
theorem TOk.at_(T:TOk es t ts){i:Nat}{e:Nat×Int×β}(h:ts[i]? =some e):t.place[i]? =some e.1/\es[i]? =some e.2:=by
 rw[<-Array.getElem?_toList,<-Array.getElem?_toList,T.pl,T.es,List.getElem?_map,List.getElem?_map,h];exact⟨rfl,rfl⟩
theorem TOk.live(T:TOk es t ts){i:Nat}{e:Nat×Int×β}(h:ts[i]? =some e):t.slot e.1=.live i:=slot_live (by rw[T.pl];exact T.up) (T.at_ h).1
theorem TOk.empty(T:TOk es t ts){j:Nat}(h:j∉ts.map (·.1)):t.slot j=.empty:=slot_empty T.dm (by rw[T.pl];exact h)
theorem TOk.free(T:TOk es t ts)(hf:ts.length<=t.mask): ∃z,z<t.mask+1/\z∉ts.map (·.1):=by
 apply Classical.byContradiction;intro hn;have all: ∀z,z∈List.range (t.mask+1)->z∈ts.map (·.1):=fun z hz=>by
  apply Classical.byContradiction;intro h;exact hn ⟨z,List.mem_range.mp hz,h⟩
 have:=List.Nodup.length_le_of_subset (List.nodup_range (n:=t.mask+1)) all;rw[List.length_range,List.length_map] at this;omega
theorem TOk.probe(T:TOk es t ts)(hashAt:Nat->Int)(h:Int): ∀(fuel m:Nat),(∃d,d<fuel/\path t.mask h (m+d)∉ts.map (·.1))->
  ∃m1,m<=m1/\(∀m',m<=m'->m'<m1->∃(i:Nat) (e:Nat×Int×β),ts[i]? =some e/\e.1=path t.mask h m'/\hashAt i≠h)/\
   ((path t.mask h m1∉ts.map (·.1)/\probe.go t hashAt h fuel (stAt t.mask h m)=some (.empty (path t.mask h m1) none))∨
    ∃(i:Nat) (e:Nat×Int×β),ts[i]? =some e/\e.1=path t.mask h m1/\hashAt i=h/\probe.go t hashAt h fuel (stAt t.mask h m)=some (.candidate (path t.mask h m1) i (stAt t.mask h (m1+1))))
 |0,m,⟨d,hd,_⟩=>by omega
 |fuel+1,m,⟨d,hd,hfree⟩=>by
  have hdm:(stAt t.mask h m).dummy=none:=(jd t.mask h m).2.2.1;by_cases hin:path t.mask h m∈ts.map (·.1)
  ·obtain⟨e,he,ee⟩:=List.mem_map.mp hin;obtain⟨i,hi⟩:=List.mem_iff_getElem?.mp he;have hl:t.slot (stAt t.mask h m).j=.live i:=by
    have:=T.live hi;rw[ee] at this;exact this
   by_cases hh:hashAt i=h
   ·refine⟨m,Nat.le_refl _,fun m' h1 h2=>by omega,.inr ⟨i,e,hi,ee,hh,?_⟩⟩;unfold probe.go;rw[hl];simp only[hh,beq_self_eq_true,if_true];rw[Ys];rfl
   ·have hd0:d≠0:=fun z=>by subst z;exact hfree hin
    obtain⟨m1,g1,g2,g3⟩:=TOk.probe T hashAt h fuel (m+1) ⟨d - 1,by omega,by rw[show m+1+(d - 1)=m+d by omega];exact hfree⟩;have step:probe.go t hashAt h (fuel+1) (stAt t.mask h m)=probe.go t hashAt h fuel (stAt t.mask h (m+1)):=by
     rw[probe.go,hl];have: ¬(hashAt i==h)=true:=fun q=>hh (by simpa using q);simp only[if_neg this];rw[Ys];rfl
    refine⟨m1,by omega,fun m' h1 h2=> ?_,?_⟩
    ·by_cases q:m'=m
     ·subst q;exact⟨i,e,hi,ee,hh⟩
     ·exact g2 m' (by omega) h2
    ·rw[step];exact g3
  ·refine⟨m,Nat.le_refl _,fun m' h1 h2=>by omega,.inl ⟨hin,?_⟩⟩;unfold probe.go;have:t.slot (stAt t.mask h m).j=.empty:=T.empty hin;rw[this];simp only[hdm];rfl
theorem TOk.put(T:TOk es t ts){h:Int}{x:β}{m:Nat}(hn:path t.mask h m∉ts.map (·.1))(hb: ∀m',m'<m->path t.mask h m'∈ts.map (·.1))(plain:Bool):
  ∃ts',TOk (insertAt es (below t.place (path t.mask h m)) (h,x)) {(t.put (path t.mask h m)).1 with plain:=plain} ts'/\ts'.Perm ((path t.mask h m,h,x)::ts):=by
 have hup:t.place.toList.Pairwise (·< ·):=by rw[T.pl];exact T.up
 obtain⟨b1,b2,b3⟩:=Ji (path t.mask h m) hup;generalize hp:below t.place (path t.mask h m)=p at b1 b2 b3;have lp1:t.place.size=ts.length:=by rw[<-Array.length_toList,T.pl,List.length_map]
 have les:es.size=ts.length:=by rw[<-Array.length_toList,T.es,List.length_map]
 have before: ∀e,e∈ts.take p->e.1<path t.mask h m:=fun e he=>by
  obtain⟨i,hi⟩:=List.mem_iff_getElem?.mp he;have hip:i<p:=by
   have:=(List.getElem?_eq_some_iff.mp hi).1;rw[List.length_take] at this;omega
  rw[List.getElem?_take_of_lt hip] at hi;exact b2 i _ hip (T.at_ hi).1
 have after: ∀e,e∈ts.drop p->path t.mask h m<e.1:=fun e he=>by
  obtain⟨i,hi⟩:=List.mem_iff_getElem?.mp he;rw[List.getElem?_drop] at hi;have:=b3 (p+i) _ (by omega) (T.at_ hi).1;have ne:e.1≠path t.mask h m:=fun q=>hn (by rw[<-q];exact List.mem_map.mpr ⟨e,List.mem_of_getElem? hi,rfl⟩);omega
 have dm':(if has t.dummies (path t.mask h m) then eraseAt t.dummies (below t.dummies (path t.mask h m)) else t.dummies)=#[]:=by
  rw[T.dm];rfl
 have perm:(ts.take p++(path t.mask h m,h,x)::ts.drop p).Perm ((path t.mask h m,h,x)::ts):=by
  refine List.perm_middle.trans ?_;rw[List.take_append_drop]
 refine⟨ts.take p++(path t.mask h m,h,x)::ts.drop p,⟨?_,?_,?_,?_,T.mo,fun e he=> ?_,fun e he=> ?_⟩,perm⟩
 ·show(insertAt t.place (below t.place (path t.mask h m)) (path t.mask h m)).toList=_;rw[hp,yx _ _ _ b1,T.pl,List.map_append,List.map_cons,List.map_take,List.map_drop]
 ·rw[yx _ _ _ (by omega),T.es,List.map_append,List.map_cons,List.map_take,List.map_drop]
 ·rw[List.map_append,List.map_cons,List.pairwise_append];have up:=T.up;rw[<-List.take_append_drop p ts,List.map_append,List.pairwise_append] at up;refine⟨up.1,List.pairwise_cons.mpr ⟨fun a ha=> ?_,up.2.1⟩,fun a ha b hb=> ?_⟩
  ·obtain⟨e,he,rfl⟩:=List.mem_map.mp ha;exact after e he
  ·obtain⟨e,he,rfl⟩:=List.mem_map.mp ha;rcases List.mem_cons.mp hb with q|q
   ·rw[q];exact before e he
   ·exact up.2.2 _ ha _ q
 ·exact dm'
 ·rcases List.mem_cons.mp (perm.mem_iff.mp he) with q|q
  ·rw[q];exact path_le _ _ _
  ·exact T.bd e q
 ·have sub: ∀j,j∈ts.map (·.1)->j∈(ts.take p++(path t.mask h m,h,x)::ts.drop p).map (·.1):=fun j hj=>by
   obtain⟨e,he,rfl⟩:=List.mem_map.mp hj;exact List.mem_map.mpr ⟨e,perm.mem_iff.mpr (List.mem_cons_of_mem _ he),rfl⟩
  rcases List.mem_cons.mp (perm.mem_iff.mp he) with q|q
  ·subst q;exact⟨m,rfl,fun m' hm=>sub _ (hb m' hm)⟩
  ·obtain⟨m0,e1,e2⟩:=T.rc e q;exact⟨m0,e1,fun m' hm=>sub _ (e2 m' hm)⟩
end
def Taken(owner:Array (Option Nat))(j:Nat):Prop:=(owner.getD j (some 0)).isSome=true
theorem find_first{p:Nat->Bool}: ∀(n:Nat) {k:Nat},(List.range n).find? p=some k->k<n/\p k=true/\∀k',k'<k->p k'=false
 |n,k,h=>by
  obtain⟨h1,as,bs,e,h3⟩:=List.find?_eq_some_iff_append.mp h;have hl:as.length<n:=by
   have:=congrArg List.length e;rw[List.length_range,List.length_append,List.length_cons] at this;omega
  have hk:k=as.length:=by
   have:(List.range n)[as.length]? =some k:=by rw[e,List.getElem?_append_right (Nat.le_refl _),Nat.sub_self];rfl
   rw[List.getElem?_range hl] at this;exact(Option.some.inj this).symm
  refine⟨by omega,h1,fun k' hk'=> ?_⟩;have:(List.range n)[k']? =some k':=List.getElem?_range (by omega);rw[e,List.getElem?_append_left (by omega)] at this;have:=h3 k' (List.mem_of_getElem? this);simpa using this
theorem vO{mask:Nat}{h:Int}(owner:Array (Option Nat)): ∀(fuel i perturb m:Nat),stAt mask h m=landed mask (i,perturb) none->(∀m',m'<m->Taken owner (path mask h m'))->
  (∃q,q<fuel/\¬Taken owner (iter (lp mask) q (i,perturb)).1)->∃j m1,layClean.free mask owner fuel i perturb=some j/\path mask h m1=j/\¬Taken owner j/\∀m',m'<m1->Taken owner (path mask h m')
 |0,i,perturb,m,_,_,⟨q,hq,_⟩=>by omega
 |fuel+1,i,perturb,m,hst,hb,⟨q,hq,hf⟩=>by
  have pos: ∀k,k<=runEnd mask i - i->path mask h (m+k)=i+k:=fun k hk=>by
   unfold path stAt;rw[ZX];show(iter (advM mask) k (stAt mask h m)).j=_;rw[hst,run_in mask k (landed mask (i,perturb) none) hk];rfl
  unfold layClean.free;cases e:(List.range (runEnd mask i+1 - i)).find? fun k=>(owner.getD (i+k) (some 0)).isNone with
  |some k=>
   obtain⟨k1,k2,k3⟩:=find_first _ e;have hr:=yp mask i;refine⟨i+k,m+k,rfl,pos k (by omega),fun ht=> ?_,fun m' hm'=> ?_⟩
   ·unfold Taken at ht;cases q2:owner.getD (i+k) (some 0) with
    |none=>rw[q2] at ht;cases ht
    |some z=>rw[q2] at k2;cases k2
   ·by_cases hm2:m'<m
    ·exact hb m' hm2
    ·have:=pos (m' - m) (by omega);rw[show m+(m' - m)=m' by omega] at this;rw[this];have nk:=k3 (m' - m) (by omega);unfold Taken;cases q2:owner.getD (i+(m' - m)) (some 0) with
     |none=>rw[q2] at nk;cases nk
     |some z=>rfl
  |none=>
   have all: ∀k,k<=runEnd mask i - i->Taken owner (i+k):=fun k hk=>by
    have hr:=yp mask i;have:=List.find?_eq_none.mp e k (List.mem_range.mpr (by omega));unfold Taken;cases q2:owner.getD (i+k) (some 0) with
    |none=>rw[q2] at this;exact absurd rfl this
    |some z=>rfl
   have q0:q≠0:=fun z=>by
    subst z;exact hf (by have:=all 0 (Nat.zero_le _);rwa [Nat.add_zero] at this)
   obtain⟨q',rfl⟩: ∃q',q=q'+1:=⟨q - 1,by omega⟩;refine vO owner fuel (leap mask i perturb).1 (leap mask i perturb).2 (m+((runEnd mask i - i)+1)) ?_ (fun m' hm'=> ?_) ⟨q',by omega,hf⟩
   ·unfold stAt;rw[ZX];show iter (advM mask) _ (stAt mask h m)=_;rw[hst];exact JF mask (landed mask (i,perturb) none)
   ·by_cases hm2:m'<m
    ·exact hb m' hm2
    ·have:=pos (m' - m) (by omega);rw[show m+(m' - m)=m' by omega] at this;rw[this];exact all _ (by omega)
theorem free_ok{mask:Nat}(hk:MaskOk mask)(h:Int)(owner:Array (Option Nat)){z:Nat}(hz:z<mask+1)(hf: ¬Taken owner z):
  ∃j m1,layClean.free mask owner (turns mask) (bits h % (mask+1)) (bits h)=some j/\path mask h m1=j/\¬Taken owner j/\∀m',m'<m1->Taken owner (path mask h m'):=by
 obtain⟨q,h1,h2,h3⟩:=JV hk (x:=(bits h % (mask+1),bits h)) (bits_lt h) hz;exact vO owner (turns mask) _ _ 0 rfl (fun m' h=>by omega) ⟨q,by unfold turns;omega,by rw[h3];exact hf⟩
structure Laid(mask:Nat)(hs:List Int)(k:Nat)(owner:Array (Option Nat))(pos:Nat->Nat):Prop where
 size:owner.size=mask+1
 own: ∀j n,owner[j]? =some (some n)↔n<k/\pos n=j
 le: ∀n,n<k->pos n<=mask
 rc: ∀n h,n<k->hs[n]? =some h->∃m,path mask h m=pos n/\∀m',m'<m->Taken owner (path mask h m')
theorem Laid.taken{mask:Nat}{hs:List Int}{k:Nat}{owner:Array (Option Nat)}{pos:Nat->Nat}(L:Laid mask hs k owner pos){j:Nat}(hj:j<=mask):Taken owner j↔ ∃n,n<k/\pos n=j:=by
 have hlt:j<owner.size:=by rw[L.size];omega
 unfold Taken;rw[Array.getD_eq_getD_getElem?,Array.getElem?_eq_getElem hlt];have e:owner[j]? =some owner[j]:=Array.getElem?_eq_getElem hlt;constructor
 ·intro h;cases q:owner[j] with
  |none=>rw[q] at h;cases h
  |some n=>exact⟨n,(L.own j n).mp (by rw[e,q])⟩
 ·rintro⟨n,hn⟩;have:=(L.own j n).mpr hn;rw[e] at this;have:=Option.some.inj this;show(owner[j]).isSome=true;rw[this];rfl
theorem Laid.step{mask:Nat}(hk:MaskOk mask){hs:List Int}{k:Nat}{owner:Array (Option Nat)}{pos:Nat->Nat}(L:Laid mask hs k owner pos){h:Int}(hh:hs[k]? =some h)(hroom:k<=mask):
  ∃j pos',layClean.free mask owner (turns mask) (bits h % (mask+1)) (bits h)=some j/\Laid mask hs (k+1) (owner.setIfInBounds j (some k)) pos':=by
 have hfree: ∃z,z<mask+1/\¬Taken owner z:=by
  apply Classical.byContradiction;intro hn;have all: ∀z,z∈List.range (mask+1)->z∈(List.range k).map pos:=fun z hz=>by
   apply Classical.byContradiction;intro q;refine hn ⟨z,List.mem_range.mp hz,fun ht=>q ?_⟩;obtain⟨n,h1,h2⟩:=(L.taken (Nat.le_of_lt_succ (List.mem_range.mp hz))).mp ht;exact List.mem_map.mpr ⟨n,List.mem_range.mpr h1,h2⟩
  have:=List.Nodup.length_le_of_subset (List.nodup_range (n:=mask+1)) all;rw[List.length_range,List.length_map,List.length_range] at this;omega
 obtain⟨z,hz,hzf⟩:=hfree;obtain⟨j,m1,f1,f2,f3,f4⟩:=free_ok hk h owner hz hzf;have hj:j<=mask:=by rw[<-f2];exact path_le _ _ _
 have hjs:j<owner.size:=by rw[L.size];omega
 have posn: ∀n,n<k->pos n≠j:=fun n hn e=>f3 ((L.taken hj).mpr ⟨n,hn,e⟩);have tk: ∀y,Taken owner y->Taken (owner.setIfInBounds j (some k)) y:=fun y ht=>by
  unfold Taken at ht ⊢;rw[Array.getD_eq_getD_getElem?,Array.getElem?_setIfInBounds];by_cases e:j=y
  ·subst e;rw[if_pos rfl,if_pos hjs];rfl
  ·rw[if_neg e,<-Array.getD_eq_getD_getElem?];exact ht
 refine⟨j,fun n=>if n=k then j else pos n,f1,⟨by rw[Array.size_setIfInBounds];exact L.size,fun y n=> ?_,fun n hn=> ?_,fun n h' hn e=> ?_⟩⟩
 ·rw[Array.getElem?_setIfInBounds];by_cases e:j=y
  ·subst e;rw[if_pos rfl,if_pos hjs];constructor
   ·intro q;have:k=n:=Option.some.inj (Option.some.inj q);subst this;exact⟨by omega,if_pos rfl⟩
   ·rintro⟨h1,h2⟩;by_cases q:n=k
    ·rw[q]
    ·rw[if_neg q] at h2;exact absurd h2 (posn n (by omega))
  ·rw[if_neg e,L.own];constructor
   ·rintro⟨h1,h2⟩;exact⟨by omega,by rw[if_neg (by omega)];exact h2⟩
   ·rintro⟨h1,h2⟩;by_cases q:n=k
    ·rw[if_pos q] at h2;exact absurd h2 e
    ·rw[if_neg q] at h2;exact⟨by omega,h2⟩
 ·by_cases q:n=k
  ·rw[if_pos q];exact hj
  ·rw[if_neg q];exact L.le n (by omega)
 ·by_cases q:n=k
  ·subst q;rw[if_pos rfl];rw[hh] at e;obtain rfl:=Option.some.inj e;exact⟨m1,f2,fun m' hm=>tk _ (f4 m' hm)⟩
  ·rw[if_neg q];obtain⟨m,e1,e2⟩:=L.rc n h' (by omega) e;exact⟨m,e1,fun m' hm=>tk _ (e2 m' hm)⟩
theorem layClean_ok{mask:Nat}(hk:MaskOk mask)(hs:Array Int)(hroom:hs.size<=mask+1): ∃owner pos,layClean mask hs=some owner/\Laid mask hs.toList hs.size owner pos:=by
 have key: ∀(n:Nat),n<=hs.size->∃owner pos,(hs.toList.take n).foldl (fun acc h=>(do
   let(owner,k) <-acc;let j <-layClean.free mask owner (turns mask) (bits h % (mask+1)) (bits h)
   pure (owner.setIfInBounds j (some k),k+1):Option (Array (Option Nat)×Nat))) (some (Array.replicate (mask+1) none,0))=some (owner,n)/\Laid mask hs.toList n owner pos:=by
  intro n;induction n with
  |zero=>
   intro _;refine⟨Array.replicate (mask+1) none,fun _=>0,rfl,⟨by simp,fun j n=> ?_,fun n h=>by omega,fun n h h1=>by omega⟩⟩;constructor
   ·intro q;rw[Array.getElem?_replicate] at q;split at q<;>simp at q
   ·rintro⟨h1,_⟩;omega
  |succ n ih=>
   intro hn;obtain⟨owner,pos,e,L⟩:=ih (by omega);have hh:hs.toList[n]? =some hs[n]:=by rw[Array.getElem?_toList,Array.getElem?_eq_getElem (by omega)]
   obtain⟨j,pos',f1,L'⟩:=L.step hk hh (by omega);refine⟨_,pos',?_,L'⟩;rw[List.take_add_one,hh,List.foldl_append,e];show(do let j <-layClean.free mask owner (turns mask) (bits hs[n] % (mask+1)) (bits hs[n]);pure (owner.setIfInBounds j (some n),n+1):Option _)=_;rw[f1];rfl
 obtain⟨owner,pos,e,L⟩:=key hs.size (Nat.le_refl _);refine⟨owner,pos,?_,L⟩;unfold layClean;rw[<-Array.foldl_toList];rw[List.take_of_length_le (by simp)] at e;rw[e];rfl
theorem fm{β:Type}{es:Array (Int×β)}: ∀(l:List (Nat×Nat)),(∀p,p∈l->(es[p.2]?).isSome=true)->
  (l.filterMap fun p=>(es[p.2]?).map fun e=>(p.1,e)).map (·.1)=l.map (·.1)/\(l.filterMap fun p=>(es[p.2]?).map fun e=>(p.1,e)).map (·.2)=(l.map (·.2)).filterMap fun k=>es[k]?
 |[],_=>⟨rfl,rfl⟩
 |p::l,h=>by
  obtain⟨i1,i2⟩:=fm l fun q hq=>h q (List.mem_cons_of_mem _ hq);obtain⟨e,he⟩:=Option.isSome_iff_exists.mp (h p List.mem_cons_self);have e1:((p::l).filterMap fun p=>(es[p.2]?).map fun e=>(p.1,e))=(p.1,e)::l.filterMap fun p=>(es[p.2]?).map fun e=>(p.1,e):=by
   rw[List.filterMap_cons];simp only[he,Option.map_some]
  rw[e1];refine⟨?_,?_⟩
  ·rw[List.map_cons,List.map_cons,i1]
  ·rw[List.map_cons,List.map_cons,List.filterMap_cons,i2];simp only[he]
theorem perm_of_nodup{l1 l2:List Nat}(n1:l1.Nodup)(n2:l2.Nodup)(h: ∀a,a∈l1↔a∈l2):l1.Perm l2:=by
 rw[List.perm_iff_count];intro a;by_cases q:a∈l1
 ·rw[List.Nodup.count n1,List.Nodup.count n2,if_pos q,if_pos ((h a).mp q)]
 ·rw[List.count_eq_zero_of_not_mem q,List.count_eq_zero_of_not_mem (fun z=>q ((h a).mpr z))]
theorem range_fm{α:Type}(xs:Array α):(List.range xs.size).filterMap (fun k=>xs[k]?)=xs.toList:=by
 have key: ∀n,n<=xs.size->(List.range n).filterMap (fun k=>xs[k]?)=xs.toList.take n:=by
  intro n;induction n with
  |zero=>intro _;rfl
  |succ n ih=>
   intro h;rw[List.range_succ,List.filterMap_append,ih (by omega),List.take_add_one,Array.getElem?_toList,Array.getElem?_eq_getElem (by omega)];simp[Array.getElem?_eq_getElem (show n<xs.size by omega)]
 rw[key _ (Nat.le_refl _),List.take_of_length_le (by simp)]
section
variable {β:Type}{es:Array (Int×β)}{t:SetTable}{ts:List (Nat×Int×β)}
theorem TOk.relay(T:TOk es t ts){wanted:Nat}(hk:MaskOk (sizeAbove wanted - 1))(hroom:ts.length<=sizeAbove wanted):
  ∃t' order ts',t.relaid (es.map (·.1)) wanted=some (t',order)/\(order.filterMap fun k=>es[k]?).size=es.size/\TOk (order.filterMap fun k=>es[k]?) t' ts'/\(ts'.map (·.2)).Perm (ts.map (·.2))/\t'.mask=sizeAbove wanted - 1/\t'.led=t.led/\t'.plain=t.plain:=by
 have les:es.size=ts.length:=by rw[<-Array.length_toList,T.es,List.length_map]
 have hm1:sizeAbove wanted - 1+1=sizeAbove wanted:=by rcases hk with h|h|h|h<;>omega
 generalize hM:sizeAbove wanted - 1=mask at hk hm1;obtain⟨owner,pos,e,L⟩:=layClean_ok hk (es.map (·.1)) (by rw[Array.size_map];omega);rw[Array.size_map] at L;have hes:(es.map (·.1)).toList=ts.map (·.2.1):=by rw[Array.toList_map,T.es,List.map_map];rfl
 rw[hes] at L;generalize hlive:((List.range (mask+1)).filterMap fun j=>(owner.getD j none).map fun k=>(j,k))=live;have hmem: ∀p:Nat×Nat,p∈live↔p.2<es.size/\pos p.2=p.1:=fun p=>by
  rw[<-hlive,List.mem_filterMap];constructor
  ·rintro⟨j,hj,q⟩;have hlt:j<owner.size:=by rw[L.size];exact List.mem_range.mp hj
   cases q2:owner.getD j none with
   |none=>rw[q2] at q;cases q
   |some k=>
    rw[q2] at q;have:(j,k)=p:=Option.some.inj q;subst this;refine(L.own j k).mp ?_;rw[Array.getD_eq_getD_getElem?,Array.getElem?_eq_getElem hlt] at q2;rw[Array.getElem?_eq_getElem hlt];exact congrArg some q2
  ·rintro⟨h1,h2⟩;have ho:=(L.own p.1 p.2).mpr ⟨h1,h2⟩;refine⟨p.1,List.mem_range.mpr ?_,?_⟩
   ·have:=(Array.getElem?_eq_some_iff.mp ho).1;rw[L.size] at this;exact this
   ·rw[Array.getD_eq_getD_getElem?,ho];rfl
 have hup:(live.map (·.1)).Pairwise (·< ·):=by
  rw[<-hlive,List.map_filterMap];refine List.Pairwise.filterMap (R:=(·< ·)) _ (fun a a' hlt b hb b' hb'=> ?_) List.pairwise_lt_range;have g: ∀j y,(Option.map (fun x:Nat×Nat=>x.1) ((owner.getD j none).map fun k=>(j,k)))=some y->y=j:=fun j y q=>by
   cases q2:owner.getD j none with
   |none=>rw[q2] at q;cases q
   |some k=>rw[q2] at q;exact(Option.some.inj q).symm
  have b1:=g a b hb;have b2:=g a' b' hb';omega
 have ord:(live.map (·.2)).Perm (List.range es.size):=by
  refine perm_of_nodup ?_ List.nodup_range (fun k=> ?_)
  ·rw[List.nodup_iff_pairwise_ne,List.pairwise_map];rw[List.pairwise_map] at hup;refine hup.imp_of_mem (fun{a b} ha hb hlt q=> ?_);have h1:=((hmem a).mp ha).2;have h2:=((hmem b).mp hb).2;rw[q] at h1;omega
  ·rw[List.mem_map,List.mem_range];constructor
   ·rintro⟨p,hp,rfl⟩;exact((hmem p).mp hp).1
   ·intro hk2;exact⟨(pos k,k),(hmem _).mpr ⟨hk2,rfl⟩,rfl⟩
 have some_at: ∀p,p∈live->(es[p.2]?).isSome=true:=fun p hp=>by
  rw[Array.getElem?_eq_getElem ((hmem p).mp hp).1];rfl
 obtain⟨fm1,fm2⟩:=fm live some_at;have pfm:((live.map (·.2)).filterMap fun k=>es[k]?).Perm es.toList:=by
  have:=ord.filterMap fun k=>es[k]?;rw[range_fm] at this;exact this
 refine⟨{mask:=mask,place:=(live.map (·.1)).toArray,dummies:=#[],finger:=t.finger,led:=t.led,moves:=t.movedTo mask,plain:=t.plain},(live.map (·.2)).toArray,live.filterMap fun p=>(es[p.2]?).map fun e=>(p.1,e),?_,?_,⟨?_,?_,?_,rfl,hk,fun x hx=> ?_,fun x hx=> ?_⟩,?_,rfl,rfl,rfl⟩
 ·unfold relaid laid;rw[hM,e];show some _=_;rw[<-hlive]
 ·rw[<-Array.length_toList,Array.toList_filterMap];rw[pfm.length_eq];simp
 ·show(live.map (·.1)).toArray.toList=_;rw[List.toList_toArray,fm1]
 ·rw[Array.toList_filterMap,fm2]
 ·rw[fm1];exact hup
 ·have:x.1∈live.map (·.1):=by rw[<-fm1];exact List.mem_map.mpr ⟨x,hx,rfl⟩
  obtain⟨p,hp,q⟩:=List.mem_map.mp this;have:=(hmem p).mp hp;rw[<-q,<-this.2];exact L.le _ this.1
 ·obtain⟨p,hp,q⟩:=List.mem_filterMap.mp hx;have hpm:=(hmem p).mp hp;rw[Array.getElem?_eq_getElem hpm.1] at q;have q:(p.1,es[p.2])=x:=Option.some.inj q;subst q;have hh:(ts.map (·.2.1))[p.2]? =some (es[p.2]).1:=by
   have:es.toList[p.2]? =some es[p.2]:=by rw[Array.getElem?_toList,Array.getElem?_eq_getElem hpm.1]
   rw[T.es,List.getElem?_map] at this;rw[List.getElem?_map];cases z:ts[p.2]? with
   |none=>rw[z] at this;cases this
   |some y=>
    rw[z] at this;have:y.2=es[p.2]:=Option.some.inj this;show some y.2.1=_;rw[this]
  obtain⟨m,e1,e2⟩:=L.rc p.2 _ hpm.1 hh;refine⟨m,e1.trans hpm.2,fun m' hm=> ?_⟩;rw[fm1];obtain⟨n,n1,n2⟩:=(L.taken (path_le _ _ _)).mp (e2 m' hm);exact List.mem_map.mpr ⟨(pos n,n),(hmem _).mpr ⟨n1,rfl⟩,n2⟩
 ·rw[fm2,<-T.es];exact pfm
end
end ST
namespace L2
open PySem PySem.Spec PyProof.Rows
abbrev Key:=Sum Int Str
def keyIs:Key->Value->Bool
 |.inl k,v=>Value.isInt k v
 |.inr x,v=>Value.isStrOf x v
def keyH(w:World):Key->Int
 |.inl k=>hashInt k
 |.inr x=>hashStr w x
theorem ZF: ∀{k:Key} {v:Value},keyIs k v=true->(∃i t,k=Sum.inl i/\v=Value.int i t)∨(∃x t,k=Sum.inr x/\v=Value.str x t)
 |.inl i,v,h=>by
  obtain⟨t,e⟩:=Value.isInt_shape (k:=i) (v:=v) h;exact .inl ⟨i,t,rfl,e⟩
 |.inr x,v,h=>by
  obtain⟨t,e⟩:=Value.isStrOf_shape (x:=x) (v:=v) h;exact .inr ⟨x,t,rfl,e⟩
theorem keyIs_int(i:Int)(t:Tok):keyIs (.inl i) (.int i t)=true:=by simp[keyIs,Value.isInt]
theorem keyIs_str(x:Str)(t:Tok):keyIs (.inr x) (.str x t)=true:=by simp[keyIs,Value.isStrOf]
theorem key_ll(a b:Int):decide ((Sum.inl a:Key)=Sum.inl b)=(a==b):=by
 by_cases e:a=b
 ·subst e;simp
 ·have h: ¬(Sum.inl a:Key)=Sum.inl b:=fun q=>e (Sum.inl.inj q);rw[decide_eq_false h];exact(beq_eq_false_iff_ne.mpr e).symm
theorem key_rr(a b:Str):decide ((Sum.inr a:Key)=Sum.inr b)=decide (a=b):=by
 by_cases e:a=b
 ·subst e;simp
 ·have h: ¬(Sum.inr a:Key)=Sum.inr b:=fun q=>e (Sum.inr.inj q);rw[decide_eq_false h,decide_eq_false e]
theorem key_lr(a:Int)(b:Str):decide ((Sum.inl a:Key)=Sum.inr b)=false:=decide_eq_false (fun q=>nomatch q)
theorem key_rl(a:Str)(b:Int):decide ((Sum.inr a:Key)=Sum.inl b)=false:=decide_eq_false (fun q=>nomatch q)
def mixKind(prog:Program)(w:World):PySem.KeyKind prog w Key where
 is:=keyIs
 hash:=keyH w
 inj:=fun v a b ha hb=>by
  rcases ZF ha with⟨i,t,rfl,rfl⟩|⟨x,t,rfl,rfl⟩
  ·rcases ZF hb with⟨j,u,rfl,e⟩|⟨y,u,rfl,e⟩
   ·injection e with e1 _;rw[e1]
   ·exact nomatch e
  ·rcases ZF hb with⟨j,u,rfl,e⟩|⟨y,u,rfl,e⟩
   ·exact nomatch e
   ·injection e with e1 _;rw[e1]
 byValue:=fun k v h=>by
  rcases ZF h with⟨i,t,rfl,rfl⟩|⟨x,t,rfl,rfl⟩<;>rfl
 pyHash:=fun hv h=>by
  rcases ZF hv with⟨i,t,rfl,rfl⟩|⟨x,t,rfl,rfl⟩
  ·exact wpAny_pyHash_int h
  ·exact wpAny_pyHash_str h
 eqBool:=fun hu hv h=>by
  rcases ZF hu with⟨i,t,rfl,rfl⟩|⟨x,t,rfl,rfl⟩
  ·rcases ZF hv with⟨j,u,rfl,rfl⟩|⟨y,u,rfl,rfl⟩
   ·rw[key_ll] at h;exact wpAny_eqBool_int h
   ·rw[key_lr] at h;exact SeqAt.EqAt.int_str i t y u _ _ _ _ h
  ·rcases ZF hv with⟨j,u,rfl,rfl⟩|⟨y,u,rfl,rfl⟩
   ·rw[key_rl] at h;exact SeqAt.EqAt.str_int x t j u _ _ _ _ h
   ·rw[key_rr] at h;exact wpAny_eqBool_str h
 «strs»:=fun k x t v h=>by
  rcases ZF h with⟨i,u,rfl,e⟩|⟨y,u,rfl,e⟩
  ·exact nomatch e
  ·injection e with e1 _
   subst e1;cases v<;>rfl
theorem mixKind_int(prog:Program)(w:World)(i:Int)(t:Tok):(mixKind prog w).is (.inl i) (.int i t)=true:=keyIs_int i t
theorem mixKind_str(prog:Program)(w:World)(x:Str)(t:Tok):(mixKind prog w).is (.inr x) (.str x t)=true:=keyIs_str x t
inductive V where
 |non|bl (b:Bool)|int (i:Int)|str (x:Str)|byt (b:Array UInt8)|flt (b:UInt64)|ref (a:Addr)|ty (n:String)
 deriving DecidableEq
def RelV:V->Value->Prop
 |.non,u=>u=Value.none
 |.bl b,u=>u=Value.bool b
 |.int i,u=>∃t,u=Value.int i t
 |.str x,u=>∃t,u=Value.str x t
 |.byt b,u=>∃t,u=Value.bytes b t
 |.flt b,u=>∃t,u=Value.float b t
 |.ref a,u=>u=Value.ref a
 |.ty n,u=>u=Value.type n
abbrev Vals:List V->List Value->Prop:=Paired RelV
theorem Vals.length{xs:List V}{us:List Value}(r:Vals xs us):xs.length=us.length:=Paired.length r
theorem Vals.get: ∀{xs:List V} {us:List Value} {i:Nat} {x:V},Vals xs us->xs[i]? =some x->∃u,us[i]? =some u/\RelV x u
 |_,_,_,_,.nil,e=>by simp at e
 |_,_,0,_,.cons r _,e=>by simp at e;subst e;exact⟨_,rfl,r⟩
 |_,_,i+1,x,.cons _ t,e=>by
  obtain⟨u,h1,h2⟩:=Vals.get (i:=i) (x:=x) t (by simpa using e);exact⟨u,by simpa using h1,h2⟩
theorem Vals.set{x:V}{u:Value}(r:RelV x u): ∀{xs:List V} {us:List Value} (i:Nat),Vals xs us->Vals (xs.set i x) (us.set i u)
 |_,_,_,.nil=>.nil
 |_,_,0,.cons _ t=>.cons r t
 |_,_,i+1,.cons q t=>.cons q (Vals.set r i t)
theorem Vals.append: ∀{xs ys:List V} {us ws:List Value},Vals xs us->Vals ys ws->Vals (xs++ys) (us++ws)
 |_,_,_,_,.nil,s=>s
 |_,_,_,_,.cons r t,s=>.cons r (Vals.append t s)
theorem Vals.take: ∀{xs:List V} {us:List Value} (n:Nat),Vals xs us->Vals (xs.take n) (us.take n)
 |_,_,0,_=>.nil
 |_,_,_+1,.nil=>.nil
 |_,_,n+1,.cons r t=>.cons r (Vals.take n t)
theorem Vals.drop: ∀{xs:List V} {us:List Value} (n:Nat),Vals xs us->Vals (xs.drop n) (us.drop n)
 |_,_,0,r=>r
 |_,_,_+1,.nil=>.nil
 |_,_,n+1,.cons _ t=>Vals.drop n t
def RelO:Option V->Option Value->Prop
 |some v,some u=>RelV v u
 |none,none=>True
 |_,_=>False
def KV{κ:Type}:List (κ×V)->List (κ×Value)->Prop:=Paired fun(p:κ×V) (q:κ×Value)=>p.1=q.1/\RelV p.2 q.2
def kV:Key->V
 |.inl i=>.int i
 |.inr x=>.str x
inductive HO where
 |lst (xs:List V)
 |tup (xs:List V)
 |dK (kvs:List (Key×V))|dT (kvs:List (List Key×V))
 |set (S:Int->Bool) (n:Nat)
 |ins (C dx:Addr) (fs:List (Str×V))
 |own (x:Addr)
 |xd (fs:List (Str×V))
 |met (f x:Addr)
 |rng (lo hi:Int)
 |frz (o:Obj) (u:HO)
 |tbl (ps:Array Value)
 |ext (φ:Heap->Prop)
abbrev Hp:=Addr->Option HO
def upd(H:Hp)(a:Addr)(o:HO):Hp:=fun b=>if b=a then some o else H b
theorem zB{H:Hp}{a:Addr}{o:HO}:upd H a o a=some o:=by unfold upd;rw[if_pos rfl]
theorem zH{H:Hp}{a b:Addr}{o:HO}(h:b≠a):upd H a o b=H b:=by unfold upd;rw[if_neg h]
theorem ZW{H:Hp}{a b:Addr}{o u:HO}(h:H a=some o)(h':H b=some u)(d:o≠u):a≠b:=by
 intro e;subst e;rw[h] at h';exact d (Option.some.inj h')
theorem zJ{H:Hp}{a b:Addr}{o:HO}(h:H a=some o)(h':H b=none):a≠b:=by
 intro e;subst e;rw[h] at h';cases h'
section
variable (P:Program)(w:World)
def ObjOk(H:Hp)(h:Heap)(a:Addr):HO->Prop
 |.lst xs=>xs.length<=sizeLine/\∃(its:List Value) (n:Nat),Vals xs its/\h.get? a=some {cls:=.type "list",data:=.seq its.toArray n}
 |.tup xs=>xs.length<=sizeLine/\∃its:List Value,Vals xs its/\IsTup h a its.toArray
 |.dK kvs=>kvs.length<=sizeLine/\(a==sysModules)=false/\∃vs,KV kvs vs/\h.DictOf (mixKind P w) a vs
 |.dT kvs=>kvs.length<=sizeLine/\(a==sysModules)=false/\∃xs:List (List Key×Addr×Value),
   Paired (fun(p:List Key×V) (q:List Key×Addr×Value)=>p.1=q.1/\H q.2.1=some (.tup (p.1.map kV))/\RelV p.2 q.2.2) kvs xs/\
   ∃o es ep,h.get? a=some o/\o.ExactDict/\o.data=.dict es ep/\es.toList=xs.map (entryOfKey (tupleKind (mixKind P w)))/\(xs.map (·.1)).Nodup
 |.set S n=>h.SetOf (intKind P w) a S n
 |.ins C dx fs=>H dx=some (.own a)/\fs.length<=1000/\dx≠a/\h.get? a=some (PySem.W.instObj C dx)/\
   ∃mA,h.Ns1 dx mA/\(∀f,RelO (fs.lookup f) (mA f))/\PySem.Within mA (fs.map (·.1))
 |.own _=>∃o,h.get? a=some o
 |.xd fs=>∃mA,h.Ns1 a mA/\∀f,RelO (fs.lookup f) (mA f)
 |.rng lo hi=>∃t u v,h.get? a=some {cls:=.type "range",data:=.fields #[.int lo t,.int hi u,.int 1 v]}
 |.frz o u=>h.get? a=some o/\ObjOk H h a u
 |.tbl ps=>h.get? a=some {cls:=.none,data:=.fields ps}
 |.met f x=>h.get? a=some (PySem.W.methodObj (.ref f) (.ref x))
 |.ext φ=>φ h/\(∃o,h.get? a=some o)/\∀h1 h2:Heap,φ h1->(∀o,h1.get? a=some o->h2.get? a=some o)->φ h2
def HOk(H:Hp)(h:Heap):Prop:=∀a o,H a=some o->ObjOk P w H h a o
end
section
variable {P:Program}{w:World}{H H':Hp}{h h':Heap}{a:Addr}{o:HO}
theorem ObjOk.lt(x:ObjOk P w H h a o):a<h.objs.size:=by
 cases o with
 |lst xs=>obtain⟨_,_,_,_,e⟩:=x;exact Heap.lt_size e
 |tup xs=>obtain⟨_,_,_,p⟩:=x;exact p.lt
 |dK kvs=>obtain⟨_,_,_,_,o,_,_,e,_⟩:=x;exact Heap.lt_size e
 |dT kvs=>obtain⟨_,_,_,_,o,_,_,e,_⟩:=x;exact Heap.lt_size e
 |set S n=>obtain⟨o,_,_,_,e,_⟩:=x;exact Heap.lt_size e
 |ins C dx fs=>obtain⟨_,_,_,e,_⟩:=x;exact Heap.lt_size e
 |own y=>obtain⟨_,e⟩:=x;exact Heap.lt_size e
 |xd fs=>obtain⟨_,⟨_,_,_,e,_⟩,_⟩:=x;exact Heap.lt_size e
 |rng lo hi=>obtain⟨_,_,_,e⟩:=x;exact Heap.lt_size e
 |frz ob u=>obtain⟨e,_⟩:=x;exact Heap.lt_size e
 |tbl ps=>exact Heap.lt_size (show h.get? a=some _ from x)
 |met f y=>exact Heap.lt_size (show h.get? a=some _ from x)
 |ext φ=>obtain⟨_,⟨_,e⟩,_⟩:=x;exact Heap.lt_size e
theorem Paired.mapP{α β:Type}{F G:α->β->Prop}: ∀{l₁:List α} {l₂:List β},Paired F l₁ l₂->(∀a b,F a b->G a b)->Paired G l₁ l₂
 |_,_,.nil,_=>.nil
 |_,_,.cons r t,f=>.cons (f _ _ r) (Paired.mapP t f)
theorem ObjOk.stay(x:ObjOk P w H h a o)(k: ∀b u,(b=a∨H b=some (.own a))->h.get? b=some u->h'.get? b=some u)
  (ho: ∀b,H b=some (.own a)->H' b=some (.own a))(ht: ∀b xs,H b=some (.tup xs)->H' b=some (.tup xs)):ObjOk P w H' h' a o:=by
 induction o with
 |lst xs=>obtain⟨z,its,n,r,e⟩:=x;exact⟨z,its,n,r,k _ _ (.inl rfl) e⟩
 |tup xs=>obtain⟨z,its,r,ob,e,c⟩:=x;exact⟨z,its,r,ob,k _ _ (.inl rfl) e,c⟩
 |dK kvs=>obtain⟨z,y,vs,r,ob,es,ep,e,c⟩:=x;exact⟨z,y,vs,r,ob,es,ep,k _ _ (.inl rfl) e,c⟩
 |dT kvs=>
  obtain⟨z,y,xs,r,ob,es,ep,e,c⟩:=x;exact⟨z,y,xs,Paired.mapP r fun p q z=>⟨z.1,ht _ _ z.2.1,z.2.2⟩,ob,es,ep,k _ _ (.inl rfl) e,c⟩
 |set S n=>obtain⟨ob,es,ep,t,e,c⟩:=x;exact⟨ob,es,ep,t,k _ _ (.inl rfl) e,c⟩
 |ins C dx fs=>
  obtain⟨d,z,ne,e,mA,⟨od,es,ep,e2,c⟩,r⟩:=x;exact⟨ho _ d,z,ne,k _ _ (.inl rfl) e,mA,⟨od,es,ep,k _ _ (.inr d) e2,c⟩,r⟩
 |own y=>obtain⟨ob,e⟩:=x;exact⟨ob,k _ _ (.inl rfl) e⟩
 |xd fs=>obtain⟨mA,⟨od,es,ep,e,c⟩,r⟩:=x;exact⟨mA,⟨od,es,ep,k _ _ (.inl rfl) e,c⟩,r⟩
 |rng lo hi=>obtain⟨t,u,v,e⟩:=x;exact⟨t,u,v,k _ _ (.inl rfl) e⟩
 |frz ob u ih=>obtain⟨e,q⟩:=x;exact⟨k _ _ (.inl rfl) e,ih q⟩
 |tbl ps=>
  have e:h.get? a=some {cls:=.none,data:=.fields ps}:=x;show h'.get? a=some {cls:=.none,data:=.fields ps};exact k a _ (.inl rfl) e
 |met f y=>
  have e:h.get? a=some (PySem.W.methodObj (.ref f) (.ref y)):=x;show h'.get? a=some (PySem.W.methodObj (.ref f) (.ref y));exact k a _ (.inl rfl) e
 |ext φ=>obtain⟨p,⟨o,e⟩,st⟩:=x;exact⟨st _ _ p fun o q=>k _ _ (.inl rfl) q,⟨o,k _ _ (.inl rfl) e⟩,st⟩
theorem HOk.lt(x:HOk P w H h)(e:H a=some o):a<h.objs.size:=(x a o e).lt
theorem HOk.fresh(x:HOk P w H h)(e:h.objs.size<=a):H a=none:=by
 cases q:H a with
 |none=>rfl
 |some u=>exact absurd (Nat.lt_of_lt_of_le (x.lt q) e) (Nat.lt_irrefl _)
theorem HOk.kept(x:HOk P w H h)(k: ∀b u,h.get? b=some u->h'.get? b=some u):HOk P w H h':=fun a o e=>
 (x a o e).stay (fun b u _ q=>k b u q) (fun _ q=>q) fun _ _ q=>q
theorem HOk.laid(x:HOk P w H h)(k: ∀b u,h.get? b=some u->h'.get? b=some u)(hp:h.objs.size<=a)(new:ObjOk P w (upd H a o) h' a o):HOk P w (upd H a o) h':=fun b u e=>by
 have hn:=x.fresh hp;by_cases hb:b=a
 ·subst hb;rw[zB] at e;cases e;exact new
 ·rw[zH hb] at e;exact(x b u e).stay (fun c v _ q=>k c v q) (fun c q=>by rw[zH (zJ q hn)];exact q) fun c xs q=>by rw[zH (zJ q hn)];exact q
end
def Rd(H:Hp)(a:Addr)(u:HO):Prop:=H a=some u∨∃o,H a=some (.frz o u)
theorem Rd.ok{P:Program}{w:World}{H:Hp}{h:Heap}{a:Addr}{u:HO}(r:Rd H a u)(x:HOk P w H h):ObjOk P w H h a u:=by
 rcases r with r|⟨o,r⟩
 ·exact x a u r
 ·obtain⟨_,q⟩:=x a _ r;exact q
def Mut:Option HO->Prop
 |some (.lst _)=>True
 |some (.dK _)=>True
 |some (.dT _)=>True
 |some (.set _ _)=>True
 |some (.ins _ _ _)=>True
 |some (.ext _)=>True
 |_=>False
section
variable {P:Program}{w:World}{H:Hp}{h h':Heap}{x e:Addr}{o':HO}
theorem HOk.write(ok:HOk P w H h)(mu:Mut (H x))(he:e=x∨H e=some (.own x))(k: ∀b u,b≠e->h.get? b=some u->h'.get? b=some u)(heo: ∃u,h'.get? e=some u)
  (new:ObjOk P w (upd H x o') h' x o'):HOk P w (upd H x o') h':=fun b u q=>by
 have nown: ∀c y,H c=some (.own y)->c≠x:=fun c y r z=>by subst z;rw[r] at mu;exact mu
 have ntup: ∀c xs,H c=some (.tup xs)->c≠x:=fun c xs r z=>by subst z;rw[r] at mu;exact mu
 by_cases hb:b=x
 ·subst hb;rw[zB] at q;cases q;exact new
 ·rw[zH hb] at q;by_cases hbe:b=e
  ·have q':H b=some (.own x):=by
    rcases he with z|z
    ·exact absurd (hbe.trans z) hb
    ·rw[hbe];exact z
   rw[q] at q';cases q';obtain⟨v,hv⟩:=heo;exact⟨v,by rw[hbe];exact hv⟩
  ·refine(ok b u q).stay (fun c v hc r=>k c v ?_ r) (fun c r=>by rw[zH (nown c b r)];exact r) fun c xs r=>by rw[zH (ntup c xs r)];exact r
   rcases hc with rfl|hc
   ·exact hbe
   ·rintro rfl;rcases he with z|z
    ·exact nown c b hc z
    ·rw[hc] at z;cases z;exact hb rfl
end
structure Un(fs ex:List Addr)(H H':Hp)(h h':Heap):Prop where
 keep: ∀b o,h.get? b=some o->H b=none->b∉fs->b∉ex->h'.get? b=some o
 slot: ∀b o,h.get? b=some o->H b=none->b∈fs->b∉ex->∃sl,h'.get? b=some {o with slots:=sl}
 free: ∀b o,h.get? b=some o->H b=none->b∉ex->H' b=none
 there: ∀b o,h.get? b=some o->b∉ex->∃o',h'.get? b=some o'
 tups: ∀b xs,H b=some (.tup xs)->H' b=some (.tup xs)
 frzs: ∀b o u,H b=some (.frz o u)->H' b=some (.frz o u)
 tbls: ∀b ps,H b=some (.tbl ps)->∃more,H' b=some (.tbl (ps++more))
section
variable {fs fs' ex ex':List Addr}{H H1 H2:Hp}{h h1 h2 h':Heap}{a x e:Addr}{o:HO}
theorem Un.any(u:Un fs ex H H1 h h1){b:Addr}{ob:Obj}(q:h.get? b=some ob)(n:H b=none)(hx:b∉ex): ∃sl,h1.get? b=some {ob with slots:=sl}:=by
 by_cases hb:b∈fs
 ·exact u.slot b ob q n hb hx
 ·exact⟨ob.slots,u.keep b ob q n hb hx⟩
theorem Un.kept(k: ∀b u,h.get? b=some u->h'.get? b=some u):Un fs ex H H h h':=
 ⟨fun b ob q _ _ _=>k b ob q,fun b ob q _ _ _=>⟨ob.slots,k b ob q⟩,fun _ _ _ n _=>n,fun b ob q _=>⟨ob,k b ob q⟩,fun _ _ q=>q,fun _ _ _ q=>q,fun _ ps q=>⟨#[],by rw[q];simp⟩⟩
theorem Un.refl:Un fs ex H H h h:=Un.kept fun _ _ q=>q
theorem Un.laid(k: ∀b u,h.get? b=some u->h'.get? b=some u)(hp:h.objs.size<=a)(hn:H a=none):Un fs ex H (upd H a o) h h' where
 keep:=fun b u q _ _ _=>k b u q
 slot:=fun b u q _ _ _=>⟨u.slots,k b u q⟩
 free:=fun b u q n _=>by rw[zH (Nat.ne_of_lt (Nat.lt_of_lt_of_le (Heap.lt_size q) hp))];exact n
 there:=fun b u q _=>⟨u,k b u q⟩
 tups:=fun b xs q=>by rw[zH (zJ q hn)];exact q
 frzs:=fun b u xs q=>by rw[zH (zJ q hn)];exact q
 tbls:=fun b ps q=>⟨#[],by rw[zH (zJ q hn),q];simp⟩
theorem Un.write(mu:Mut (H x))(he:e=x∨H e=some (.own x))(k: ∀b u,b≠e->h.get? b=some u->h'.get? b=some u)(heo: ∃u,h'.get? e=some u):Un fs ex H (upd H x o) h h':=by
 have hx: ∀b,H b=none->b≠x:=fun b n z=>by subst z;rw[n] at mu;exact mu
 have hb: ∀b,H b=none->b≠e:=fun b n z=>by
  subst z;rcases he with r|r
  ·exact hx b n r
  ·rw[n] at r;cases r
 have hm: ∀b u,H b=some u->¬Mut (some u)->b≠x:=fun b u q nm z=>by subst z;rw[q] at mu;exact nm mu
 refine⟨fun b u q n _ _=>k b u (hb b n) q,fun b u q n _ _=>⟨u.slots,k b u (hb b n) q⟩,fun b u q n _=>by rw[zH (hx b n)];exact n,fun b u q _=> ?_,
  fun b xs q=>by rw[zH (hm b _ q fun z=>z)];exact q,fun b u xs q=>by rw[zH (hm b _ q fun z=>z)];exact q,fun b ps q=>⟨#[],by rw[zH (hm b _ q fun z=>z),q];simp⟩⟩
 by_cases hbe:b=e
 ·subst hbe;exact heo
 ·exact⟨u,k b u hbe q⟩
end
def trk(h:Heap)(H:Hp):List Addr:=(List.range h.objs.size).filter fun a=>(H a).isSome
def hidT(h:Heap)(H:Hp):Heap:=PySem.W.hideAll h (trk h H)
theorem hidT_size(h:Heap)(H:Hp):(hidT h H).objs.size=h.objs.size:=PySem.W.hideAll_size _ _
theorem hidT_get{h:Heap}{H:Hp}{b:Addr}{o:Obj}(e:h.get? b=some o)(n:H b=none):(hidT h H).get? b=some o:=
 PySem.W.hideAll_get _ e fun hm=>by
  have q:(H b).isSome=true:=(List.mem_filter.mp hm).2;rw[n] at q;simp at q
theorem of_hidT{h:Heap}{H:Hp}{b:Addr}{o:Obj}(e:(hidT h H).get? b=some o):h.get? b=some o/\H b=none:=by
 have e':h.get? b=some o:=PySem.W.of_hideAll (trk h H) e;refine⟨e',?_⟩;cases q:H b with
 |none=>rfl
 |some x=>
  have hm:b∈trk h H:=List.mem_filter.mpr ⟨List.mem_range.mpr (Heap.lt_size e'),by simp[q]⟩;have z:(hidT h H).get? b=none:=PySem.W.hideAll_none (trk h H) hm;rw[z] at e;cases e
structure Mod(K:PySem.W.Frag)(mg:Str->Option Value)(base:Heap):Prop where
 kin:K.In base
 glob:base.Ns mainGlobals mg
 blt: ∃mb,base.Ns builtinsNs mb/\∀x:Str,x≠"__name__"->mb x=bootBuiltins x
 nolimit:base.NoLimit
structure Cx where
 prog:Program
 w:World
 K:PySem.W.Frag
 mg:Str->Option Value
 base:Heap
 A:Around
 N:List Str
 s_0:Shared
 H_0:Hp
 env:Env
 outer:List Env
 stack:List Env
 ex:List Addr
 fn:Str->Bool
 calm:Bool
 pn:List (Addr×Obj)
 xe:Value->Shared->Prop
def frs(l:List Env):List Addr:=l.filterMap (·.frame)
abbrev Cx.fs(X:Cx):List Addr:=frs X.outer
def Vis(sc:Scope)(x:Str):Prop:=sc.names.lookup x=some .local∨sc.names.lookup x=some .cell∨sc.names.lookup x=some .free
def Loc(sc:Scope)(x:Str):Prop:=sc.names.lookup x=some .local∨sc.names.lookup x=some .cell
def Look(env:Env)(h:Heap)(m:Str->Option Value)(x:Str)(u:Value):Prop:=
 (env.kindOf x=some .local/\m x=some u)∨((env.kindOf x=some .cell∨env.kindOf x=some .free)/\∃c,env.cells.lookup x=some c/\h.IsCell c (some u))
structure Cx.Ok(X:Cx):Prop where
 mod:Mod X.K X.mg X.base
 kind:X.env.scope.kind=.function
 glob:X.env.globals=mainGlobals
 blt:X.env.builtins=builtinsNs
 above:X.s_0.heap.objs.size<=X.env.locals
 inj: ∀x y c,X.env.cells.lookup x=some c->X.env.cells.lookup y=some c->x=y
 has: ∀x,(X.env.kindOf x=some .cell∨X.env.kindOf x=some .free)->∃c,X.env.cells.lookup x=some c
 cab: ∀x c,X.fn x=true->X.env.cells.lookup x=some c->X.s_0.heap.objs.size<=c
 hd:X.calm=true->X.A.handled=none
 frames:X.A.frames=some X.stack
 stk:X.stack=X.outer∨(X.stack=X.env::X.outer/\X.env.frame=some X.env.locals)
 exf: ∀b∈X.ex,b≠X.env.locals/\∀x c,X.env.cells.lookup x=some c->c≠b
 bs: ∀b o,X.base.get? b=some o->X.s_0.heap.get? b=some o/\X.H_0 b=none
 bsz:X.base.objs.size<=X.s_0.heap.objs.size
 noex: ∀b o,X.base.get? b=some o->b∉X.ex
 exfs: ∀b∈X.ex,b∉X.fs
 funs:X.s_0.heap.FunFrames X.base X.outer
 frf: ∀b∈X.fs,X.H_0 b=none
structure Inv(X:Cx)(pins:List (Addr×Obj))(σ:List (Option V))(H:Hp)(s:Shared):Prop where
 ok:X.Ok
 os:s.os=X.s_0.os
 bare:AllBare s.gens
 base:Un X.fs X.ex X.H_0 H X.s_0.heap s.heap
 loc: ∃m,s.heap.Ns X.env.locals m/\∀(i:Nat) (x:Str) (v:V),X.N[i]? =some x->σ[i]? =some (some v)->Vis X.env.scope x->∃u,RelV v u/\Look X.env s.heap m x u
 cell: ∀x c,X.env.cells.lookup x=some c->∃v,s.heap.IsCell c v
 free:H X.env.locals=none
 freeC: ∀x c,X.env.cells.lookup x=some c->H c=none
 pin: ∀p∈X.pn++pins,s.heap.get? p.1=some p.2/\H p.1=none/\p.1≠X.env.locals/\p.1∉X.fs/\∀v,p.2.data≠ .cell v
 hok:HOk X.prog X.w H s.heap
 len:σ.length=X.N.length
section
variable {X:Cx}{pins:List (Addr×Obj)}{σ:List (Option V)}{H H':Hp}{s:Shared}{h':Heap}
theorem Cx.Ok.nofr(ok:X.Ok){b:Addr}{o:Obj}(e:X.base.get? b=some o):b∉X.fs:=fun hb=>by
 have:=(ok.funs.mem hb).1;rw[e] at this;cases this
theorem Inv.bs(I:Inv X pins σ H s): ∀b o,X.base.get? b=some o->s.heap.get? b=some o/\H b=none:=fun b o e=>
 ⟨I.base.keep b o (I.ok.bs b o e).1 (I.ok.bs b o e).2 (I.ok.nofr e) (I.ok.noex b o e),I.base.free b o (I.ok.bs b o e).1 (I.ok.bs b o e).2 (I.ok.noex b o e)⟩
theorem Inv.bk(I:Inv X pins σ H s): ∀b o,X.base.get? b=some o->s.heap.get? b=some o:=fun b o e=>(I.bs b o e).1
theorem Inv.mod(I:Inv X pins σ H s):Mod X.K X.mg X.base:=I.ok.mod
theorem Inv.kIn(I:Inv X pins σ H s):X.K.In s.heap:=I.ok.mod.kin.keeps I.bk
theorem Inv.fr(I:Inv X pins σ H s): ∃m,Fr X.base X.env.locals s.heap m:=
 let⟨m,hn,_⟩:=I.loc
 ⟨m,hn,I.bk,Nat.le_trans I.ok.bsz I.ok.above⟩
theorem Inv.lt(I:Inv X pins σ H s):X.env.locals<s.heap.objs.size:=let⟨_,hn,_⟩:=I.loc;hn.lt
theorem Inv.sz(I:Inv X pins σ H s):X.s_0.heap.objs.size<=s.heap.objs.size:=Nat.le_trans I.ok.above (Nat.le_of_lt I.lt)
theorem Inv.nofs(I:Inv X pins σ H s){a:Addr}(h:s.heap.objs.size<=a):a∉X.fs:=fun hb=>by
 obtain⟨_,o,ho,_⟩:=I.ok.funs.mem hb;exact absurd (Nat.lt_of_lt_of_le (Heap.lt_size ho) (Nat.le_trans I.sz h)) (Nat.lt_irrefl _)
theorem Inv.cne(I:Inv X pins σ H s): ∀x c,X.env.cells.lookup x=some c->c≠X.env.locals:=fun x c e z=>by
 obtain⟨v,o,ho,hd⟩:=I.cell x c e;obtain⟨m,⟨o',es,ep,ho',hd',_⟩,_⟩:=I.loc;rw[z,ho'] at ho;cases ho;rw[hd'] at hd;cases hd
theorem Inv.funs(I:Inv X pins σ H s):s.heap.FunFrames X.base X.outer:=by
 have all: ∀(l:List Env),(∀b∈frs l,b∈X.fs)->X.s_0.heap.FunFrames X.base l->s.heap.FunFrames X.base l:=by
  intro l;induction l with
  |nil=>intro _ _;trivial
  |cons env r ih=>
   intro hs hl;obtain⟨hk,⟨L,o,hf,hn,ho,hd⟩,hr⟩:=hl;have hL:L∈X.fs:=hs L (by unfold frs;rw[List.filterMap_cons,hf];exact List.mem_cons_self);obtain⟨sl,e⟩:=I.base.slot L o ho (I.ok.frf L hL) hL fun z=>I.ok.exfs L z hL;exact⟨hk,⟨L,_,hf,hn,e,hd⟩,ih (fun b hb=>hs b (by unfold frs;rw[List.filterMap_cons,hf];exact List.mem_cons_of_mem _ hb)) hr⟩
 exact all X.outer (fun _ hb=>hb) I.ok.funs
theorem Inv.stack(I:Inv X pins σ H s):s.heap.FunFrames X.base X.stack:=by
 rcases I.ok.stk with e|⟨e,hf⟩
 ·rw[e];exact I.funs
 ·rw[e];obtain⟨m,hn,_⟩:=I.loc;refine .cons (by rw[I.ok.kind];decide) hf hn ?_ I.funs;exact Heap.get?_none_of_le (Nat.le_trans I.ok.bsz I.ok.above)
theorem Inv.stkSub(I:Inv X pins σ H s): ∀b∈frs X.stack,b∈X.env.locals::X.fs:=fun b hb=>by
 rcases I.ok.stk with e|⟨e,hf⟩
 ·rw[e] at hb;exact List.mem_cons_of_mem _ hb
 ·rw[e] at hb;unfold frs at hb;rw[List.filterMap_cons,hf] at hb;exact hb
theorem Inv.stkFree(I:Inv X pins σ H s): ∀b∈frs X.stack,H b=none:=fun b hb=>by
 rcases List.mem_cons.mp (I.stkSub b hb) with e|hb
 ·rw[e];exact I.free
 ·obtain⟨_,o,ho,_⟩:=I.ok.funs.mem hb;exact I.base.free b o ho (I.ok.frf b hb) fun z=>I.ok.exfs b z hb
theorem Inv.step{g':Array GenState}{t':Nat}{d':Drawn}{ch:List Addr}(I:Inv X pins σ H s)
  (hch: ∀b∈ch,(b∈X.ex∨X.s_0.heap.objs.size<=b)/\b≠X.env.locals/\(∀x c,X.env.cells.lookup x=some c->c≠b)/\∀p∈X.pn++pins,p.1≠b)
  (keep: ∀b o,b≠X.env.locals->b∉X.fs->b∉ch->s.heap.get? b=some o->H b=none->h'.get? b=some o)
  (slot: ∀b o,b≠X.env.locals->b∈X.fs->b∉ch->s.heap.get? b=some o->H b=none->∃sl,h'.get? b=some {o with slots:=sl})(free: ∀b o,b∉ch->s.heap.get? b=some o->H b=none->H' b=none)
  (there: ∀b o,b∉ch->s.heap.get? b=some o->∃o',h'.get? b=some o')
  (tups: ∀b xs,H b=some (.tup xs)->H' b=some (.tup xs))(frzs: ∀b o u,H b=some (.frz o u)->H' b=some (.frz o u))(tbls: ∀b ps,H b=some (.tbl ps)->∃more,H' b=some (.tbl (ps++more)))
  (ns: ∀m,s.heap.Ns X.env.locals m->h'.Ns X.env.locals m)(hok:HOk X.prog X.w H' h')(hg:AllBare g'):
  Inv X pins σ H' {s with heap:=h',gens:=g',drawn:=d',toks:=t'}:=by
 have neL: ∀b o,X.s_0.heap.get? b=some o->b≠X.env.locals:=fun b o e=>Nat.ne_of_lt (Nat.lt_of_lt_of_le (Heap.lt_size e) I.ok.above);have neC: ∀b o,X.s_0.heap.get? b=some o->b∉X.ex->b∉ch:=fun b o e hx hb=>by
  rcases(hch b hb).1 with z|z
  ·exact hx z
  ·exact absurd (Nat.lt_of_lt_of_le (Heap.lt_size e) z) (Nat.lt_irrefl _)
 have cellK: ∀x c,X.env.cells.lookup x=some c->∀v,s.heap.IsCell c v->h'.IsCell c v:=fun x c e v ⟨o,ho,hd⟩=>by
  have nch:c∉ch:=fun z=>(hch c z).2.2.1 x c e rfl;by_cases hc:c∈X.fs
  ·obtain⟨sl,q⟩:=slot c o (I.cne x c e) hc nch ho (I.freeC x c e);exact⟨_,q,hd⟩
  ·exact⟨o,keep c o (I.cne x c e) hc nch ho (I.freeC x c e),hd⟩
 refine⟨I.ok,I.os,hg,⟨fun b o e n hb hx=> ?_,fun b o e n hb hx=> ?_,fun b o e n hx=> ?_,fun b o e hx=> ?_,fun b xs e=>tups b xs (I.base.tups b xs e),fun b o xs e=>frzs b o xs (I.base.frzs b o xs e),fun b ps e=> ?_⟩,?_,fun x c e=> ?_,?_,fun x c e=> ?_,fun p hp=> ?_,hok,I.len⟩
 ·exact keep b o (neL b o e) hb (neC b o e hx) (I.base.keep b o e n hb hx) (I.base.free b o e n hx)
 ·obtain⟨sl,e1⟩:=I.base.slot b o e n hb hx;obtain⟨sl',e2⟩:=slot b _ (neL b o e) hb (neC b o e hx) e1 (I.base.free b o e n hx);exact⟨sl',e2⟩
 ·obtain⟨o',e1⟩:=I.base.there b o e hx;exact free b o' (neC b o e hx) e1 (I.base.free b o e n hx)
 ·obtain⟨o',e1⟩:=I.base.there b o e hx;exact there b o' (neC b o e hx) e1
 ·obtain⟨m1,e1⟩:=I.base.tbls b ps e;obtain⟨m2,e2⟩:=tbls b _ e1;exact⟨m1++m2,by rw[e2,Array.append_assoc]⟩
 ·obtain⟨m,hn,hl⟩:=I.loc;refine⟨m,ns m hn,fun i x v e1 e2 e3=> ?_⟩;obtain⟨u,r,l⟩:=hl i x v e1 e2 e3;refine⟨u,r,?_⟩;rcases l with l|⟨k,c,e,z⟩
  ·exact .inl l
  ·exact .inr ⟨k,c,e,cellK x c e _ z⟩
 ·obtain⟨v,z⟩:=I.cell x c e;exact⟨v,cellK x c e v z⟩
 ·obtain⟨m,⟨o,_,_,ho,_⟩,_⟩:=I.loc;exact free _ o (fun z=>(hch _ z).2.1 rfl) ho I.free
 ·obtain⟨v,o,ho,hd⟩:=I.cell x c e;exact free c o (fun z=>(hch c z).2.2.1 x c e rfl) ho (I.freeC x c e)
 ·obtain⟨e,n,ne,nf,d⟩:=I.pin p hp;have nch:p.1∉ch:=fun z=>(hch p.1 z).2.2.2 p hp rfl;exact⟨keep p.1 p.2 ne nf nch e n,free p.1 p.2 nch e n,ne,nf,d⟩
theorem Inv.un{t':Nat}(I:Inv X pins σ H s)(u:Un X.fs [] H H' s.heap h')(hok:HOk X.prog X.w H' h'):Inv X pins σ H' {s with heap:=h',toks:=t'}:=by
 obtain⟨m,⟨o,es,ep,ho,r⟩,_⟩:=id I.loc;obtain⟨sl,hL⟩:=u.any ho I.free (by simp);exact I.step (g':=s.gens) (d':=s.drawn) (ch:=[]) (fun _ z=>nomatch z) (fun b o _ hb _ e n=>u.keep b o e n hb (by simp)) (fun b o _ hb _ e n=>u.slot b o e n hb (by simp)) (fun b o _ e n=>u.free b o e n (by simp)) (fun b o _ e=>u.there b o e (by simp)) u.tups u.frzs u.tbls (fun m' hm=>by
  obtain⟨o',es',ep',ho',r'⟩:=hm;rw[ho] at ho';cases ho';exact⟨_,es',ep',hL,r'⟩) hok I.bare
theorem Inv.call{g':Array GenState}{t':Nat}{d':Drawn}{ch:List Addr}(I:Inv X pins σ H s)(u:Un (frs X.stack) ch H H' s.heap h')(hok:HOk X.prog X.w H' h')(hg:AllBare g')
  (hch: ∀b∈ch,(b∈X.ex∨X.s_0.heap.objs.size<=b)/\b≠X.env.locals/\(∀x c,X.env.cells.lookup x=some c->c≠b)/\∀p∈X.pn++pins,p.1≠b):
  Inv X pins σ H' {s with heap:=h',gens:=g',drawn:=d',toks:=t'}:=by
 obtain⟨m,⟨o,es,ep,ho,r⟩,_⟩:=id I.loc;obtain⟨sl,hL⟩:=u.any ho I.free fun z=>(hch _ z).2.1 rfl;exact I.step (ch:=ch) hch (fun b o hL hb hc e n=>u.keep b o e n (fun z=>(List.mem_cons.mp (I.stkSub b z)).elim hL hb) hc) (fun b o _ _ hc e n=>u.any e n hc) (fun b o hc e n=>u.free b o e n hc) (fun b o hc e=>u.there b o e hc) u.tups u.frzs u.tbls (fun m' hm=>by
  obtain⟨o',es',ep',ho',r'⟩:=hm;rw[ho] at ho';cases ho';exact⟨_,es',ep',hL,r'⟩) hok hg
theorem Inv.turned{t':Nat}{it:Addr}(I:Inv X pins σ H s)(k: ∀b o,b≠it->s.heap.get? b=some o->h'.get? b=some o)(hn:H it=none)(hL:it≠X.env.locals)
  (h1:it∈X.ex∨X.s_0.heap.objs.size<=it)(h2: ∀x c,X.env.cells.lookup x=some c->c≠it)(h3: ∀p∈X.pn++pins,p.1≠it):Inv X pins σ H {s with heap:=h',toks:=t'}:=by
 have nit: ∀b u,H b=some u->b≠it:=fun b u e z=>by rw[z,hn] at e;cases e
 refine I.step (g':=s.gens) (d':=s.drawn) (ch:=[it]) (fun b hb=> ?_) (fun b o _ _ hc e _=>k b o (fun z=>hc (by simp[z])) e) (fun b o _ _ hc e _=>⟨o.slots,k b o (fun z=>hc (by simp[z])) e⟩) (fun _ _ _ _ n=>n)
  (fun b o hc e=>⟨o,k b o (fun z=>hc (by simp[z])) e⟩) (fun _ _ e=>e) (fun _ _ _ e=>e) (fun b ps e=>⟨#[],by rw[e];simp⟩) (fun m hm=> ?_) (fun b u e=> ?_) I.bare
 ·have e:b=it:=by simpa using hb
  subst e;exact⟨h1,hL,h2,h3⟩
 ·obtain⟨o,es,ep,ho,r⟩:=hm;exact⟨o,es,ep,k _ o (Ne.symm hL) ho,r⟩
 ·refine(I.hok b u e).stay (fun c v hc q=>k c v ?_ q) (fun _ q=>q) fun _ _ q=>q;rcases hc with z|z
  ·rw[z];exact nit b u e
  ·exact nit c _ z
theorem Inv.tok(I:Inv X pins σ H s)(t:Nat):Inv X pins σ H {s with toks:=t}:=I.un (h':=s.heap) (t':=t) Un.refl I.hok
theorem Inv.kept{t':Nat}(I:Inv X pins σ H s)(k: ∀b u,s.heap.get? b=some u->h'.get? b=some u):Inv X pins σ H {s with heap:=h',toks:=t'}:=I.un (Un.kept k) (I.hok.kept k)
theorem Inv.laid{a:Addr}{o:HO}{t':Nat}(I:Inv X pins σ H s)(k: ∀b u,s.heap.get? b=some u->h'.get? b=some u)(hp:s.heap.objs.size<=a)(new:ObjOk X.prog X.w (upd H a o) h' a o):
  Inv X pins σ (upd H a o) {s with heap:=h',toks:=t'}:=I.un (Un.laid k hp (I.hok.fresh hp)) (I.hok.laid k hp new)
theorem Inv.write{x e:Addr}{o:HO}{t':Nat}(I:Inv X pins σ H s)(mu:Mut (H x))(he:e=x∨H e=some (.own x))(k: ∀b u,b≠e->s.heap.get? b=some u->h'.get? b=some u)(heo: ∃u,h'.get? e=some u)
  (new:ObjOk X.prog X.w (upd H x o) h' x o):Inv X pins σ (upd H x o) {s with heap:=h',toks:=t'}:=I.un (Un.write mu he k heo) (I.hok.write mu he k heo new)
theorem Inv.weak{σ':List (Option V)}(I:Inv X pins σ H s)(hl:σ'.length=σ.length)(w: ∀(i:Nat) v,σ'[i]? =some (some v)->σ[i]? =some (some v)):Inv X pins σ' H s:=
 ⟨I.ok,I.os,I.bare,I.base,let⟨m,hn,hl'⟩:=I.loc;⟨m,hn,fun i x v e1 e2 e3=>hl' i x v e1 (w i v e2) e3⟩,I.cell,I.free,I.freeC,I.pin,I.hok,hl.trans I.len⟩
theorem Inv.pins_of{pins':List (Addr×Obj)}(I:Inv X pins σ H s)(h: ∀p∈pins',s.heap.get? p.1=some p.2/\H p.1=none/\p.1≠X.env.locals/\p.1∉X.fs/\∀v,p.2.data≠ .cell v):Inv X pins' σ H s:=
 ⟨I.ok,I.os,I.bare,I.base,I.loc,I.cell,I.free,I.freeC,fun p hp=>(List.mem_append.mp hp).elim (fun z=>I.pin p (List.mem_append_left _ z)) (h p),I.hok,I.len⟩
theorem JT{N:List Str}(hN:N.Nodup){i j:Nat}{x:Str}(a:N[i]? =some x)(b:N[j]? =some x):i=j:=by
 obtain⟨h1,e1⟩:=List.getElem?_eq_some_iff.mp a;obtain⟨h2,e2⟩:=List.getElem?_eq_some_iff.mp b;exact(List.getElem_inj hN).mp (e1.trans e2.symm)
theorem Jt{M:Model}{A:Around}{E:Value->Shared->Prop}{i:Nat}{x:Str}{v:V}{u:Value}{Q:Unit->Shared->Prop}(I:Inv X pins σ H s)(hN:X.N.Nodup)(hi:X.N[i]? =some x)(hx:Loc X.env.scope x)(r:RelV v u)
  (h: ∀s',Inv X pins (σ.set i (some v)) H s'->(∃a,Heap.SameBut a s.heap s'.heap/\(a=X.env.locals∨X.env.cells.lookup x=some a))->Q () s')(hf:X.fn x=true∨X.env.scope.names.lookup x=some .local:=by first|exact .inl rfl|exact .inr rfl|assumption):wpAny M A (storeName X.env x u) Q E s:=by
 obtain⟨m,hn,hl⟩:=id I.loc;have hcls:(X.env.scope.kind== .class||(X.env.scope.kind== .module&&X.env.locals != X.env.globals))=false:=by rw[I.ok.kind];rfl
 have hiσ:i<σ.length:=by rw[I.len];exact(List.getElem?_eq_some_iff.mp hi).1
 have cne:=I.cne;have tracked: ∀{a:Addr} {h':Heap},(∃o,s.heap.get? a=some o/\H a=none)->Heap.SameBut a s.heap h'->HOk X.prog X.w H h':=fun{a h'} ha hs b ob e=>by
  obtain⟨_,_,hfree⟩:=ha;refine(I.hok b ob e).stay (fun c w' hc q=>(hs.2 c ?_).trans q) (fun _ q=>q) fun _ _ q=>q;rintro rfl;rcases hc with rfl|hc
  ·rw[hfree] at e;cases e
  ·rw[hfree] at hc;cases hc
 rcases hx with hk|hk
 ·refine wpAny_storeName_local hk hn (fun h' hn' hs=> ?_) hcls;obtain⟨oL,_,_,hoL,_⟩:=id hn;refine h _ ⟨I.ok,I.os,I.bare,⟨fun b o e n hb hx=> ?_,fun b o e n hb hx=> ?_,I.base.free,fun b o e hx=> ?_,I.base.tups,I.base.frzs,I.base.tbls⟩,⟨_,hn',fun j y v' e1 e2 e3=> ?_⟩,fun y c e=> ?_,I.free,I.freeC,fun p hp=> ?_,tracked ⟨oL,hoL,I.free⟩ hs,by simpa using I.len⟩ ⟨_,hs,.inl rfl⟩
  ·exact(hs.2 b (Nat.ne_of_lt (Nat.lt_of_lt_of_le (Heap.lt_size e) I.ok.above))).trans (I.base.keep b o e n hb hx)
  ·obtain⟨sl,e1⟩:=I.base.slot b o e n hb hx;exact⟨sl,(hs.2 b (Nat.ne_of_lt (Nat.lt_of_lt_of_le (Heap.lt_size e) I.ok.above))).trans e1⟩
  ·obtain⟨o',e1⟩:=I.base.there b o e hx;exact⟨o',(hs.2 b (Nat.ne_of_lt (Nat.lt_of_lt_of_le (Heap.lt_size e) I.ok.above))).trans e1⟩
  ·by_cases hj:j=i
   ·subst hj;rw[hi] at e1;cases e1;rw[List.getElem?_set_self hiσ] at e2;cases e2;exact⟨u,r,.inl ⟨hk,by simp⟩⟩
   ·rw[List.getElem?_set_ne (Ne.symm hj)] at e2;obtain⟨u',r',q⟩:=hl j y v' e1 e2 e3;refine⟨u',r',?_⟩;rcases q with⟨k,e⟩|⟨k,c,e,z⟩
    ·refine .inl ⟨k,?_⟩;have:y≠x:=fun e=>hj (JT hN e1 (e ▸ hi));simp[this,e]
    ·exact .inr ⟨k,c,e,z.sameBut hs (cne y c e)⟩
  ·obtain⟨w',z⟩:=I.cell y c e;exact⟨w',z.sameBut hs (cne y c e)⟩
  ·obtain⟨e,n,ne,nf,d⟩:=I.pin p hp;exact⟨(hs.2 p.1 ne).trans e,n,ne,nf,d⟩
 ·have hfn:X.fn x=true:=by
   rcases hf with z|z
   ·exact z
   ·rw[z] at hk;cases hk
  obtain⟨c,hc⟩:=I.ok.has x (.inl hk);obtain⟨w',z⟩:=I.cell x c hc;refine wpAny_storeName_cell I.ok.kind hk hc z (fun h' hc' hs=> ?_);obtain⟨oc,hoc,hocd⟩:=id z;refine h {s with heap:=h'} ⟨I.ok,I.os,I.bare,⟨fun b o e n hb hx=> ?_,fun b o e n hb hx=> ?_,I.base.free,fun b o e hx=> ?_,I.base.tups,I.base.frzs,I.base.tbls⟩,⟨m,hn.sameBut hs (Ne.symm (cne x c hc)),fun j y v' e1 e2 e3=> ?_⟩,fun y c' e=> ?_,I.free,I.freeC,fun p hp=> ?_,tracked ⟨oc,hoc,I.freeC x c hc⟩ hs,by simpa using I.len⟩ ⟨c,hs,.inr hc⟩
  ·exact(hs.2 b (Nat.ne_of_lt (Nat.lt_of_lt_of_le (Heap.lt_size e) (I.ok.cab x c hfn hc)))).trans (I.base.keep b o e n hb hx)
  ·obtain⟨sl,e1⟩:=I.base.slot b o e n hb hx;exact⟨sl,(hs.2 b (Nat.ne_of_lt (Nat.lt_of_lt_of_le (Heap.lt_size e) (I.ok.cab x c hfn hc)))).trans e1⟩
  ·obtain⟨o',e1⟩:=I.base.there b o e hx;exact⟨o',(hs.2 b (Nat.ne_of_lt (Nat.lt_of_lt_of_le (Heap.lt_size e) (I.ok.cab x c hfn hc)))).trans e1⟩
  ·by_cases hj:j=i
   ·subst hj;rw[hi] at e1;cases e1;rw[List.getElem?_set_self hiσ] at e2;cases e2;exact⟨u,r,.inr ⟨.inl hk,c,hc,hc'⟩⟩
   ·rw[List.getElem?_set_ne (Ne.symm hj)] at e2;obtain⟨u',r',q⟩:=hl j y v' e1 e2 e3;refine⟨u',r',?_⟩;rcases q with q|⟨k,c',e,z'⟩
    ·exact .inl q
    ·refine .inr ⟨k,c',e,z'.sameBut hs ?_⟩;rintro rfl;exact hj (JT hN e1 (I.ok.inj _ _ _ e hc ▸ hi))
  ·by_cases hcc:c'=c
   ·subst hcc;exact⟨_,hc'⟩
   ·obtain⟨w2,z2⟩:=I.cell y c' e;exact⟨w2,z2.sameBut hs hcc⟩
  ·obtain⟨e,n,ne,nf,d⟩:=I.pin p hp;refine⟨(hs.2 p.1 ?_).trans e,n,ne,nf,d⟩;intro q;rw[q,hoc] at e;have q':oc=p.2:=Option.some.inj e;exact d w' (by rw[<-q'];exact hocd)
theorem jz{M:Model}{A:Around}{E:Value->Shared->Prop}{i:Nat}{x:Str}{v:V}{u:Value}{Q:Unit->Shared->Prop}(I:Inv X pins σ H s)(hN:X.N.Nodup)(hi:X.N[i]? =some x)(hx:Loc X.env.scope x)(r:RelV v u)
  (h: ∀s',Inv X pins (σ.set i (some v)) H s'->Q () s')(hf:X.fn x=true∨X.env.scope.names.lookup x=some .local:=by first|exact .inl rfl|exact .inr rfl|assumption):wpAny M A (storeName X.env x u) Q E s:=
 Jt I hN hi hx r (fun s' I' _=>h s' I') hf
theorem Inv.call'{s':Shared}{ch:List Addr}(I:Inv X pins σ H s)(ho:s'.os=s.os)(u:Un (frs X.stack) ch H H' s.heap s'.heap)(hok:HOk X.prog X.w H' s'.heap)(hg:AllBare s'.gens)
  (hch: ∀b∈ch,(b∈X.ex∨X.s_0.heap.objs.size<=b)/\b≠X.env.locals/\(∀x c,X.env.cells.lookup x=some c->c≠b)/\∀p∈X.pn++pins,p.1≠b):Inv X pins σ H' s':=by
 obtain⟨h',g',d',t',o'⟩:=s';have e:o'=s.os:=ho;subst e;exact I.call (g':=g') (t':=t') (d':=d') u hok hg hch
end
abbrev XK:=Value->Option Addr->Hp->Prop
abbrev St:=List (Option V)
abbrev VK:=V->Hp->Prop
abbrev TE:=St->Hp->VK->Prop
abbrev TT:=St->Hp->(Bool->Hp->Prop)->Prop
abbrev TA:=St->Hp->(List V->Hp->Prop)->Prop
structure Ends where
 nx:St->Hp->Prop
 rt:VK
 bk:St->Hp->Prop:=fun _ _=>False
 ct:St->Hp->Prop:=fun _ _=>False
abbrev TS:=Ends->St->Hp->Prop
def EP(X:Cx)(pins:List (Addr×Obj))(σ:St)(Q:VK)(u:Value)(s':Shared):Prop:=∃v H',Inv X pins σ H' s'/\RelV v u/\Q v H'
def TP(X:Cx)(pins:List (Addr×Obj))(σ:St)(Q:Bool->Hp->Prop)(b:Bool)(s':Shared):Prop:=∃H',Inv X pins σ H' s'/\Q b H'
def AP(X:Cx)(pins:List (Addr×Obj))(σ:St)(Q:List V->Hp->Prop)(us:List Value)(s':Shared):Prop:=∃vs H',Inv X pins σ H' s'/\Vals vs us/\Q vs H'
def SP(X:Cx)(pins:List (Addr×Obj))(D:Ends)(f:Flow)(s':Shared):Prop:=
 match f with
 |.next=>∃σ' H',Inv X pins σ' H' s'/\D.nx σ' H'
 |.brk=>∃σ' H',Inv X pins σ' H' s'/\D.bk σ' H'
 |.cont=>∃σ' H',Inv X pins σ' H' s'/\D.ct σ' H'
 |.ret u=>∃v σ' H',Inv X pins σ' H' s'/\RelV v u/\D.rt v H'
def PE(X:Cx)(e:Expr)(t:TE):Prop:=
 ∀(pins:List (Addr×Obj)) (s:Shared) (σ:St) (H:Hp) (Q:VK),Inv X pins σ H s->t σ H Q->wpAny (model X.prog X.w) X.A (eval e X.env) (EP X pins σ Q) X.xe s
def PT(X:Cx)(e:Expr)(t:TT):Prop:=
 ∀(pins:List (Addr×Obj)) (s:Shared) (σ:St) (H:Hp) (Q:Bool->Hp->Prop),Inv X pins σ H s->t σ H Q->wpAny (model X.prog X.w) X.A (isTrue e X.env (eval e X.env)) (TP X pins σ Q) X.xe s
def PW(X:Cx)(e:Expr)(t:TT):Prop:=
 ∀(whole:Sem Value) (pins:List (Addr×Obj)) (s:Shared) (σ:St) (H:Hp) (Q:Bool->Hp->Prop),Inv X pins σ H s->t σ H Q->wpAny (model X.prog X.w) X.A (isTrue e X.env whole) (TP X pins σ Q) X.xe s
theorem PW.pt{X:Cx}{e:Expr}{t:TT}(h:PW X e t):PT X e t:=h _
def PA(X:Cx)(es:List Expr)(t:TA):Prop:=
 ∀(pos:Pos) (pins:List (Addr×Obj)) (s:Shared) (σ:St) (H:Hp) (Q:List V->Hp->Prop),Inv X pins σ H s->t σ H Q->wpAny (model X.prog X.w) X.A (spliced (backTo pos (starEach es X.env))) (AP X pins σ Q) X.xe s
def PS(X:Cx)(st:Stmt)(t:TS):Prop:=
 ∀(pins:List (Addr×Obj)) (s:Shared) (σ:St) (H:Hp) (D:Ends),Inv X pins σ H s->t D σ H->wpAny (model X.prog X.w) X.A (exec st X.env) (SP X pins D) X.xe s
def PSs(X:Cx)(st:List Stmt)(t:TS):Prop:=
 ∀(pins:List (Addr×Obj)) (s:Shared) (σ:St) (H:Hp) (D:Ends),Inv X pins σ H s->t D σ H->wpAny (model X.prog X.w) X.A (execs st X.env) (SP X pins D) X.xe s
theorem thn{α:Type}{t:Sem α}{Q Q':α->Shared->Prop}{M:Model}{A:Around}{E:Value->Shared->Prop}{s:Shared}(h:wpAny M A t Q E s)(hQ: ∀a s,Q a s->Q' a s):wpAny M A t Q' E s:=wpAny_mono h hQ fun _ _ x=>x
section
variable {X:Cx}
theorem bin{a b:Expr}{ta tb:TE}(ha:PE X a ta)(hb:PE X b tb){pins:List (Addr×Obj)}{s:Shared}{σ:St}{H:Hp}{R:V->V->Hp->Prop}(I:Inv X pins σ H s)(h:ta σ H fun x H1=>tb σ H1 fun y H2=>R x y H2)
  {α:Type}{Q:α->Shared->Prop}{f:Value->Value->Sem α}
  (hf: ∀v u s2 x y H2,Inv X pins σ H2 s2->RelV x v->RelV y u->R x y H2->wpAny (model X.prog X.w) X.A (f v u) Q X.xe s2):
  wpAny (model X.prog X.w) X.A (eval a X.env) (fun v s₁=>wpAny (model X.prog X.w) X.A (eval b X.env) (fun u s₂=>wpAny (model X.prog X.w) X.A (f v u) Q X.xe s₂) X.xe s₁) X.xe s:=by
 refine thn (ha pins s σ H _ I h) fun v s1 ⟨x,H1,I1,r1,q1⟩=> ?_;refine thn (hb pins s1 σ H1 _ I1 q1) fun u s2 ⟨y,H2,I2,r2,q2⟩=> ?_;exact hf v u s2 x y H2 I2 r1 r2 q2
def tVar(i:Nat):TE:=fun σ H Q=>∃v,σ[i]? =some (some v)/\Q v H
def tC(v:V):TE:=fun _ H Q=>Q v H
theorem pe_var{i:Nat}{x:Str}{pos:Pos}(hN:X.N[i]? =some x)(hv:Vis X.env.scope x)(hd:(x==("__debug__":Str))=false:=by decide)(hcd:(x==("__classdict__":Str))=false:=by decide):PE X (.Name x pos) (tVar i):=by
 intro pins s σ H Q I h;obtain⟨v,e,h⟩:=h;obtain⟨m,hn,hl⟩:=I.loc;obtain⟨u,r,l⟩:=hl i x v hN e hv;have fin:EP X pins σ Q u s:=⟨v,H,I,r,h⟩;rcases l with⟨hk,hm⟩|⟨hk,c,hc,hcell⟩
 ·exact wpAny_Name (wpAny_loadName_local I.ok.kind hk hn hm fin) hd
 ·rcases hk with hk|hk
  ·exact wpAny_Name (wpAny_loadName_cell I.ok.kind hk hc hcell fin) hd
  ·exact wpAny_Name (wpAny_loadName_free I.ok.kind hk hc hcell fin hcd) hd
theorem zK{i j pos}:PE X (.Constant (.int i) j pos) (tC (.int i)):=fun _ _ _ H _ I h=>wpAny_Constant_int ⟨.int i,H,I.tok _,⟨_,rfl⟩,h⟩
theorem pe_bl{b j pos}:PE X (.Constant (.bool b) j pos) (tC (.bl b)):=fun _ _ _ H _ I h=>Constant_bool ⟨.bl b,H,I,rfl,h⟩
theorem JP{j pos}:PE X (.Constant .none j pos) (tC .non):=fun _ _ _ H _ I h=>Constant_none ⟨.non,H,I,rfl,h⟩
def Gl(X:Cx)(x:Str):Prop:=X.env.kindOf x=some .globalImplicit
theorem jn{E:Value->Shared->Prop}{pins:List (Addr×Obj)}{s:Shared}{σ:St}{H:Hp}{x:Str}{u:Value}{pos:Pos}{Q:Value->Shared->Prop}(I:Inv X pins σ H s)(hg:Gl X x)(hm:X.mg x=some u)(h:Q u s)
  (hd:(x==("__debug__":Str))=false:=by decide):wpAny (model X.prog X.w) X.A (eval (.Name x pos) X.env) Q E s:=
 Calls.Name_function_global I.ok.kind hg (Calls.loadGlobal_global (by rw[I.ok.glob];exact I.mod.glob.keeps I.bk) hm h) hd
theorem Zn{E:Value->Shared->Prop}{pins:List (Addr×Obj)}{s:Shared}{σ:St}{H:Hp}{x:Str}{u:Value}{pos:Pos}{Q:Value->Shared->Prop}(I:Inv X pins σ H s)(hg:Gl X x)(hm:X.mg x=none)(hv:bootBuiltins x=some u)(h:Q u s)
  (hn:x≠"__name__":=by decide)(hd:(x==("__debug__":Str))=false:=by decide):wpAny (model X.prog X.w) X.A (eval (.Name x pos) X.env) Q E s:=by
 obtain⟨mb,h1,h2⟩:=I.mod.blt;exact Calls.Name_function_global I.ok.kind hg (Calls.loadGlobal_builtin (by rw[I.ok.glob];exact I.mod.glob.keeps I.bk) hm (by rw[I.ok.blt];exact h1.keeps I.bk) ((h2 x hn).trans hv) h) hd
theorem pe_glob{x:Str}{v:V}{u:Value}{pos:Pos}(hg:Gl X x)(hm:X.mg x=some u)(r:RelV v u)(hd:(x==("__debug__":Str))=false:=by decide):PE X (.Name x pos) (tC v):=
 fun _ _ _ H _ I h=>jn I hg hm ⟨v,H,I,r,h⟩ hd
variable {a b:Expr}{ta tb:TE}{pos:Pos}
def PC(X:Cx)(op:CmpOp)(a b:Expr)(t:TE):Prop:=
 ∀(pins:List (Addr×Obj)) (s:Shared) (σ:St) (H:Hp) (Q:VK),Inv X pins σ H s->t σ H Q->
  wpAny (model X.prog X.w) X.A (eval a X.env) (fun v s₁=>wpAny (model X.prog X.w) X.A (eval b X.env) (fun u s₂=>wpAny (model X.prog X.w) X.A (compareOp op v u) (EP X pins σ Q) X.xe s₂) X.xe s₁) X.xe s
def tB(t:TE):TT:=fun σ H Q=>t σ H fun x H1=>∃c,x=.bl c/\Q c H1
theorem pt_cmp{op:CmpOp}{t:TE}(h:PC X op a b t)(h1:behindInMarks op b=false:=by first|exact nobehind _ (by decide) (by decide)|rfl):PT X (.Compare a [op] [b] pos) (tB t):=by
 intro pins s σ H Q I hw;refine wpAny_isTrue_Compare1 (thn (h pins s σ H _ I hw) fun v s1 h1=>thn h1 fun u s2 h2=>thn h2 fun c s3 ⟨x,H1,I1,r1,q1⟩=> ?_) h1;obtain⟨d,rfl,q⟩:=q1;cases r1;exact wpAny_truthy_bool ⟨H1,I1,q⟩
theorem ZL{e:Expr}{t:TE}(h:PE X e t)(he: ∀whole,isTrue e X.env whole=(do let v <-whole;standAt e.pos;holding [v] (truthy v)):=by intro _;rfl):PT X e (tB t):=by
 intro pins s σ H Q I hw;refine isTrue_plain (thn (h pins s σ H _ I hw) fun v s1 ⟨x,H1,I1,r1,q1⟩=> ?_) (he _);obtain⟨d,rfl,q⟩:=q1;cases r1;exact wpAny_truthy_bool ⟨H1,I1,q⟩
variable {tA tB':TT}{rest:List Expr}
def tAnd(t u:TT):TT:=fun σ H Q=>t σ H fun c H1=>if c=true then u σ H1 Q else Q false H1
def tOr(t u:TT):TT:=fun σ H Q=>t σ H fun c H1=>if c=true then Q true H1 else u σ H1 Q
def tNot(t:TT):TT:=fun σ H Q=>t σ H fun c H1=>Q (!c) H1
theorem jf(ha:PT X a tA):PW X (.BoolOp .And [a] pos) tA:=by
 intro wh pins s σ H Q I h;refine isTrue_and (thn (ha pins s σ H Q I h) fun c s1 e=> ?_);cases c with
 |true=>exact isTrue_and_nil e
 |false=>exact e
theorem Yv(ha:PT X a tA):PW X (.BoolOp .Or [a] pos) tA:=by
 intro wh pins s σ H Q I h;refine isTrue_or (thn (ha pins s σ H Q I h) fun c s1 e=> ?_);cases c with
 |false=>exact isTrue_or_nil e
 |true=>exact e
theorem pw_and(ha:PT X a tA)(hb:PW X (.BoolOp .And (b::rest) pos) tB'):PW X (.BoolOp .And (a::b::rest) pos) (tAnd tA tB'):=by
 intro wh pins s σ H Q I h;refine isTrue_and (thn (ha pins s σ H _ I h) fun c s1 ⟨H1,I1,q1⟩=> ?_);cases c with
 |true=>exact hb wh pins s1 σ H1 Q I1 q1
 |false=>exact⟨H1,I1,q1⟩
theorem JL(ha:PT X a tA)(hb:PW X (.BoolOp .Or (b::rest) pos) tB'):PW X (.BoolOp .Or (a::b::rest) pos) (tOr tA tB'):=by
 intro wh pins s σ H Q I h;refine isTrue_or (thn (ha pins s σ H _ I h) fun c s1 ⟨H1,I1,q1⟩=> ?_);cases c with
 |true=>exact⟨H1,I1,q1⟩
 |false=>exact hb wh pins s1 σ H1 Q I1 q1
theorem ZP(ha:PT X a tA):PT X (.UnaryOp .Not a pos) (tNot tA):=by
 intro pins s σ H Q I h;exact isTrue_not (ha pins s σ H (fun c H1=>Q (!c) H1) I h)
def tAndV(ta tb:TE):TE:=fun σ H Q=>ta σ H fun x H1=>∃c,x=.bl c/\if c=true then tb σ H1 Q else Q (.bl false) H1
theorem pe_one{op}{t:TE}(h:PE X a t):PE X (.BoolOp op [a] pos) t:=fun pins s σ H Q I hw=>BoolOp_one (h pins s σ H Q I hw)
theorem pe_and(ha:PE X a ta)(hb:PE X (.BoolOp .And (b::rest) pos) tb):PE X (.BoolOp .And (a::b::rest) pos) (tAndV ta tb):=by
 intro pins s σ H Q I h;refine BoolOp_and (thn (ha pins s σ H _ I h) fun v s1 ⟨x,H1,I1,r1,q1⟩=> ?_);obtain⟨c,rfl,q1⟩:=q1;cases r1;refine wpAny_truthy_bool ?_;cases c with
 |true=>exact hb pins s1 σ H1 Q I1 q1
 |false=>exact⟨.bl false,H1,I1,rfl,q1⟩
def tIf(t:TT)(ta tb:TE):TE:=fun σ H Q=>t σ H fun c H1=>if c=true then ta σ H1 Q else tb σ H1 Q
theorem YZ{c:Expr}(hc:PT X c tA)(ha:PE X a ta)(hb:PE X b tb):PE X (.IfExp c a b pos) (tIf tA ta tb):=by
 intro pins s σ H Q I h;refine wpAny_IfExp (thn (hc pins s σ H _ I h) fun d s1 ⟨H1,I1,q1⟩=> ?_);cases d with
 |true=>exact ha pins s1 σ H1 Q I1 q1
 |false=>exact hb pins s1 σ H1 Q I1 q1
end
def SqL(K:PySem.W.Frag)(H:Hp)(a:Addr)(xs:List V):Prop:=
 Rd H a (.lst xs)∨
  ∃(o:Obj) (its:Array Value) (n:Nat),K.lookup a=some o/\o.cls=.type "list"/\o.dict=none/\o.data=.seq its n/\its.size<=sizeLine/\Vals xs its.toList
def SqT(K:PySem.W.Frag)(H:Hp)(a:Addr)(xs:List V):Prop:=
 Rd H a (.tup xs)∨
  ∃(o:Obj) (its:Array Value) (n:Nat),K.lookup a=some o/\o.cls=.type "tuple"/\o.data=.seq its n/\its.size<=sizeLine/\Vals xs its.toList
def absV:Value->Option V
 |.none=>some .non
 |.bool b=>some (.bl b)
 |.int i _=>some (.int i)
 |.str x _=>some (.str x)
 |.bytes b _=>some (.byt b)
 |.float b _=>some (.flt b)
 |.ref a=>some (.ref a)
 |.type n=>some (.ty n)
 |_=>none
theorem RelV.abs{x:V}{u:Value}(r:RelV x u):absV u=some x:=by
 cases x with
 |non=>cases r;rfl
 |bl _=>cases r;rfl
 |int _=>obtain⟨t,rfl⟩:=r;rfl
 |str _=>obtain⟨t,rfl⟩:=r;rfl
 |byt _=>obtain⟨t,rfl⟩:=r;rfl
 |flt _=>obtain⟨t,rfl⟩:=r;rfl
 |ref _=>cases r;rfl
 |ty _=>cases r;rfl
theorem RelV.inj{x y:V}{u:Value}(r:RelV x u)(q:RelV y u):x=y:=Option.some.inj (r.abs.symm.trans q.abs)
theorem Vals.inj: ∀{xs ys:List V} {us:List Value},Vals xs us->Vals ys us->xs=ys
 |_,_,_,.nil,.nil=>rfl
 |_,_,_,.cons r t,.cons r' t'=>by rw[r.inj r',Vals.inj t t']
section
variable {X:Cx}{pins:List (Addr×Obj)}{σ:St}{H:Hp}{s:Shared}{a:Addr}{xs ys:List V}
theorem SqL.of{K:PySem.W.Frag}(h:H a=some (.lst xs)):SqL K H a xs:=.inl (.inl h)
theorem SqT.of{K:PySem.W.Frag}(h:H a=some (.tup xs)):SqT K H a xs:=.inl (.inl h)
theorem Inv.list(I:Inv X pins σ H s)(h:SqL X.K H a xs): ∃its:List Value,Vals xs its/\PlainL s.heap a its.toArray/\xs.length<=sizeLine:=by
 rcases h with h|⟨o,its,n,hk,hc,hd,hs,hz,r⟩
 ·obtain⟨z,its,n,r,e⟩:=h.ok I.hok;exact⟨its,r,⟨_,n,e,rfl,rfl,rfl⟩,z⟩
 ·refine⟨its.toList,r,⟨o,n,I.kIn a o hk,hc,hd,by simpa using hs⟩,?_⟩;have e:=r.length;simp only[Array.length_toList] at e;omega
theorem Inv.tuple(I:Inv X pins σ H s)(h:SqT X.K H a xs): ∃its:List Value,Vals xs its/\IsTup s.heap a its.toArray/\xs.length<=sizeLine:=by
 rcases h with h|⟨o,its,n,hk,hc,hs,hz,r⟩
 ·obtain⟨z,its,r,p⟩:=h.ok I.hok;exact⟨its,r,p,z⟩
 ·refine⟨its.toList,r,⟨o,I.kIn a o hk,hc,n,by simpa using hs⟩,?_⟩;have e:=r.length;simp only[Array.length_toList] at e;omega
theorem Inv.Yd(I:Inv X pins σ H s)(h:SqL X.K H a xs)(h':SqL X.K H a ys):xs=ys:=by
 obtain⟨its,r,⟨o,n,e,_,_,d⟩,_⟩:=I.list h;obtain⟨its',r',⟨o',n',e',_,_,d'⟩,_⟩:=I.list h';rw[e] at e';cases e';rw[d] at d';injection d' with d1 _
 have:its=its':=by simpa using congrArg Array.toList d1
 subst this;exact r.inj r'
end
abbrev Cx.wish(X:Cx)(E:Value->Shared->Prop):Cx:={X with xe:=E}
abbrev Cx.nox(X:Cx):Cx:=X.wish fun _ _=>False
theorem Cx.Ok.wish{X:Cx}(ok:X.Ok)(E:Value->Shared->Prop):(X.wish E).Ok:=
 ⟨ok.mod,ok.kind,ok.glob,ok.blt,ok.above,ok.inj,ok.has,ok.cab,ok.hd,ok.frames,ok.stk,ok.exf,ok.bs,ok.bsz,ok.noex,ok.exfs,ok.funs,ok.frf⟩
theorem Cx.Ok.unwish{X:Cx}{E:Value->Shared->Prop}(ok:(X.wish E).Ok):X.Ok:=
 ⟨ok.mod,ok.kind,ok.glob,ok.blt,ok.above,ok.inj,ok.has,ok.cab,ok.hd,ok.frames,ok.stk,ok.exf,ok.bs,ok.bsz,ok.noex,ok.exfs,ok.funs,ok.frf⟩
section
variable {X:Cx}{pins:List (Addr×Obj)}{σ:St}{H:Hp}{s:Shared}{E:Value->Shared->Prop}
theorem Inv.wish(I:Inv X pins σ H s)(E:Value->Shared->Prop):Inv (X.wish E) pins σ H s:=⟨I.ok.wish E,I.os,I.bare,I.base,I.loc,I.cell,I.free,I.freeC,I.pin,I.hok,I.len⟩
theorem Inv.unwish(I:Inv (X.wish E) pins σ H s):Inv X pins σ H s:=⟨I.ok.unwish,I.os,I.bare,I.base,I.loc,I.cell,I.free,I.freeC,I.pin,I.hok,I.len⟩
theorem SP.unwish{D:Ends}{f:Flow}{s':Shared}(h:SP (X.wish E) pins D f s'):SP X pins D f s':=by
 cases f with
 |next=>obtain⟨σ',H',I,q⟩:=h;exact⟨σ',H',I.unwish,q⟩
 |brk=>obtain⟨σ',H',I,q⟩:=h;exact⟨σ',H',I.unwish,q⟩
 |cont=>obtain⟨σ',H',I,q⟩:=h;exact⟨σ',H',I.unwish,q⟩
 |ret u=>obtain⟨v,σ',H',I,r,q⟩:=h;exact⟨v,σ',H',I.unwish,r,q⟩
theorem PSs.nox{st:List Stmt}{t:TS}(h:PSs X.nox st t):PSs X st t:=fun pins s σ H D I hw=>
 wpAny_mono (h pins s σ H D (I.wish _) hw) (fun _ _ q=>q.unwish) fun _ _ z=>False.elim z
end
section
variable {X:Cx}{st:Stmt}{rest:List Stmt}{t u:TS}{e:Expr}{te:TE}{pos:Pos}
def tNext:TS:=fun D σ H=>D.nx σ H
def tSeq(t u:TS):TS:=fun D σ H=>t {D with nx:=u D} σ H
theorem zZ:PSs X [] tNext:=fun _ _ σ H _ I h=>wpAny_execs_nil ⟨σ,H,I,h⟩
theorem zF(h1:PS X st t)(h2:PSs X rest u):PSs X (st::rest) (tSeq t u):=by
 intro pins s σ H D I h;refine wpAny_execs_cons (thn (h1 pins s σ H {D with nx:=u D} I h) fun f s1 q=> ?_);cases f with
 |next=>
  obtain⟨σ',H',I',q⟩:=q;exact h2 pins s1 σ' H' D I' q
 |ret v=>exact q
 |brk=>exact q
 |cont=>exact q
theorem zG(h1:PS X st t):PSs X [st] t:=by
 intro pins s σ H D I h;refine wpAny_execs_cons (thn (h1 pins s σ H D I h) fun f s1 q=> ?_);cases f with
 |next=>exact wpAny_execs_nil q
 |ret v=>exact q
 |brk=>exact q
 |cont=>exact q
def tBreak:TS:=fun D σ H=>D.bk σ H
def tCont:TS:=fun D σ H=>D.ct σ H
theorem ps_break:PS X (.Break pos) tBreak:=fun _ _ σ H _ I h=>wpAny_Break ⟨σ,H,I,h⟩
theorem ps_continue:PS X (.Continue pos) tCont:=fun _ _ σ H _ I h=>wpAny_Continue ⟨σ,H,I,h⟩
theorem Inv.quiet{pins:List (Addr×Obj)}{σ:St}{H:Hp}{s:Shared}(I:Inv X pins σ H s):interactive X.env=false:=by simp[interactive,I.ok.kind]
def tDrop(te:TE):TS:=fun D σ H=>te σ H fun _ H1=>D.nx σ H1
theorem zg(he:PE X e te)(hs:swapsWith e none pos.line X.env=pure false:=by rfl):PS X (.Expr e pos) (tDrop te):=by
 intro pins s σ H D I h;exact wpAny_Expr_any (thn (he pins s σ H _ I h) fun v s1 ⟨x,H1,I1,r1,q1⟩=>⟨σ,H1,I1,q1⟩) I.quiet hs
def tRet(te:TE):TS:=fun D σ H=>te σ H D.rt
theorem zM(he:PE X e te):PS X (.Return (some e) pos) (tRet te):=by
 intro pins s σ H D I h;exact wpAny_Return_some (thn (he pins s σ H _ I h) fun v s1 ⟨x,H1,I1,r1,q1⟩=>⟨x,σ,H1,I1,r1,q1⟩)
def tIfS(c:TT)(t u:TS):TS:=fun D σ H=>c σ H fun b H1=>if b=true then t D σ H1 else u D σ H1
theorem ZD{c:Expr}{a b:List Stmt}{tc:TT}(hc:PT X c tc)(ha:PSs X a t)(hb:PSs X b u):PS X (.If c a b pos) (tIfS tc t u):=by
 intro pins s σ H D I h;refine wpAny_If (thn (hc pins s σ H _ I h) fun d s1 ⟨H1,I1,q1⟩=> ?_);cases d with
 |true=>exact ha pins s1 σ H1 D I1 q1
 |false=>exact hb pins s1 σ H1 D I1 q1
end
abbrev TG:=V->St->Hp->(St->Hp->Prop)->Prop
abbrev TGs:=List V->St->Hp->(St->Hp->Prop)->Prop
def PG(X:Cx)(target:Expr)(t:TG):Prop:=
 ∀(pins:List (Addr×Obj)) (s:Shared) (σ:St) (H:Hp) (v:V) (u:Value) (Q:St->Hp->Prop),Inv X pins σ H s->RelV v u->t v σ H Q->
  wpAny (model X.prog X.w) X.A (assign target X.env u) (fun _ s'=>∃σ' H',Inv X pins σ' H' s'/\Q σ' H') X.xe s
def PGs(X:Cx)(ts:List Expr)(t:TGs):Prop:=
 ∀(pins:List (Addr×Obj)) (s:Shared) (σ:St) (H:Hp) (vs:List V) (us:List Value) (Q:St->Hp->Prop),Inv X pins σ H s->Vals vs us->t vs σ H Q->
  wpAny (model X.prog X.w) X.A (assignInOrder ((assignEach ts X.env).map (·.2)) us) (fun _ s'=>∃σ' H',Inv X pins σ' H' s'/\Q σ' H') X.xe s
abbrev TSet:=V->V->V->Hp->(Hp->Prop)->Prop
def PSet(X:Cx)(t:TSet):Prop:=
 ∀(pins:List (Addr×Obj)) (s:Shared) (σ:St) (H:Hp) (o i v:V) (ov iv u:Value) (Q:Hp->Prop),Inv X pins σ H s->RelV o ov->RelV i iv->RelV v u->t o i v H Q->
  wpAny (model X.prog X.w) X.A (setItem ov iv u) (fun _ s'=>∃H',Inv X pins σ H' s'/\Q H') X.xe s
abbrev TIp:=V->V->Hp->VK->Prop
def PIp(X:Cx)(op:Operator)(t:TIp):Prop:=
 ∀(pins:List (Addr×Obj)) (s:Shared) (σ:St) (H:Hp) (x y:V) (v u:Value) (Q:VK),Inv X pins σ H s->RelV x v->RelV y u->t x y H Q->
  wpAny (model X.prog X.w) X.A (inplaceOp op v u) (EP X pins σ Q) X.xe s
section
variable {X:Cx}{pos:Pos}
def gName(i:Nat):TG:=fun v σ H Q=>Q (σ.set i (some v)) H
theorem ZQ{i:Nat}{x:Str}(hN:X.N.Nodup)(hi:X.N[i]? =some x)(hx:Loc X.env.scope x)(hf:X.fn x=true∨X.env.scope.names.lookup x=some .local:=by first|exact .inl rfl|exact .inr rfl|assumption):PG X (.Name x pos) (gName i):=by
 intro pins s σ H v u Q I r h;exact wpAny_assign_Name (jz I hN hi hx r (fun s' I'=>⟨_,H,I',h⟩) hf)
def gNil:TGs:=fun vs σ H Q=>vs=[]/\Q σ H
def gCons(t:TG)(u:TGs):TGs:=fun vs σ H Q=>∃v r,vs=v::r/\t v σ H fun σ' H'=>u r σ' H' Q
theorem pgs_nil:PGs X [] gNil:=by
 intro pins s σ H vs us Q I r h;obtain⟨e,h⟩:=h;subst e;cases r;exact assignInOrder_nil ⟨σ,H,I,h⟩
theorem yc{e:Expr}{es:List Expr}{t:TG}{u:TGs}(h1:PG X e t)(h2:PGs X es u)
  (hs:(assignEach (e::es) X.env).map (·.2)=assign e X.env::(assignEach es X.env).map (·.2):=by rfl):PGs X (e::es) (gCons t u):=by
 intro pins s σ H vs us Q I r h;obtain⟨v,vr,e1,h⟩:=h;subst e1;cases r with
 |cons r rr=>
  rw[hs];refine assignInOrder_cons (thn (h1 pins s σ H _ _ _ I r h) fun _ s1 ⟨σ1,H1,I1,q1⟩=> ?_);exact h2 pins s1 σ1 H1 _ _ Q I1 rr q1
def gTup(K:PySem.W.Frag)(n:Nat)(t:TGs):TG:=fun v σ H Q=>∃a xs,v=.ref a/\SqT K H a xs/\xs.length=n/\t xs σ H Q
theorem pg_tup{es:List Expr}{k:Nat}{t:TGs}{n:Nat}(hc:X.calm=true)(h:PGs X es t)
  (hn:(assignEach es X.env).length=n:=by rfl)(hst:(assignEach es X.env).findIdx? (·.1)=none:=by rfl):PG X (.Tuple es k pos) (gTup X.K n t):=by
 intro pins s σ H v u Q I r hw;obtain⟨a,xs,e1,hq,hl,hw⟩:=hw;subst e1;cases r;obtain⟨its,rv,ht,hz⟩:=I.tuple hq;refine assign_Tuple_tuple (I.ok.hd hc) ht (by simp[hn,<-hl,rv.length]) hst fun h' hx=> ?_;have I1:Inv X pins σ H {s with heap:=h'}:=I.kept (t':=s.toks) fun b o e=>hx b o (Nat.ne_of_lt (Heap.lt_size e)) e;exact h pins _ σ H xs _ Q I1 (by simpa using rv) hw
def gSub(to ti:TE)(t:TSet):TG:=fun v σ H Q=>to σ H fun o H1=>ti σ H1 fun i H2=>t o i v H2 fun H3=>Q σ H3
theorem pg_sub{o i:Expr}{to ti:TE}{t:TSet}(ho:PE X o to)(hi:PE X i ti)(hs:PSet X t)
  (ha: ∀v,assign (.Subscript o i pos) X.env v=(do
   let ov <-holding [v] (eval o X.env);let iv <-holding [v,ov] (eval i X.env)
   standAt pos
   holding [v,ov,iv] (setItem ov iv v)
   release [v,ov,iv] []):=by intro _;rfl):PG X (.Subscript o i pos) (gSub to ti t):=by
 intro pins s σ H v u Q I r h;rw[ha];refine wpAny_bind (wpAny_holding (thn (ho pins s σ H _ I h) fun ov s1 ⟨x,H1,I1,r1,q1⟩=> ?_));refine wpAny_bind (wpAny_holding (thn (hi pins s1 σ H1 _ I1 q1) fun iv s2 ⟨y,H2,I2,r2,q2⟩=> ?_));refine wpAny_bind (wpAny_standAt (wpAny_bind (wpAny_holding (thn (hs pins s2 σ H2 x y v ov iv u _ I2 r1 r2 r q2) fun _ s3 ⟨H3,I3,q3⟩=> ?_))));exact wpAny_release ⟨σ,H3,I3,q3⟩
def tAsg(te:TE)(g:TG):TS:=fun D σ H=>te σ H fun x H1=>g x σ H1 D.nx
theorem ps_asg{tg e:Expr}{te:TE}{g:TG}(he:PE X e te)(hg:PG X tg g)(hs:swapsWithSole [tg] e pos.line X.env=pure false:=by rfl)(hw:swappedStores [tg] e X.env=pure none:=by rfl)
  (h1:(assignEach [tg] X.env).map (·.2)=[assign tg X.env]:=by rfl):PS X (.Assign [tg] e pos) (tAsg te g):=by
 intro pins s σ H D I h;refine wpAny_Assign_stores (thn (he pins s σ H _ I h) fun v s1 ⟨x,H1,I1,r1,q1⟩=> ?_) hs hw;rw[h1];exact thn (hg pins s1 σ H1 x v _ I1 r1 q1) fun _ s2 q=>q
theorem zQ{i:Nat}{x:Str}{e:Expr}{te:TE}{pos':Pos}(hN:X.N.Nodup)(hi:X.N[i]? =some x)(hx:Loc X.env.scope x)(he:PE X e te)(hs:swapsWith e (some (.Name x pos')) pos.line X.env=pure false:=by rfl)(hf:X.fn x=true∨X.env.scope.names.lookup x=some .local:=by first|exact .inl rfl|exact .inr rfl|assumption):
  PS X (.Assign [.Name x pos'] e pos) (tAsg te (gName i)):=by
 intro pins s σ H D I h;refine wpAny_Assign_Name (thn (he pins s σ H _ I h) fun v s1 ⟨y,H1,I1,r1,q1⟩=> ?_) hs;exact jz I1 hN hi hx r1 (fun s2 I2=>⟨_,H1,I2,q1⟩) hf
def tAug(i:Nat)(te:TE)(ti:TIp):TS:=fun D σ H=>∃x,σ[i]? =some (some x)/\te σ H fun y H1=>ti x y H1 fun z H2=>D.nx (σ.set i (some z)) H2
theorem ps_aug{i:Nat}{x:Str}{e:Expr}{te:TE}{op:Operator}{ti:TIp}{pos':Pos}(hN:X.N.Nodup)(hi:X.N[i]? =some x)(hx:Loc X.env.scope x)(he:PE X e te)(ho:PIp X op ti)(hf:X.fn x=true∨X.env.scope.names.lookup x=some .local:=by first|exact .inl rfl|exact .inr rfl|assumption):
  PS X (.AugAssign (.Name x pos') op e pos) (tAug i te ti):=by
 intro pins s σ H D I h;obtain⟨v,e1,h⟩:=h;obtain⟨m,hn,hl⟩:=I.loc;have vis:Vis X.env.scope x:=by rcases hx with k|k;exact .inl k;exact .inr (.inl k)
 obtain⟨u,r,l⟩:=hl i x v hi e1 vis;refine wpAny_AugAssign_Name ?_;have go:wpAny (model X.prog X.w) X.A (eval e X.env) (fun w s₂=>wpAny (model X.prog X.w) X.A (inplaceOp op u w) (fun r s₃=>wpAny (model X.prog X.w) X.A (storeName X.env x r) (fun _=>SP X pins D .next) X.xe s₃) X.xe s₂) X.xe s:=by
  refine thn (he pins s σ H _ I h) fun w s1 ⟨y,H1,I1,r1,q1⟩=> ?_;refine thn (ho pins s1 σ H1 v y u w _ I1 r r1 q1) fun z s2 ⟨zv,H2,I2,r2,q2⟩=> ?_;exact jz I2 hN hi hx r2 (fun s3 I3=>⟨_,H2,I3,q2⟩) hf
 rcases l with⟨hk,hm⟩|⟨hk,c,hc,hcell⟩
 ·exact wpAny_loadName_local I.ok.kind hk hn hm go
 ·rcases hk with hk|hk
  ·exact wpAny_loadName_cell I.ok.kind hk hc hcell go
  ·rcases hx with k|k
   ·have:X.env.scope.names.lookup x=some .free:=hk;rw[k] at this;cases this
   ·have:X.env.scope.names.lookup x=some .free:=hk;rw[k] at this;cases this
def ipI(f:Int->Int->Int):TIp:=fun x y H Q=>∃i j,x=.int i/\y=.int j/\Q (.int (f i j)) H
theorem ip_add:PIp X .Add (ipI fun i j=>i+j):=by
 intro pins s σ H x y v u Q I r1 r2 h;obtain⟨i,j,e1,e2,q⟩:=h;subst e1;subst e2;obtain⟨t,rfl⟩:=r1;obtain⟨t',rfl⟩:=r2;exact iadd_int ⟨.int _,H,I.tok _,⟨_,rfl⟩,q⟩
end
section
variable {X:Cx}{pos:Pos}
def tWhile(c:TT)(tb:TS):TS:=fun D σ H=>∃W:Nat->St->Hp->Prop,(∃m,W m σ H)/\∀m σ H,W m σ H->
 c σ H fun b H1=>if b=true then ∃N:St->Hp->Prop,(∀σ' H',N σ' H'->∃m',m'<m/\W m' σ' H')/\tb {D with nx:=N,ct:=N,bk:=D.nx} σ H1 else D.nx σ H1
theorem yX{c:Expr}{body:List Stmt}{tc:TT}{tb:TS}(hp:PassesOwn (model X.prog X.w) X.A X.env X.xe)(hc:PT X c tc)(hb:PSs X body tb):PS X (.While c body [] pos) (tWhile tc tb):=by
 intro pins s σ H D I h;obtain⟨W,⟨m0,w0⟩,turn⟩:=h;refine wpAny_While (codeAny_whileLoop (fun n s'=>∃σ' H',Inv X pins σ' H' s'/\W n σ' H') ?_ m0 ⟨σ,H,I,w0⟩);rintro n s1 ⟨σ1,H1,I1,w1⟩;refine wpAny_passesOwn hp (thn (hc pins s1 σ1 H1 _ I1 (turn n σ1 H1 w1)) fun b s2 ⟨H2,I2,q2⟩=> ?_);cases b with
 |true=>
  obtain⟨N,hN,q2⟩:=q2;rw[if_pos rfl];refine wpAny_passesOwn hp (thn (hb pins s2 σ1 H2 _ I2 q2) fun f s3 q3=> ?_);cases f with
  |next=>
   obtain⟨σ3,H3,I3,n3⟩:=q3;obtain⟨m',hm,w3⟩:=hN σ3 H3 n3;exact⟨m',hm,σ3,H3,I3,w3⟩
  |cont=>
   obtain⟨σ3,H3,I3,n3⟩:=q3;obtain⟨m',hm,w3⟩:=hN σ3 H3 n3;exact⟨m',hm,σ3,H3,I3,w3⟩
  |brk=>exact q3
  |ret v=>exact q3
 |false=>
  rw[if_neg Bool.false_ne_true];exact wpAny_execs_nil ⟨σ1,H2,I2,q2⟩
end
structure It where
 go:Nat->Hp->Prop
 yld:Nat->Hp->V->Hp->Prop
 stop:Nat->Hp->Prop
def FpOk(X:Cx)(pins:List (Addr×Obj))(H:Hp)(b:Addr):Prop:=
 H b=none/\b≠X.env.locals/\b∉X.fs/\(b∈X.ex∨X.s_0.heap.objs.size<=b)/\(∀x c,X.env.cells.lookup x=some c->c≠b)/\∀p∈X.pn++pins,p.1≠b
theorem Inv.fpOk{X:Cx}{pins:List (Addr×Obj)}{σ:St}{H H':Hp}{s:Shared}{b:Addr}(I:Inv X pins σ H s)(hb:s.heap.objs.size<=b)(hn:H' b=none):FpOk X pins H' b:=by
 refine⟨hn,Nat.ne_of_gt (Nat.lt_of_lt_of_le I.lt hb),I.nofs hb,.inr (Nat.le_trans I.sz hb),fun x c e z=> ?_,fun p hp z=> ?_⟩
 ·obtain⟨v,q⟩:=I.cell x c e;exact absurd (Nat.lt_of_lt_of_le q.lt (by rw[z];exact hb)) (Nat.lt_irrefl _)
 ·exact absurd (Nat.lt_of_lt_of_le (Heap.lt_size (I.pin p hp).1) (by rw[z];exact hb)) (Nat.lt_irrefl _)
structure Turn(P:Program)(w:World)(K:PySem.W.Frag)(tg:Expr)(J:It)(fp:List Addr)(it:Addr)(tn:Nat->Heap->Prop):Prop where
 mem:it∈fp
 obj: ∀i h,tn i h->∀b∈fp,∃o,h.get? b=some o/\∀v,o.data≠ .cell v
 keep: ∀i h h',tn i h->(∀b∈fp,∀o,h.get? b=some o->h'.get? b=some o)->tn i h'
 item: ∀(X:Cx),X.prog=P->X.w=w->X.K=K->X.calm=true->∀(i:Nat) (pins:List (Addr×Obj)) (s:Shared) (σ:St) (H:Hp) (E:Value->Shared->Prop),Inv X pins σ H s->(∀b∈fp,FpOk X pins H b)->tn i s.heap->J.go i H->
  wpAny (model P w) X.A (pyNext (.ref it)) (fun r s1=>∃u,r=some u/\
   wpAny (model P w) X.A (letOwnedTupleGo tg (.ref it) u) (fun _ s2=>∃x H',Inv X pins σ H' s2/\RelV x u/\J.yld i H x H'/\tn (i+1) s2.heap/\∀b∈fp,H' b=none) E s1) E s
 done: ∀(X:Cx),X.prog=P->X.w=w->X.K=K->X.calm=true->∀(i:Nat) (pins:List (Addr×Obj)) (s:Shared) (σ:St) (H:Hp) (E:Value->Shared->Prop),Inv X pins σ H s->(∀b∈fp,FpOk X pins H b)->tn i s.heap->J.stop i H->
  wpAny (model P w) X.A (pyNext (.ref it)) (fun r s1=>r=none/\Inv X pins σ H s1) E s
 self: ∀(A:Around) (i:Nat) (s:Shared) (Q:Value->Shared->Prop) (E:Value->Shared->Prop),tn i s.heap->Q (.ref it) s->wpAny (model P w) A (pyIter (.ref it)) Q E s
abbrev TI:=St->Hp->(It->Hp->Prop)->Prop
def PIE(X:Cx)(pins:List (Addr×Obj))(σ:St)(tg:Expr)(R:It->Hp->Prop)(itv:Value)(s2:Shared):Prop:=
 ∃(it:Addr) (fp:List Addr) (tn:Nat->Heap->Prop) (J:It) (H':Hp),itv=.ref it/\Inv X pins σ H' s2/\Turn X.prog X.w X.K tg J fp it tn/\tn 0 s2.heap/\(∀b∈fp,FpOk X pins H' b)/\R J H'
def PI(X:Cx)(tg iter:Expr)(wi:TI):Prop:=
 ∀(pins:List (Addr×Obj)) (s:Shared) (σ:St) (H:Hp) (R:It->Hp->Prop),Inv X pins σ H s->wi σ H R->
  wpAny (model X.prog X.w) X.A (eval iter X.env) (fun v s1=>wpAny (model X.prog X.w) X.A (pyIter v) (PIE X pins σ tg R) X.xe s1) X.xe s
theorem go_of{M:Model}{A:Around}{E:Value->Shared->Prop}{s:Shared}{tg:Expr}{it:Addr}{u:Value}{o:Obj}{n:String}{vs:Array Value}{Q:Unit->Shared->Prop}(ho:s.heap.get? it=some o)(hc:o.cls=.type n)(hd:o.data=.fields vs)
  (hn:["enumerate","zip","dict_itemiterator","dict_reverseitemiterator","odict_iterator","itertools.zip_longest","itertools.pairwise"].contains n=false)(hQ:Q () s):wpAny M A (letOwnedTupleGo tg (.ref it) u) Q E s:=by
 unfold letOwnedTupleGo;cases tg<;>first
  |exact wpAny_pure hQ
  |(cases u<;>first
    |exact wpAny_pure hQ
    |(
      refine wpAny_bind (wpAny_load ho ?_);rw[hc,hd];show wpAny M A (if(["enumerate","zip","dict_itemiterator","dict_reverseitemiterator","odict_iterator","itertools.zip_longest","itertools.pairwise"].contains n&&vs[0]? ==some (rawInt _))=true then _ else _) Q E s;rw[if_neg (by intro h;rw[hn,Bool.false_and] at h;cases h)];exact wpAny_pure hQ))
def Itl(K:PySem.W.Frag)(a:Addr):It:=
 ⟨fun i H=>∃xs x,SqL K H a xs/\xs[i]? =some x,fun i H x H'=>H'=H/\∀xs,SqL K H a xs->xs[i]? =some x,fun i H=>∃xs,SqL K H a xs/\xs.length<=i⟩
def Itr(lo:Int)(n:Nat):It:=⟨fun i _=>i<n,fun i H x H'=>H'=H/\x=.int (lo+i),fun i _=>n<=i⟩
theorem turn_list{P:Program}{w:World}{K:PySem.W.Frag}{tg:Expr}(a it:Addr):Turn P w K tg (Itl K a) [it] it (fun i h=>h.IsListIter it a i) where
 mem:=by simp
 obj:=fun i h st b hb=>by
  have e:b=it:=by simpa using hb
  subst e;obtain⟨o,e,c,d⟩:=st;exact⟨o,e,fun v z=>by rw[d] at z;cases z⟩
 keep:=fun i h h' st k=>st.at fun o e=>k it (by simp) o e
 item:=by
  intro X hP hw hK hc i pins s σ H E I hf st hg;subst hP hw hK;obtain⟨xs,x,hq,hx⟩:=hg;obtain⟨its,rv,p,hz⟩:=I.list hq;obtain⟨u,hu,ru⟩:=rv.get hx;obtain⟨f0,f1,f2,f3,f4,f5⟩:=hf it (by simp);refine wpAny_pyNext_list_item st p.isList (x:=u) (by simpa using hu) fun h' st' sb=> ?_;have I1:Inv X pins σ H {s with heap:=h'}:=I.turned (t':=s.toks) (fun b o hb e=>(sb.2 b hb).trans e) f0 f1 f3 f4 f5;obtain⟨o,e,c,d⟩:=id st';exact⟨u,rfl,go_of (s:={s with heap:=h'}) e c d (by decide) ⟨x,H,I1,ru,⟨rfl,fun ys hy=>by rw[I.Yd hy hq];exact hx⟩,st',fun b hb=>(hf b hb).1⟩⟩
 done:=by
  intro X hP hw hK hc i pins s σ H E I hf st hg;subst hP hw hK;obtain⟨xs,hq,hx⟩:=hg;obtain⟨its,rv,p,hz⟩:=I.list hq;obtain⟨f0,f1,f2,f3,f4,f5⟩:=hf it (by simp);have hl:=rv.length;exact wpAny_pyNext_list_end (I.ok.hd hc) st p.isList (by simp;omega) fun h' eb=>⟨rfl,I.turned (t':=s.toks) (fun b o hb e=>eb b o hb e) f0 f1 f3 f4 f5⟩
 self:=fun _ _ _ _ _ st h=>wpAny_pyIter_listiter st h
theorem turn_range{P:Program}{w:World}{K:PySem.W.Frag}{tg:Expr}(it:Addr)(lo:Int)(n:Nat):Turn P w K tg (Itr lo n) [it] it (fun i h=>IsRangeIter h it (lo+(i:Nat) * 1) ((n:Int) - (i:Nat)) 1) where
 mem:=by simp
 obj:=fun i h st b hb=>by
  have e:b=it:=by simpa using hb
  subst e;exact⟨_,st,fun v z=>by
   have z':Data.fields _=Data.cell v:=z;cases z'⟩
 keep:=fun i h h' st k=>k it (by simp) _ st
 item:=by
  intro X hP hw hK hc i pins s σ H E I hf st hg;subst hP hw hK;obtain⟨f0,f1,f2,f3,f4,f5⟩:=hf it (by simp);have W:=Walks.range (prog:=X.prog) (w:=X.w) (I.ok.hd hc) it lo 1 n;refine W.item i s _ _ hg st fun v h' tk hv st' kk=> ?_;obtain⟨t,rfl⟩:=hv;have I1:Inv X pins σ H {s with heap:=h',toks:=tk}:=I.turned (fun b o hb e=>kk b o (by simpa using hb) e) f0 f1 f3 f4 f5;refine⟨_,rfl,go_of (s:={s with heap:=h',toks:=tk}) (n:="range_iterator") st' rfl rfl (by decide) ⟨.int (lo+i),H,I1,⟨t,?_⟩,⟨rfl,rfl⟩,st',fun b hb=>(hf b hb).1⟩⟩;rw[Int.mul_one]
 done:=by
  intro X hP hw hK hc i pins s σ H E I hf st hg;subst hP hw hK;obtain⟨f0,f1,f2,f3,f4,f5⟩:=hf it (by simp);exact wpAny_pyNext_range_end (I.ok.hd hc) st (by have:n<=i:=hg;omega) fun h' eb=>⟨rfl,I.turned (t':=s.toks) (fun b o hb e=>eb b o hb e) f0 f1 f3 f4 f5⟩
 self:=fun _ _ _ _ _ st h=>wpAny_pyIter_rangeiter st h
section
variable {X:Cx}{tg:Expr}
def iList(K:PySem.W.Frag)(tl:TE):TI:=fun σ H R=>tl σ H fun x H1=>∃a,x=.ref a/\(∃xs,SqL K H1 a xs)/\R (Itl K a) H1
theorem zq{l:Expr}{tl:TE}(hl:PE X l tl):PI X tg l (iList X.K tl):=by
 intro pins s σ H R I h;refine thn (hl pins s σ H _ I h) fun v s1 ⟨x,H1,I1,r1,q1⟩=> ?_;obtain⟨a,e,⟨xs,hq⟩,q⟩:=q1;subst e;cases r1;obtain⟨its,rv,p,hz⟩:=I1.list hq;refine wpAny_pyIter_list p.isList ?_;refine⟨s1.heap.objs.size,[s1.heap.objs.size],_,_,H1,rfl,I1.kept (t':=s1.toks) fun b o e=>Heap.get?_push_of_some _ e,turn_list a _,⟨_,Heap.get?_push_size _ rfl,rfl,rfl⟩,fun b hb=> ?_,q⟩;have e:b=s1.heap.objs.size:=by simpa using hb
 subst e;exact I1.fpOk (Nat.le_refl _) (I1.hok.fresh (Nat.le_refl _))
theorem range_it{pins:List (Addr×Obj)}{σ:St}{H:Hp}{s:Shared}{R:It->Hp->Prop}{E:Value->Shared->Prop}{lo hi:Int}{t u v:Tok}{tk:Nat}(I:Inv X pins σ H s)(h1: -(2 ^ 62)<=lo)(h2:lo<2 ^ 62)(h3: -(2 ^ 62)<=hi)(h4:hi<2 ^ 62)
  (q:R (Itr lo (hi - lo).toNat) H):wpAny (model X.prog X.w) X.A (pyIter (.ref s.heap.objs.size)) (PIE X pins σ tg R) E {s with heap:=s.heap.push {cls:=.type "range",data:=.fields #[.int lo t,.int hi u,.int 1 v]},toks:=tk}:=by
 refine wpAny_pyIter_range (IsRange.new ..) (small_one h1 h2 h3 h4) ?_;have I1:Inv X pins σ H {s with heap:=s.heap.push {cls:=.type "range",data:=.fields #[.int lo t,.int hi u,.int 1 v]},toks:=tk}:=I.kept fun b o e=>Heap.get?_push_of_some _ e;refine⟨(s.heap.push {cls:=.type "range",data:=.fields #[.int lo t,.int hi u,.int 1 v]}).objs.size,[(s.heap.push {cls:=.type "range",data:=.fields #[.int lo t,.int hi u,.int 1 v]}).objs.size],_,_,H,rfl,
  I1.kept (t':=tk) fun b o e=>Heap.get?_push_of_some _ e,turn_range _ lo (hi - lo).toNat,?_,fun b hb=> ?_,q⟩
 ·have e1:lo+((0:Nat):Int) * 1=lo:=by simp
  have e2:(((hi - lo).toNat:Nat):Int) - ((0:Nat):Int)=Builtin.Range.rangeSize lo hi 1:=by rw[rangeSize_one];split<;>omega
  show IsRangeIter _ _ (lo+((0:Nat):Int) * 1) ((((hi - lo).toNat:Nat):Int) - ((0:Nat):Int)) 1;rw[e1,e2];exact Heap.get?_push_size _ rfl
 ·have e:b=(s.heap.push {cls:=.type "range",data:=.fields #[.int lo t,.int hi u,.int 1 v]}).objs.size:=by simpa using hb
  subst e;exact I1.fpOk (Nat.le_refl _) (I1.hok.fresh (Nat.le_refl _))
def iRng1(ta:TA):TI:=fun σ H R=>ta σ H fun vs H1=>∃j:Int,vs=[.int j]/\ -(2 ^ 62)<=j/\j<2 ^ 62/\R (Itr 0 j.toNat) H1
def iRng2(ta:TA):TI:=fun σ H R=>ta σ H fun vs H1=>∃i j:Int,vs=[.int i,.int j]/\(-(2 ^ 62)<=i/\i<2 ^ 62/\ -(2 ^ 62)<=j/\j<2 ^ 62)/\R (Itr i (j - i).toNat) H1
theorem Zr{a:Expr}{ta:TA}{p pos:Pos}(hg:Gl X "range")(hm:X.mg "range"=none)(ha:PA X [a] ta)(hs:starEach [a] X.env=[(false,eval a X.env)]:=by rfl):PI X tg (.Call (.Name "range" p) [a] [] pos) (iRng1 ta):=by
 intro pins s σ H R I h;refine Call_ (Zn I hg hm boot_range (PyProof.Rows.callWith_type1 (thn (ha pos pins s σ H _ I h) fun us s1 ⟨vs,H1,I1,r1,q1⟩=> ?_) hs rfl));obtain⟨j,e,q1,q2,q⟩:=q1;subst e;cases r1 with
 |cons r rr=>
  cases rr;obtain⟨t,rfl⟩:=r;exact call_range_1 (range_it I1 (by omega) (by omega) q1 q2 (by simpa using q))
theorem Jz{a b:Expr}{ta:TA}{p pos:Pos}(hg:Gl X "range")(hm:X.mg "range"=none)(ha:PA X [a,b] ta)(hs:starEach [a,b] X.env=[(false,eval a X.env),(false,eval b X.env)]:=by rfl)(hs2:starEach [b] X.env=[(false,eval b X.env)]:=by rfl):
  PI X tg (.Call (.Name "range" p) [a,b] [] pos) (iRng2 ta):=by
 intro pins s σ H R I h;refine Call_ (Zn I hg hm boot_range (PyProof.Rows.callWith_type1 (thn (ha pos pins s σ H _ I h) fun us s1 ⟨vs,H1,I1,r1,q1⟩=> ?_) (by rw[hs,hs2]) (by rw[hs2];rfl)));obtain⟨i,j,e,⟨q1,q2,q3,q4⟩,q⟩:=q1;subst e;cases r1 with
 |cons r rr=>
  cases rr with
  |cons r' rr=>
   cases rr;obtain⟨t,rfl⟩:=r;obtain⟨t',rfl⟩:=r';exact call_range_2 (range_it I1 q1 q2 q3 q4 q)
def tFor(wi:TI)(g:TG)(tb:TS):TS:=fun D σ H=>wi σ H fun J H1=>∃W:Nat->Nat->St->Hp->Prop,(∃m,W 0 m σ H1)/\∀i m σ H,W i m σ H->
 (J.stop i H/\D.nx σ H)∨(J.go i H/\∃N:St->Hp->Prop,(∀σ' H',N σ' H'->∃m',m'<m/\W (i+1) m' σ' H')/\∀x H',J.yld i H x H'->g x σ H' fun σ2 H2=>tb {D with nx:=N,ct:=N,bk:=D.nx} σ2 H2)
def pinsAt(fp:List Addr)(h:Heap):List (Addr×Obj):=fp.filterMap fun b=>(h.get? b).map fun o=>(b,o)
theorem YF{fp:List Addr}{h:Heap}{b:Addr}{o:Obj}(hb:b∈fp)(e:h.get? b=some o):(b,o)∈pinsAt fp h:=List.mem_filterMap.mpr ⟨b,hb,by rw[e];rfl⟩
theorem of_pinsAt{fp:List Addr}{h:Heap}{p:Addr×Obj}(hp:p∈pinsAt fp h):p.1∈fp/\h.get? p.1=some p.2:=by
 obtain⟨b,hb,e⟩:=List.mem_filterMap.mp hp;cases q:h.get? b with
 |none=>rw[q] at e;cases e
 |some o=>
  rw[q] at e;have e':(b,o)=p:=Option.some.inj e;subst e';exact⟨hb,q⟩
theorem Inv.pinned{pins:List (Addr×Obj)}{σ:St}{H:Hp}{s:Shared}{fp:List Addr}(I:Inv X pins σ H s)(hf: ∀b∈fp,FpOk X pins H b)(ho: ∀b∈fp,∃o,s.heap.get? b=some o/\∀v,o.data≠ .cell v):Inv X (pins++pinsAt fp s.heap) σ H s:=
 I.pins_of fun p hp=>(List.mem_append.mp hp).elim (fun z=>I.pin p (List.mem_append_right _ z)) fun z=>by
  obtain⟨hb,e⟩:=of_pinsAt z;obtain⟨f0,f1,f2,_⟩:=hf p.1 hb;obtain⟨o,e',d⟩:=ho p.1 hb;rw[e] at e';cases e';exact⟨e,f0,f1,f2,d⟩
theorem Inv.unpinned{pins pl:List (Addr×Obj)}{σ:St}{H:Hp}{s:Shared}(I:Inv X (pins++pl) σ H s):Inv X pins σ H s:=I.pins_of fun p hp=>I.pin p (List.mem_append_right _ (List.mem_append_left _ hp))
theorem ZV{iter:Expr}{body:List Stmt}{wi:TI}{g:TG}{tb:TS}{pos:Pos}(hp:PassesOwn (model X.prog X.w) X.A X.env X.xe)(hc:X.calm=true)(hi:PI X tg iter wi)(hg:PG X tg g)(hb:PSs X body tb)
  (hs: ∀x,foldedSetIterable iter X.env x=pure x:=by intro _;rfl):PS X (.For tg iter body [] pos) (tFor wi g tb):=by
 intro pins s σ H D I h;refine wpAny_For (thn (hi pins s σ H _ I h) fun v s1 h1=>thn h1 fun itv s2 h2=> ?_) hs;obtain⟨it,fp,tn,J,H2,e,I2,T,st2,f2,W,⟨m0,w0⟩,turn⟩:=h2;subst e;have stat: ∀{H':Hp},(∀b∈fp,H' b=none)->∀b∈fp,FpOk X pins H' b:=fun hn b hb=>⟨hn b hb,(f2 b hb).2⟩;refine codeAny_forLoop_any (fun n s'=>∃i σ' H',Inv X pins σ' H' s'/\tn i s'.heap/\(∀b∈fp,H' b=none)/\W i n σ' H') ?_ m0 ⟨0,σ,H2,I2,st2,fun b hb=>(f2 b hb).1,w0⟩;rintro n s3 ⟨i,σ3,H3,I3,st3,fr3,w3⟩;rcases turn i n σ3 H3 w3 with⟨stop,qn⟩|⟨go,N,hN,step⟩
 ·refine wpAny_passesOwn hp (thn (T.done X rfl rfl rfl hc i pins s3 σ3 H3 X.xe I3 (stat fr3) st3 stop) fun r s4 ⟨hr,I4⟩=> ?_);subst hr;exact wpAny_execs_nil ⟨σ3,H3,I4,qn⟩
 ·refine wpAny_passesOwn hp (thn (T.item X rfl rfl rfl hc i pins s3 σ3 H3 X.xe I3 (stat fr3) st3 go) fun r s4 ⟨u,hr,h4⟩=> ?_);subst hr;refine wpAny_passesOwn hp (thn h4 fun _ s5 ⟨x,H5,I5,r5,y5,st5,fr5⟩=> ?_);have I5':=I5.pinned (stat fr5) (T.obj _ _ st5);refine wpAny_passesOwn hp (thn (hg _ s5 σ3 H5 x u _ I5' r5 (step x H5 y5)) fun _ s6 ⟨σ6,H6,I6,q6⟩=> ?_);refine wpAny_passesOwn hp (thn (hb _ s6 σ6 H6 _ I6 q6) fun f s7 q7=> ?_);have again: ∀{σ7:St} {H7:Hp},Inv X (pins++pinsAt fp s5.heap) σ7 H7 s7->N σ7 H7->∃m,m<n/\∃i σ' H',Inv X pins σ' H' s7/\tn i s7.heap/\(∀b∈fp,H' b=none)/\W i m σ' H':=fun{σ7 H7} I7 n7=>by
   obtain⟨m',hm,w7⟩:=hN σ7 H7 n7;refine⟨m',hm,i+1,σ7,H7,I7.unpinned,T.keep _ _ _ st5 fun b hb o e=>(I7.pin (b,o) (List.mem_append_right _ (List.mem_append_right _ (YF hb e)))).1,fun b hb=> ?_,w7⟩;obtain⟨o,e,d⟩:=T.obj _ _ st5 b hb;exact(I7.pin (b,o) (List.mem_append_right _ (List.mem_append_right _ (YF hb e)))).2.1
  cases f with
  |next=>obtain⟨σ7,H7,I7,n7⟩:=q7;exact again I7 n7
  |cont=>obtain⟨σ7,H7,I7,n7⟩:=q7;exact again I7 n7
  |brk=>obtain⟨σ7,H7,I7,q7⟩:=q7;exact⟨σ7,H7,I7.unpinned,q7⟩
  |ret v=>obtain⟨x7,σ7,H7,I7,r7,q7⟩:=q7;exact⟨x7,σ7,H7,I7.unpinned,r7,q7⟩
end
theorem Ze{K:PySem.W.Frag}{a:Addr}{xs:List V}{g:TG}{tb:TS}{D:Ends}{σ:St}{H:Hp}(Pv:Nat->St->Hp->Prop)(h0:Pv 0 σ H)(hl: ∀i σ H,i<=xs.length->Pv i σ H->SqL K H a xs)
  (hs: ∀i x σ H,xs[i]? =some x->Pv i σ H->g x σ H fun σ2 H2=>tb {D with nx:=Pv (i+1),ct:=Pv (i+1),bk:=D.nx} σ2 H2)(hd: ∀σ H,Pv xs.length σ H->D.nx σ H):
  ∃W:Nat->Nat->St->Hp->Prop,(∃m,W 0 m σ H)/\∀i m σ H,W i m σ H->
   ((Itl K a).stop i H/\D.nx σ H)∨((Itl K a).go i H/\∃N:St->Hp->Prop,(∀σ' H',N σ' H'->∃m',m'<m/\W (i+1) m' σ' H')/\∀x H',(Itl K a).yld i H x H'->g x σ H' fun σ2 H2=>tb {D with nx:=N,ct:=N,bk:=D.nx} σ2 H2):=by
 refine⟨fun i m σ H=>m=xs.length - i/\i<=xs.length/\Pv i σ H,⟨xs.length,by simp,Nat.zero_le _,h0⟩,?_⟩;rintro i m σ H ⟨rfl,hi,p⟩;have q:=hl i σ H hi p;by_cases hlt:i<xs.length
 ·refine .inr ⟨⟨xs,xs[i],q,by simp[hlt]⟩,Pv (i+1),fun σ' H' p'=>⟨xs.length - (i+1),by omega,rfl,hlt,p'⟩,fun x H' y=> ?_⟩;obtain⟨e,y⟩:=y;subst e;exact hs i x σ _ (y xs q) p
 ·have e:i=xs.length:=by omega
  subst e;exact .inl ⟨⟨xs,q,Nat.le_refl _⟩,hd σ H p⟩
theorem yH{lo:Int}{n:Nat}{g:TG}{tb:TS}{D:Ends}{σ:St}{H:Hp}(Pv:Nat->St->Hp->Prop)(h0:Pv 0 σ H)
  (hs: ∀i σ H,i<n->Pv i σ H->g (.int (lo+i)) σ H fun σ2 H2=>tb {D with nx:=Pv (i+1),ct:=Pv (i+1),bk:=D.nx} σ2 H2)(hd: ∀σ H,Pv n σ H->D.nx σ H):
  ∃W:Nat->Nat->St->Hp->Prop,(∃m,W 0 m σ H)/\∀i m σ H,W i m σ H->
   ((Itr lo n).stop i H/\D.nx σ H)∨((Itr lo n).go i H/\∃N:St->Hp->Prop,(∀σ' H',N σ' H'->∃m',m'<m/\W (i+1) m' σ' H')/\∀x H',(Itr lo n).yld i H x H'->g x σ H' fun σ2 H2=>tb {D with nx:=N,ct:=N,bk:=D.nx} σ2 H2):=by
 refine⟨fun i m σ H=>m=n - i/\i<=n/\Pv i σ H,⟨n,by simp,Nat.zero_le _,h0⟩,?_⟩;rintro i m σ H ⟨rfl,hi,p⟩;by_cases hlt:i<n
 ·refine .inr ⟨hlt,Pv (i+1),fun σ' H' p'=>⟨n - (i+1),by omega,rfl,hlt,p'⟩,fun x H' y=> ?_⟩;obtain⟨e,y⟩:=y;subst e y;exact hs i σ _ hlt p
 ·have e:i=n:=by omega
  subst e;exact .inl ⟨Nat.le_refl _,hd σ H p⟩
abbrev R2:=V->V->Hp->VK->Prop
def OpR(X:Cx)(f:Value->Value->Sem Value)(r:R2):Prop:=
 ∀(pins:List (Addr×Obj)) (s:Shared) (σ:St) (H:Hp) (x y:V) (v u:Value) (Q:VK),Inv X pins σ H s->RelV x v->RelV y u->r x y H Q->
  wpAny (model X.prog X.w) X.A (f v u) (EP X pins σ Q) X.xe s
def UnR(X:Cx)(f:Value->Sem Value)(r:V->Hp->VK->Prop):Prop:=
 ∀(pins:List (Addr×Obj)) (s:Shared) (σ:St) (H:Hp) (x:V) (v:Value) (Q:VK),Inv X pins σ H s->RelV x v->r x H Q->
  wpAny (model X.prog X.w) X.A (f v) (EP X pins σ Q) X.xe s
def CallR(X:Cx)(f:Value)(r:List V->Hp->VK->Prop):Prop:=
 ∀(pins:List (Addr×Obj)) (s:Shared) (σ:St) (H:Hp) (xs:List V) (us:List Value) (Q:VK),Inv X pins σ H s->Vals xs us->r xs H Q->
  wpAny (model X.prog X.w) X.A (call f us) (EP X pins σ Q) X.xe s
def tOp(r:R2)(ta tb:TE):TE:=fun σ H Q=>ta σ H fun x H1=>tb σ H1 fun y H2=>r x y H2 Q
def tUn(r:V->Hp->VK->Prop)(ta:TE):TE:=fun σ H Q=>ta σ H fun x H1=>r x H1 Q
def rI(C:Int->Int->Prop)(g:Int->Int->V):R2:=fun x y H Q=>∃i j,x=.int i/\y=.int j/\C i j/\Q (g i j) H
def rI0(g:Int->Int->V):R2:=fun x y H Q=>∃i j,x=.int i/\y=.int j/\Q (g i j) H
def rU(g:Int->V):V->Hp->VK->Prop:=fun x H Q=>∃i,x=.int i/\Q (g i) H
section
variable {X:Cx}{a b c:Expr}{ta tb tc:TE}{pos:Pos}
theorem binT(ha:PE X a ta)(hb:PE X b tb){pins:List (Addr×Obj)}{s:Shared}{σ:St}{H:Hp}{R:V->V->Hp->Prop}(I:Inv X pins σ H s)
  (h:ta σ H fun x H1=>tb σ H1 fun y H2=>R x y H2){Q:Value->Shared->Prop}{f:Value->Value->Sem Value}
  (hf: ∀v u s2 x y H2,Inv X pins σ H2 s2->RelV x v->RelV y u->R x y H2->wpAny (model X.prog X.w) X.A (f v u) Q X.xe s2):
  wpAny (model X.prog X.w) X.A (eval a X.env) (fun v s₁=>wpAny (model X.prog X.w) X.A (eval b X.env) (fun u s₂=>wpAny (model X.prog X.w) X.A (f v u) Q X.xe s₂) X.xe s₁) X.xe s:=by
 refine thn (ha pins s σ H _ I h) fun v s1 ⟨x,H1,I1,r1,q1⟩=> ?_;refine thn (hb pins s1 σ H1 _ I1 q1) fun u s2 ⟨y,H2,I2,r2,q2⟩=> ?_;exact hf v u s2 x y H2 I2 r1 r2 q2
theorem zj{op:Operator}{r:R2}(ho:OpR X (binaryOp op) r)(ha:PE X a ta)(hb:PE X b tb):PE X (.BinOp a op b pos) (tOp r ta tb):=by
 intro pins s σ H Q I h;exact wpAny_BinOp (binT ha hb I h fun v u s2 x y H2 I2 rx ry q=>ho pins s2 σ H2 x y v u Q I2 rx ry q)
theorem pe_un{op:UnaryOp}{r:V->Hp->VK->Prop}(ho:UnR X (unaryOp op) r)(ha:PE X a ta):PE X (.UnaryOp op a pos) (tUn r ta):=by
 intro pins s σ H Q I h;exact UnaryOp_ (thn (ha pins s σ H _ I h) fun v s1 ⟨x,H1,I1,r1,q1⟩=>ho pins s1 σ H1 x v Q I1 r1 q1)
theorem opI{f:Value->Value->Sem Value}{C:Int->Int->Prop}{g:Int->Int->Int}
  (rule: ∀(i j:Int) (t u:Tok) (s:Shared) (Q:Value->Shared->Prop) (E:Value->Shared->Prop),C i j->Q (.int (g i j) s.toks) {s with toks:=s.toks+1}->wpAny (model X.prog X.w) X.A (f (.int i t) (.int j u)) Q E s):
  OpR X f (rI C fun i j=>.int (g i j)):=by
 intro pins s σ H x y v u Q I rx ry h;obtain⟨i,j,rfl,rfl,hc,q⟩:=h;obtain⟨t,rfl⟩:=rx;obtain⟨t',rfl⟩:=ry;exact rule i j t t' s _ _ hc ⟨.int (g i j),H,I.tok _,⟨_,rfl⟩,q⟩
theorem opI0{f:Value->Value->Sem Value}{g:Int->Int->Int}
  (rule: ∀(i j:Int) (t u:Tok) (s:Shared) (Q:Value->Shared->Prop) (E:Value->Shared->Prop),Q (.int (g i j) s.toks) {s with toks:=s.toks+1}->wpAny (model X.prog X.w) X.A (f (.int i t) (.int j u)) Q E s):
  OpR X f (rI0 fun i j=>.int (g i j)):=by
 intro pins s σ H x y v u Q I rx ry h;obtain⟨i,j,rfl,rfl,q⟩:=h;obtain⟨t,rfl⟩:=rx;obtain⟨t',rfl⟩:=ry;exact rule i j t t' s _ _ ⟨.int (g i j),H,I.tok _,⟨_,rfl⟩,q⟩
theorem opB0{f:Value->Value->Sem Value}{g:Int->Int->Bool}
  (rule: ∀(i j:Int) (t u:Tok) (s:Shared) (Q:Value->Shared->Prop) (E:Value->Shared->Prop),Q (.bool (g i j)) s->wpAny (model X.prog X.w) X.A (f (.int i t) (.int j u)) Q E s):
  OpR X f (rI0 fun i j=>.bl (g i j)):=by
 intro pins s σ H x y v u Q I rx ry h;obtain⟨i,j,rfl,rfl,q⟩:=h;obtain⟨t,rfl⟩:=rx;obtain⟨t',rfl⟩:=ry;exact rule i j t t' s _ _ ⟨.bl (g i j),H,I,rfl,q⟩
def CDiv(i j:Int):Prop:=0<j/\j<1073741824
def CMul(i j:Int):Prop:=(-(2 ^ 64)<i/\i<2 ^ 64)∨(-(2 ^ 64)<j/\j<2 ^ 64)
theorem CMul.ok{i j:Int}(h:CMul i j):IntMulOk i j:=by
 rcases h with⟨h1,h2⟩|⟨h1,h2⟩
 ·exact .of_left (intBits_le_64 h1 h2)
 ·exact .of_right (intBits_le_64 h1 h2)
theorem ZJ:OpR X (binaryOp .Add) (rI0 fun i j=>.int (i+j)):=opI0 fun _ _ _ _ _ _ _ q=>add_int q
theorem op_sub:OpR X (binaryOp .Sub) (rI0 fun i j=>.int (i - j)):=opI0 fun _ _ _ _ _ _ _ q=>sub_int q
theorem op_mul:OpR X (binaryOp .Mult) (rI CMul fun i j=>.int (i * j)):=opI fun _ _ _ _ _ _ _ hc q=>mul_int q hc.ok
theorem op_fdiv:OpR X (binaryOp .FloorDiv) (rI CDiv fun i j=>.int (i / j)):=opI fun i j _ _ _ _ _ hc q=>by
 have h1:(0:Int)<j:=hc.1;have h2:j<1073741824:=hc.2;exact floordiv_int (by omega) (by rw[Int.fdiv_eq_ediv_of_nonneg i (by omega)];exact q) (.inl (PyProof.noPylong_small (by omega)))
theorem op_mod:OpR X (binaryOp .Mod) (rI (fun _ j=>0<j) fun i j=>.int (i % j)):=opI fun i j _ _ _ _ _ hc q=>by
 have h1:(0:Int)<j:=hc;exact mod_int' (by omega) (by rw[Int.fmod_eq_emod_of_nonneg i (by omega)];exact q)
theorem unI{f:Value->Sem Value}{g:Int->Int}
  (rule: ∀(i:Int) (t:Tok) (s:Shared) (Q:Value->Shared->Prop) (E:Value->Shared->Prop),Q (.int (g i) s.toks) {s with toks:=s.toks+1}->wpAny (model X.prog X.w) X.A (f (.int i t)) Q E s):
  UnR X f (rU fun i=>.int (g i)):=by
 intro pins s σ H x v Q I rx h;obtain⟨i,rfl,q⟩:=h;obtain⟨t,rfl⟩:=rx;exact rule i t s _ _ ⟨.int (g i),H,I.tok _,⟨_,rfl⟩,q⟩
theorem jy:UnR X (unaryOp .USub) (rU fun i=>.int (-i)):=unI fun _ _ _ _ _ q=>neg_int q
end
def scal:V->V->Bool
 |.non,.non=>true|.non,.int _=>true|.int _,.non=>true|.non,.bl _=>true|.bl _,.non=>true|.non,.str _=>true|.str _,.non=>true
 |.int _,.int _=>true|.bl _,.bl _=>true|.str _,.str _=>true|.byt _,.byt _=>true
 |.int _,.str _=>true|.str _,.int _=>true|.bl _,.str _=>true|.str _,.bl _=>true
 |_,_=>false
def rEq:R2:=fun x y H Q=>scal x y=true/\Q (.bl (decide (x=y))) H
def rNe:R2:=fun x y H Q=>scal x y=true/\Q (.bl (!decide (x=y))) H
theorem dec_int{i j:Int}:decide (V.int i=V.int j)=(i==j):=by
 rw[Bool.eq_iff_iff];simp
theorem dec_bl{i j:Bool}:decide (V.bl i=V.bl j)=(i==j):=by
 rw[Bool.eq_iff_iff];simp
theorem dec_str{i j:Str}:decide (V.str i=V.str j)=(i==j):=by
 rw[Bool.eq_iff_iff];simp
theorem dec_byt{i j:Array UInt8}:decide (V.byt i=V.byt j)=(i.toList==j.toList):=by
 rw[Bool.eq_iff_iff];cases i;cases j;simp
section
variable {X:Cx}{a b c:Expr}{ta tb tc:TE}{pos:Pos}
theorem zp{pins:List (Addr×Obj)}{σ:St}{H:Hp}{s:Shared}{Q:VK}{k k':Bool}(I:Inv X pins σ H s)(q:Q (.bl k) H)(e:k=k'):EP X pins σ Q (.bool k') s:=by
 subst e;exact⟨.bl k,H,I,rfl,q⟩
theorem jR:OpR X (compareOp .Eq) rEq:=by
 intro pins s σ H x y v u Q I rx ry h;obtain⟨hs,q⟩:=h;cases x with
 |non=>
  cases rx;cases y with
  |non=>cases ry;exact PySem.EqNone.eq_none_none (zp I q (by simp))
  |bl j=>cases ry;exact PySem.EqNone.eq_none_bool (zp I q (by simp))
  |int j=>obtain⟨t',rfl⟩:=ry;exact PySem.EqNone.eq_none_int (zp I q (by simp))
  |str j=>obtain⟨t',rfl⟩:=ry;exact PySem.EqNone.eq_none_str (zp I q (by simp))
  |_=>exact absurd (show false=true from hs) Bool.false_ne_true
 |bl i=>
  cases rx;cases y with
  |non=>cases ry;exact PySem.EqNone.eq_bool_none (zp I q (by simp))
  |bl j=>cases ry;exact eq_bool (zp I q dec_bl)
  |str j=>obtain⟨t',rfl⟩:=ry;exact PySem.EqMixed.eq_bool_str (zp I q (by simp))
  |_=>exact absurd (show false=true from hs) Bool.false_ne_true
 |int i=>
  obtain⟨t,rfl⟩:=rx;cases y with
  |non=>cases ry;exact PySem.EqNone.eq_int_none (zp I q (by simp))
  |int j=>obtain⟨t',rfl⟩:=ry;exact eq_int (zp I q dec_int)
  |str j=>obtain⟨t',rfl⟩:=ry;exact PySem.EqMixed.eq_int_str (zp I q (by simp))
  |_=>exact absurd (show false=true from hs) Bool.false_ne_true
 |str i=>
  obtain⟨t,rfl⟩:=rx;cases y with
  |non=>cases ry;exact PySem.EqNone.eq_str_none (zp I q (by simp))
  |bl j=>cases ry;exact PySem.EqMixed.eq_str_bool (zp I q (by simp))
  |int j=>obtain⟨t',rfl⟩:=ry;exact PySem.EqMixed.eq_str_int (zp I q (by simp))
  |str j=>obtain⟨t',rfl⟩:=ry;exact eq_str (zp I q dec_str)
  |_=>exact absurd (show false=true from hs) Bool.false_ne_true
 |byt i=>
  obtain⟨t,rfl⟩:=rx;cases y with
  |byt j=>obtain⟨t',rfl⟩:=ry;exact PySem.W.eq_bytes (zp I q dec_byt)
  |_=>exact absurd (show false=true from hs) Bool.false_ne_true
 |_=>cases y<;>exact absurd (show false=true from hs) Bool.false_ne_true
theorem yu:OpR X (compareOp .NotEq) rNe:=by
 intro pins s σ H x y v u Q I rx ry h;obtain⟨hs,q⟩:=h;cases x with
 |non=>
  cases rx;cases y with
  |non=>cases ry;exact PySem.EqNone.ne_none_none (zp I q (by simp))
  |bl j=>cases ry;exact PySem.EqNone.ne_none_bool (zp I q (by simp))
  |int j=>obtain⟨t',rfl⟩:=ry;exact PySem.EqNone.ne_none_int (zp I q (by simp))
  |str j=>obtain⟨t',rfl⟩:=ry;exact PySem.EqNone.ne_none_str (zp I q (by simp))
  |_=>exact absurd (show false=true from hs) Bool.false_ne_true
 |bl i=>
  cases rx;cases y with
  |non=>cases ry;exact PySem.EqNone.ne_bool_none (zp I q (by simp))
  |bl j=>cases ry;exact ne_bool (zp I q (congrArg not dec_bl))
  |str j=>obtain⟨t',rfl⟩:=ry;exact PySem.EqMixed.ne_bool_str (zp I q (by simp))
  |_=>exact absurd (show false=true from hs) Bool.false_ne_true
 |int i=>
  obtain⟨t,rfl⟩:=rx;cases y with
  |non=>cases ry;exact PySem.EqNone.ne_int_none (zp I q (by simp))
  |int j=>obtain⟨t',rfl⟩:=ry;exact ne_int (zp I q (congrArg not dec_int))
  |str j=>obtain⟨t',rfl⟩:=ry;exact PySem.EqMixed.ne_int_str (zp I q (by simp))
  |_=>exact absurd (show false=true from hs) Bool.false_ne_true
 |str i=>
  obtain⟨t,rfl⟩:=rx;cases y with
  |non=>cases ry;exact PySem.EqNone.ne_str_none (zp I q (by simp))
  |bl j=>cases ry;exact PySem.EqMixed.ne_str_bool (zp I q (by simp))
  |int j=>obtain⟨t',rfl⟩:=ry;exact PySem.EqMixed.ne_str_int (zp I q (by simp))
  |str j=>obtain⟨t',rfl⟩:=ry;exact ne_str (zp I q (congrArg not dec_str))
  |_=>exact absurd (show false=true from hs) Bool.false_ne_true
 |byt i=>
  obtain⟨t,rfl⟩:=rx;cases y with
  |byt j=>obtain⟨t',rfl⟩:=ry;exact PySem.W.ne_bytes (zp I q (congrArg not dec_byt))
  |_=>exact absurd (show false=true from hs) Bool.false_ne_true
 |_=>cases y<;>exact absurd (show false=true from hs) Bool.false_ne_true
theorem op_lt:OpR X (compareOp .Lt) (rI0 fun i j=>.bl (decide (i<j))):=opB0 fun _ _ _ _ _ _ _ q=>lt_int q
theorem jQ:OpR X (compareOp .LtE) (rI0 fun i j=>.bl (decide (i<=j))):=opB0 fun _ _ _ _ _ _ _ q=>le_int q
theorem op_gt:OpR X (compareOp .Gt) (rI0 fun i j=>.bl (decide (j<i))):=opB0 fun _ _ _ _ _ _ _ q=>gt_int q
theorem op_isN:OpR X (compareOp .Is) (fun x y H Q=>y=.non/\Q (.bl (decide (x=.non))) H):=by
 intro pins s σ H x y v u Q I rx ry h;obtain⟨rfl,q⟩:=h;cases ry;refine is_none_gen (zp I q ?_);cases x<;>first
  |(cases rx;rfl)
  |(obtain⟨t,rfl⟩:=rx;rfl)
theorem op_notN:OpR X (compareOp .IsNot) (fun x y H Q=>y=.non/\Q (.bl (!decide (x=.non))) H):=by
 intro pins s σ H x y v u Q I rx ry h;obtain⟨rfl,q⟩:=h;cases ry;refine isnot_none_gen (zp I q ?_);cases x<;>first
  |(cases rx;rfl)
  |(obtain⟨t,rfl⟩:=rx;rfl)
theorem nomark(b:Expr){op:CmpOp}(h:op≠ .In:=by decide)(h2:op≠ .NotIn:=by decide):behindInMarks op b=false:=by
 have e1:(op==CmpOp.In)=false:=by cases op<;>first|rfl|exact absurd rfl h
 have e2:(op==CmpOp.NotIn)=false:=by cases op<;>first|rfl|exact absurd rfl h2
 cases b<;>simp[behindInMarks,e1,e2]
theorem jj{op:CmpOp}{r:R2}(ho:OpR X (compareOp op) r)(ha:PE X a ta)(hb:PE X b tb)(hm:behindInMarks op b=false):PE X (.Compare a [op] [b] pos) (tOp r ta tb):=by
 intro pins s σ H Q I h;exact wpAny_Compare1 (binT ha hb I h fun v u s2 x y H2 I2 rx ry q=>ho pins s2 σ H2 x y v u Q I2 rx ry q) hm
def tTest(t:TE):TT:=fun σ H Q=>t σ H fun x H'=>∃k,x=.bl k/\Q k H'
theorem zc{op:CmpOp}{r:R2}(ho:OpR X (compareOp op) r)(ha:PE X a ta)(hb:PE X b tb)(hm:behindInMarks op b=false):PT X (.Compare a [op] [b] pos) (tTest (tOp r ta tb)):=by
 intro pins s σ H Q I h;refine wpAny_isTrue_Compare1 (thn (ha pins s σ H _ I h) fun v s1 ⟨x,H1,I1,r1,q1⟩=>thn (hb pins s1 σ H1 _ I1 q1) fun u s2 ⟨y,H2,I2,r2,q2⟩=>
  thn (ho pins s2 σ H2 x y v u _ I2 r1 r2 q2) fun c s3 ⟨z,H3,I3,r3,k,e,q3⟩=> ?_) hm
 subst e;cases r3;exact wpAny_truthy_bool ⟨H3,I3,q3⟩
def tChain(r r':R2)(ta tb tc:TE):TE:=fun σ H Q=>ta σ H fun x H1=>tb σ H1 fun y H2=>r x y H2 fun z H3=>∃k,z=.bl k/\
 (if k=true then tc σ H3 fun w' H4=>r' y w' H4 Q else Q (.bl false) H3)
theorem pe_chain{op op':CmpOp}{r r':R2}(ho:OpR X (compareOp op) r)(ho':OpR X (compareOp op') r')(ha:PE X a ta)(hb:PE X b tb)(hc:PE X c tc)
  (hm:lastMarks [op,op'] [b,c]=false:=by with_unfolding_all rfl):PE X (.Compare a [op,op'] [b,c] pos) (tChain r r' ta tb tc):=by
 intro pins s σ H Q I h;refine Compare_chain (thn (ha pins s σ H _ I h) fun v s1 ⟨x,H1,I1,r1,q1⟩=>chain_link (thn (hb pins s1 σ H1 _ I1 q1) fun u s2 ⟨y,H2,I2,r2,q2⟩=>
  thn (ho pins s2 σ H2 x y v u _ I2 r1 r2 q2) fun d s3 ⟨z,H3,I3,r3,k,e,q3⟩=> ?_)) hm
 subst e;cases r3;refine wpAny_truthy_bool ?_;cases k with
 |false=>exact ite_ff ⟨.bl false,H3,I3,rfl,q3⟩
 |true=>exact ite_tt (chain_last (thn (hc pins s3 σ H3 _ I3 q3) fun w' s4 ⟨z',H4,I4,r4,q4⟩=>ho' pins s4 σ H4 y z' u w' Q I4 r2 r4 q4))
theorem JN{op op':CmpOp}{r r':R2}(ho:OpR X (compareOp op) r)(ho':OpR X (compareOp op') r')(ha:PE X a ta)(hb:PE X b tb)(hc:PE X c tc)
  (hm:lastMarks [op,op'] [b,c]=false:=by with_unfolding_all rfl):PT X (.Compare a [op,op'] [b,c] pos) (tTest (tChain r r' ta tb tc)):=by
 intro pins s σ H Q I h;refine isTrue_chain (thn (ha pins s σ H _ I h) fun v s1 ⟨x,H1,I1,r1,q1⟩=>test_link (thn (hb pins s1 σ H1 _ I1 q1) fun u s2 ⟨y,H2,I2,r2,q2⟩=>
  thn (ho pins s2 σ H2 x y v u _ I2 r1 r2 q2) fun d s3 ⟨z,H3,I3,r3,k,e,q3⟩=> ?_)) hm
 subst e;cases r3;refine wpAny_truthy_bool ?_;cases k with
 |false=>
  obtain⟨k',e',q'⟩:=q3;cases e';exact ite_ff ⟨H3,I3,q'⟩
 |true=>
  refine ite_tt (test_last (thn (hc pins s3 σ H3 _ I3 q3) fun w' s4 ⟨z',H4,I4,r4,q4⟩=>thn (ho' pins s4 σ H4 y z' u w' _ I4 r2 r4 q4) fun d' s5 ⟨z2,H5,I5,r5,k2,e2,q5⟩=> ?_));subst e2;cases r5;exact wpAny_truthy_bool ⟨H5,I5,q5⟩
theorem line63:(sizeLine:Nat)<2 ^ 63:=by rw[sizeLine_eq];decide
theorem vals1{x:V}{us:List Value}(r:Vals [x] us): ∃u,us=[u]/\RelV x u:=by
 cases r with
 |cons r1 r2=>cases r2;exact⟨_,rfl,r1⟩
theorem vals2{x y:V}{us:List Value}(r:Vals [x,y] us): ∃u w',us=[u,w']/\RelV x u/\RelV y w':=by
 cases r with
 |cons r1 r2=>
  cases r2 with
  |cons r3 r4=>cases r4;exact⟨_,_,rfl,r1,r3⟩
theorem call_max2(hc:X.calm=true):CallR X (.builtin "max") (fun xs H Q=>∃i j,xs=[.int i,.int j]/\Q (.int (if j>i then j else i)) H):=by
 intro pins s σ H xs us Q I r h;obtain⟨i,j,rfl,q⟩:=h;obtain⟨u,w',rfl,⟨t,rfl⟩,⟨t',rfl⟩⟩:=vals2 r;refine max_two_ints (I.ok.hd hc) fun h' tk k=>⟨_,H,I.kept k,?_,q⟩;by_cases hj:j>i
 ·rw[if_pos hj,if_pos hj];exact⟨_,rfl⟩
 ·rw[if_neg hj,if_neg hj];exact⟨_,rfl⟩
theorem call_min2(hc:X.calm=true):CallR X (.builtin "min") (fun xs H Q=>∃i j,xs=[.int i,.int j]/\Q (.int (if j<i then j else i)) H):=by
 intro pins s σ H xs us Q I r h;obtain⟨i,j,rfl,q⟩:=h;obtain⟨u,w',rfl,⟨t,rfl⟩,⟨t',rfl⟩⟩:=vals2 r;refine min_two_ints (I.ok.hd hc) fun h' tk k=>⟨_,H,I.kept k,?_,q⟩;by_cases hj:j<i
 ·rw[if_pos hj,if_pos hj];exact⟨_,rfl⟩
 ·rw[if_neg hj,if_neg hj];exact⟨_,rfl⟩
end
structure ObjM(h:Heap)(x dx C:Addr)(mA:Str->Option Value):Prop where
 obj:h.get? x=some (PySem.W.instObj C dx)
 ns:h.Ns1 dx mA
 ne:dx≠x
theorem lookIn_ns{h:Heap}{dx:Addr}{mA:Str->Option Value}(n:h.Ns1 dx mA): ∃od,h.get? dx=some od/\∀name,PySem.W.lookIn name od=some (mA name):=by
 obtain⟨o,es,ep,ho,hd,hk,_,hm⟩:=n;refine⟨o,ho,fun name=> ?_⟩;have e:=hm name;unfold nsFind findBy at e;rw[<-Array.find?_toList] at e;unfold PySem.W.lookIn;rw[hd];dsimp only;split
 ·rename_i y q
  rw[q] at e;exact congrArg some e
 ·rename_i q
  rw[q] at e;have a:es.toList.any (·.refKey)=false:=by
   rw[List.any_eq_false];intro y hy;obtain⟨z,t,hkey⟩:=hk y (Array.mem_toList_iff.mp hy);simp[DictEntry.refKey,hkey]
  have a': ¬es.toList.any (·.refKey)=true:=by rw[a];exact Bool.false_ne_true
  rw[if_neg a'];exact congrArg some e
theorem ObjM.look{h:Heap}{x dx C:Addr}{mA:Str->Option Value}(I:ObjM h x dx C mA): ∃od,PySem.W.InstAt h x (PySem.W.instObj C dx) C (some od)/\∀name,PySem.W.lookIn name od=some (mA name):=
 let⟨od,ho,hl⟩:=lookIn_ns I.ns
 ⟨od,⟨I.obj,rfl,rfl,ho⟩,hl⟩
section
variable {prog:Program}{w:World}{A:Around}{E:Value->Shared->Prop}{s:Shared}{K:PySem.W.Frag}{x dx C f:Addr}{mA:Str->Option Value}{name:Str}{v:Value}
theorem get_map{expr:Bool}{Q:Value->Shared->Prop}(X:K.In s.heap)(I:ObjM s.heap x dx C mA)(hg:PySem.W.plainGet K C name=true)(hh:PySem.W.hasDictIn K C=true)
  (ha:PySem.W.findIn K (.ref C) name=some none)(hv:mA name=some v)(hv':PySem.W.handedIn v=true)(h:Q v {s with toks:=s.toks+1}):
  wpAny (model prog w) A (getAttr (.ref x) name expr) Q E s:=by
 obtain⟨od,J,hl⟩:=I.look;exact PySem.W.get_value X J (PySem.W.plainGet_of hg).1 (PySem.W.findObj_own hh ha rfl (by rw[hl,hv])) hv' h
theorem get_meth{pl:Sem Bool}{Q:Value×List Value->Shared->Prop}(X:K.In s.heap)(I:ObjM s.heap x dx C mA)(hg:PySem.W.plainGet K C name=true)
  (hf:PySem.W.findIn K (.ref C) name=some (some (.ref f)))(ht:PySem.W.isFn K (.ref f)=true)(hv:mA name=none)(h:Q (.ref f,[.ref x]) s):
  wpAny (model prog w) A (getMethod (.ref x) name pl) Q E s:=by
 obtain⟨od,J,hl⟩:=I.look;exact PySem.W.method_fn X J (PySem.W.plainGet_of hg).1 (PySem.W.plainGet_of hg).2 hf (beq_iff_eq.mp ht) (by show(PySem.W.lookIn name od).map (·.isSome)=some false;rw[hl,hv];rfl) h
theorem set_map{ns:List Str}{Q:Unit->Shared->Prop}(X:K.In s.heap)(I:ObjM s.heap x dx C mA)
  (hs:PySem.W.findIn K (.ref C) "__setattr__"=some (some (.builtin "object.__setattr__")))(hp:PySem.W.plainOver K C=true)(ht:PySem.W.takerIn K C name=some none)(hh:PySem.W.hasDictIn K C=true)
  (hw:PySem.Within mA ns)(hsz:ns.length<=sizeLine)
  (h: ∀h',ObjM h' x dx C (fun y=>if y=name then some v else mA y)->Heap.SameBut dx s.heap h'->Q () {s with heap:=h',toks:=s.toks+2}):
  wpAny (model prog w) A (setAttr (.ref x) name v) Q E s:=by
 obtain⟨od,J,hl⟩:=I.look;refine PySem.W.set_plain X J hs (PySem.W.osa_open (s:={s with toks:=s.toks+1}) (r:=none) X J hp ht fun b=> ?_);obtain⟨cd,hc,hd'⟩:=PySem.W.any_some hh;have hx:s.heap.get? x=some ⟨.ref C,some dx,.plain,#[]⟩:=I.obj;refine wpAny_bind (wpAny_pure (wpAny_bind (wpAny_bind (wpAny_loadPart hx (wpAny_bind (PySem.W.Looks.here (s:={s with toks:=s.toks+1}) (PySem.W.looks_clsIn X hc) ?_))))));rw[hd'];refine wpAny_pure (a:=some dx) (wpAny_bind (wpAny_pure (wpAny_bind ?_)));refine wpAny_nsSet1 (s:={s with toks:=s.toks+1}) I.ns fun h' hn2 hs2=> ?_;obtain⟨oD,esD,epD,hoD,hdD,hcD⟩:=hn2.count (PySem.Within.cons name v hw);refine wpAny_bind (wpAny_lookBehind hoD (by rw[hdD];exact pastItsLine_dict (Nat.le_trans hcD (by rw[List.length_cons];omega))) ?_);exact wpAny_pure (h _ ⟨(hs2.2 _ (Ne.symm I.ne)).trans I.obj,hn2,I.ne⟩ hs2)
theorem make_map{R:Result->Shared->Prop}{vs:List Value}{kw:List (Str×Value)}(X:K.In s.heap)(hm:PySem.W.makesIn K C=true)
  (hi:PySem.W.findIn K (.ref C) "__init__"=some (some (.ref f)))(hf:PySem.W.typeIn K (.ref f)=some (.type "function"))
  (h:codeAny (model prog w) (A.under (.builtin "type.__call__" ⟨.ref C::vs,kw⟩)) (.call (.ref f) ⟨.ref (s.heap.objs.size+1)::vs,kw⟩) (PySem.W.InitBack (s.heap.objs.size+1) R)
   {s with heap:=(s.heap.push PySem.W.emptyDict).push (PySem.W.instObj C s.heap.objs.size)}):
  codeAny (model prog w) A (.call (.ref C) ⟨vs,kw⟩) R s:=by
 obtain⟨hh,g,d,t,os⟩:=s;exact PySem.W.make_core (PySem.W.makes_of X hm) (PySem.W.looks_findIn X hi) (fun self=>PySem.W.bind_fn X self hf) (.inl rfl) h
end
def putF(f:Str)(v:V):List (Str×V)->List (Str×V)
 |[]=>[(f,v)]
 |(g,x)::r=>if g=f then(g,v)::r else(g,x)::putF f v r
theorem zr(f g:Str)(v:V): ∀fs:List (Str×V),(putF f v fs).lookup g=if g=f then some v else fs.lookup g
 |[]=>by
  show List.lookup g [(f,v)]=_;by_cases h:g=f
  ·have hb:(g==f)=true:=beq_iff_eq.mpr h;simp only[List.lookup,hb,if_pos h]
  ·have hb:(g==f)=false:=beq_eq_false_iff_ne.mpr h;simp only[List.lookup,hb,if_neg h]
 |(k,x)::r=>by
  have ih:=zr f g v r;rw[show putF f v ((k,x)::r)=(if k=f then(k,v)::r else(k,x)::putF f v r) from rfl];by_cases hk:k=f
  ·rw[if_pos hk];by_cases h:g=k
   ·have hb:(g==k)=true:=beq_iff_eq.mpr h;simp only[List.lookup,hb,if_pos (h.trans hk)]
   ·have hb:(g==k)=false:=beq_eq_false_iff_ne.mpr h;simp only[List.lookup,hb,if_neg (fun e:g=f=>h (e.trans hk.symm))]
  ·rw[if_neg hk];by_cases h:g=k
   ·have hb:(g==k)=true:=beq_iff_eq.mpr h;simp only[List.lookup,hb,if_neg (fun e:g=f=>hk (h.symm.trans e))]
   ·have hb:(g==k)=false:=beq_eq_false_iff_ne.mpr h;simp only[List.lookup,hb];exact ih
theorem jB(f:Str)(v:V): ∀fs:List (Str×V),f∈(putF f v fs).map (·.1)/\∀g,g∈fs.map (·.1)->g∈(putF f v fs).map (·.1)
 |[]=>⟨by simp[putF],fun g h=>by simp at h⟩
 |(k,x)::r=>by
  obtain⟨i1,i2⟩:=jB f v r;rw[show putF f v ((k,x)::r)=(if k=f then(k,v)::r else(k,x)::putF f v r) from rfl];by_cases hk:k=f
  ·rw[if_pos hk];subst hk;exact⟨by simp,fun g h=>by simpa using h⟩
  ·rw[if_neg hk];refine⟨?_,fun g h=> ?_⟩
   ·rw[List.map_cons];exact List.mem_cons_of_mem _ i1
   ·rw[List.map_cons] at h ⊢;rcases List.mem_cons.mp h with e|e
    ·exact List.mem_cons.mpr (.inl e)
    ·exact List.mem_cons_of_mem _ (i2 g e)
theorem jT(f:Str)(v:V): ∀fs:List (Str×V),(putF f v fs).length<=fs.length+1
 |[]=>by simp[putF]
 |(k,x)::r=>by
  have ih:=jT f v r;rw[show putF f v ((k,x)::r)=(if k=f then(k,v)::r else(k,x)::putF f v r) from rfl];by_cases hk:k=f
  ·rw[if_pos hk,List.length_cons,List.length_cons];omega
  ·rw[if_neg hk,List.length_cons,List.length_cons];omega
theorem RelO.some_of{v:V}{o:Option Value}(r:RelO (some v) o): ∃u,o=some u/\RelV v u:=by
 cases o with
 |none=>exact(show False from r).elim
 |some u=>exact⟨u,rfl,r⟩
theorem RelO.none_of{o:Option Value}(r:RelO none o):o=none:=by
 cases o with
 |none=>rfl
 |some u=>exact(show False from r).elim
theorem handed_of{v:V}{u:Value}(r:RelV v u):PySem.W.handedIn u=true:=by
 cases v with
 |non=>cases (show u=Value.none from r);rfl
 |bl b=>cases (show u=Value.bool b from r);rfl
 |int i=>obtain⟨t,e⟩:=(show ∃t,u=Value.int i t from r);cases e;rfl
 |str x=>obtain⟨t,e⟩:=(show ∃t,u=Value.str x t from r);cases e;rfl
 |byt b=>obtain⟨t,e⟩:=(show ∃t,u=Value.bytes b t from r);cases e;rfl
 |flt b=>obtain⟨t,e⟩:=(show ∃t,u=Value.float b t from r);cases e;rfl
 |ref a=>cases (show u=Value.ref a from r);rfl
 |ty n=>cases (show u=Value.type n from r);rfl
section
variable {P:Program}{w:World}{H H':Hp}{h h':Heap}{a C dx:Addr}{fs fs':List (Str×V)}
theorem ins_get(hok:HOk P w H h)(e:H a=some (.ins C dx fs)): ∃mA,ObjM h a dx C mA/\(∀f,RelO (fs.lookup f) (mA f))/\PySem.Within mA (fs.map (·.1))/\fs.length<=1000/\H dx=some (.own a):=by
 obtain⟨d,z,ne,ob,mA,n,r,q⟩:=(show ObjOk P w H h a (.ins C dx fs) from hok a _ e);exact⟨mA,⟨ob,n,ne⟩,r,q,z,d⟩
end
structure Cls(K:PySem.W.Frag)(C:Addr):Prop where
 pg:PySem.W.plainGet K C Str.empty=true
 hd:PySem.W.hasDictIn K C=true
 po:PySem.W.plainOver K C=true
 sa:PySem.W.findIn K (.ref C) "__setattr__"=some (some (.builtin "object.__setattr__"))
theorem Cls.get{K:PySem.W.Frag}{C:Addr}(c:Cls K C)(f:Str):PySem.W.plainGet K C f=true:=c.pg
def NoAttr(K:PySem.W.Frag)(C:Addr)(f:Str):Prop:=PySem.W.findIn K (.ref C) f=some none
theorem NoAttr.taker{K:PySem.W.Frag}{C:Addr}{f:Str}(n:NoAttr K C f):PySem.W.takerIn K C f=some none:=by
 unfold PySem.W.takerIn;rw[show PySem.W.findIn K (.ref C) f=some none from n];rfl
structure Meth(K:PySem.W.Frag)(C:Addr)(m:Str)(f:Addr):Prop where
 at_:PySem.W.findIn K (.ref C) m=some (some (.ref f))
 fn:PySem.W.isFn K (.ref f)=true
 kp:PySem.W.keepIn K (.ref f)=true
section
variable {X:Cx}{pins:List (Addr×Obj)}{σ:St}{H:Hp}{s:Shared}{a C dx:Addr}{fs:List (Str×V)}{f:Str}{v:V}{A:Around}{E:Value->Shared->Prop}
theorem Jc{b:Bool}{Q:Value->Shared->Prop}(I:Inv X pins σ H s)(e:H a=some (.ins C dx fs))(c:Cls X.K C)(n:NoAttr X.K C f)(l:fs.lookup f=some v)
  (h: ∀u s',Inv X pins σ H s'->RelV v u->Q u s'):wpAny (model X.prog X.w) A (getAttr (.ref a) f b) Q E s:=by
 obtain⟨mA,O,r,_,_,_⟩:=ins_get I.hok e;obtain⟨u,hu,ru⟩:=RelO.some_of (v:=v) (o:=mA f) (by rw[<-l];exact r f);exact get_map I.kIn O (c.get f) c.hd n hu (handed_of ru) (h u _ (I.tok _) ru)
theorem YH{m:Str}{g:Addr}{pl:Sem Bool}{Q:Value×List Value->Shared->Prop}(I:Inv X pins σ H s)(e:H a=some (.ins C dx fs))(c:Cls X.K C)(k:Meth X.K C m g)(l:fs.lookup m=none)
  (h:Q (.ref g,[.ref a]) s):wpAny (model X.prog X.w) A (getMethod (.ref a) m pl) Q E s:=by
 obtain⟨mA,O,r,_,_,_⟩:=ins_get I.hok e;have hn:mA m=none:=RelO.none_of (by rw[<-l];exact r m);exact get_meth I.kIn O (c.get m) k.at_ k.fn hn h
theorem JB{y:V}{u:Value}{Q:Unit->Shared->Prop}(I:Inv X pins σ H s)(e:H a=some (.ins C dx fs))(c:Cls X.K C)(n:NoAttr X.K C f)(hl:fs.length<1000)(ry:RelV y u)
  (h: ∀s',Inv X pins σ (upd H a (.ins C dx (putF f y fs))) s'->Q () s'):wpAny (model X.prog X.w) A (setAttr (.ref a) f u) Q E s:=by
 obtain⟨mA,O,r,wi,_,ho⟩:=ins_get I.hok e;have hz:(fs.map (·.1)).length<=sizeLine:=by rw[List.length_map,sizeLine_eq];omega
 refine set_map I.kIn O c.sa c.po n.taker c.hd wi hz fun h' O' sb=>h _ ?_;have hd: ∃o,h'.get? dx=some o:=let⟨o,_,_,e',_⟩:=O'.ns;⟨o,e'⟩;refine I.write (x:=a) (e:=dx) (by rw[e];exact True.intro) (.inr ho) (fun b q hb z=>(sb.2 b hb).trans z) hd ?_;refine⟨by rw[zH O.ne];exact ho,?_,O.ne,O'.obj,_,O'.ns,fun g=> ?_,fun g hg=> ?_⟩
 ·have:=jT f y fs;omega
 ·show RelO ((putF f y fs).lookup g) (if g=f then some u else mA g);rw[zr];by_cases q:g=f
  ·rw[if_pos q,if_pos q];exact ry
  ·rw[if_neg q,if_neg q];exact r g
 ·by_cases q:g=f
  ·rw[q];exact(jB f y fs).1
  ·refine(jB f y fs).2 g (wi g fun z=>hg ?_);show(if g=f then some u else mA g)=none;rw[if_neg q];exact z
theorem Inv.made(I:Inv X pins σ H s):Inv X pins σ (upd (upd H s.heap.objs.size (.own (s.heap.objs.size+1))) (s.heap.objs.size+1) (.ins C s.heap.objs.size []))
  {s with heap:=(s.heap.push PySem.W.emptyDict).push (PySem.W.instObj C s.heap.objs.size)}:=by
 have e1:(s.heap.push PySem.W.emptyDict).get? s.heap.objs.size=some PySem.W.emptyDict:=Heap.get?_push_size s.heap rfl;have e2:((s.heap.push PySem.W.emptyDict).push (PySem.W.instObj C s.heap.objs.size)).get? (s.heap.objs.size+1)=some (PySem.W.instObj C s.heap.objs.size):=by
  have:=Heap.get?_push_size (s.heap.push PySem.W.emptyDict) (o:=PySem.W.instObj C s.heap.objs.size) rfl
  rwa [Heap.size_push] at this
 have e3:(s.heap.push PySem.W.emptyDict).Ns s.heap.objs.size (fun _=>none):=⟨PySem.W.emptyDict,#[],_,e1,rfl,(fun e he=>absurd he (by simp)),fun _=>rfl⟩;have I1:=I.laid (a:=s.heap.objs.size) (o:=.own (s.heap.objs.size+1)) (h':=s.heap.push PySem.W.emptyDict) (t':=s.toks) (fun b u q=>Heap.get?_push_of_some _ q) (Nat.le_refl _) ⟨_,e1⟩;refine I1.laid (a:=s.heap.objs.size+1) (o:=.ins C s.heap.objs.size []) (t':=s.toks) (fun b u q=>Heap.get?_push_of_some _ q) (Nat.le_of_eq (Heap.size_push _ _)) ?_;have ne:s.heap.objs.size≠s.heap.objs.size+1:=Nat.ne_of_lt (Nat.lt_succ_self _);refine⟨by rw[zH ne,zB],Nat.zero_le _,ne,e2,fun _=>none,(Heap.Ns1.of_empty e3).at fun o q=>Heap.get?_push_of_some _ q,fun _=>True.intro,fun y hy=>absurd rfl hy⟩
theorem attr_of{prog:Program}{w:World}{env:Env}{e:Expr}{f:Str}{pos:Pos}{s:Shared}{Q:Value->Shared->Prop}(hb:attributeBase e f env (eval e env)=eval e env)
  (h:wpAny (model prog w) A (eval e env) (fun o s₁=>wpAny (model prog w) A (getAttr o f true) Q E s₁) E s):wpAny (model prog w) A (eval (.Attribute e f pos) env) Q E s:=
 Attribute_any_ h (by rw[arm_eval_Attribute,hb])
end
def tFld(K:PySem.W.Frag)(ta:TE)(f:Str):TE:=fun σ H Q=>ta σ H fun x H1=>∃a C dx fs v,x=.ref a/\H1 a=some (.ins C dx fs)/\Cls K C/\NoAttr K C f/\fs.lookup f=some v/\Q v H1
def sFld(K:PySem.W.Frag)(ta tv:TE)(f:Str):TS:=fun D σ H=>tv σ H fun y H1=>ta σ H1 fun x H2=>∃a C dx fs,x=.ref a/\H2 a=some (.ins C dx fs)/\Cls K C/\NoAttr K C f/\fs.length<1000/\
 D.nx σ (upd H2 a (.ins C dx (putF f y fs)))
def InOp(X:Cx)(op:Operator)(rd:V->V->Hp->VK->Prop):Prop:=
 ∀(pins:List (Addr×Obj)) (s:Shared) (σ:St) (H:Hp) (x y:V) (u v:Value) (Q:VK),Inv X pins σ H s->RelV x u->RelV y v->rd x y H Q->wpAny (model X.prog X.w) X.A (inplaceOp op u v) (EP X pins σ Q) X.xe s
def sFldAug(K:PySem.W.Frag)(ta tv:TE)(rd:V->V->Hp->VK->Prop)(f:Str):TS:=fun D σ H=>ta σ H fun x H1=>∃a C dx fs v,x=.ref a/\H1 a=some (.ins C dx fs)/\Cls K C/\NoAttr K C f/\fs.lookup f=some v/\
 tv σ H1 fun y H2=>rd v y H2 fun z H3=>∃dx' fs',H3 a=some (.ins C dx' fs')/\fs'.length<1000/\D.nx σ (upd H3 a (.ins C dx' (putF f z fs')))
section
variable {X:Cx}{o e value:Expr}{f:Str}{pos pos' tpos:Pos}{ta tv:TE}
theorem zU(he:PE X e ta)(hb:attributeBase e f X.env (eval e X.env)=eval e X.env):PE X (.Attribute e f pos) (tFld X.K ta f):=by
 intro pins s σ H Q I h;refine attr_of hb (thn (he pins s σ H _ I h) fun u s1 ⟨x,H1,I1,rx,a,C,dx,fs,v,ex,ea,c,n,l,q⟩=> ?_);subst ex;obtain rfl:u=Value.ref a:=rx;exact Jc I1 ea c n l fun u' s2 I2 ru=>⟨v,H1,I2,ru,q⟩
theorem Zg(ha:PE X o ta)(hv:PE X value tv)(hs:swapsWith value (some (.Attribute o f pos')) pos.line X.env=pure false):PS X (.Assign [.Attribute o f pos'] value pos) (sFld X.K ta tv f):=by
 intro pins s σ H D I h;refine plainObj_wpAny_Assign_Attribute (thn (hv pins s σ H _ I h) fun u s1 ⟨y,H1,I1,ry,q⟩=>thn (ha pins s1 σ H1 _ I1 q) fun ov s2 ⟨x,H2,I2,rx,a,C,dx,fs,ex,ea,c,n,l,q2⟩=> ?_) hs;subst ex;obtain rfl:ov=Value.ref a:=rx;exact JB I2 ea c n l ry fun s3 I3=>⟨σ,_,I3,q2⟩
theorem ps_fldaug{op:Operator}{rd:V->V->Hp->VK->Prop}(ha:PE X o ta)(hv:PE X value tv)(hop:InOp X op rd):PS X (.AugAssign (.Attribute o f tpos) op value pos) (sFldAug X.K ta tv rd f):=by
 intro pins s σ H D I h;refine wpAny_AugAssign_AttributeAny (thn (ha pins s σ H _ I h) fun ov s1 ⟨x,H1,I1,rx,a,C,dx,fs,v,ex,ea,c,n,l,q⟩=> ?_);subst ex;obtain rfl:ov=Value.ref a:=rx;refine Jc I1 ea c n l fun u s2 I2 ru=>thn (hv pins s2 σ H1 _ I2 q) fun w3 s3 ⟨y,H2,I3,ry,q3⟩=>thn (hop pins s3 σ H2 v y u w3 _ I3 ru ry q3) fun w4 s4 ⟨z,H3,I4,rz,dx',fs',ea',l',q4⟩=> ?_;exact JB I4 ea' c n l' rz fun s5 I5=>⟨σ,_,I5,q4⟩
def rAdd:V->V->Hp->VK->Prop:=fun x y H Q=>∃i j,x=.int i/\y=.int j/\Q (.int (i+j)) H
theorem in_add:InOp X .Add rAdd:=by
 rintro pins s σ H x y u v Q I rx ry ⟨i,j,rfl,rfl,q⟩;obtain⟨t,rfl⟩:=(show ∃t,u=Value.int i t from rx);obtain⟨t',rfl⟩:=(show ∃t',v=Value.int j t' from ry);exact PyProof.Rows.iadd_int ⟨.int (i+j),H,I.tok _,⟨_,rfl⟩,q⟩
theorem methcall_of{pl:Sem Bool}{m:Str}{apos:Pos}{args:List Expr}{pins:List (Addr×Obj)}{s:Shared}{σ:St}{H:Hp}{Q:Value->Shared->Prop}{te:TE}(he:PE X e te)(I:Inv X pins σ H s)
  (h:te σ H fun x H1=>∃a C dx fs g,x=.ref a/\H1 a=some (.ins C dx fs)/\Cls X.K C/\Meth X.K C m g/\fs.lookup m=none/\
   ∀s1,Inv X pins σ H1 s1->wpAny (model X.prog X.w) X.A (callWith pos (.ref g) [.ref a] (backTo pos (starEach args X.env)) (backToKw pos (keywordEach [] X.env))) Q X.xe s1)
  (ht:eval (.Call (.Attribute e m apos) args [] pos) X.env=(do
   let ov <-eval e X.env
   standAt apos.atName
   let(f,first) <-holding [ov] (getMethod ov m pl)
   callWith pos f first (backTo pos (starEach args X.env)) (backToKw pos (keywordEach [] X.env)))):
  wpAny (model X.prog X.w) X.A (eval (.Call (.Attribute e m apos) args [] pos) X.env) Q X.xe s:=by
 refine PySem.W.methodCall_KW (pl:=pl) (thn (he pins s σ H _ I h) fun u s1 ⟨x,H1,I1,rx,a,C,dx,fs,g,ex,ea,c,k,l,q⟩=> ?_) ht;subst ex;obtain rfl:u=Value.ref a:=rx;exact YH I1 ea c k l (q s1 I1)
end
section
variable {X:Cx}{pins:List (Addr×Obj)}{σ:St}{H:Hp}{s:Shared}{A:Around}{E:Value->Shared->Prop}{Q:Value->Shared->Prop}{c:Value}{b:Bool}
end
structure Room(k:Nat)(A:Around):Prop where
 hd:A.handled=none
 dp:A.depth+3 * k+5<recursionLimit
 un:A.units+16 * k+200<cLine
theorem Room.mono{j k:Nat}{A:Around}(r:Room k A)(h:j<=k):Room j A:=⟨r.hd,by have:=r.dp;omega,by have:=r.un;omega⟩
theorem Room.deeper{k:Nat}{A:Around}(r:Room (k+1) A)(env:Env):Room k (A.deeper env):=
 ⟨r.hd,by have:=r.dp;show A.depth+1+3 * k+5<_;omega,by have:=r.un;show A.units+3+16 * k+200<_;omega⟩
theorem make_depth{A:Around}{C:Addr}{us:List Value}{kw:List (Str×Value)}:(A.under (.builtin "type.__call__" ⟨.ref C::us,kw⟩)).depth=A.depth+1:=by
 first|rfl|simp[Around.under,Code.weight,Code.isCreation,Code.isGuard,Code.isCaller,Code.frames,Code.isFrame,guardIds]
theorem make_units{A:Around}{C:Addr}{us:List Value}{kw:List (Str×Value)}:(A.under (.builtin "type.__call__" ⟨.ref C::us,kw⟩)).units=A.units+1:=by
 first|rfl|simp[Around.under,Code.cUnits,Code.frames,Code.isFrame]
theorem Room.make{k:Nat}{A:Around}(r:Room (k+1) A)(C:Addr)(us:List Value)(kw:List (Str×Value)):Room k (A.under (.builtin "type.__call__" ⟨.ref C::us,kw⟩)):=
 ⟨r.hd,by have:=r.dp;rw[make_depth];omega,by have:=r.un;rw[make_units];omega⟩
theorem Room.depth{k:Nat}{A:Around}(r:Room k A):A.depth<recursionLimit:=by have:=r.dp;omega
theorem Room.units{k:Nat}{A:Around}(r:Room k A):A.units+64<cLine:=by have:=r.un;omega
theorem Room.units0{k:Nat}{A:Around}(r:Room k A):A.units<cLine:=by have:=r.un;omega
def tNil:TA:=fun _ H Q=>Q [] H
def tCons(ta:TE)(tr:TA):TA:=fun σ H Q=>ta σ H fun x H1=>tr σ H1 fun xs H2=>Q (x::xs) H2
section
variable {X:Cx}{e:Expr}{es:List Expr}{te:TE}{t:TA}{pos:Pos}
theorem zE:PA X [] tNil:=fun _ _ _ _ H Q I h=>Calls.spliced_nil ⟨[],H,I,.nil,h⟩
theorem zA(ha:PE X e te)(hr:PA X es t)(hs:starEach (e::es) X.env=(false,eval e X.env)::starEach es X.env:=by rfl):PA X (e::es) (tCons te t):=by
 intro pos pins s σ H Q I h;rw[hs];show wpAny _ _ (spliced ((false,eval e X.env)::backTo pos (starEach es X.env))) _ _ s;refine Calls.spliced_cons (thn (ha pins s σ H _ I h) fun u s1 ⟨x,H1,I1,r1,q1⟩=> ?_);exact thn (hr pos pins s1 σ H1 _ I1 q1) fun us s2 ⟨xs,H2,I2,r2,q2⟩=>⟨x::xs,H2,I2,.cons r1 r2,q2⟩
def tTup(t:TA):TE:=fun σ H Q=>t σ H fun xs H1=>xs.length<=sizeLine/\∀p,H1 p=none->Q (.ref p) (upd H1 p (.tup xs))
def tLst(t:TA):TE:=fun σ H Q=>t σ H fun xs H1=>xs.length<=sizeLine/\∀p,H1 p=none->Q (.ref p) (upd H1 p (.lst xs))
theorem YD{x1}(h:PA X es t):PE X (.Tuple es x1 pos) (tTup t):=by
 intro pins s σ H Q I hq;refine wpAny_Tuple_spliced (thn (h pos pins s σ H _ I hq) fun us s1 ⟨xs,H1,I1,r,z,q⟩=>⟨by rw[<-r.length];exact z,?_⟩);have hf:H1 s1.heap.objs.size=none:=I1.hok.fresh (Nat.le_refl _);refine⟨.ref s1.heap.objs.size,upd H1 s1.heap.objs.size (.tup xs),I1.laid (t':=s1.toks) (fun b u e=>Heap.get?_push_of_some _ e) (Nat.le_refl _) ?_,rfl,q _ hf⟩;exact⟨z,us,r,⟨_,Heap.get?_push_size _ rfl,rfl,_,rfl⟩⟩
theorem zT(h:PA X es t):PE X (.List es pos) (tLst t):=by
 intro pins s σ H Q I hq;refine wpAny_List_spliced (thn (h pos pins s σ H _ I hq) fun us s1 ⟨xs,H1,I1,r,z,q⟩=>⟨by rw[<-r.length];exact z,?_⟩);have hf:H1 s1.heap.objs.size=none:=I1.hok.fresh (Nat.le_refl _);refine⟨.ref s1.heap.objs.size,upd H1 s1.heap.objs.size (.lst xs),I1.laid (t':=s1.toks) (fun b u e=>Heap.get?_push_of_some _ e) (Nat.le_refl _) ?_,rfl,q _ hf⟩;exact⟨z,us,0,r,Heap.get?_push_size _ rfl⟩
end
abbrev Sp:=List V->Hp->VK->XK->Prop
abbrev CXT:=List Env->Hp->Shared->XK->Value->Shared->Prop
structure Env0(P:Program)(w:World)(K:PySem.W.Frag)(mg:Str->Option Value)(base:Heap)(A:Around)(outer:List Env)(s:Shared)(H:Hp):Prop where
 frames:A.frames=some outer
 mod:Mod K mg base
 bs: ∀b o,base.get? b=some o->s.heap.get? b=some o/\H b=none
 bsz:base.objs.size<=s.heap.objs.size
 funs:s.heap.FunFrames base outer
 frf: ∀b∈frs outer,H b=none
 hok:HOk P w H s.heap
 bare:AllBare s.gens
def CE(outer:List Env)(P:Program)(w:World)(H:Hp)(s:Shared)(Q:VK)(u:Value)(s':Shared):Prop:=
 ∃v H',s'.os=s.os/\AllBare s'.gens/\Un (frs outer) [] H H' s.heap s'.heap/\HOk P w H' s'.heap/\RelV v u/\Q v H'
def CR(CX:CXT)(outer:List Env)(P:Program)(w:World)(H:Hp)(s:Shared)(Q:VK)(E:XK)(r:Result)(s':Shared):Prop:=
 match r with
 |.ok (.ret u)=>CE outer P w H s Q u s'
 |.ok _=>False
 |.error e=>CX outer H s E e s'
structure FnOk(P:Program)(w:World)(K:PySem.W.Frag)(mg:Str->Option Value)(base:Heap)(CX:CXT)(k:Nat)(f:Addr)(fd:FuncData)(ps:List Str)(sp:Sp):Prop where
 len: ∀vs H Q E,sp vs H Q E->vs.length=ps.length
 run: ∀(A:Around) (outer:List Env) (s:Shared) (H:Hp) (args:Args) (us:List Value) (vs:List V) (Q:VK) (E:XK),Room k A->Env0 P w K mg base A outer s H->BindsTo s fd args (ps.zip us)->Vals vs us->sp vs H Q E->
  codeAny (model P w) A (.call (.ref f) args) (CR CX outer P w H s Q E) s
theorem Env0.make{P:Program}{w:World}{K:PySem.W.Frag}{mg:Str->Option Value}{base:Heap}{A:Around}{outer:List Env}{s:Shared}{H:Hp}(e:Env0 P w K mg base A outer s H)(C:Addr)(us:List Value)(kw:List (Str×Value)):
  Env0 P w K mg base (A.under (.builtin "type.__call__" ⟨.ref C::us,kw⟩)) outer s H:=⟨by first|exact e.frames|(simpa[Around.under,Code.envs,Code.isFrame,pushEnvs] using e.frames),e.mod,e.bs,e.bsz,e.funs,e.frf,e.hok,e.bare⟩
section
variable {X:Cx}{pins:List (Addr×Obj)}{σ:St}{H:Hp}{s s':Shared}
theorem Inv.env0(I:Inv X pins σ H s):Env0 X.prog X.w X.K X.mg X.base X.A X.stack s H:=
 ⟨I.ok.frames,I.ok.mod,I.bs,Nat.le_trans I.ok.bsz I.sz,I.stack,I.stkFree,I.hok,I.bare⟩
theorem Inv.after{Q:VK}{u:Value}(I:Inv X pins σ H s)(h:CE X.stack X.prog X.w H s Q u s'):EP X pins σ Q u s':=by
 obtain⟨v,H',os,bare,un,hok,r,q⟩:=h;obtain⟨hh,g,d,t,os'⟩:=s';obtain rfl:os'=s.os:=os;exact⟨v,H',I.call (h':=hh) (g':=g) (d':=d) (t':=t) (ch:=[]) un hok bare (fun b z=>absurd z (by simp)),r,q⟩
end
def tCall(sp:Sp)(dvs:List V)(E:XK)(t:TA):TE:=fun σ H Q=>t σ H fun vs H1=>sp (vs++dvs) H1 Q E
def tMeth(C:Addr)(m:Str)(sp:Sp)(dvs:List V)(E:XK)(ta:TE)(t:TA):TE:=fun σ H Q=>ta σ H fun x H1=>∃a dx fs,x=.ref a/\H1 a=some (.ins C dx fs)/\fs.lookup m=none/\
 t σ H1 fun vs H2=>sp (x::(vs++dvs)) H2 Q E
def tMake(C:Addr)(sp:Sp)(dvs:List V)(E:XK)(t:TA):TE:=fun σ H Q=>t σ H fun vs H1=>∀x dx,H1 x=none->H1 dx=none->dx≠x->
 sp (.ref x::(vs++dvs)) (upd (upd H1 dx (.own x)) x (.ins C dx [])) (fun v H2=>v=.non/\Q (.ref x) H2) E
def Binds(K:PySem.W.Frag)(fd:FuncData)(ps:List Str)(ds:List Value):Prop:=
 ∀(s:Shared) (us:List Value),K.In s.heap->(us++ds).length=ps.length->BindsTo s fd ⟨us,[]⟩ (ps.zip (us++ds))
theorem Binds.all{K:PySem.W.Frag}{fd:FuncData}{ps:List Str}(h: ∀us:List Value,us.length=ps.length->bindArgs fd ⟨us,[]⟩=pure (ps.zip us)):Binds K fd ps []:=fun s us _ hl=>by
 rw[List.append_nil] at hl ⊢;exact .of_eq (h us hl)
def Passes(CX:CXT)(X:Cx)(E:XK):Prop:=∀(pins:List (Addr×Obj)) (σ:St) (H:Hp) (s:Shared) (e:Value) (s':Shared),Inv X pins σ H s->CX X.stack H s E e s'->X.xe e s'
section
variable {X:Cx}{CX:CXT}{k:Nat}{f C:Addr}{fd:FuncData}{ps:List Str}{sp:Sp}{dvs:List V}{ds:List Value}{E:XK}{x m:Str}{p pos apos:Pos}{e o:Expr}{es:List Expr}{ta:TE}{t:TA}
theorem run_fn{pins:List (Addr×Obj)}{σ:St}{H:Hp}{s:Shared}{Q:VK}{us:List Value}{vs:List V}(F:FnOk X.prog X.w X.K X.mg X.base CX k f fd ps sp)(hr:Room k X.A)(hb:Binds X.K fd ps ds)(hd:Vals dvs ds)(hx:Passes CX X E)
  (I:Inv X pins σ H s)(r:Vals vs us)(h:sp (vs++dvs) H Q E):wpAny (model X.prog X.w) X.A (call (.ref f) us) (EP X pins σ Q) X.xe s:=by
 have r2:Vals (vs++dvs) (us++ds):=r.append hd;have hl:(us++ds).length=ps.length:=by rw[<-r2.length];exact F.len _ _ _ _ h
 refine wpAny_call (codeAny_mono (F.run X.A X.stack s H ⟨us,[]⟩ (us++ds) (vs++dvs) Q E hr I.env0 (hb s us I.kIn hl) r2 h) fun r s' hq=> ?_);cases r with
 |error e=>exact hx pins σ H s e s' I hq
 |ok fl=>
  cases fl with
  |ret u=>exact I.after hq
  |next=>exact False.elim hq
  |brk=>exact False.elim hq
  |cont=>exact False.elim hq
theorem pe_call(F:FnOk X.prog X.w X.K X.mg X.base CX k f fd ps sp)(hr:Room k X.A)(hg:Gl X x)(hm:X.mg x=some (.ref f))(hk:PySem.W.keepIn X.K (.ref f)=true)(hb:Binds X.K fd ps ds)(hd:Vals dvs ds)(hx:Passes CX X E)
  (ha:PA X (e::es) t)(hdb:(x==("__debug__":Str))=false:=by decide)(he:starEach (e::es) X.env=(false,eval e X.env)::starEach es X.env:=by rfl)(hpl:(backTo pos (starEach es X.env)).any (·.1)=false:=by rfl):
  PE X (.Call (.Name x p) (e::es) [] pos) (tCall sp dvs E t):=by
 intro pins s σ H Q I h;refine wpAny_Call_Name_kw (jn I hg hm ?_ hdb);refine PySem.W.callWith_K (h₀:=X.base) I.ok.mod.kin hk (thn (ha pos pins s σ H _ I h) fun us s1 ⟨vs,H1,I1,r,q⟩=>⟨I1.kIn,?_⟩) he hpl;exact run_fn F hr hb hd hx I1 r q
theorem pe_meth{pl:Sem Bool}(he:PE X o ta)(c:Cls X.K C)(hm:Meth X.K C m f)(F:FnOk X.prog X.w X.K X.mg X.base CX k f fd ps sp)(hr:Room k X.A)(hb:Binds X.K fd ps ds)(hd:Vals dvs ds)(hx:Passes CX X E)(ha:PA X (e::es) t)
  (hst:starEach (e::es) X.env=(false,eval e X.env)::starEach es X.env:=by rfl)(hpl:(backTo pos (starEach es X.env)).any (·.1)=false:=by rfl)
  (ht:eval (.Call (.Attribute o m apos) (e::es) [] pos) X.env=(do
   let ov <-eval o X.env
   standAt apos.atName
   let(f,first) <-holding [ov] (getMethod ov m pl)
   callWith pos f first (backTo pos (starEach (e::es) X.env)) (backToKw pos (keywordEach [] X.env))):=by rfl):
  PE X (.Call (.Attribute o m apos) (e::es) [] pos) (tMeth C m sp dvs E ta t):=by
 intro pins s σ H Q I h;refine PySem.W.methodCall_KW (pl:=pl) (thn (he pins s σ H _ I h) fun u s1 ⟨x,H1,I1,rx,a,dx,fs,ex,ea,l,q⟩=> ?_) ht;subst ex;obtain rfl:u=Value.ref a:=rx;refine YH I1 ea c hm l ?_;refine PySem.W.callWith_K (first:=[.ref a]) (h₀:=X.base) I.ok.mod.kin hm.kp (thn (ha pos pins s1 σ H1 _ I1 q) fun us s2 ⟨vs,H2,I2,r,q2⟩=>⟨I2.kIn,?_⟩) hst hpl;exact run_fn (us:=.ref a::us) (vs:=.ref a::vs) F hr hb hd hx I2 (.cons rfl r) q2
theorem pe_meth0{pl:Sem Bool}(he:PE X o ta)(c:Cls X.K C)(hm:Meth X.K C m f)(F:FnOk X.prog X.w X.K X.mg X.base CX k f fd ps sp)(hr:Room k X.A)(hb:Binds X.K fd ps ds)(hd:Vals dvs ds)(hx:Passes CX X E)
  (ht:eval (.Call (.Attribute o m apos) [] [] pos) X.env=(do
   let ov <-eval o X.env
   standAt apos.atName
   let(f,first) <-holding [ov] (getMethod ov m pl)
   callWith pos f first (backTo pos (starEach [] X.env)) (backToKw pos (keywordEach [] X.env))):=by rfl):
  PE X (.Call (.Attribute o m apos) [] [] pos) (tMeth C m sp dvs E ta tNil):=by
 intro pins s σ H Q I h;refine PySem.W.methodCall_KW (pl:=pl) (thn (he pins s σ H _ I h) fun u s1 ⟨x,H1,I1,rx,a,dx,fs,ex,ea,l,q⟩=> ?_) ht;subst ex;obtain rfl:u=Value.ref a:=rx;refine YH I1 ea c hm l ?_;exact PySem.W.callWith_K0 (first:=[.ref a]) I1.kIn hm.kp (run_fn (us:=[.ref a]) (vs:=[.ref a]) F hr hb hd hx I1 (.cons rfl .nil) q)
structure Mk(K:PySem.W.Frag)(C f:Addr):Prop where
 makes:PySem.W.makesIn K C=true
 init:PySem.W.findIn K (.ref C) "__init__"=some (some (.ref f))
 fn:PySem.W.isFn K (.ref f)=true
 kp:PySem.W.keepIn K (.ref C)=true
theorem run_make{pins:List (Addr×Obj)}{σ:St}{H:Hp}{s:Shared}{Q:VK}{us:List Value}{vs:List V}(M:Mk X.K C f)(F:FnOk X.prog X.w X.K X.mg X.base CX k f fd ps sp)(hr:Room (k+1) X.A)(hb:Binds X.K fd ps ds)(hd:Vals dvs ds)
  (hx:Passes CX X E)(I:Inv X pins σ H s)(r:Vals vs us)
  (h: ∀x dx,H x=none->H dx=none->dx≠x->sp (.ref x::(vs++dvs)) (upd (upd H dx (.own x)) x (.ins C dx [])) (fun v H2=>v=.non/\Q (.ref x) H2) E):
  wpAny (model X.prog X.w) X.A (call (.ref C) us) (EP X pins σ Q) X.xe s:=by
 have hq:=h (s.heap.objs.size+1) s.heap.objs.size (I.hok.fresh (Nat.le_succ _)) (I.hok.fresh (Nat.le_refl _)) (Nat.ne_of_lt (Nat.lt_succ_self _));have I2:=Inv.made (C:=C) I;have r2:Vals (V.ref (s.heap.objs.size+1)::(vs++dvs)) (Value.ref (s.heap.objs.size+1)::(us++ds)):=.cons rfl (r.append hd);have hl:(Value.ref (s.heap.objs.size+1)::us++ds).length=ps.length:=by
  have e:=r2.length;rw[F.len _ _ _ _ hq] at e;exact e.symm
 refine wpAny_call (make_map (f:=f) I.kIn M.makes M.init (beq_iff_eq.mp M.fn) (codeAny_mono (F.run _ X.stack _ _ ⟨Value.ref (s.heap.objs.size+1)::us,[]⟩ (Value.ref (s.heap.objs.size+1)::(us++ds)) _ _ E (hr.make C us [])
  (I2.env0.make C us []) (hb _ (Value.ref (s.heap.objs.size+1)::us) I2.kIn hl) r2 hq) fun r s' hq'=> ?_))
 cases r with
 |error e=>exact hx pins σ _ _ e s' I2 hq'
 |ok fl=>
  cases fl with
  |ret u=>
   obtain⟨v,H',I3,rv,ev,q3⟩:=I2.after hq';subst ev;exact⟨rv,⟨V.ref (s.heap.objs.size+1),H',I3,rfl,q3⟩⟩
  |next=>exact False.elim hq'
  |brk=>exact False.elim hq'
  |cont=>exact False.elim hq'
theorem pe_make0(M:Mk X.K C f)(F:FnOk X.prog X.w X.K X.mg X.base CX k f fd ps sp)(hr:Room (k+1) X.A)(hg:Gl X x)(hm:X.mg x=some (.ref C))(hb:Binds X.K fd ps ds)(hd:Vals dvs ds)(hx:Passes CX X E)
  (hdb:(x==("__debug__":Str))=false:=by decide):PE X (.Call (.Name x p) [] [] pos) (tMake C sp dvs E tNil):=by
 intro pins s σ H Q I h;refine wpAny_Call_Name_kw (jn I hg hm ?_ hdb);exact PySem.W.callWith_K0 I.kIn M.kp (run_make (us:=[]) M F hr hb hd hx I .nil h)
end
def PK(X:Cx)(kws:List Keyword)(t:TA):Prop:=
 ∀(pos:Pos) (pins:List (Addr×Obj)) (s:Shared) (σ:St) (H:Hp) (Q:List V->Hp->Prop),Inv X pins σ H s->t σ H Q->wpAny (model X.prog X.w) X.A (evalAll ((backToKw pos (keywordEach kws X.env)).map (·.2))) (AP X pins σ Q) X.xe s
section
variable {X:Cx}{CX:CXT}{k:Nat}{f C:Addr}{fd:FuncData}{ps ks:List Str}{sp:Sp}{E:XK}{x m:Str}{p pos apos kpos:Pos}{e o:Expr}{es:List Expr}{kws:List Keyword}{te ta:TE}{t tk:TA}{nm:Option Str}
theorem pk_nil:PK X [] tNil:=fun _ _ _ _ H Q I h=>wpAny_evalAll_nil ⟨[],H,I,.nil,h⟩
theorem pk_cons(ha:PE X e te)(hr:PK X kws t):PK X (⟨nm,e,kpos⟩::kws) (tCons te t):=by
 intro pos pins s σ H Q I h;show wpAny _ _ (evalAll ((do let v <-eval e X.env;standAt pos;pure v)::(backToKw pos (keywordEach kws X.env)).map (·.2))) _ _ s;refine wpAny_evalAll_cons (wpAny_bind (thn (ha pins s σ H _ I h) fun u s1 ⟨x,H1,I1,r1,q1⟩=>wpAny_bind (wpAny_standAt (wpAny_pure ?_))));exact thn (hr pos pins s1 σ H1 _ I1 q1) fun us s2 ⟨xs,H2,I2,r2,q2⟩=>⟨x::xs,H2,I2,.cons r1 r2,q2⟩
variable {g:List Value->List Value->List Value}{gV:List V->List V->List V}
end
structure FnScope(N P:List Str)(sc:Scope):Prop where
 kind:sc.kind=.function
 co:sc.isCoroutine=false
 gen:sc.isGenerator=false
 nd:N.Nodup
 pre:N.take P.length=P
 par: ∀x∈P,sc.names.lookup x=some .local∨sc.names.lookup x=some .cell
 nofree: ∀y∈sc.names,y.2≠ .free
theorem vU{kindOf:Str->Option NameKind}{x:Str}: ∀{binds:List (Str×Value)} {m:Str->Option Value},(∀v,(x,v)∉binds)->bindL kindOf binds m x=m x
 |[],_,_=>rfl
 |(n,v)::r,m,h=>by
  unfold bindL;rw[vU fun w hw=>h w (List.mem_cons_of_mem _ hw)];split
  ·have:x≠n:=by rintro rfl;exact h v List.mem_cons_self
   simp[this]
  ·rfl
theorem vW{kindOf:Str->Option NameKind}{x:Str}: ∀{binds:List (Str×Value)} {m:Str->Option Value},(∀v,(x,v)∉binds)->bindC kindOf binds m x=m x
 |[],_,_=>rfl
 |(n,v)::r,m,h=>by
  unfold bindC;rw[vW fun w hw=>h w (List.mem_cons_of_mem _ hw)];split
  ·rfl
  ·have:x≠n:=by rintro rfl;exact h v List.mem_cons_self
   simp[this]
theorem vV{kindOf:Str->Option NameKind}{x:Str}{v:Value}: ∀{P:List Str} {vs:List Value} {i:Nat} {m:Str->Option Value},P.Nodup->P[i]? =some x->vs[i]? =some v->kindOf x=some .local->
  bindL kindOf (P.zip vs) m x=some v
 |[],_,_,_,_,h,_,_=>by simp at h
 |_::_,[],_,_,_,_,h,_=>by simp at h
 |p::P,w::vs,0,m,nd,h1,h2,hk=>by
  simp at h1 h2;subst h1;subst h2;show bindL kindOf ((p,w)::P.zip vs) m p=_;unfold bindL;rw[vU fun v hv=>(List.nodup_cons.mp nd).1 (List.of_mem_zip hv).1,if_pos hk];simp
 |p::P,w::vs,i+1,m,nd,h1,h2,hk=>by
  show bindL kindOf ((p,w)::P.zip vs) m x=_;unfold bindL;exact vV (i:=i) (List.nodup_cons.mp nd).2 (by simpa using h1) (by simpa using h2) hk
theorem bindC_get{kindOf:Str->Option NameKind}{x:Str}{v:Value}: ∀{P:List Str} {vs:List Value} {i:Nat} {m:Str->Option Value},P.Nodup->P[i]? =some x->vs[i]? =some v->kindOf x≠some .local->
  bindC kindOf (P.zip vs) m x=some v
 |[],_,_,_,_,h,_,_=>by simp at h
 |_::_,[],_,_,_,_,h,_=>by simp at h
 |p::P,w::vs,0,m,nd,h1,h2,hk=>by
  simp at h1 h2;subst h1;subst h2;show bindC kindOf ((p,w)::P.zip vs) m p=_;unfold bindC;rw[vW fun v hv=>(List.nodup_cons.mp nd).1 (List.of_mem_zip hv).1,if_neg hk];simp
 |p::P,w::vs,i+1,m,nd,h1,h2,hk=>by
  show bindC kindOf ((p,w)::P.zip vs) m x=_;unfold bindC;exact bindC_get (i:=i) (List.nodup_cons.mp nd).2 (by simpa using h1) (by simpa using h2) hk
def start(N:List Str)(vs:List V):St:=vs.map some++List.replicate (N.length - vs.length) none
def cxOf(CX:CXT)(P:Program)(w:World)(K:PySem.W.Frag)(mg:Str->Option Value)(base:Heap)(N:List Str)(qual:Str)(scope:Scope)(f:Addr)(cd:Value)(A:Around)(outer:List Env)(s:Shared)(H:Hp)(E:XK):Cx where
 prog:=P
 w:=w
 K:=K
 mg:=mg
 base:=base
 A:=A.deeper (envOfC qual scope s.heap.objs.size f cd)
 N:=N
 s_0:=s
 H_0:=H
 env:=envOfC qual scope s.heap.objs.size f cd
 outer:=outer
 stack:=envOfC qual scope s.heap.objs.size f cd::outer
 ex:=[]
 calm:=true
 fn:=fun _=>true
 pn:=[]
 xe:=fun e s'=>wpAny (model P w) (A.deeper (envOfC qual scope s.heap.objs.size f cd)) (leaving (envOfC qual scope s.heap.objs.size f cd) e) (fun _ s''=>CX outer H s E e s'') (fun e' s''=>CX outer H s E e' s'') s'
theorem cell_has{sc:Scope}{n:Nat}{x:Str}(h:sc.names.lookup x=some .cell): ∃c,(cellsFrom n sc.names []).lookup x=some c:=by
 have q:=PySem.W.cellsFrom_some sc.names n [] (.inl h);exact Option.isSome_iff_exists.mp q
theorem inv_start{CX:CXT}{P:Program}{w:World}{K:PySem.W.Frag}{mg:Str->Option Value}{base:Heap}{N ps:List Str}{qual:Str}{scope:Scope}{f:Addr}{cd:Value}{A:Around}{outer:List Env}{s s1:Shared}{H:Hp}{E:XK}{us:List Value}{vs:List V}
  (S:FnScope N ps scope)(hd:A.handled=none)(e0:Env0 P w K mg base A outer s H)(hl:vs.length=ps.length)(r:Vals vs us)
  (x:InCallC s s.heap.objs.size (bindL (envOfC qual scope s.heap.objs.size f cd).kindOf (ps.zip us) fun _=>none) (cellsFrom (s.heap.objs.size+1) scope.names []) (bindC (envOfC qual scope s.heap.objs.size f cd).kindOf (ps.zip us) fun _=>none) s1):
  Inv (cxOf CX P w K mg base N qual scope f cd A outer s H E) [] (start N vs) H s1:=by
 have hpl:ps.length<=N.length:=by have:=congrArg List.length S.pre;rw[List.length_take] at this;omega
 obtain⟨h1,tk,rfl,hk⟩:=x.done;have noA: ∀b:Addr,b∉(cxOf CX P w K mg base N qual scope f cd A outer s H E).ex:=fun b z=>absurd (show b∈([]:List Addr) from z) (by simp);refine⟨⟨e0.mod,S.kind,rfl,rfl,Nat.le_refl _,fun y z c h1 h2=> ?_,fun y hy=> ?_,fun y c _ h=> ?_,fun _=>hd,Around.frames_deeper e0.frames,.inr ⟨rfl,rfl⟩,fun b z=>absurd z (noA b),e0.bs,e0.bsz,fun b _ _=>noA b,fun b z=>absurd z (noA b),e0.funs,e0.frf⟩,
  rfl,e0.bare,Un.kept hk,⟨_,x.toInCall.ns,fun i y v h1 h2 h3=> ?_⟩,fun y c h=>⟨_,x.cell y c h⟩,e0.hok.fresh (Nat.le_refl _),fun y c h=> ?_,fun p hp=>absurd (show p∈([]:List (Addr×Obj)) from hp) (by simp),e0.hok.kept hk,?_⟩
 ·exact name_of_addr x.apart (PySem.mem_of_lookup h1) (PySem.mem_of_lookup h2)
 ·have hy:scope.names.lookup y=some .cell∨scope.names.lookup y=some .free:=hy;rcases hy with hy|hy
  ·exact cell_has hy
  ·exact absurd rfl (S.nofree _ (PySem.mem_of_lookup hy))
 ·exact Nat.le_of_lt (x.above y c (PySem.mem_of_lookup h))
 ·have hi:i<vs.length:=by
   unfold start at h2;by_cases hi:i<vs.length
   ·exact hi
   ·rw[List.getElem?_append_right (by simpa using hi)] at h2;rw[List.getElem?_replicate] at h2;split at h2<;>cases h2
  have ha:vs[i]? =some v:=by
   unfold start at h2;rw[List.getElem?_append_left (by simpa using hi),List.getElem?_map] at h2;cases e:vs[i]? with
   |none=>rw[e] at h2;cases h2
   |some a=>rw[e] at h2;cases h2;rfl
  obtain⟨u,hu,rv⟩:=r.get ha;have hp:ps[i]? =some y:=by
   rw[<-S.pre,List.getElem?_take_of_lt (by omega)];exact h1
  have ndP:ps.Nodup:=by rw[<-S.pre];exact S.nd.sublist (List.take_sublist _ _)
  refine⟨u,rv,?_⟩;rcases S.par y (List.mem_of_getElem? hp) with k|k
  ·exact .inl ⟨k,vV ndP hp hu k⟩
  ·obtain⟨c,e⟩:=cell_has (n:=s.heap.objs.size+1) k;refine .inr ⟨.inl k,c,e,?_⟩;have q:=x.cell y c e;rw[bindC_get ndP hp hu (by show scope.names.lookup y≠_;rw[k];decide)] at q;exact q
 ·exact e0.hok.fresh (Nat.le_of_lt (x.above y c (PySem.mem_of_lookup h)))
 ·unfold start;show _=N.length;rw[List.length_append,List.length_map,List.length_replicate];omega
theorem fn_of{CX:CXT}{P:Program}{w:World}{K:PySem.W.Frag}{mg:Str->Option Value}{base:Heap}{k:Nat}{f:Addr}{name qual:Str}{params:Arguments}{body:List Stmt}{scope:Scope}{dV kV doc pm cdv ct oc:Value}{an od:Option Addr}
  {osl:Array (Option Value)}{N ps:List Str}{sp:Sp}(lk:K.lookup f=some ⟨oc,od,.func (PySem.W.fnOf name qual params body scope dV kV doc pm an cdv ct),osl⟩)(hcd:PySem.W.codeIn K cdv qual=true)(S:FnScope N ps scope)
  (len: ∀vs H Q E,sp vs H Q E->vs.length=ps.length)
  (hbody: ∀(A:Around) (outer:List Env) (s:Shared) (H:Hp) (vs:List V) (Q:VK) (E:XK),Room k (A.deeper (envOfC qual scope s.heap.objs.size f cdv))->sp vs H Q E->
   ∃t,PSs (cxOf CX P w K mg base N qual scope f cdv A outer s H E) body t/\t {nx:=fun _ H'=>Q .non H',rt:=Q} (start N vs) H):
  FnOk P w K mg base CX (k+1) f (PySem.W.fnOf name qual params body scope dV kV doc pm an cdv ct) ps sp:=by
 refine⟨len,fun A outer s H args us vs Q E hr e0 hb r hsp=> ?_⟩;have hl:=len _ _ _ _ hsp;have KX:K.In s.heap:=e0.mod.kin.keeps fun b o e=>(e0.bs b o e).1;have lim:s.heap.NoLimit:=e0.mod.nolimit.keeps fun b o e=>(e0.bs b o e).1;have hkind: ∀y∈ps.zip us,scope.names.lookup y.1=some .local∨(scope.names.lookup y.1=some .cell/\((cellsFrom (s.heap.objs.size+1) scope.names []).lookup y.1).isSome=true):=fun⟨n,v⟩ hy=>by
  rcases S.par n (List.of_mem_zip hy).1 with q|q
  ·exact .inl q
  ·exact .inr ⟨q,PySem.W.cellsFrom_some _ _ _ (.inl q)⟩
 refine codeAny_call_function hr.depth (KX _ _ lk) rfl S.co S.gen rfl (PySem.W.codeRec_of KX hcd) (hb _ _ _ _ ?_);refine wpAny_newFunctionEnv_cells S.kind hkind fun env he s1 x=> ?_;subst he;refine⟨lim.keeps x.toInCall.keep,codeAny_func ?_⟩;obtain⟨t,ht,hq⟩:=hbody A outer s H vs Q E (hr.deeper _) hsp;have I:Inv (cxOf CX P w K mg base N qual scope f cdv A outer s H E) [] (start N vs) H s1:=inv_start S hr.hd e0 hl r x;refine wpAny_mono (ht [] s1 (start N vs) H _ I hq) (fun fl s' hs=> ?_) fun e s' hs=>hs;have fin: ∀{σ':St} {H':Hp} {v:V} {u:Value},Inv (cxOf CX P w K mg base N qual scope f cdv A outer s H E) [] σ' H' s'->RelV v u->Q v H'->CE outer P w H s Q u s':=
  fun{σ' H' v u} J rv q=>⟨v,H',J.os,J.bare,J.base,J.hok,rv,q⟩
 cases fl with
 |ret u=>
  obtain⟨v,σ',H',J,rv,q⟩:=hs;exact fin J rv q
 |next=>
  obtain⟨σ',H',J,q⟩:=hs;exact fin (v:=V.non) (u:=Value.none) J rfl q
 |brk=>
  obtain⟨_,_,_,q⟩:=hs;exact False.elim q
 |cont=>
  obtain⟨_,_,_,q⟩:=hs;exact False.elim q
section
variable {X:Cx}{x:Str}{p pos:Pos}{e:Expr}{es:List Expr}{t:TA}{id T:String}{r:List V->Hp->VK->Prop}
def tCB(r:List V->Hp->VK->Prop)(t:TA):TE:=fun σ H Q=>t σ H fun vs H1=>r vs H1 Q
theorem zX(hc:CallR X (.builtin id) r)(hg:Gl X x)(hm:X.mg x=none)(hv:bootBuiltins x=some (.builtin id))(ha:PA X (e::es) t)(hn:x≠"__name__":=by decide)(hdb:(x==("__debug__":Str))=false:=by decide)
  (he:starEach (e::es) X.env=(false,eval e X.env)::starEach es X.env:=by rfl)(hpl:(backTo pos (starEach es X.env)).any (·.1)=false:=by rfl):PE X (.Call (.Name x p) (e::es) [] pos) (tCB r t):=by
 intro pins s σ H Q I h;refine wpAny_Call_Name_kw (Zn I hg hm hv ?_ hn hdb);exact PyProof.Rows.callWith_builtin1 (thn (ha pos pins s σ H _ I h) fun us s1 ⟨vs,H1,I1,r1,q1⟩=>hc pins s1 σ H1 vs us Q I1 r1 q1) he hpl
theorem yq(hc:CallR X (.type T) r)(hg:Gl X x)(hm:X.mg x=none)(hv:bootBuiltins x=some (.type T))(ha:PA X (e::es) t)(hn:x≠"__name__":=by decide)(hdb:(x==("__debug__":Str))=false:=by decide)
  (he:starEach (e::es) X.env=(false,eval e X.env)::starEach es X.env:=by rfl)(hpl:(backTo pos (starEach es X.env)).any (·.1)=false:=by rfl):PE X (.Call (.Name x p) (e::es) [] pos) (tCB r t):=by
 intro pins s σ H Q I h;refine wpAny_Call_Name_kw (Zn I hg hm hv ?_ hn hdb);exact PyProof.Rows.callWith_type1 (thn (ha pos pins s σ H _ I h) fun us s1 ⟨vs,H1,I1,r1,q1⟩=>hc pins s1 σ H1 vs us Q I1 r1 q1) he hpl
end
end L2
namespace HT
open PySem PyProof.Rows
section
open PySem.SeqAt
open PySem.AutoSeq1 (wpAny_loadPart')
open PySem.MeetsSeq PySem.MeetsSeq2 PySem.MeetsSeq3
end
section
variable {prog:Program}{w:World}{A:Around}{E:Value->Shared->Prop}{s:Shared}
def sIx(n d:Nat):Option Int->Nat
 |none=>d
 |some v=>if v<0 then(v+(n:Int)).toNat else min v.toNat n
theorem JD(n d:Nat):sIx n d none=d:=rfl
theorem YW(n d k:Nat):sIx n d (some (k:Int))=min k n:=by
 show(if(k:Int)<0 then((k:Int)+(n:Int)).toNat else min (k:Int).toNat n)=min k n;rw[if_neg (by omega),Int.toNat_natCast]
end
end HT
namespace L2
open PySem PySem.Spec PyProof.Rows
abbrev TO:=St->Hp->(Option Int->Hp->Prop)->Prop
def PO(X:Cx)(e:Option Expr)(t:TO):Prop:=
 ∀(pins:List (Addr×Obj)) (s:Shared) (σ:St) (H:Hp) (Q:Option Int->Hp->Prop),Inv X pins σ H s->t σ H Q->
  wpAny (model X.prog X.w) X.A (evalPart e X.env) (fun u s'=>∃o H',Inv X pins σ H' s'/\IsPart u o/\Q o H') X.xe s
def tNoPart:TO:=fun _ H Q=>Q none H
def tPart(t:TE):TO:=fun σ H Q=>t σ H fun x H1=>∃i,x=.int i/\Q (some i) H1
section
variable {X:Cx}{e:Expr}{te:TE}{lo hi:Option Expr}{tl th:TO}{pos p2:Pos}
theorem yL:PO X none tNoPart:=by
 intro pins s σ H Q I h;rw[evalPart_none];exact wpAny_pure ⟨none,H,I,.none,h⟩
theorem ZZ(h:PE X e te):PO X (some e) (tPart te):=by
 intro pins s σ H Q I hw;rw[evalPart_some];refine thn (h pins s σ H _ I hw) fun u s1 ⟨x,H1,I1,r1,q1⟩=> ?_;obtain⟨i,rfl,q⟩:=q1;obtain⟨t,rfl⟩:=r1;exact⟨some i,H1,I1,.int i t,q⟩
def SlR(X:Cx)(r:V->Option Int->Option Int->Hp->VK->Prop):Prop:=
 ∀(pins:List (Addr×Obj)) (s:Shared) (σ:St) (H:Hp) (x:V) (v vl vu:Value) (lo hi:Option Int) (sl:Addr) (Q:VK),Inv X pins σ H s->RelV x v->s.heap.IsSliceOf sl vl vu .none->IsPart vl lo->IsPart vu hi->r x lo hi H Q->
  ∃T id,typeLookup (.type T) "__getitem__"=pure (some (.builtin id))/\s.TypeIs v T/\wpAny (model X.prog X.w) X.A (getItem v (.ref sl)) (EP X pins σ Q) X.xe s
def tSl(r:V->Option Int->Option Int->Hp->VK->Prop)(te:TE)(tl th:TO):TE:=fun σ H Q=>te σ H fun x H1=>tl σ H1 fun l H2=>th σ H2 fun u H3=>r x l u H3 Q
theorem Zc{r:V->Option Int->Option Int->Hp->VK->Prop}(hr:SlR X r)(he:PE X e te)(hl:PO X lo tl)(hu:PO X hi th):PE X (.Subscript e (.Slice lo hi none p2) pos) (tSl r te tl th):=by
 intro pins s σ H Q I h;refine Subscript_ (thn (he pins s σ H _ I h) fun v s1 ⟨x,H1,I1,r1,q1⟩=> ?_);refine wpAny_Slice (thn (hl pins s1 σ H1 _ I1 q1) fun vl s2 ⟨l,H2,I2,pl,q2⟩=>thn (hu pins s2 σ H2 _ I2 q2) fun vu s3 ⟨u,H3,I3,pu,q3⟩=> ?_);rw[evalPart_none];refine wpAny_pure ?_;have I4:Inv X pins σ H3 {s3 with heap:=s3.heap.push {cls:=.type "slice",data:=.fields #[vl,vu,.none]}}:=I3.kept (t':=s3.toks) fun b ob q=>Heap.get?_push_of_some _ q;obtain⟨T,id,hT,ht,hg⟩:=hr pins {s3 with heap:=s3.heap.push {cls:=.type "slice",data:=.fields #[vl,vu,.none]}} σ H3 x v vl vu l u s3.heap.objs.size Q I4 r1 (Heap.IsSliceOf.new ..) pl pu q3;show wpAny (model X.prog X.w) X.A (subscriptTail e (.Slice lo hi none p2) v (.ref s3.heap.objs.size)) (EP X pins σ Q) X.xe {s3 with heap:=s3.heap.push {cls:=.type "slice",data:=.fields #[vl,vu,.none]}};exact tail_any (ops:=[.ref s3.heap.objs.size,v]) ht hT hg (by with_unfolding_all rfl)
def cutV(xs:List V)(lo hi:Option Int):List V:=(xs.drop (HT.sIx xs.length 0 lo)).take (HT.sIx xs.length xs.length hi - HT.sIx xs.length 0 lo)
theorem cutV_length(xs:List V)(lo hi:Option Int):(cutV xs lo hi).length<=xs.length:=by
 unfold cutV;rw[List.length_take,List.length_drop];omega
end
def ixN(n:Nat)(i:Int):Option Nat:=if 0<=i then(if i<n then some i.toNat else none) else if -(n:Int)<=i then some (i+n).toNat else none
def atI{α:Type}(xs:List α)(i:Int):Option α:=(ixN xs.length i).bind fun j=>xs[j]?
theorem ixN_seq{n:Nat}{i:Int}{j:Nat}(h:ixN n i=some j):seqIndex? i n=some j/\j<n/\ -(n:Int)<=i/\i<n:=by
 unfold ixN at h;by_cases h0:0<=i
 ·rw[if_pos h0] at h;by_cases h1:i<n
  ·rw[if_pos h1] at h;have e:i.toNat=j:=Option.some.inj h;exact⟨by rw[seqIndex_of h0 h1,e],by omega,by omega,h1⟩
  ·rw[if_neg h1] at h;cases h
 ·rw[if_neg h0] at h;by_cases h1: -(n:Int)<=i
  ·rw[if_pos h1] at h;have e:(i+n).toNat=j:=Option.some.inj h;exact⟨by rw[seqIndex_neg (by omega) h1,e],by omega,h1,by omega⟩
  ·rw[if_neg h1] at h;cases h
theorem atI_get{α:Type}{xs:List α}{i:Int}{v:α}(h:atI xs i=some v): ∃j,seqIndex? i xs.length=some j/\xs[j]? =some v/\j<xs.length/\ -(xs.length:Int)<=i/\i<xs.length:=by
 unfold atI at h;cases e:ixN xs.length i with
 |none=>rw[e] at h;cases h
 |some j=>
  rw[e] at h;obtain⟨h1,h2,h3,h4⟩:=ixN_seq e;exact⟨j,h1,h,h2,h3,h4⟩
theorem Zf{α:Type}{xs:List α}{j:Nat}{v:α}(h:xs[j]? =some v):atI xs (j:Int)=some v:=by
 have hj:j<xs.length:=(List.getElem?_eq_some_iff.mp h).1;have e:ixN xs.length (j:Int)=some j:=by
  unfold ixN;rw[if_pos (by omega),if_pos (by omega)];simp
 unfold atI;rw[e];exact h
theorem Yp{α:Type}(xs:List α)(v:α):atI (xs++[v]) (-1)=some v:=by
 have hl:(xs++[v]).length=xs.length+1:=by simp
 have e:ixN (xs++[v]).length (-1)=some xs.length:=by
  unfold ixN;rw[hl,if_neg (by decide),if_pos (by omega)]
  congr 1
  omega
 unfold atI;rw[e];show(xs++[v])[xs.length]? =some v;simp
def PlainIx(b:Expr):Prop:=∀o i,subscripted b false o i=operate [o,i] (getItem o i)
def IxR(X:Cx)(r:R2):Prop:=
 ∀(value slice:Expr) (pins:List (Addr×Obj)) (s:Shared) (σ:St) (H:Hp) (x y:V) (v u:Value) (Q:VK),Inv X pins σ H s->RelV x v->RelV y u->r x y H Q->
  subscripted slice false v u=operate [v,u] (getItem v u)->wpAny (model X.prog X.w) X.A (subscriptTail value slice v u) (EP X pins σ Q) X.xe s
def MtR(X:Cx)(id:String)(r:V->List V->Hp->VK->Prop):Prop:=
 ∀(pins:List (Addr×Obj)) (s:Shared) (σ:St) (H:Hp) (x:V) (xs:List V) (v:Value) (us:List Value) (Q:VK),Inv X pins σ H s->RelV x v->Vals xs us->r x xs H Q->
  wpAny (model X.prog X.w) X.A (call (.builtin id) (v::us)) (EP X pins σ Q) X.xe s
section
variable {X:Cx}{a b:Expr}{ta tb:TE}{pos:Pos}
theorem pe_ix{r:R2}(hr:IxR X r)(ha:PE X a ta)(hb:PE X b tb)(hs:PlainIx b):PE X (.Subscript a b pos) (tOp r ta tb):=by
 intro pins s σ H Q I h;exact Subscript_ (binT ha hb I h fun v u s2 x y H2 I2 rx ry q=>hr a b pins s2 σ H2 x y v u Q I2 rx ry q (hs _ _))
def rIxL(K:PySem.W.Frag):R2:=fun x y H Q=>∃p xs i v,x=.ref p/\y=.int i/\SqL K H p xs/\atI xs i=some v/\Q v H
def rIxT(K:PySem.W.Frag):R2:=fun x y H Q=>∃p xs i v,x=.ref p/\y=.int i/\SqT K H p xs/\atI xs i=some v/\Q v H
theorem ix_list:IxR X (rIxL X.K):=by
 intro value slice pins s σ H x y v u Q I rx ry h hs;obtain⟨p,xs,i,z,rfl,rfl,hq,he,q⟩:=h;cases rx;obtain⟨t,rfl⟩:=ry;obtain⟨its,r,pl,hz⟩:=I.list hq;obtain⟨j,h1,h2,h3,h4,h5⟩:=atI_get he;obtain⟨w,ew,rw'⟩:=r.get h2;have hl:=r.length;have hn:=line63;have fin:EP X pins σ Q w s:=⟨z,H,I,rw',q⟩;by_cases h0:0<=i
 ·have hj:i.toNat=j:=by
   rw[seqIndex_of h0 h5] at h1;exact Option.some.inj h1
  exact item_listR pl.isList h0 (by omega) (by rw[hj];simpa using ew) fin hs
 ·have hj:(i+(its.toArray.size:Int)).toNat=j:=by
   rw[seqIndex_neg (by omega) h4] at h1;rw[List.size_toArray,<-hl];exact Option.some.inj h1
  exact subscriptTail_builtinR (x:=w) pl.isList.typeIs slot_list_getitem.lookup
   (wpAny_getItem_list_neg (Q:=fun r s'=>r=w/\EP X pins σ Q r s') pl.isList (by omega) (by rw[List.size_toArray]<;>omega) (by omega) (by rw[hj];simpa using ew) ⟨rfl,fin⟩) hs
theorem ix_tup:IxR X (rIxT X.K):=by
 intro value slice pins s σ H x y v u Q I rx ry h hs;obtain⟨p,xs,i,z,rfl,rfl,hq,he,q⟩:=h;cases rx;obtain⟨t,rfl⟩:=ry;obtain⟨its,r,pl,hz⟩:=I.tuple hq;obtain⟨j,h1,h2,h3,h4,h5⟩:=atI_get he;obtain⟨w,ew,rw'⟩:=r.get h2;have hl:=r.length;have hn:=line63;have fin:EP X pins σ Q w s:=⟨z,H,I,rw',q⟩;exact subscriptTail_builtinR (x:=w) pl.typeIs slot_tuple_getitem.lookup
  (getItem_tuple (j:=j) (Q:=fun r s'=>r=w/\EP X pins σ Q r s') pl (by omega) (by omega) (by rw[List.size_toArray,<-hl];exact h1) (by simpa using ew) ⟨rfl,fin⟩) hs
theorem mapSeq_set(its:List Value)(n j:Nat)(u:Value):Obj.mapSeq (·.setIfInBounds j u) {cls:=.type "list",data:=.seq its.toArray n}={cls:=.type "list",data:=.seq (its.set j u).toArray n}:=by
 simp[Obj.mapSeq]
theorem Inv.lst{pins:List (Addr×Obj)}{σ:St}{H:Hp}{s:Shared}{p:Addr}{xs:List V}(I:Inv X pins σ H s)(h:H p=some (.lst xs)):
  ∃(its:List Value) (n:Nat),Vals xs its/\s.heap.get? p=some {cls:=.type "list",data:=.seq its.toArray n}/\xs.length<=sizeLine:=by
 obtain⟨z,its,n,r,e⟩:=I.hok p _ h;exact⟨its,n,r,e,z⟩
theorem Inv.lstUpd{pins:List (Addr×Obj)}{σ:St}{H:Hp}{s:Shared}{p:Addr}{xs ys:List V}{its its':List Value}{n n':Nat}{f:Obj->Obj}(I:Inv X pins σ H s)(h:H p=some (.lst xs))
  (ho:s.heap.get? p=some {cls:=.type "list",data:=.seq its.toArray n})(hf:f {cls:=.type "list",data:=.seq its.toArray n}={cls:=.type "list",data:=.seq its'.toArray n'})(r:Vals ys its')(hz:ys.length<=sizeLine)(t:Nat):
  Inv X pins σ (upd H p (.lst ys)) {s with heap:=s.heap.update p f,toks:=t}:=by
 have e:(s.heap.update p f).get? p=some {cls:=.type "list",data:=.seq its'.toArray n'}:=by
  rw[Heap.get?_update_self f ho (by rw[hf]<;>rfl),hf]
 refine I.write (x:=p) (e:=p) (by rw[h];trivial) (.inl rfl) (fun b u hb q=>(Heap.get?_update_other _ _ (Ne.symm hb)).trans q) ⟨_,e⟩ ?_;exact⟨hz,its',n',r,e⟩
def rSetL:V->V->V->Hp->(Hp->Prop)->Prop:=fun o i v H Q=>∃p xs k j,o=.ref p/\i=.int k/\H p=some (.lst xs)/\ixN xs.length k=some j/\Q (upd H p (.lst (xs.set j v)))
theorem set_list:PSet X rSetL:=by
 intro pins s σ H o i v ov iv u Q I ro ri rv h;obtain⟨p,xs,k,j,rfl,rfl,hp,hj,q⟩:=h;cases ro;obtain⟨t,rfl⟩:=ri;obtain⟨its,n,r,ho,hz⟩:=I.lst hp;obtain⟨h1,h2,h3,h4⟩:=ixN_seq hj;have hl:=r.length;have hn:=line63;have I':Inv X pins σ (upd H p (.lst (xs.set j v))) {s with heap:=s.heap.update p (Obj.mapSeq (·.setIfInBounds j u))}:=
  I.lstUpd hp ho (mapSeq_set its n j u) (r.set rv j) (by rw[List.length_set];exact hz) s.toks
 by_cases h0:0<=k
 ·have hk:k.toNat=j:=by
   rw[seqIndex_of h0 h4] at h1;exact Option.some.inj h1
  exact PySem.W.ki_setAt ho h0 (by omega) (by rw[List.size_toArray,<-hl];exact h4) (by rw[hk];exact⟨_,I',q⟩)
 ·have hk:(k+(its.toArray.size:Int)).toNat=j:=by
   rw[seqIndex_neg (by omega) h3] at h1;rw[List.size_toArray,<-hl];exact Option.some.inj h1
  exact PySem.W.ki_setBack ho (by omega) (by rw[List.size_toArray,<-hl];exact h3) (by omega) (by rw[hk];exact⟨_,I',q⟩)
theorem slice_bounds(lo hi:Option Int)(n:Nat):(sliceBounds lo hi none n).1=((HT.sIx n 0 lo:Nat):Int)/\(sliceBounds lo hi none n).2.1=((HT.sIx n n hi:Nat):Int)/\(sliceBounds lo hi none n).2.2=1:=by
 refine⟨?_,?_,rfl⟩
 ·cases lo with
  |none=>simp[sliceBounds,HT.sIx]
  |some i=>
   simp only[sliceBounds,HT.sIx,Option.getD_none,show(1:Int)>0 by decide,if_true];by_cases h:i<0
   ·simp only[h,if_true]<;>omega
   ·simp only[h,if_false]<;>omega
 ·cases hi with
  |none=>simp[sliceBounds,HT.sIx]
  |some i=>
   simp only[sliceBounds,HT.sIx,Option.getD_none,show(1:Int)>0 by decide,if_true];by_cases h:i<0
   ·simp only[h,if_true]<;>omega
   ·simp only[h,if_false]<;>omega
theorem slicePick_cut(its:List Value)(lo hi:Option Int):slicePick its.toArray lo hi none=((its.drop (HT.sIx its.length 0 lo)).take (HT.sIx its.length its.length hi - HT.sIx its.length 0 lo)).toArray:=by
 obtain⟨h1,h2,h3⟩:=slice_bounds lo hi its.toArray.size;unfold slicePick;rw[h1,h2,h3];simp only[sliceRange_one,pick_run,List.size_toArray]<;>rfl
def rSlL(K:PySem.W.Frag):V->Option Int->Option Int->Hp->VK->Prop:=fun x lo hi H Q=>∃a xs,x=.ref a/\SqL K H a xs/\∀p,H p=none->Q (.ref p) (upd H p (.lst (cutV xs lo hi)))
theorem Zi:SlR X (rSlL X.K):=by
 intro pins s σ H x v vl vu lo hi sl Q I rx hs pl pu h;obtain⟨a,xs,rfl,hx,q⟩:=h;cases rx;obtain⟨its,r,ht,hz⟩:=I.list hx;have hlen:=r.length;refine⟨"list",_,slot_list_getitem.lookup,ht.isList.typeIs,?_⟩;refine wpAny_getItem_list_slice ht.isList hs pl pu .none (by simp) ?_ (by rw[List.size_toArray]<;>omega);rw[slicePick_cut,<-hlen];refine⟨.ref s.heap.objs.size,_,I.laid (t':=s.toks) (o:=.lst (cutV xs lo hi)) (fun b ob q=>Heap.get?_push_of_some _ q) (Nat.le_refl _) ?_,rfl,q _ (I.hok.fresh (Nat.le_refl _))⟩;exact⟨Nat.le_trans (cutV_length xs lo hi) hz,_,0,(r.drop (HT.sIx xs.length 0 lo)).take (HT.sIx xs.length xs.length hi - HT.sIx xs.length 0 lo),Heap.get?_push_size _ rfl⟩
def flatV:V->Bool
 |.non=>true
 |.bl _=>true
 |.int _=>true
 |.str _=>true
 |_=>false
def eqV:V->V->Bool
 |.non,.non=>true
 |.bl a,.bl b=>a==b
 |.bl a,.int b=>(if a then 1 else 0)==b
 |.int a,.bl b=>a==(if b then 1 else 0)
 |.int a,.int b=>a==b
 |.str a,.str b=>a==b
 |_,_=>false
theorem eqAt_V{A:Around}{s:Shared}{y x:V}{u v:Value}(ry:RelV y u)(rx:RelV x v)(fy:flatV y=true)(fx:flatV x=true):SeqAt.EqAt A s u v (eqV y x):=by
 cases y with
 |non=>
  cases ry;cases x with
  |non=>cases rx;exact SeqAt.EqAt.same _
  |bl b=>cases rx;exact SeqAt.EqAt.none_bool b
  |int b=>obtain⟨t,rfl⟩:=rx;exact SeqAt.EqAt.none_int b t
  |str b=>obtain⟨t,rfl⟩:=rx;exact SeqAt.EqAt.none_str b t
  |_=>exact absurd (show false=true from fx) Bool.false_ne_true
 |bl a=>
  cases ry;cases x with
  |non=>cases rx;exact SeqAt.EqAt.bool_none a
  |bl b=>cases rx;exact SeqAt.EqAt.bool_bool a b
  |int b=>obtain⟨t,rfl⟩:=rx;exact SeqAt.EqAt.bool_int a b t
  |str b=>obtain⟨t,rfl⟩:=rx;exact SeqAt.EqAt.bool_str a b t
  |_=>exact absurd (show false=true from fx) Bool.false_ne_true
 |int a=>
  obtain⟨t',rfl⟩:=ry;cases x with
  |non=>cases rx;exact SeqAt.EqAt.int_none a t'
  |bl b=>cases rx;exact SeqAt.EqAt.int_bool a t' b
  |int b=>obtain⟨t,rfl⟩:=rx;exact SeqAt.EqAt.int_int a t' b t
  |str b=>obtain⟨t,rfl⟩:=rx;exact SeqAt.EqAt.int_str a t' b t
  |_=>exact absurd (show false=true from fx) Bool.false_ne_true
 |str a=>
  obtain⟨t',rfl⟩:=ry;cases x with
  |non=>cases rx;exact SeqAt.EqAt.str_none a t'
  |bl b=>cases rx;exact SeqAt.EqAt.str_bool a t' b
  |int b=>obtain⟨t,rfl⟩:=rx;exact SeqAt.EqAt.str_int a t' b t
  |str b=>obtain⟨t,rfl⟩:=rx;exact SeqAt.EqAt.str_str a t' b t
  |_=>exact absurd (show false=true from fx) Bool.false_ne_true
 |_=>exact absurd (show false=true from fy) Bool.false_ne_true
def eqU(x:V)(u:Value):Bool:=match u with
 |.none=>eqV .non x
 |.bool b=>eqV (.bl b) x
 |.int i _=>eqV (.int i) x
 |.str z _=>eqV (.str z) x
 |_=>false
theorem eqU_of{x y:V}{u:Value}(r:RelV y u)(f:flatV y=true):eqU x u=eqV y x:=by
 cases y with
 |non=>cases r;rfl
 |bl b=>cases r;rfl
 |int i=>obtain⟨t,rfl⟩:=r;rfl
 |str z=>obtain⟨t,rfl⟩:=r;rfl
 |_=>exact absurd (show false=true from f) Bool.false_ne_true
theorem any_eqU{x:V}: ∀{xs:List V} {us:List Value},Vals xs us->xs.all flatV=true->us.any (eqU x)=xs.any fun y=>eqV y x
 |_,_,.nil,_=>rfl
 |y::xs,u::us,.cons r t,f=>by
  rw[List.all_cons,Bool.and_eq_true] at f;rw[List.any_cons,List.any_cons,eqU_of r f.1,any_eqU t f.2]
theorem Yc{A:Around}{s:Shared}{x:V}{v:Value}(rx:RelV x v)(fx:flatV x=true): ∀{xs:List V} {us:List Value},Vals xs us->xs.all flatV=true->∀u∈us,SeqAt.EqAt A s u v (eqU x u)
 |_,_,.nil,_=>fun u hu=>by cases hu
 |y::xs,u::us,.cons r t,f=>fun u' hu=>by
  rw[List.all_cons,Bool.and_eq_true] at f;rcases List.mem_cons.mp hu with rfl|hu
  ·rw[eqU_of r f.1];exact eqAt_V r rx f.1 fx
  ·exact Yc rx fx t f.2 u' hu
def inV(x:V)(xs:List V):Bool:=xs.any fun y=>eqV y x
def rIn(K:PySem.W.Frag)(neg:Bool):R2:=fun x y H Q=>∃p xs,y=.ref p/\(SqL K H p xs∨SqT K H p xs)/\flatV x=true/\xs.all flatV=true/\Q (.bl (if neg then !inV x xs else inV x xs)) H
theorem op_in_seq:OpR X (compareOp .In) (rIn X.K false):=by
 intro pins s σ H x y v u Q I rx ry h;obtain⟨p,xs,rfl,hq,fx,fs,q⟩:=h;cases ry;rcases hq with hq|hq
 ·obtain⟨its,r,pl,hz⟩:=I.list hq;refine SeqAt.in_listAt (eqU x) pl.isList (fun w hw=>Yc rx fx r fs w (by simpa using hw)) ⟨.bl _,H,I,rfl,?_⟩;rw[show its.toArray.any (eqU x)=its.any (eqU x) by simp,any_eqU r fs];exact q
 ·obtain⟨its,r,pl,hz⟩:=I.tuple hq;refine SeqAt.in_tupleAt (eqU x) pl (fun w hw=>Yc rx fx r fs w (by simpa using hw)) ⟨.bl _,H,I,rfl,?_⟩;rw[show its.toArray.any (eqU x)=its.any (eqU x) by simp,any_eqU r fs];exact q
theorem zY:CallR X (.builtin "len") (fun xs H Q=>∃p ys,xs=[.ref p]/\(SqL X.K H p ys∨SqT X.K H p ys)/\Q (.int ys.length) H):=by
 intro pins s σ H xs us Q I r h;obtain⟨p,ys,rfl,hq,q⟩:=h;obtain⟨u,rfl,rx⟩:=vals1 r;cases rx;have hn:=line63;rcases hq with hq|hq
 ·obtain⟨its,r',pl,hz⟩:=I.list hq;have hlen:=r'.length;exact Calls.call_len_list pl.isList (by simp only[List.size_toArray]<;>omega) ⟨.int ys.length,H,I.tok _,⟨s.toks+1,by rw[List.size_toArray,hlen]⟩,q⟩
 ·obtain⟨its,r',pl,hz⟩:=I.tuple hq;have hlen:=r'.length;exact len_tuple pl (by simp only[List.size_toArray]<;>omega) ⟨.int ys.length,H,I.tok _,⟨s.toks+1,by rw[List.size_toArray,hlen]⟩,q⟩
theorem call_list_of:CallR X (.type "list") (fun xs H Q=>∃p ys,xs=[.ref p]/\(SqL X.K H p ys∨SqT X.K H p ys)/\∀l,H l=none->Q (.ref l) (upd H l (.lst ys))):=by
 intro pins s σ H xs us Q I r h;obtain⟨p,ys,rfl,hq,q⟩:=h;obtain⟨u,rfl,rx⟩:=vals1 r;cases rx;have fin: ∀(its:List Value),Vals ys its->ys.length<=sizeLine->∀(h':Heap) (c':Nat),(∀b o',s.heap.get? b=some o'->h'.get? b=some o')->
   h'.get? s.heap.objs.size=some {cls:=.type "list",dict:=none,data:=.seq its.toArray c',slots:=#[]}->EP X pins σ Q (.ref s.heap.objs.size) {s with heap:=h'}:=fun its r' hz h' c' kp e=>
  ⟨.ref s.heap.objs.size,_,I.laid (t':=s.toks) kp (Nat.le_refl _) (show ObjOk X.prog X.w _ h' _ (.lst ys) from⟨hz,its,c',r',e⟩),rfl,q _ (I.hok.fresh (Nat.le_refl _))⟩
 rcases hq with hq|hq
 ·obtain⟨its,r',pl,hz⟩:=I.list hq;have hlen:=r'.length;obtain⟨o,ho,hc,n,hd⟩:=pl.isList;exact call_list_seq p (.inl rfl) ho hc hd (fun h' c' kp e=>fin its r' hz h' c' kp e) (by simp only[List.size_toArray]<;>omega)
 ·obtain⟨its,r',pl,hz⟩:=I.tuple hq;have hlen:=r'.length;obtain⟨o,ho,hc,n,hd⟩:=pl;exact call_list_seq p (.inr rfl) ho hc hd (fun h' c' kp e=>fin its r' hz h' c' kp e) (by simp only[List.size_toArray]<;>omega)
theorem yz:CallR X (.type "tuple") (fun xs H Q=>∃p ys,xs=[.ref p]/\((SqL X.K H p ys/\∀l,H l=none->Q (.ref l) (upd H l (.tup ys)))∨(SqT X.K H p ys/\Q (.ref p) H))):=by
 intro pins s σ H xs us Q I r h;obtain⟨p,ys,rfl,h⟩:=h;obtain⟨u,rfl,rx⟩:=vals1 r;cases rx;rcases h with⟨hq,q⟩|⟨hq,q⟩
 ·obtain⟨its,r',pl,hz⟩:=I.list hq;have hlen:=r'.length;refine call_tuple_list pl.isList (fun h' kp=> ?_) (by simp only[List.size_toArray]<;>omega);have I1:Inv X pins σ H {s with heap:=h'}:=I.kept (t':=s.toks) kp;have I2:Inv X pins σ (upd H h'.objs.size (.tup ys)) {s with heap:=h'.push {cls:=.type "tuple",data:=.seq its.toArray}}:=
   I1.laid (t':=s.toks) (fun b o e=>Heap.get?_push_of_some _ e) (Nat.le_refl _) (show ObjOk X.prog X.w _ _ _ (.tup ys) from⟨hz,its,r',IsTup.new _ _⟩)
  exact⟨.ref h'.objs.size,_,I2,rfl,q _ (I1.hok.fresh (Nat.le_refl _))⟩
 ·obtain⟨its,r',pl,hz⟩:=I.tuple hq;exact call_tuple_same pl ⟨.ref p,H,I,rfl,q⟩
def tyV(K:PySem.W.Frag)(T:String)(x:V)(H:Hp):Prop:=match x with
 |.str _=>T="str"
 |.int _=>T="int"
 |.ref p=>(T="list"/\∃xs,SqL K H p xs)∨(T="tuple"/\∃o,K.lookup p=some o/\o.cls=.type "tuple"/\o.dict=none)∨
   (T="dict"/\((∃kvs,H p=some (.dK kvs))∨∃kvs,H p=some (.dT kvs)))∨(T="set"/\∃S n,H p=some (.set S n))
 |_=>False
theorem tyV_is{pins:List (Addr×Obj)}{σ:St}{H:Hp}{s:Shared}{T:String}{x:V}{v:Value}(I:Inv X pins σ H s)(r:RelV x v)(ty:tyV X.K T x H):
  s.TypeIs v T/\∀a,v=.ref a->∃ob,s.heap.get? a=some ob/\ob.dict=none:=by
 cases x with
 |str z=>
  obtain⟨t,rfl⟩:=r;cases (show T="str" from ty);exact⟨typeIs_str s z t,fun _ e=>nomatch e⟩
 |int i=>
  obtain⟨t,rfl⟩:=r;cases (show T="int" from ty);exact⟨typeIs_int s i t,fun _ e=>nomatch e⟩
 |ref p=>
  cases r;rcases ty with⟨rfl,xs,hq⟩|⟨rfl,o,hk,hc,hd⟩|⟨rfl,hk⟩|⟨rfl,S,n,hk⟩
  ·obtain⟨its,_,pl,_⟩:=I.list hq;refine⟨pl.isList.typeIs,fun a e=> ?_⟩;cases e;obtain⟨o,n,e,c,hd,_⟩:=pl;exact⟨o,e,hd⟩
  ·refine⟨⟨o,I.kIn p o hk,hc⟩,fun a e=> ?_⟩;cases e;exact⟨o,I.kIn _ o hk,hd⟩
  ·have z: ∃o,s.heap.get? p=some o/\o.ExactDict:=by
    rcases hk with⟨kvs,hk⟩|⟨kvs,hk⟩
    ·obtain⟨_,_,_,_,o,_,_,e,ex,_⟩:=I.hok p _ hk;exact⟨o,e,ex⟩
    ·obtain⟨_,_,_,_,o,_,_,e,ex,_⟩:=I.hok p _ hk;exact⟨o,e,ex⟩
   obtain⟨o,e,ex⟩:=z;refine⟨⟨o,e,ex.1⟩,fun a e2=> ?_⟩;cases e2;exact⟨o,e,ex.2.1⟩
  ·obtain⟨o,_,_,_,e,ex,_⟩:=I.hok p _ hk;refine⟨⟨o,e,ex.1⟩,fun a e2=> ?_⟩;cases e2;exact⟨o,e,ex.2.1⟩
 |_=>exact False.elim ty
def tBM(K:PySem.W.Frag)(T:String)(r:V->List V->Hp->VK->Prop)(to:TE)(t:TA):TE:=fun σ H Q=>to σ H fun x H1=>tyV K T x H1/\t σ H1 fun xs H2=>r x xs H2 Q
variable {o e:Expr}{es:List Expr}{to:TE}{t:TA}{name:Str}{apos cpos:Pos}{T id:String}{r:V->List V->Hp->VK->Prop}
theorem yP(pa:PlainAttrs T)(slot:Slot T name id)(hty:typeOf (.builtin id)=pure (.type "method_descriptor"))(hm:MtR X id r)(ho:PE X o to)(ha:PA X (e::es) t)
  (hbase:attributeBase o name X.env (eval o X.env)=eval o X.env:=by rfl)
  (hfew:((backTo cpos (starEach (e::es) X.env)).all (fun x=> !x.1)&&(backToKw cpos (keywordEach [] X.env)).all (fun x=>x.1.isSome)
   &&decide ((e::es).length+([]:List Keyword).length+(if([]:List Keyword).isEmpty then 0 else 1)<30))=true:=by rfl)
  (hline:(apos.endLine==cpos.line)=true:=by rfl)(hs:starEach (e::es) X.env=(false,eval e X.env)::starEach es X.env:=by rfl)(hplain:(backTo cpos (starEach es X.env)).any (·.1)=false:=by rfl):
  PE X (.Call (.Attribute o name apos) (e::es) [] cpos) (tBM X.K T r to t):=by
 intro pins s σ H Q I h;refine wpAny_Call_method_late hbase hfew hline rfl (thn (ho pins s σ H _ I h) fun v s1 ⟨x,H1,I1,r1,ty,q1⟩=> ?_);obtain⟨h1,h2⟩:=tyV_is I1 r1 ty;refine⟨T,id,pa,slot,hty,h1,h2,?_⟩;have hA:=ha cpos pins s1 σ H1 _ I1 q1;rw[hs] at hA ⊢;refine Calls.callWith_builtin (by show(false||(backTo cpos (starEach es X.env)).any (·.1))=false;rw[hplain]<;>rfl) (Calls.evalArgs_plain ?_);exact thn hA fun us s2 ⟨vs,H2,I2,r2,q2⟩=>hm pins s2 σ H2 x vs v us Q I2 r1 r2 q2
end
def MtM(X:Cx)(id:String)(r:V->List V->Hp->VK->Prop):Prop:=
 ∀(pins:List (Addr×Obj)) (s:Shared) (σ:St) (H:Hp) (x:V) (xs:List V) (v:Value) (us:List Value) (Q:VK),Inv X pins σ H s->RelV x v->Vals xs us->r x xs H Q->
  wpAny (model X.prog X.w) X.A (call (.builtin id) (v::us)) (EP X pins σ Q) X.xe s
theorem Vals.one: ∀{x:V} {us:List Value},Vals [x] us->∃u,us=[u]/\RelV x u
 |_,_,.cons r .nil=>⟨_,rfl,r⟩
theorem Vals.rep{xs:List V}{us:List Value}(h:Vals xs us): ∀k:Nat,Vals (List.replicate k xs).flatten (List.replicate k us).flatten
 |0=>.nil
 |k+1=>by
  rw[List.replicate_succ,List.replicate_succ,List.flatten_cons,List.flatten_cons];exact Vals.append h (Vals.rep h k)
theorem foldl_rep(its:List Value): ∀(k:Nat) (acc:List Value),
  List.foldl (fun x1 x2=>x1++x2) acc.toArray (List.replicate k its.toArray)=(acc++(List.replicate k its).flatten).toArray
 |0,acc=>by simp
 |k+1,acc=>by
  have e:acc.toArray++its.toArray=(acc++its).toArray:=by simp
  have e2:(acc++its)++(List.replicate k its).flatten=acc++(List.replicate (k+1) its).flatten:=by
   rw[List.replicate_succ,List.flatten_cons,List.append_assoc]
  rw[<-e2,<-foldl_rep its k (acc++its),<-e,List.replicate_succ,List.foldl_cons]
section
variable {X:Cx}{pins:List (Addr×Obj)}{σ:St}{H:Hp}{s:Shared}{l b:Addr}{xs ys zs:List V}
theorem Inv.lset{its its':List Value}{n:Nat}{f:Array Value->Array Value}{t':Nat}(I:Inv X pins σ H s)(hH:H l=some (.lst xs))
  (e:s.heap.get? l=some {cls:=.type "list",data:=.seq its.toArray n})(hf:f its.toArray=its'.toArray)(hv:Vals ys its')(hz:ys.length<=sizeLine):
  Inv X pins σ (upd H l (.lst ys)) {s with heap:=s.heap.update l (Obj.mapSeq f),toks:=t'}:=by
 have q:=PySem.IsL.update e f;rw[hf] at q;refine I.write (x:=l) (e:=l) (by rw[hH];exact trivial) (.inl rfl) (fun b' u hb hu=>(Heap.get?_update_other s.heap (Obj.mapSeq f) (Ne.symm hb)).trans hu) ⟨_,q⟩ ?_;exact⟨hz,its',_,hv,q⟩
theorem Inv.lnew{its:List Value}{t':Nat}(I:Inv X pins σ H s)(hv:Vals ys its)(hz:ys.length<=sizeLine):
  Inv X pins σ (upd H s.heap.objs.size (.lst ys)) {s with heap:=s.heap.push {cls:=.type "list",data:=.seq its.toArray},toks:=t'}:=
 I.laid (fun _ _ q=>Heap.get?_push_of_some _ q) (Nat.le_refl _) ⟨hz,its,0,hv,Heap.get?_push_size _ rfl⟩
theorem Inv.fresh(I:Inv X pins σ H s):H s.heap.objs.size=none:=I.hok.fresh (Nat.le_refl _)
theorem Inv.lstM(I:Inv X pins σ H s)(hH:H l=some (.lst xs)):xs.length<=sizeLine/\∃(its:List Value) (n:Nat),Vals xs its/\xs.length=its.length/\s.heap.get? l=some {cls:=.type "list",data:=.seq its.toArray n}:=by
 obtain⟨z,its,n,r,e⟩:=I.hok l _ hH;exact⟨z,its,n,r,r.length,e⟩
theorem notLongL{n:Nat}(h:n<=sizeLine):Builtin.List.listTooLong n=false:=by
 unfold Builtin.List.listTooLong;exact decide_eq_false (by omega)
end
section
variable {X:Cx}
def rAppend:V->List V->Hp->VK->Prop:=fun x vs H Q=>∃l xs y,x=.ref l/\vs=[y]/\H l=some (.lst xs)/\xs.length<sizeLine/\Q .non (upd H l (.lst (xs++[y])))
theorem Zh:MtM X "list.append" rAppend:=by
 intro pins s σ H x vs v us Q I rx rv h;obtain⟨l,xs,y,rfl,rfl,hH,hz,q⟩:=h;cases rx;obtain⟨u,rfl,ru⟩:=rv.one;obtain⟨z,its,n,r,hl,e⟩:=I.lstM hH;refine call_meets F.slot_list_append ⟨_,e,rfl⟩ F.entry_list_append (F.args_list_append_2 _ _) (PySem.list_append l its.toArray n u (by rw[List.size_toArray];omega)) ⟨e,?_⟩;refine⟨.non,_,I.lset (its':=its++[u]) hH e (by simp) (r.append (.cons ru .nil)) ?_,rfl,q⟩;rw[List.length_append,List.length_singleton];omega
def rExtend:V->List V->Hp->VK->Prop:=fun x vs H Q=>∃l b xs zs,x=.ref l/\vs=[.ref b]/\H l=some (.lst xs)/\H b=some (.lst zs)/\xs.length+zs.length<=sizeLine/\Q .non (upd H l (.lst (xs++zs)))
theorem Yy:MtM X "list.extend" rExtend:=by
 intro pins s σ H x vs v us Q I rx rv h;obtain⟨l,b,xs,zs,rfl,rfl,hH,hB,hz,q⟩:=h;cases rx;obtain⟨u,rfl,ru⟩:=rv.one;cases ru;obtain⟨z,its,n,r,hl,e⟩:=I.lstM hH;obtain⟨z2,its2,n2,r2,hl2,e2⟩:=I.lstM hB;have hsz:its.toArray.size+its2.toArray.size<=sizeLine:=by rw[List.size_toArray,List.size_toArray];omega
 have hlong: ¬(!its.toArray.isEmpty&&Builtin.List.listTooLong (its.toArray.size+its2.toArray.size))=true:=by
  rw[notLongL hsz,Bool.and_false];exact Bool.false_ne_true
 refine call_meets F.slot_list_extend ⟨_,e,rfl⟩ F.entry_list_extend (F.args_list_extend_2 _ _)
  (AutoSeq1.list_extend_list_list_0 l its.toArray n b its2.toArray n2 hlong (by rw[List.size_toArray];omega) (by omega)) ⟨e,e2,?_⟩
 refine⟨.non,_,I.lset (its':=its++its2) hH e (by simp) (r.append r2) ?_,rfl,q⟩;rw[List.length_append];omega
def rCat:R2:=fun x y H Q=>∃l b xs zs,x=.ref l/\y=.ref b/\H l=some (.lst xs)/\H b=some (.lst zs)/\xs.length+zs.length<=sizeLine/\∀p,H p=none->Q (.ref p) (upd H p (.lst (xs++zs)))
theorem yN:OpR X (binaryOp .Add) rCat:=by
 intro pins s σ H x y v u Q I rx ry h;obtain⟨l,b,xs,zs,rfl,rfl,hH,hB,hz,q⟩:=h;cases rx;cases ry;obtain⟨z,its,n,r,hl,e⟩:=I.lstM hH;obtain⟨z2,its2,n2,r2,hl2,e2⟩:=I.lstM hB;refine PySem.P.add_list e e2 ?_ (by rw[List.size_toArray,List.size_toArray];omega);have ea:its.toArray++its2.toArray=(its++its2).toArray:=by simp
 rw[ea];exact⟨.ref _,_,I.lnew (t':=s.toks) (r.append r2) (by rw[List.length_append];omega),rfl,q _ I.fresh⟩
def rRep:R2:=fun x y H Q=>∃l k xs,x=.ref l/\y=.int k/\H l=some (.lst xs)/\ -(2 ^ 63)<=k/\k<2 ^ 63/\xs.length * k.toNat<=sizeLine/\
 ∀p,H p=none->Q (.ref p) (upd H p (.lst (List.replicate k.toNat xs).flatten))
theorem len_rep{α:Type}(xs:List α)(k:Nat):(List.replicate k xs).flatten.length=k * xs.length:=by
 induction k with
 |zero=>simp
 |succ k ih=>rw[List.replicate_succ,List.flatten_cons,List.length_append,ih,Nat.succ_mul,Nat.add_comm]
theorem op_rep:OpR X (binaryOp .Mult) rRep:=by
 intro pins s σ H x y v u Q I rx ry h;obtain⟨l,k,xs,rfl,rfl,hH,h1,h2,hz,q⟩:=h;cases rx;obtain⟨t,rfl⟩:=ry;obtain⟨z,its,n,r,hl,e⟩:=I.lstM hH;have hlen:its.toArray.size * k.toNat<=sizeLine:=by rw[List.size_toArray,<-hl];exact hz
 have hcap: ¬its.toArray.size * k.toNat>(2 ^ 63 - 1) / 8:=by
  have:(sizeLine:Nat)<=(2 ^ 63 - 1) / 8:=by decide
  omega
 have hfit: ¬(!Builtin.List.listFitsIndex k)=true:=by
  rw[fitsIndex_both h1 h2];exact Bool.false_ne_true
 have hlong: ¬Builtin.List.listTooLong (its.toArray.size * k.toNat)=true:=by
  rw[notLongL hlen];exact Bool.false_ne_true
 have hnew:List.foldl (fun x1 x2=>x1++x2) #[] (List.replicate (if its.toArray.isEmpty=true then 0 else k.toNat) its.toArray)=(List.replicate k.toNat its).flatten.toArray:=by
  have f0: ∀m:Nat,List.foldl (fun x1 x2=>x1++x2) #[] (List.replicate m its.toArray)=(List.replicate m its).flatten.toArray:=fun m=>by
   have:=foldl_rep its m [];rw[List.nil_append] at this;exact this
  rw[f0];cases its with
  |nil=>simp
  |cons a r'=>rw[if_neg (by simp)]
 refine wpAny_binaryOp_repeat_ref (T:="list") (U:="int") (by decide) ⟨_,e,rfl⟩ (fun s'=>typeIs_int s' k t) noFill_list_mul F.fills_int_mul F.slot_int_rmul repeat_list F.slot_int_index.lookup
  (call_meets F.slot_int_rmul (typeIs_int s k t) F.entry_int_rmul (F.args_int_rmul_2 _ _) (int___rmul___int_list k t l its.toArray n)
   ⟨e,rfl,⟨_,e,rfl⟩,call_meets F.slot_list_mul ⟨_,e,rfl⟩ F.entry_list_mul (F.args_list_mul_2 _ _) (AutoListH.list___mul___list_int_3 l its.toArray n k t hfit hcap hlong) ⟨e,?_⟩⟩)
 rw[hnew];exact⟨.ref _,_,I.lnew (t':=s.toks) (r.rep k.toNat) (by rw[len_rep,Nat.mul_comm];exact hz),rfl,q _ I.fresh⟩
end
section
variable {prog:Program}{w:World}{A:Around}{E:Value->Shared->Prop}{s:Shared}
end
section
variable {X:Cx}
end
theorem Vals.ints: ∀{ns:List Int} {us:List Value},Vals (ns.map V.int) us->IntsAre us ns
 |[],us,h=>by
  rw[List.map_nil] at h;cases h;exact IntsAre.nil
 |n::ns,us,h=>by
  rw[List.map_cons] at h;cases h with
  |cons r t=>
   obtain⟨k,rfl⟩:=r;exact IntsAre.cons n k (Vals.ints t)
theorem YL: ∀{us:List Value} {ns:List Int},IntsAre us ns->Vals (ns.map V.int) us
 |_,_,.nil=>by rw[List.map_nil];exact Paired.nil
 |_,_,.cons n t h=>by rw[List.map_cons];exact Paired.cons (show RelV (V.int n) (Value.int n t) from⟨t,rfl⟩) (YL h)
theorem Vals.bls: ∀{bs:List Bool} {us:List Value},Vals (bs.map V.bl) us->us=bs.map Value.bool
 |[],us,h=>by
  rw[List.map_nil] at h;cases h;rfl
 |b::bs,us,h=>by
  rw[List.map_cons] at h;cases h with
  |cons r t=>
   cases r;rw[Vals.bls t,List.map_cons]
theorem Vals.ref1{a:Addr}{us:List Value}(r:Vals [V.ref a] us):us=[Value.ref a]:=by
 cases r with
 |cons r t=>
  cases t;cases r;rfl
theorem Vals.int2{i j:Int}{us:List Value}(r:Vals [V.int i,V.int j] us): ∃t u,us=[Value.int i t,Value.int j u]:=by
 cases r with
 |cons r t=>
  cases t with
  |cons r2 t2=>
   cases t2;obtain⟨t,rfl⟩:=r;obtain⟨u,rfl⟩:=r2;exact⟨t,u,rfl⟩
section
variable {prog:Program}{w:World}{A:Around}{E:Value->Shared->Prop}{s:Shared}{l:Addr}{its:List Value}{ns:List Int}{Q:Value->Shared->Prop}
theorem sum_raw(hh:A.handled=none)(hl:s.heap.IsList l its.toArray)(hi:IntsAre its ns)
  (h: ∀h' tk t',(∀b o,s.heap.get? b=some o->h'.get? b=some o)->Q (.int ns.sum t') {s with heap:=h',toks:=tk}):wpAny (model prog w) A (call (.builtin "sum") [.ref l]) Q E s:=by
 obtain⟨xs,e⟩:=hi.allInts.items;have hn:numsOf (intItems xs).toList=ns:=by rw[<-e];exact hi.numsOf
 rw[nums_intItems] at hn;rw[e] at hl;refine PySem.sum_intListG hh hl fun h' tk t' hk=> ?_;have:=h h' tk t' hk;rw[preSum_eq,List.take_of_length_le (by simp),hn];exact this
end
section
variable {X:Cx}
def rSum(K:PySem.W.Frag):List V->Hp->VK->Prop:=fun vs H Q=>∃(a:Addr) (ns:List Int),vs=[V.ref a]/\SqL K H a (ns.map V.int)/\Q (.int ns.sum) H
theorem cr_sum(hc:X.calm=true):CallR X (.builtin "sum") (rSum X.K):=by
 intro pins s σ H vs us Q I r h;obtain⟨a,ns,rfl,hs,q⟩:=h;obtain⟨its,rv,hl,_⟩:=I.list hs;rw[Vals.ref1 r];exact sum_raw (I.ok.hd hc) hl.isList rv.ints fun h' tk t' hk=>⟨.int _,H,I.kept hk,⟨_,rfl⟩,q⟩
end
section
variable {X:Cx}
def rIndex(K:PySem.W.Frag):V->List V->Hp->VK->Prop:=fun x xs H Q=>∃(a:Addr) (ys:List V) (y:V) (j:Nat) (z:V),x=V.ref a/\xs=[y]/\SqL K H a ys/\flatV y=true/\ys.all flatV=true/\ys[j]? =some z/\eqV z y=true/\
 (∀(m:Nat) (z':V),m<j->ys[m]? =some z'->eqV z' y=false)/\Q (.int (j:Nat)) H
theorem flat_at{ys:List V}(f:ys.all flatV=true){j:Nat}{z:V}(h:ys[j]? =some z):flatV z=true:=List.all_eq_true.mp f z (List.mem_of_getElem? h)
theorem mt_index:MtR X "list.index" (rIndex X.K):=by
 intro pins s σ H x xs v us Q I rx rxs h;obtain⟨a,ys,y,j,z,rfl,rfl,hs,fy,fys,hz,hzj,hno,q⟩:=h;cases rx;cases rxs with
 |cons ry rt=>
  rename_i uy ut
  cases rt;obtain⟨its,rv,⟨⟨cls,dd,data,sl⟩,n,ho,hc,hdn,hd⟩,hlen⟩:=I.list hs;simp only at hc hd;subst hc hd;obtain⟨u,hu,ru⟩:=rv.get hz;obtain⟨hjl,hje⟩:=List.getElem?_eq_some_iff.mp hu;have hvl:=rv.length;have hj:j<its.toArray.size:=by simpa using hjl
  have hsl:=sizeLine_eq;refine call_meets PySem.F.slot_list_index ⟨_,ho,rfl⟩ PySem.F.entry_list_index (PySem.F.args_list_index_2 _ _)
   (SeqAt.list_indexAt a its.toArray n dd sl uy (eqU y) j hj (by omega) ?_ ?_) ⟨ho,fun u' hu'=>Yc ry fy rv fys u' (by simpa using hu'),?_⟩
  ·have e1:its.toArray[j]=u:=by simpa using hje
   rw[e1,eqU_of ru (flat_at fys hz)];exact hzj
  ·intro m hm hmj;have hml:m<its.length:=by simpa using hm
   have hmy:m<ys.length:=by omega
   have hy':ys[m]? =some ys[m]:=List.getElem?_eq_getElem hmy;obtain⟨u2,hu2,ru2⟩:=rv.get hy';obtain⟨_,hme⟩:=List.getElem?_eq_some_iff.mp hu2;have e1:its.toArray[m]=u2:=by simpa using hme
   rw[e1,eqU_of ru2 (flat_at fys hy')];exact hno m _ hmj hy'
  ·exact⟨.int (j:Nat),H,I.tok _,⟨_,rfl⟩,q⟩
end
section
variable {X:Cx}
end
theorem iter_any{prog:Program}{w:World}{A:Around}{E:Value->Shared->Prop}{s:Shared}{l:Addr}{items:Array Value}{Q:Value->Shared->Prop}(hl:s.heap.IsList l items)
  (h: ∀s₂:Shared,s₂={s with heap:=s.heap.push {cls:=.type "list_iterator",data:=.fields #[.ref l,.int 0 0]}}->
   (s₂.heap.IsListIter s.heap.objs.size l 0/\s₂.heap.IsList l items)->l≠s.heap.objs.size->Q (.ref s.heap.objs.size) s₂):wpAny (model prog w) A (pyIter (.ref l)) Q E s:=by
 have hlt:l<s.heap.objs.size:=by obtain⟨_,e,_⟩:=hl;exact Heap.lt_size e
 exact wpAny_pyIter_list hl (h _ rfl ⟨⟨_,Heap.get?_push_size _ rfl,rfl,rfl⟩,hl.push _⟩ (Nat.ne_of_lt hlt))
theorem jM{prog:Program}{w:World}{A:Around}{bs:List Bool}{its:List Value}(e:its=bs.map Value.bool):
  TruthOf prog w A (fun i v=>its.toArray[i]? =some v) (fun i=>bs.getD i false):=fun i v s Q E hv hq=>by
 have hv':its[i]? =some v:=by simpa using hv
 rw[e,List.getElem?_map] at hv';obtain⟨b,hb,rfl⟩:=Option.map_eq_some_iff.mp hv';have hg:bs.getD i false=b:=by rw[List.getD_eq_getElem?_getD,hb]<;>rfl
 have hq':Q (bs.getD i false) s:=hq;rw[hg] at hq';exact wpAny_truthy_bool hq'
theorem any_range: ∀bs:List Bool,(List.range bs.length).any (fun i=>bs.getD i false)=bs.any id
 |[]=>rfl
 |b::bs=>by
  rw[List.length_cons,List.range_succ_eq_map,List.any_cons,List.any_map,List.any_cons,<-any_range bs]
  all_goals rfl
theorem all_range: ∀bs:List Bool,(List.range bs.length).all (fun i=>bs.getD i false)=bs.all id
 |[]=>rfl
 |b::bs=>by
  rw[List.length_cons,List.range_succ_eq_map,List.all_cons,List.all_map,List.all_cons,<-all_range bs]
  all_goals rfl
section
variable {X:Cx}
def rAny(K:PySem.W.Frag):List V->Hp->VK->Prop:=fun vs H Q=>∃(a:Addr) (bs:List Bool),vs=[V.ref a]/\SqL K H a (bs.map V.bl)/\Q (.bl (bs.any id)) H
def rAll(K:PySem.W.Frag):List V->Hp->VK->Prop:=fun vs H Q=>∃(a:Addr) (bs:List Bool),vs=[V.ref a]/\SqL K H a (bs.map V.bl)/\Q (.bl (bs.all id)) H
theorem cr_any(hc:X.calm=true):CallR X (.builtin "any") (rAny X.K):=by
 intro pins s σ H vs us Q I r h;obtain⟨a,bs,rfl,hs,q⟩:=h;obtain⟨its,rv,hl,_⟩:=I.list hs;rw[Vals.ref1 r];have hb:=rv.bls;refine call_any_walk (iter_any hl.isList fun s₂ e2 st hne=> ?_);subst e2;refine⟨_,_,_,_,_,_,_,rfl,Walks.list (A:=X.A.in1) (I.ok.hd hc) _ a hne its.toArray,st,jM hb,fun h' tk hk=> ?_⟩;refine⟨.bl _,H,I.kept fun b o eo=>hk b o (fun hmem=> ?_) (Heap.get?_push_of_some _ eo),?_,q⟩
 ·rcases List.mem_cons.mp hmem with e1|hmem
  ·exact absurd (e1 ▸ Heap.lt_size eo) (Nat.lt_irrefl _)
  ·cases hmem
 ·show Value.bool _=Value.bool _;rw[<-any_range,hb,List.size_toArray,List.length_map]
theorem cr_all(hc:X.calm=true):CallR X (.builtin "all") (rAll X.K):=by
 intro pins s σ H vs us Q I r h;obtain⟨a,bs,rfl,hs,q⟩:=h;obtain⟨its,rv,hl,_⟩:=I.list hs;rw[Vals.ref1 r];have hb:=rv.bls;refine call_all_walk (iter_any hl.isList fun s₂ e2 st hne=> ?_);subst e2;refine⟨_,_,_,_,_,_,_,rfl,Walks.list (A:=X.A.in1) (I.ok.hd hc) _ a hne its.toArray,st,jM hb,fun h' tk hk=> ?_⟩;refine⟨.bl _,H,I.kept fun b o eo=>hk b o (fun hmem=> ?_) (Heap.get?_push_of_some _ eo),?_,q⟩
 ·rcases List.mem_cons.mp hmem with e1|hmem
  ·exact absurd (e1 ▸ Heap.lt_size eo) (Nat.lt_irrefl _)
  ·cases hmem
 ·show Value.bool _=Value.bool _;rw[<-all_range,hb,List.size_toArray,List.length_map]
end
mutual
inductive Dp(K:PySem.W.Frag)(H:Hp):V->PyData->Prop
 |non:Dp K H .non .none
 |bl (b:Bool):Dp K H (.bl b) (.bool b)
 |int (i:Int):Dp K H (.int i) (.int i)
 |str (x:Str):Dp K H (.str x) (.str x)
 |lst {a:Addr} {xs:List V} {ds:List PyData}:SqL K H a xs->DpAll K H xs ds->Dp K H (.ref a) (.list ds)
 |tup {a:Addr} {xs:List V} {ds:List PyData}:SqT K H a xs->DpAll K H xs ds->Dp K H (.ref a) (.tuple ds)
inductive DpAll(K:PySem.W.Frag)(H:Hp):List V->List PyData->Prop
 |nil:DpAll K H [] []
 |cons {v:V} {vs:List V} {d:PyData} {ds:List PyData}:Dp K H v d->DpAll K H vs ds->DpAll K H (v::vs) (d::ds)
end
section
variable {X:Cx}{pins:List (Addr×Obj)}{σ:St}{H:Hp}{s:Shared}
mutual
theorem Dp.reads(I:Inv X pins σ H s): ∀(d:PyData) (v:V) (u:Value),Dp X.K H v d->RelV v u->∃as,Reads s.heap u d as
 |.none,_,_,h,r=>by
  cases h;cases r;exact⟨_,Reads.none⟩
 |.bool b,_,_,h,r=>by
  cases h;cases r;exact⟨_,Reads.bool b⟩
 |.int i,_,_,h,r=>by
  cases h;obtain⟨t,rfl⟩:=r;exact⟨_,Reads.int i t⟩
 |.str x,_,_,h,r=>by
  cases h;obtain⟨t,rfl⟩:=r;exact⟨_,Reads.str x t⟩
 |.list ds,_,_,h,r=>by
  cases h with
  |lst hs ha=>
   cases r;obtain⟨its,rv,⟨o,n,ho,hc,_,hd⟩,_⟩:=I.list hs;obtain⟨as,hr⟩:=Dp.readsAll I ds _ its ha rv;exact⟨_,Reads.list ho hc hd hr⟩
 |.tuple ds,_,_,h,r=>by
  cases h with
  |tup hs ha=>
   cases r;obtain⟨its,rv,⟨o,ho,hc,n,hd⟩,_⟩:=I.tuple hs;obtain⟨as,hr⟩:=Dp.readsAll I ds _ its ha rv;exact⟨_,Reads.tuple ho hc hd hr⟩
 |.dict _,_,_,h,_=>by cases h
theorem Dp.readsAll(I:Inv X pins σ H s): ∀(ds:List PyData) (vs:List V) (us:List Value),DpAll X.K H vs ds->Vals vs us->∃as,ReadsAll s.heap us ds as
 |[],_,_,h,r=>by
  cases h;cases r;exact⟨_,ReadsAll.nil⟩
 |d::ds,_,_,h,r=>by
  cases h with
  |cons h1 h2=>
   cases r with
   |cons r1 r2=>
    obtain⟨as,q1⟩:=Dp.reads I d _ _ h1 r1;obtain⟨bs,q2⟩:=Dp.readsAll I ds _ _ h2 r2;exact⟨_,ReadsAll.cons q1 q2⟩
end
end
section
variable {X:Cx}
def rEqD(K:PySem.W.Frag):R2:=fun x y H Q=>∃d e,Dp K H x d/\Dp K H y e/\SeqAt.shaped d=true/\SeqAt.shaped e=true/\Q (.bl (PyData.eqv d e)) H
def rNeD(K:PySem.W.Frag):R2:=fun x y H Q=>∃d e,Dp K H x d/\Dp K H y e/\SeqAt.shaped d=true/\SeqAt.shaped e=true/\Q (.bl (!PyData.eqv d e)) H
theorem op_eqD(hu:X.A.units+64<cLine):OpR X (compareOp .Eq) (rEqD X.K):=by
 intro pins s σ H x y v u Q I rx ry h;obtain⟨d,e,hd,he,sd,se,q⟩:=h;obtain⟨as,r1⟩:=Dp.reads I d x v hd rx;obtain⟨bs,r2⟩:=Dp.reads I e y u he ry;exact SeqAt.compareEq_shaped r1 r2 sd se hu ⟨.bl _,H,I,rfl,q⟩
theorem op_neD(hu:X.A.units+64<cLine):OpR X (compareOp .NotEq) (rNeD X.K):=by
 intro pins s σ H x y v u Q I rx ry h;obtain⟨d,e,hd,he,sd,se,q⟩:=h;obtain⟨as,r1⟩:=Dp.reads I d x v hd rx;obtain⟨bs,r2⟩:=Dp.reads I e y u he ry;exact SeqAt.compareNe_shaped r1 r2 sd se hu ⟨.bl _,H,I,rfl,q⟩
end
abbrev CellAt(h:Heap)(c:Addr)(v:Option Value):Prop:=h.IsCell c v
def relS(scope sc:Scope):Scope:=
 {scope with names:=scope.names.map fun(n,k)=>if(k== .free&&sc.kind== .function&&sc.names.lookup n==some .cell) then(n,.cell) else(n,k)}
def cloFrom(cells:List (Str×Addr)):List (Str×NameKind)->List (Str×Addr)->List (Str×Addr)
 |[],acc=>acc
 |(n,k)::r,acc=>if k== .free then cloFrom cells r ((n,(cells.lookup n).getD 0)::acc) else cloFrom cells r acc
theorem Yl(env:Env)(f:Str×NameKind->List (Str×Addr)->Sem (ForInStep (List (Str×Addr))))
  (hf: ∀n k c,f (n,k) c=if k== .free then(do let a <-cellOf env n;pure (.yield ((n,a)::c))) else pure (.yield c)):
  ∀(names:List (Str×NameKind)) (acc:List (Str×Addr)),(∀y∈names,y.2=.free->∃c,env.cells.lookup y.1=some c)->forIn names acc f=pure (cloFrom env.cells names acc)
 |[],acc,_=>by rw[List.forIn_nil];rfl
 |(n,k)::r,acc,h=>by
  rw[List.forIn_cons,hf];have ih:=fun acc=>Yl env f hf r acc fun y hy=>h y (List.mem_cons_of_mem _ hy);unfold cloFrom;by_cases hk:(k==NameKind.free)=true
  ·rw[if_pos hk,if_pos hk];obtain⟨c,hc⟩:=h (n,k) List.mem_cons_self (by simpa using hk);have e:cellOf env n=pure c:=by unfold cellOf;rw[hc]
   rw[e];have e2:(env.cells.lookup n).getD 0=c:=by rw[hc];rfl
   rw[e2];exact ih _
  ·rw[if_neg hk,if_neg hk];exact ih _
theorem closure_ok{scope:Scope}{env:Env}(h: ∀y∈scope.names,y.2=.free->∃c,env.cells.lookup y.1=some c):closureFor scope env=pure (cloFrom env.cells scope.names []):=by
 simp only[closureFor];rw[Yl env _ (fun n k c=>rfl) scope.names [] h];rfl
theorem mem_lookup{α:Type}: ∀{l:List (Str×α)} {n:Str} {c:α},(n,c)∈l->∃c',l.lookup n=some c'
 |(k,v)::r,n,c,h=>by
  rw[List.lookup_cons];cases hb:n==k with
  |true=>exact⟨_,rfl⟩
  |false=>
   rcases List.mem_cons.mp h with e|h
   ·cases e;simp at hb
   ·exact mem_lookup h
theorem Zy{cells:List (Str×Addr)}: ∀{names:List (Str×NameKind)} {acc:List (Str×Addr)} {n:Str} {c:Addr},(n,c)∈cloFrom cells names acc->(n,c)∈acc∨((n,.free)∈names/\c=(cells.lookup n).getD 0)
 |[],_,_,_,h=>.inl h
 |(m,k)::r,acc,n,c,h=>by
  unfold cloFrom at h;split at h
  ·rename_i hk
   have hk:k=.free:=by simpa using hk
   rcases Zy h with h|⟨h1,h2⟩
   ·rcases List.mem_cons.mp h with e|h
    ·cases e;exact .inr ⟨hk ▸ List.mem_cons_self,rfl⟩
    ·exact .inl h
   ·exact .inr ⟨List.mem_cons_of_mem _ h1,h2⟩
  ·rcases Zy h with h|⟨h1,h2⟩
   ·exact .inl h
   ·exact .inr ⟨List.mem_cons_of_mem _ h1,h2⟩
theorem yl{cells:List (Str×Addr)}: ∀{names:List (Str×NameKind)} {acc:List (Str×Addr)} {p:Str×Addr},p∈acc->p∈cloFrom cells names acc
 |[],_,_,h=>h
 |(m,k)::r,acc,p,h=>by
  unfold cloFrom;split
  ·exact yl (List.mem_cons_of_mem _ h)
  ·exact yl h
theorem yj{cells:List (Str×Addr)}: ∀{names:List (Str×NameKind)} {acc:List (Str×Addr)} {n:Str},(n,.free)∈names->(n,(cells.lookup n).getD 0)∈cloFrom cells names acc
 |(m,k)::r,acc,n,h=>by
  unfold cloFrom;rcases List.mem_cons.mp h with e|h
  ·cases e;exact yl List.mem_cons_self
  ·split
   ·exact yj h
   ·exact yj h
theorem yI: ∀{names:List (Str×NameKind)} {h:Heap} {acc:List (Str×Addr)} {x:Str} {c:Addr},(x,c)∈cellsFrom h.objs.size names acc->
  (x,c)∈acc∨((x,.cell)∈names/\h.objs.size<=c/\CellAt (pushCells h names) c none)
 |[],_,_,_,_,h=>.inl h
 |(n,k)::r,h,acc,x,c,hm=>by
  unfold cellsFrom at hm;unfold pushCells;split at hm
  ·rename_i hk
   rw[if_pos hk];have hk:k=.cell:=by simpa using hk
   rw[<-Heap.size_push h {cls:=.type "cell",data:=.cell none}] at hm;rcases yI hm with hm|⟨h1,h2,h3⟩
   ·rcases List.mem_cons.mp hm with e|hm
    ·cases e;exact .inr ⟨hk ▸ List.mem_cons_self,Nat.le_refl _,_,pushCells_keeps r _ _ _ (Heap.get?_push_size _ rfl),rfl⟩
    ·exact .inl hm
   ·rw[Heap.size_push] at h2;exact .inr ⟨List.mem_cons_of_mem _ h1,Nat.le_of_succ_le h2,h3⟩
  ·rename_i hk
   rw[if_neg hk];rcases yI hm with hm|⟨h1,h2,h3⟩
   ·exact .inl hm
   ·exact .inr ⟨List.mem_cons_of_mem _ h1,h2,h3⟩
theorem yr: ∀{names:List (Str×NameKind)} {n:Nat} {acc:List (Str×Addr)} {p:Str×Addr},p∈acc->p∈cellsFrom n names acc
 |[],_,_,_,h=>h
 |(m,k)::r,n,acc,p,h=>by
  unfold cellsFrom;split
  ·exact yr (List.mem_cons_of_mem _ h)
  ·exact yr h
theorem jJ: ∀{names:List (Str×NameKind)} {n:Nat} {acc:List (Str×Addr)} {x:Str},(x,.cell)∈names->∃c,(x,c)∈cellsFrom n names acc
 |(m,k)::r,n,acc,x,h=>by
  unfold cellsFrom;rcases List.mem_cons.mp h with e|h
  ·cases e;exact⟨n,yr List.mem_cons_self⟩
  ·split
   ·exact jJ h
   ·exact jJ h
theorem jH: ∀{names:List (Str×NameKind)} {h:Heap} {acc:List (Str×Addr)} {x y:Str} {c:Addr},(∀p∈acc,p.2<h.objs.size)->(∀x y c,(x,c)∈acc->(y,c)∈acc->x=y)->
  (x,c)∈cellsFrom h.objs.size names acc->(y,c)∈cellsFrom h.objs.size names acc->x=y
 |[],_,_,_,_,_,_,hi,h1,h2=>hi _ _ _ h1 h2
 |(n,k)::r,h,acc,x,y,c,hl,hi,h1,h2=>by
  unfold cellsFrom at h1 h2;split at h1
  ·rename_i hk
   rw[if_pos hk] at h2;rw[<-Heap.size_push h {cls:=.type "cell",data:=.cell none}] at h1 h2;refine jH (h:=h.push _) (fun p hp=> ?_) (fun x y c a b=> ?_) h1 h2
   ·rw[Heap.size_push];rcases List.mem_cons.mp hp with rfl|hp
    ·exact Nat.lt_succ_self _
    ·exact Nat.lt_succ_of_lt (hl p hp)
   ·rcases List.mem_cons.mp a with e|a<;>rcases List.mem_cons.mp b with e'|b
    ·cases e;cases e';rfl
    ·cases e;exact absurd (hl _ b) (Nat.lt_irrefl _)
    ·cases e';exact absurd (hl _ a) (Nat.lt_irrefl _)
    ·exact hi _ _ _ a b
  ·rename_i hk
   rw[if_neg hk] at h2;exact jH hl hi h1 h2
theorem newEnv_comp{M:Model}{A:Around}{E:Value->Shared->Prop}{s:Shared}{scope:Scope}{globals:Addr}{closure:List (Str×Addr)}{qual:Str}{func:Option Addr}{code:Value}{around:Env}{builtins:Addr}{Q:Env->Shared->Prop}
  (h:Q (newEnv scope s.heap.objs.size globals (cellsFrom (s.heap.objs.size+1) scope.names closure) qual func code (some around) builtins)
   {s with heap:=pushCells (s.heap.push {cls:=.type "dict",data:=.dict #[]}) scope.names}):
  wpAny M A (newFunctionEnv scope globals closure [] qual func code (some around) builtins) Q E s:=by
 simp only[newFunctionEnv,Option.isSome_some,if_true];refine wpAny_bind (wpAny_alloc ?_);refine wpAny_bind (wpAny_layCells _ (fun n k c=>rfl) scope.names closure _ _ ?_);rw[show({s with heap:=s.heap.push {cls:=.type "dict",data:=.dict #[]}}:Shared).heap.objs.size=s.heap.objs.size+1 from Heap.size_push ..];rw[List.forIn_nil];exact wpAny_bind (wpAny_pure (wpAny_pure h))
theorem ye{sc:Scope}: ∀{names:List (Str×NameKind)} {x:Str} {k:NameKind},
  (names.map fun(n,k)=>if(k==NameKind.free&&sc.kind== .function&&sc.names.lookup n==some .cell) then(n,NameKind.cell) else(n,k)).lookup x=some k->
  ∃k',names.lookup x=some k'/\(k=k'∨(k'=.free/\k=.cell))
 |[],_,_,h=>by simp at h
 |(n,k₀)::r,x,k,h=>by
  have ih:= @ye sc r x k;have h':List.lookup x ((if(k₀==NameKind.free&&sc.kind== .function&&sc.names.lookup n==some .cell)=true then(n,NameKind.cell) else(n,k₀))::(r.map _))=some k:=h;cases hx:x==n with
  |true=>
   simp only[List.lookup_cons,hx];by_cases hc:(k₀==NameKind.free&&sc.kind== .function&&sc.names.lookup n==some .cell)=true
   ·rw[if_pos hc] at h';simp only[List.lookup_cons,hx] at h';cases h';simp only[Bool.and_eq_true,beq_iff_eq] at hc;exact⟨k₀,rfl,.inr ⟨hc.1.1,rfl⟩⟩
   ·rw[if_neg hc] at h';simp only[List.lookup_cons,hx] at h';cases h';exact⟨_,rfl,.inl rfl⟩
  |false=>
   simp only[List.lookup_cons,hx];by_cases hc:(k₀==NameKind.free&&sc.kind== .function&&sc.names.lookup n==some .cell)=true
   ·rw[if_pos hc] at h';simp only[List.lookup_cons,hx] at h';exact ih h'
   ·rw[if_neg hc] at h';simp only[List.lookup_cons,hx] at h';exact ih h'
structure BlkOk(N:List Str)(sc scope:Scope)(own:List (Str×Nat)):Prop where
 kind:scope.kind=.function
 uniq: ∀y∈scope.names,scope.names.lookup y.1=some y.2
 ix: ∀p∈own,N[p.2]? =some p.1
 free: ∀y∈scope.names,y.2=.free->sc.names.lookup y.1=some .cell∨sc.names.lookup y.1=some .free
 own: ∀y∈scope.names,y.2=.local∨y.2=.cell->y.1∈own.map (·.1)∨y.1∉N
def wipe(σ:St):List Nat->St
 |[]=>σ
 |v::vs=>(wipe σ vs).set v none
theorem yR(σ:St): ∀vs:List Nat,(wipe σ vs).length=σ.length
 |[]=>rfl
 |v::vs=>by unfold wipe;rw[List.length_set,yR σ vs]
theorem Yr{σ:St}{i:Nat}{x:V}: ∀{vs:List Nat},(wipe σ vs)[i]? =some (some x)->σ[i]? =some (some x)/\i∉vs
 |[],h=>⟨h,by simp⟩
 |v::vs,h=>by
  unfold wipe at h;by_cases hi:v=i
  ·subst hi;by_cases hv:v<(wipe σ vs).length
   ·rw[List.getElem?_set_self hv] at h;cases h
   ·rw[List.getElem?_eq_none (by simpa using hv)] at h;cases h
  ·rw[List.getElem?_set_ne hi] at h;obtain⟨h1,h2⟩:=Yr h;exact⟨h1,by simp only[List.mem_cons,not_or];exact⟨fun e=>hi e.symm,h2⟩⟩
abbrev Cx.blk(X:Cx)(s:Shared)(H:Hp)(scope:Scope)(cenv:Env)(fp:List Addr):Cx:={X with s_0:=s,H_0:=H,env:=cenv,outer:=X.stack,ex:=fp,fn:=fun x=>scope.names.lookup x==some .cell,pn:=[],xe:=fun _ _=>False}
section
variable {X:Cx}{pins:List (Addr×Obj)}{σ:St}{H:Hp}{s:Shared}
theorem block_start{scope:Scope}{own:List (Str×Nat)}{fp:List Addr}(I:Inv X pins σ H s)(ok:BlkOk X.N X.env.scope scope own)(hN:X.N.Nodup)(hfp: ∀b∈fp,FpOk X pins H b/\b<s.heap.objs.size):
  Inv (X.blk s H scope (compEnvC scope (cellsFrom (s.heap.objs.size+1) scope.names (cloFrom X.env.cells scope.names [])) s.heap.objs.size X.env) fp) [] (wipe σ (own.map (·.2))) H {s with heap:=pushCells (s.heap.push {cls:=.type "dict",data:=.dict #[]}) scope.names}:=by
 have hfree: ∀y∈scope.names,y.2=.free->∃c,X.env.cells.lookup y.1=some c:=fun y hy e=>by
  rcases ok.free y hy e with k|k
  ·exact I.ok.has _ (.inl k)
  ·exact I.ok.has _ (.inr k)
 generalize hcenv:compEnvC scope (cellsFrom (s.heap.objs.size+1) scope.names (cloFrom X.env.cells scope.names [])) s.heap.objs.size X.env=cenv;have kp: ∀b o,s.heap.get? b=some o->(pushCells (s.heap.push {cls:=.type "dict",data:=.dict #[]}) scope.names).get? b=some o:=fun b o e=>pushCells_keeps _ _ _ _ (Heap.get?_push_of_some _ e);have hL:cenv.locals=s.heap.objs.size:=by rw[<-hcenv];rfl
 have hcl:cenv.cells=cellsFrom (s.heap.objs.size+1) scope.names (cloFrom X.env.cells scope.names []):=by rw[<-hcenv];rfl
 have hsc:cenv.scope=relS scope X.env.scope:=by rw[<-hcenv];rfl
 rw[<-Heap.size_push s.heap {cls:=.type "dict",data:=.dict #[]}] at hcl;have cm: ∀{y c},(y,c)∈cloFrom X.env.cells scope.names []->X.env.cells.lookup y=some c/\c<s.heap.objs.size:=fun{y c} hm=>by
  rcases Zy hm with hm|⟨h1,rfl⟩
  ·cases hm
  ·obtain⟨c,hc⟩:=hfree _ h1 rfl;rw[hc];obtain⟨w,z⟩:=I.cell _ _ hc;exact⟨rfl,z.lt⟩
 have mem: ∀{y c},cenv.cells.lookup y=some c->(X.env.cells.lookup y=some c/\c<s.heap.objs.size)∨(s.heap.objs.size+1<=c/\CellAt (pushCells (s.heap.push {cls:=.type "dict",data:=.dict #[]}) scope.names) c none):=fun{y c} e=>by
  rw[hcl] at e;rcases yI (PySem.mem_of_lookup e) with hm|⟨_,h2,h3⟩
  ·exact .inl (cm hm)
  ·rw[Heap.size_push] at h2;exact .inr ⟨h2,h3⟩
 have look: ∀{y},scope.names.lookup y=some .free->∃c,cenv.cells.lookup y=some c/\X.env.cells.lookup y=some c:=fun{y} hl=>by
  have hy:(y,NameKind.free)∈scope.names:=PySem.mem_of_lookup hl;obtain⟨c',e'⟩:=mem_lookup (yr (names:=scope.names) (n:=(s.heap.push {cls:=.type "dict",data:=.dict #[]}).objs.size) (yj (cells:=X.env.cells) (acc:=[]) hy));rw[<-hcl] at e';refine⟨c',e',?_⟩;rw[hcl] at e';rcases yI (PySem.mem_of_lookup e') with hm|⟨h1,_,_⟩
  ·exact(cm hm).1
  ·have:=ok.uniq _ h1;rw[hl] at this;cases this
 have okB:(X.blk s H scope cenv fp).Ok:=by
  refine⟨I.ok.mod,by show cenv.scope.kind=_;rw[hsc];exact ok.kind,by show cenv.globals=_;rw[<-hcenv];exact I.ok.glob,by show cenv.builtins=_;rw[<-hcenv];exact I.ok.blt,by show s.heap.objs.size<=cenv.locals;rw[hL];exact Nat.le_refl _,
   fun y z c e1 e2=> ?_,fun y hy=> ?_,fun y c z e=> ?_,I.ok.hd,I.ok.frames,.inl rfl,fun b hb=>⟨?_,fun y c e z=> ?_⟩,I.bs,Nat.le_trans I.ok.bsz I.sz,fun b o e hb=> ?_,fun b hb z=> ?_,I.stack,I.stkFree⟩
  ·have e1:cenv.cells.lookup y=some c:=e1;have e2:cenv.cells.lookup z=some c:=e2;rw[hcl] at e1 e2;refine jH (fun p hp=> ?_) (fun y z c a b=>I.ok.inj y z c (cm a).1 (cm b).1) (PySem.mem_of_lookup e1) (PySem.mem_of_lookup e2);rw[Heap.size_push];exact Nat.lt_succ_of_lt (cm (y:=p.1) (c:=p.2) hp).2
  ·show ∃c,cenv.cells.lookup y=some c;have key: ∀k,cenv.kindOf y=some k->(k=.cell∨k=.free)->∃c,cenv.cells.lookup y=some c:=fun k hk hk'=>by
    unfold Env.kindOf at hk;rw[hsc] at hk;obtain⟨k',e,r⟩:=ye hk;have:k'=.cell∨k'=.free:=by
     rcases r with rfl|⟨rfl,_⟩
     ·exact hk'
     ·exact .inr rfl
    rcases this with rfl|rfl
    ·obtain⟨c,hm⟩:=jJ (n:=(s.heap.push {cls:=.type "dict",data:=.dict #[]}).objs.size) (acc:=cloFrom X.env.cells scope.names []) (PySem.mem_of_lookup e);obtain⟨c',e'⟩:=mem_lookup hm;exact⟨c',by rw[hcl];exact e'⟩
    ·obtain⟨c,h1,_⟩:=look e;exact⟨c,h1⟩
   rcases hy with hy|hy
   ·exact key _ hy (.inl rfl)
   ·exact key _ hy (.inr rfl)
  ·have z:(scope.names.lookup y==some NameKind.cell)=true:=z;have z:scope.names.lookup y=some .cell:=by simpa using z
   have e:cenv.cells.lookup y=some c:=e;rw[hcl] at e;rcases yI (PySem.mem_of_lookup e) with hm|⟨_,h2,_⟩
   ·rcases Zy hm with hm|⟨h1,_⟩
    ·cases hm
    ·have q:=ok.uniq _ h1;rw[z] at q;cases q
   ·rw[Heap.size_push] at h2;exact Nat.le_of_succ_le h2
  ·show b≠cenv.locals;rw[hL];exact Nat.ne_of_lt (hfp b hb).2
  ·have e:cenv.cells.lookup y=some c:=e;rcases mem e with⟨h1,_⟩|⟨h1,_⟩
   ·exact(hfp b hb).1.2.2.2.2.1 y c h1 z
   ·have h2:s.heap.objs.size+1<=b:=by rw[<-z];exact h1
    exact absurd (Nat.lt_of_lt_of_le (hfp b hb).2 (Nat.le_of_succ_le h2)) (Nat.lt_irrefl _)
  ·rcases(hfp b hb).1.2.2.2.1 with z|z
   ·exact I.ok.noex b o e z
   ·exact absurd (Nat.lt_of_lt_of_le (Heap.lt_size e) (Nat.le_trans I.ok.bsz z)) (Nat.lt_irrefl _)
  ·rcases List.mem_cons.mp (I.stkSub b z) with z|z
   ·exact(hfp b hb).1.2.1 z
   ·exact(hfp b hb).1.2.2.1 z
 refine⟨okB,rfl,I.bare,Un.kept kp,⟨fun _=>none,?_,fun i y av e1 e2 e3=> ?_⟩,fun y c e=> ?_,?_,fun y c e=> ?_,fun p hp=> ?_,I.hok.kept kp,by rw[yR];exact I.len⟩
 ·show Heap.Ns _ cenv.locals _;rw[hL];exact Heap.Ns.keeps (Heap.Ns.new ..) fun b o e=>pushCells_keeps _ _ _ _ e
 ·obtain⟨e2,hne⟩:=Yr e2;have hfr:scope.names.lookup y=some .free/\(cenv.kindOf y=some .cell∨cenv.kindOf y=some .free):=by
   have key: ∀k,cenv.scope.names.lookup y=some k->k=.local∨k=.cell∨k=.free->scope.names.lookup y=some .free/\(cenv.kindOf y=some .cell∨cenv.kindOf y=some .free):=fun k hk hk'=>by
    have hk0:=hk;rw[hsc] at hk;obtain⟨k',e,r⟩:=ye hk;have no: ¬(k'=.local∨k'=.cell):=fun hh=>by
     rcases ok.own _ (PySem.mem_of_lookup e) hh with e'|e'
     ·obtain⟨p,hp,hpy⟩:=List.mem_map.mp e';have e3:=ok.ix p hp;have:p.1=y:=hpy;rw[this] at e3;exact hne (List.mem_map.mpr ⟨p,hp,JT hN e3 e1⟩)
     ·exact e' (List.mem_of_getElem? e1)
    rcases r with rfl|⟨rfl,rfl⟩
    ·rcases hk' with rfl|rfl|rfl
     ·exact absurd (.inl rfl) no
     ·exact absurd (.inr rfl) no
     ·exact⟨e,.inr hk0⟩
    ·exact⟨e,.inl hk0⟩
   have e3:Vis cenv.scope y:=e3;rcases e3 with e3|e3|e3
   ·exact key _ e3 (.inl rfl)
   ·exact key _ e3 (.inr (.inl rfl))
   ·exact key _ e3 (.inr (.inr rfl))
  obtain⟨m,hn,hl⟩:=I.loc;have hvis:Vis X.env.scope y:=(ok.free _ (PySem.mem_of_lookup hfr.1) rfl).elim (fun k=>.inr (.inl k)) (fun k=>.inr (.inr k));obtain⟨w,r,q⟩:=hl i y av e1 e2 hvis;refine⟨w,r,.inr ⟨hfr.2,?_⟩⟩;obtain⟨c,h1,h2⟩:=look hfr.1;rcases q with⟨k,_⟩|⟨_,c',e',z⟩
  ·have k:X.env.scope.names.lookup y=some .local:=k;rcases ok.free _ (PySem.mem_of_lookup hfr.1) rfl with k'|k'<;>rw[show X.env.scope.names.lookup y=_ from k'] at k<;>cases k
  ·rw[h2] at e';cases e';exact⟨c,h1,z.keeps kp⟩
 ·have e:cenv.cells.lookup y=some c:=e;rcases mem e with⟨h1,_⟩|⟨_,z⟩
  ·obtain⟨w,z⟩:=I.cell y c h1;exact⟨w,z.keeps kp⟩
  ·exact⟨_,z⟩
 ·show H cenv.locals=none;rw[hL];exact I.hok.fresh (Nat.le_refl _)
 ·have e:cenv.cells.lookup y=some c:=e;rcases mem e with⟨h1,_⟩|⟨h1,_⟩
  ·exact I.freeC y c h1
  ·exact I.hok.fresh (Nat.le_of_succ_le h1)
 ·exact absurd (show p∈([]:List (Addr×Obj))++[] from hp) (by simp)
theorem app_ok{E:Value->Shared->Prop}{D:Addr}{xs:List V}{y:V}{v:Value}{Q:Value->Shared->Prop}(I:Inv X pins σ H s)(hD:H D=some (.lst xs))(hz:xs.length<sizeLine)(r:RelV y v)
  (h: ∀s',Inv X pins σ (upd H D (.lst (xs++[y]))) s'->Q .none s'):wpAny (model X.prog X.w) X.A (call (.builtin "list.append") [.ref D,v]) Q E s:=by
 obtain⟨hz',its,n,ri,e⟩:=I.hok D _ hD;have hl:=ri.length;refine append_at (hsz:=by rw[List.size_toArray];omega) e fun h' sb ho'=> ?_;refine h {s with heap:=h'} (I.write (t':=s.toks) (by rw[hD];trivial) (.inl rfl) (fun b u hb q=>(sb.2 b hb).trans q) ⟨_,ho'⟩ ⟨by rw[List.length_append];exact hz,its++[v],n+1,ri.append (.cons r .nil),?_⟩);rw[ho'];simp
def PTs(X:Cx)(ifs:List Expr)(t:TT):Prop:=
 ∀(pins:List (Addr×Obj)) (s:Shared) (σ:St) (H:Hp) (Q:Bool->Hp->Prop),Inv X pins σ H s->t σ H Q->
  wpAny (model X.prog X.w) X.A (forIn ifs true fun c r=>if r=true then do let ok <-isTrue c X.env (eval c X.env);pure (ForInStep.yield ok) else pure (ForInStep.yield r)) (TP X pins σ Q) X.xe s
def tYes:TT:=fun _ H Q=>Q true H
theorem zx:PTs X [] tYes:=fun _ _ _ H _ I h=>wpAny_tests_nil ⟨H,I,h⟩
theorem jh{c:Expr}{t:TT}(h:PT X c t):PTs X [c] t:=fun pins s σ H Q I hw=>wpAny_tests_one (h pins s σ H Q I hw)
end
theorem thnF{α:Type}{t:Sem α}{Q Q':α->Shared->Prop}{M:Model}{A:Around}{E:Value->Shared->Prop}{s:Shared}(h:wpAny M A t Q (fun _ _=>False) s)(hQ: ∀a s,Q a s->Q' a s):wpAny M A t Q' E s:=wpAny_mono h hQ fun _ _ z=>False.elim z
theorem compLoop_any{prog:Program}{w:World}{A:Around}{R:Result->Shared->Prop}{s:Shared}{elt target iter:Expr}{ifs:List Expr}{scope:Scope}{pos:Pos}{it acc:Value}{env:Env}(I:Nat->Shared->Prop)
  (turn: ∀n s,I n s->wpAny (model prog w) A (pyNext it) (fun r s₁=>match r with
   |none=>R (.ok .next) s₁
   |some v=>wpAny (model prog w) A (letOwnedTupleGo target it v) (fun _ s₁'=>wpAny (model prog w) A (assign target env v) (fun _ s₂=>
     wpAny (model prog w) A (forIn ifs true fun c r=>if r=true then do let ok <-isTrue c env (eval c env);pure (ForInStep.yield ok) else pure (ForInStep.yield r)) (fun ok s₃=>
      if ok=true then wpAny (model prog w) A (eval elt env) (fun x s₄=>
       wpAny (model prog w) A (call (.builtin "list.append") [acc,x]) (fun _ s₅=>∃m,m<n/\I m s₅) (notedBy (model prog w) A env fun e s'=>R (.error e) s') s₄) (notedBy (model prog w) A env fun e s'=>R (.error e) s') s₃
      else ∃m,m<n/\I m s₃) (notedBy (model prog w) A env fun e s'=>R (.error e) s') s₂) (notedBy (model prog w) A env fun e s'=>R (.error e) s') s₁') (notedBy (model prog w) A env fun e s'=>R (.error e) s') s₁) (notedBy (model prog w) A env fun e s'=>R (.error e) s') s)
  (n:Nat)(h:I n s):
  codeAny (model prog w) A (.compLoop (.ListComp elt [⟨target,iter,ifs,0⟩] scope pos) 0 it acc env) R s:=by
 refine codeAny_loop rfl I (fun n s hI=> ?_) n h;show wpAny _ A ((compTurn (.ListComp elt [⟨target,iter,ifs,0⟩] scope pos) 0 it acc env).onRaise (fun x=>do noteFrame x env;theTreesLotGoes x)) _ _ s;refine wpAny_noted ?_;rw[compTurn_list];refine wpAny_bind (wpAny_standAt (wpAny_bind (wpAny_mono (turn n s hI) (fun r s₁ h₁=> ?_) fun _ _ h'=>h')));cases r with
 |none=>exact wpAny_pure h₁
 |some v=>
  refine wpAny_bind (wpAny_mono h₁ (fun _ s₁' h₁'=> ?_) fun _ _ h'=>h');refine wpAny_bind (wpAny_mono h₁' (fun _ s₂ h₂=>wpAny_bind (wpAny_mono h₂ (fun ok s₃ h₃=> ?_) fun _ _ h'=>h')) fun _ _ h'=>h');cases ok with
  |false=>exact wpAny_pure ⟨rfl,h₃⟩
  |true=>
   exact wpAny_bind (wpAny_bind (wpAny_mono h₃ (fun x s₄ h₄=>wpAny_bind (wpAny_mono h₄ (fun _ s₅ h₅=>wpAny_pure (wpAny_pure ⟨rfl,h₅⟩)) fun _ _ h'=>h')) fun _ _ h'=>h'))
section
variable {X:Cx}
def tLc(wi:TI)(g:TG)(tt:TT)(te:TE)(vs:List Nat):TE:=fun σ H Q=>wi σ H fun J H1=>∀D,H1 D=none->∃W:Nat->Nat->Hp->Prop,(∃m,W 0 m (upd H1 D (.lst [])))/\∀i m H,W i m H->
 (J.stop i H/\Q (.ref D) H)∨(J.go i H/\∃Nx:Hp->Prop,(∀H',Nx H'->∃m',m'<m/\W (i+1) m' H')/\∀x H',J.yld i H x H'->g x (wipe σ vs) H' fun σ2 H2=>wipe σ2 vs=wipe σ vs/\tt σ2 H2 fun b H3=>
  if b=true then te σ2 H3 fun y H4=>∃acc,H4 D=some (.lst acc)/\acc.length<sizeLine/\Nx (upd H4 D (.lst (acc++[y]))) else Nx H3)
theorem lc_core{pins:List (Addr×Obj)}{s:Shared}{σ:St}{H:Hp}{Q:VK}{elt tg iter:Expr}{ifs:List Expr}{scope:Scope}{own:List (Str×Nat)}{pos pos':Pos}{wi:TI}{g:TG}{tt:TT}{te:TE}{use:Option (Value->Sem Unit)}{Qf:Value->Shared->Prop}
  (hc:X.calm=true)(hN:X.N.Nodup)(I:Inv X pins σ H s)(hi:PI X tg iter wi)(ok:BlkOk X.N X.env.scope scope own)
  (hg: ∀(s:Shared) (H:Hp) (C:Addr) (cl:List (Str×Addr)) (fp:List Addr),PG (X.blk s H scope (compEnvC scope cl C X.env) fp) tg g)(ht: ∀(s:Shared) (H:Hp) (C:Addr) (cl:List (Str×Addr)) (fp:List Addr),PTs (X.blk s H scope (compEnvC scope cl C X.env) fp) ifs tt)
  (he: ∀(s:Shared) (H:Hp) (C:Addr) (cl:List (Str×Addr)) (fp:List Addr),PE (X.blk s H scope (compEnvC scope cl C X.env) fp) elt te)(hs: ∀x,foldedSetIterable iter X.env x=pure x)
  (h:tLc wi g tt te (own.map (·.2)) σ H Q)
  (hRR: ∀D C s' m H',Inv X pins σ H' s'->Q (.ref D) H'->s'.heap.Ns C m->FpOk X pins H' C->compPost (model X.prog X.w) X.A X.xe use Qf (.ref D) C (.ok .next) s'):
  wpAny (model X.prog X.w) X.A (comprehension (.ListComp elt [⟨tg,iter,ifs,0⟩] scope pos) scope X.env pos' (newList []) false (eval iter X.env) use) Qf X.xe s:=by
 have hfree: ∀y∈scope.names,y.2=.free->∃c,X.env.cells.lookup y.1=some c:=fun y hy e=>by
  rcases ok.free y hy e with k|k
  ·exact I.ok.has _ (.inl k)
  ·exact I.ok.has _ (.inr k)
 refine wpAny_comprehension_free (use:=use) rfl hs (closure_ok hfree) ok.kind (fun y hy e=>by rw[ok.uniq y hy,e])
  (thn (hi pins s σ H _ I h) fun xv s1 hx=>thn hx fun itv s2 h2=> ?_)
 obtain⟨it,fp,tn,J,H2,e,I2,T,st2,f2,q⟩:=h2;subst e;refine wpAny_newObj_type (newEnv_comp ?_) (by show 0<=sizeLine;decide);generalize hD:s2.heap.objs.size=D;have hDn:H2 D=none:=I2.hok.fresh (Nat.le_of_eq hD);obtain⟨W,⟨m0,w0⟩,turn⟩:=q D hDn;generalize hs3:({s2 with heap:=s2.heap.push {cls:=.type "list",data:=.seq ([]:List Value).toArray}}:Shared)=s3;have I3:Inv X pins σ (upd H2 D (.lst [])) s3:=by
  rw[<-hs3];refine I2.laid (t':=s2.toks) (fun b o e=>Heap.get?_push_of_some _ e) (Nat.le_of_eq hD) ⟨Nat.zero_le _,[],0,.nil,?_⟩;rw[<-hD];exact Heap.get?_push_size _ rfl
 have h3:s3.heap=s2.heap.push {cls:=.type "list",data:=.seq ([]:List Value).toArray}:=by rw[<-hs3]
 have sz: ∀b∈fp,b<s2.heap.objs.size:=fun b hb=>by
  obtain⟨o,e,_⟩:=T.obj _ _ st2 b hb;exact Heap.lt_size e
 have f3: ∀b∈fp,FpOk X pins (upd H2 D (.lst [])) b/\b<s3.heap.objs.size:=fun b hb=>by
  have hlt:=sz b hb;refine⟨⟨?_,(f2 b hb).2⟩,by rw[h3,Heap.size_push];exact Nat.lt_succ_of_lt hlt⟩;rw[zH (by rw[<-hD];exact Nat.ne_of_lt hlt)];exact(f2 b hb).1
 have st3:tn 0 s3.heap:=T.keep _ _ _ st2 fun b _ o e=>by rw[h3];exact Heap.get?_push_of_some _ e
 have I4:=block_start I3 ok hN f3;have pg:=hg s3 (upd H2 D (.lst [])) s3.heap.objs.size (cellsFrom (s3.heap.objs.size+1) scope.names (cloFrom X.env.cells scope.names [])) fp;have pt:=ht s3 (upd H2 D (.lst [])) s3.heap.objs.size (cellsFrom (s3.heap.objs.size+1) scope.names (cloFrom X.env.cells scope.names [])) fp;have pe:=he s3 (upd H2 D (.lst [])) s3.heap.objs.size (cellsFrom (s3.heap.objs.size+1) scope.names (cloFrom X.env.cells scope.names [])) fp;show codeAny _ _ (.compStart (.ListComp elt [⟨tg,iter,ifs,0⟩] scope pos) 0 (.ref it) (.ref D) (compEnvC scope (cellsFrom (s3.heap.objs.size+1) scope.names (cloFrom X.env.cells scope.names [])) s3.heap.objs.size X.env)) (compPost (model X.prog X.w) X.A X.xe use Qf (.ref D) s3.heap.objs.size) {s3 with heap:=pushCells (s3.heap.push {cls:=.type "dict",data:=.dict #[]}) scope.names};have nfp: ∀b∈fp,(upd H2 D (.lst [])) b=none:=fun b hb=>(f3 b hb).1.1;generalize hce:compEnvC scope (cellsFrom (s3.heap.objs.size+1) scope.names (cloFrom X.env.cells scope.names [])) s3.heap.objs.size X.env=ce at I4 pg pt pe ⊢;have cL:ce.locals=s3.heap.objs.size:=by subst hce;rfl
 generalize hH3:upd H2 D (.lst [])=H3 at I3 I4 pg pt pe w0 nfp f3;generalize hs4:({s3 with heap:=pushCells (s3.heap.push {cls:=.type "dict",data:=.dict #[]}) scope.names}:Shared)=s4 at I4 ⊢;have st4:tn 0 s4.heap:=T.keep _ _ _ st3 fun b _ o e=>by rw[<-hs4];exact pushCells_keeps _ _ _ _ (Heap.get?_push_of_some _ e)
 have stat: ∀{σ':St} {H':Hp} {s':Shared},Inv (X.blk s3 H3 scope ce fp) [] σ' H' s'->(∀b∈fp,H' b=none)->∀b∈fp,FpOk (X.blk s3 H3 scope ce fp) [] H' b:=fun{σ' H' s'} I' hn b hb=>
  ⟨hn b hb,(I'.ok.exf b hb).1,I'.ok.exfs b hb,.inl hb,fun x c e=>(I'.ok.exf b hb).2 x c e,fun p hp=>absurd (show p∈([]:List (Addr×Obj))++[] from hp) (by simp)⟩
 have loop:codeAny (model X.prog X.w) X.A (.compLoop (.ListComp elt [⟨tg,iter,ifs,0⟩] scope pos) 0 (.ref it) (.ref D) ce) (compPost (model X.prog X.w) X.A X.xe use Qf (.ref D) s3.heap.objs.size) s4:=by
  refine compLoop_any (fun n s'=>∃i H',Inv (X.blk s3 H3 scope ce fp) [] (wipe σ (own.map (·.2))) H' s'/\tn i s'.heap/\(∀b∈fp,H' b=none)/\W i n H') ?_ m0 ⟨0,H3,I4,st4,nfp,w0⟩;rintro n s5 ⟨i,H5,I5,st5,n5,w5⟩;rcases turn i n H5 w5 with⟨stop,qq⟩|⟨go,Nx,hNx,step⟩
  ·have td:=T.done (X.blk s3 H3 scope ce fp) rfl rfl rfl hc i [] s5 _ H5 (fun _ _=>False) I5 (stat I5 n5) st5 stop;refine thnF td fun r s6 ⟨hr,I6⟩=> ?_;subst hr;have I7:Inv X pins σ H5 s6:=I3.call' (ch:=fp) I6.os I6.base I6.hok I6.bare fun b hb=>⟨(f3 b hb).1.2.2.2.1,(f3 b hb).1.2.1,(f3 b hb).1.2.2.2.2.1,(f3 b hb).1.2.2.2.2.2⟩;have nC:H5 s3.heap.objs.size=none:=by
    have z:H5 ce.locals=none:=I6.free;rw[cL] at z;exact z
   obtain⟨m,hn,_⟩:=I6.loc;have hn:s6.heap.Ns ce.locals m:=hn;rw[cL] at hn;exact hRR D s3.heap.objs.size s6 m H5 I7 qq hn (I3.fpOk (Nat.le_refl _) nC)
  ·have ti:=T.item (X.blk s3 H3 scope ce fp) rfl rfl rfl hc i [] s5 _ H5 (fun _ _=>False) I5 (stat I5 n5) st5 go;refine thnF ti fun r s6 ⟨u,hr,h6⟩=> ?_;subst hr;refine thnF h6 fun _ s7 ⟨x,H7,I7,r7,y7,st7,n7⟩=> ?_;have I7':=I7.pinned (stat I7 n7) (T.obj _ _ st7);refine thnF (pg _ s7 _ H7 x u _ I7' r7 (step x H7 y7)) fun _ s8 ⟨σ8,H8,I8,hw8,q8⟩=> ?_;refine thnF (pt _ s8 σ8 H8 _ I8 q8) fun b s9 ⟨H9,I9,q9⟩=> ?_;have fin: ∀{s':Shared} {H':Hp},Inv (X.blk s3 H3 scope ce fp) ([]++pinsAt fp s7.heap) σ8 H' s'->Nx H'->∃m,m<n/\∃i H',Inv (X.blk s3 H3 scope ce fp) [] (wipe σ (own.map (·.2))) H' s'/\tn i s'.heap/\(∀b∈fp,H' b=none)/\W i m H':=fun{s' H'} I' nx=>by
    obtain⟨m',hm,w'⟩:=hNx H' nx;have pin': ∀b∈fp,∀o,s7.heap.get? b=some o->s'.heap.get? b=some o/\H' b=none:=fun b hb o e=>
     let z:=I'.pin (b,o) (List.mem_append_right _ (List.mem_append_right _ (YF hb e)))
     ⟨z.1,z.2.1⟩
    have hl:(wipe σ (own.map (·.2))).length=σ8.length:=by rw[<-hw8,yR]
    refine⟨m',hm,i+1,H',(I'.unpinned (pins:=[])).weak hl (fun j v e=> ?_),T.keep _ _ _ st7 fun b hb o e=>(pin' b hb o e).1,fun b hb=> ?_,w'⟩
    ·rw[<-hw8] at e;exact(Yr e).1
    ·obtain⟨o,e,_⟩:=T.obj _ _ st7 b hb;exact(pin' b hb o e).2
   cases b with
   |false=>
    simp only[Bool.false_eq_true,if_false] at q9 ⊢;exact fin I9 q9
   |true=>
    simp only[if_true] at q9 ⊢;refine thnF (pe _ s9 σ8 H9 _ I9 q9) fun z s10 ⟨yv,H10,I10,r10,acc,hD10,hz10,nx⟩=> ?_;exact app_ok (X:=X.blk s3 H3 scope ce fp) I10 hD10 hz10 r10 fun s11 I11=>fin I11 nx
 exact codeAny_compStart_list loop (T.self X.A 0 _ _ _ st4 loop)
theorem Zd{elt tg iter:Expr}{ifs:List Expr}{scope:Scope}{own:List (Str×Nat)}{pos:Pos}{wi:TI}{g:TG}{tt:TT}{te:TE}(hc:X.calm=true)(hN:X.N.Nodup)(hi:PI X tg iter wi)(ok:BlkOk X.N X.env.scope scope own)
  (hg: ∀(s:Shared) (H:Hp) (C:Addr) (cl:List (Str×Addr)) (fp:List Addr),PG (X.blk s H scope (compEnvC scope cl C X.env) fp) tg g)(ht: ∀(s:Shared) (H:Hp) (C:Addr) (cl:List (Str×Addr)) (fp:List Addr),PTs (X.blk s H scope (compEnvC scope cl C X.env) fp) ifs tt)
  (he: ∀(s:Shared) (H:Hp) (C:Addr) (cl:List (Str×Addr)) (fp:List Addr),PE (X.blk s H scope (compEnvC scope cl C X.env) fp) elt te)(hs: ∀x,foldedSetIterable iter X.env x=pure x:=by intro _;rfl):
  PE X (.ListComp elt [⟨tg,iter,ifs,0⟩] scope pos) (tLc wi g tt te (own.map (·.2))):=by
 intro pins s σ H Q I h;rw[eval_ListComp];refine lc_core hc hN I hi ok hg ht he hs h fun D C s' m H' I' q hn f=>⟨m,hn,fun h'' sb=> ?_⟩;obtain⟨f0,f1,f2,f3,f4,f5⟩:=f;exact⟨.ref D,H',I'.turned (t':=s'.toks) (fun b o hb e=>(sb.2 b hb).trans e) f0 f1 f3 f4 f5,rfl,q⟩
theorem yE{i:Nat}{y:Str}{py:Pos}{elt tg iter:Expr}{ifs:List Expr}{scope:Scope}{own:List (Str×Nat)}{pos spos:Pos}{wi:TI}{g:TG}{tt:TT}{te:TE}(hc:X.calm=true)(hN:X.N.Nodup)(hy:X.N[i]? =some y)(hyl:X.env.scope.names.lookup y=some .local)
  (hsw:swapsWith (.ListComp elt [⟨tg,iter,ifs,0⟩] scope pos) (some (.Name y py)) spos.line X.env=pure true)(hi:PI X tg iter wi)(ok:BlkOk X.N X.env.scope scope own)
  (hg: ∀(s:Shared) (H:Hp) (C:Addr) (cl:List (Str×Addr)) (fp:List Addr),PG (X.blk s H scope (compEnvC scope cl C X.env) fp) tg g)(ht: ∀(s:Shared) (H:Hp) (C:Addr) (cl:List (Str×Addr)) (fp:List Addr),PTs (X.blk s H scope (compEnvC scope cl C X.env) fp) ifs tt)
  (he: ∀(s:Shared) (H:Hp) (C:Addr) (cl:List (Str×Addr)) (fp:List Addr),PE (X.blk s H scope (compEnvC scope cl C X.env) fp) elt te)(hs: ∀x,foldedSetIterable iter X.env x=pure x:=by intro _;rfl):
  PS X (.Assign [.Name y py] (.ListComp elt [⟨tg,iter,ifs,0⟩] scope pos) spos) (tAsg (tLc wi g tt te (own.map (·.2))) (gName i)):=by
 intro pins s σ H D I h;rw[exec_Assign_Name_used _ _ _ _ hsw];refine wpAny_bind (wpAny_standAt (wpAny_bind ?_));show wpAny _ X.A (do let _ <-comprehension (.ListComp elt [⟨tg,iter,ifs,0⟩] scope pos) scope X.env (firstIterPos [⟨tg,iter,ifs,0⟩] pos) (newList []) false (eval iter X.env) (some (assign (.Name y py) X.env))) _ _ s;have h:tLc wi g tt te (own.map (·.2)) σ H (fun x H1=>gName i x σ H1 D.nx):=h;refine wpAny_bind (thn (lc_core (Qf:=fun _ s'=>SP X pins D .next s') hc hN I hi ok hg ht he hs h fun L C s' m H' I' q hn f=> ?_) fun _ s' hq=>wpAny_pure (wpAny_pure hq));show wpAny _ _ (assign (.Name y py) X.env (.ref L)) _ _ _;refine wpAny_assign_Name (Jt (v:=V.ref L) I' hN hy (.inl hyl) rfl (fun s2 I2 ⟨a,sb,ha⟩=> ?_) (.inr hyl));obtain⟨f0,f1,f2,f3,f4,f5⟩:=f;have haC:C≠a:=by
  rcases ha with z|z
  ·rw[z];exact f1
  ·exact fun e=>f4 y a z e.symm
 refine⟨m,hn.sameBut sb haC,fun h3 sb3=> ?_⟩;exact⟨_,H',I2.turned (t':=s2.toks) (fun b o hb e=>(sb3.2 b hb).trans e) f0 f1 f3 f4 f5,q⟩
theorem yo{elt:Expr}{gs:List Comprehension}{scope:Scope}{pos py:Pos}{y:Str}{l:Nat}{env:Env}(hk:env.scope.kind=.function)(hy:env.scope.names.lookup y=some .local)(hl:(py.line==pos.line)=true)
  (ha:(scope.names.any fun(n,k)=>n==y&&(k== .local||k== .cell))=false):swapsWith (.ListComp elt gs scope pos) (some (.Name y py)) l env=pure true:=by
 have ky:env.kindOf y=some .local:=hy;have hb:env.blockKind=.function:=by unfold Env.blockKind;rw[hk];rfl
 unfold swapsWith;simp only[hb,ky,ha,Expr.pos,hl];rfl
end
def blkC(N:List Str)(sc scope:Scope)(own:List (Str×Nat)):Bool:=
 (match scope.kind with|.function=>true|_=>false)&&(scope.names.all fun y=>decide (scope.names.lookup y.1=some y.2))&&(own.all fun p=>decide (N[p.2]? =some p.1))&&
  (scope.names.all fun y=>match y.2 with
   |.free=>(match sc.names.lookup y.1 with|some .cell=>true|some .free=>true|_=>false)
   |.local=>decide (y.1∈own.map (·.1))||decide (y.1∉N)
   |.cell=>decide (y.1∈own.map (·.1))||decide (y.1∉N)
   |_=>true)
theorem za{N:List Str}{sc scope:Scope}{own:List (Str×Nat)}(h:blkC N sc scope own=true):BlkOk N sc scope own:=by
 unfold blkC at h;simp only[Bool.and_eq_true,List.all_eq_true,decide_eq_true_eq] at h;obtain⟨⟨⟨h1,h2⟩,h3⟩,h4⟩:=h;refine⟨?_,h2,h3,fun y hy e=> ?_,fun y hy e=> ?_⟩
 ·split at h1
  ·assumption
  ·cases h1
 ·have q:=h4 y hy;simp only[e] at q;split at q<;>first|exact .inl (by assumption)|exact .inr (by assumption)|cases q
 ·have q:=h4 y hy;rcases e with e|e<;>(simp only[e,Bool.or_eq_true,decide_eq_true_eq] at q;exact q)
section
variable {prog:Program}{w:World}{A:Around}{R:Result->Shared->Prop}{s:Shared}{elt t0 i0 t1 i1:Expr}{ifs0 ifs1:List Expr}{scope:Scope}{pos:Pos}{it acc:Value}{env:Env}
end
section
variable {X:Cx}
end
section
variable {κ:Type}[DecidableEq κ]
def valV(kvs:List (κ×V))(k:κ):Option V:=(kvs.find? fun kv=>decide (kv.1=k)).map (·.2)
def putK(kvs:List (κ×V))(k:κ)(v:V):List (κ×V):=
 if(kvs.any fun kv=>decide (kv.1=k))=true then kvs.map (fun kv=>if kv.1=k then(kv.1,v) else kv) else kvs++[(k,v)]
theorem YM{p:κ×V}{r:List (κ×V)}{k:κ}(e:p.1=k):valV (p::r) k=some p.2:=by simp[valV,List.find?_cons,e]
theorem YQ{p:κ×V}{r:List (κ×V)}{k:κ}(e: ¬p.1=k):valV (p::r) k=valV r k:=by simp[valV,List.find?_cons,e]
theorem jx(k:κ): ∀kvs:List (κ×V),(kvs.any fun kv=>decide (kv.1=k))=(valV kvs k).isSome
 |[]=>rfl
 |p::r=>by
  rw[List.any_cons];by_cases e:p.1=k
  ·simp only[YM e,decide_eq_true e,Bool.true_or,Option.isSome_some]
  ·rw[YQ e,decide_eq_false e,Bool.false_or];exact jx k r
theorem yf(kvs:List (κ×V))(k:κ)(v:V):(putK kvs k v).length<=kvs.length+1:=by
 unfold putK;split
 ·rw[List.length_map];omega
 ·rw[List.length_append,List.length_cons,List.length_nil];omega
theorem RelO.yG{o:Option V}{u:Option Value}(r:RelO o u):o.isSome=u.isSome:=by
 cases o with
 |none=>cases u with
  |none=>rfl
  |some _=>exact(show False from r).elim
 |some _=>cases u with
  |none=>exact(show False from r).elim
  |some _=>rfl
theorem KV.val{kvs:List (κ×V)}{vs:List (κ×Value)}(r:KV kvs vs)(k:κ):RelO (valV kvs k) (valueAt vs k):=by
 unfold KV at r;induction r with
 |nil=>exact True.intro
 | @cons p q ps qs h t ih=>
  obtain⟨h1,h2⟩:=h;by_cases e:p.1=k
  ·have e':q.1=k:=h1.symm.trans e;have b:valueAt (q::qs) k=some q.2:=by simp[valueAt,List.find?_cons,e']
   rw[YM e,b];exact h2
  ·have e': ¬q.1=k:=fun z=>e (h1.trans z);have b:valueAt (q::qs) k=valueAt qs k:=by simp[valueAt,List.find?_cons,e']
   rw[YQ e,b];exact ih
theorem KV.any{kvs:List (κ×V)}{vs:List (κ×Value)}(r:KV kvs vs)(k:κ):(kvs.any fun kv=>decide (kv.1=k))=vs.any fun kv=>decide (kv.1=k):=by
 unfold KV at r;induction r with
 |nil=>rfl
 |cons h t ih=>rw[List.any_cons,List.any_cons,ih,h.1]
theorem KV.repl{kvs:List (κ×V)}{vs:List (κ×Value)}(r:KV kvs vs)(k:κ){y:V}{u:Value}(ry:RelV y u):
  KV (kvs.map fun kv=>if kv.1=k then(kv.1,y) else kv) (vs.map fun kv=>if kv.1=k then(kv.1,u) else kv):=by
 unfold KV at r ⊢;induction r with
 |nil=>exact .nil
 | @cons p q ps qs h t ih=>
  rw[List.map_cons,List.map_cons];refine .cons ?_ ih;obtain⟨h1,h2⟩:=h;by_cases e:p.1=k
  ·rw[if_pos e,if_pos (h1.symm.trans e)];exact⟨h1,ry⟩
  ·rw[if_neg e,if_neg (fun z=>e (h1.trans z))];exact⟨h1,h2⟩
theorem KV.put{kvs:List (κ×V)}{vs:List (κ×Value)}(r:KV kvs vs)(k:κ){y:V}{u:Value}(ry:RelV y u):KV (putK kvs k y) (stored vs k u):=by
 unfold putK stored;rw[r.any k];by_cases e:(vs.any fun kv=>decide (kv.1=k))=true
 ·rw[if_pos e,if_pos e];exact r.repl k ry
 ·rw[if_neg e,if_neg e];exact Paired.snoc r ⟨rfl,ry⟩
theorem KV.length{kvs:List (κ×V)}{vs:List (κ×Value)}(r:KV kvs vs):kvs.length=vs.length:=Paired.length r
end
theorem vJ{P:Program}{w:World}{k:Key}{u:Value}(r:RelV (kV k) u):(mixKind P w).is k u=true:=by
 cases k with
 |inl i=>obtain⟨t,e⟩:=(show ∃t,u=Value.int i t from r);subst e;exact mixKind_int P w i t
 |inr x=>obtain⟨t,e⟩:=(show ∃t,u=Value.str x t from r);subst e;exact mixKind_str P w x t
theorem vL{P:Program}{w:World}: ∀{ks:List Key} {us:List Value},Vals (ks.map kV) us->ItemsAre (mixKind P w) ks us
 |[],_,r=>by rw[List.map_nil] at r;cases r;exact .nil
 |k::ks,_,r=>by
  rw[List.map_cons] at r;cases r with
  |cons h t=>exact .cons (vJ h) (vL t)
abbrev KT(H:Hp):List (List Key×V)->List (List Key×Addr×Value)->Prop:=Paired fun p q=>p.1=q.1/\H q.2.1=some (.tup (p.1.map kV))/\RelV p.2 q.2.2
theorem KT.val{H:Hp}{kvs:List (List Key×V)}{xs:List (List Key×Addr×Value)}(r:KT H kvs xs)(k:List Key):RelO (valV kvs k) ((atKey xs k).map (·.2)):=by
 induction r with
 |nil=>exact True.intro
 | @cons p q ps qs h t ih=>
  obtain⟨h1,_,h2⟩:=h;by_cases e:p.1=k
  ·have e':q.1=k:=h1.symm.trans e;have b:atKey (q::qs) k=some q.2:=by simp[atKey,List.find?_cons,e']
   rw[YM e,b];exact h2
  ·have e': ¬q.1=k:=fun z=>e (h1.trans z);have b:atKey (q::qs) k=atKey qs k:=by simp[atKey,List.find?_cons,e']
   rw[YQ e,b];exact ih
theorem KT.repl{H:Hp}{kvs:List (List Key×V)}{xs:List (List Key×Addr×Value)}(r:KT H kvs xs)(k:List Key){y:V}{u:Value}(ry:RelV y u):
  KT H (kvs.map fun kv=>if kv.1=k then(kv.1,y) else kv) (xs.map (putAt k u)):=by
 induction r with
 |nil=>exact .nil
 | @cons p q ps qs h t ih=>
  rw[List.map_cons,List.map_cons];refine .cons ?_ ih;obtain⟨h1,h2,h3⟩:=h;unfold putAt;by_cases e:p.1=k
  ·rw[if_pos e,if_pos (h1.symm.trans e)];exact⟨h1,h2,ry⟩
  ·rw[if_neg e,if_neg (fun z=>e (h1.trans z))];exact⟨h1,h2,h3⟩
theorem KT.put{H:Hp}{kvs:List (List Key×V)}{xs:List (List Key×Addr×Value)}(r:KT H kvs xs)(k:List Key){b:Addr}{y:V}{u:Value}(hb:H b=some (.tup (k.map kV)))(ry:RelV y u):
  KT H (putK kvs k y) (storedH xs k b u):=by
 have e:(kvs.any fun kv=>decide (kv.1=k))=(atKey xs k).isSome:=by
  rw[jx,(r.val k).yG,Option.isSome_map]
 unfold putK storedH;rw[e];by_cases q:(atKey xs k).isSome=true
 ·rw[if_pos q,if_pos q];exact r.repl k ry
 ·rw[if_neg q,if_neg q];exact Paired.snoc r ⟨rfl,hb,ry⟩
theorem KT.keeps{H H':Hp}{kvs:List (List Key×V)}{xs:List (List Key×Addr×Value)}(r:KT H kvs xs)(ht: ∀b ys,H b=some (.tup ys)->H' b=some (.tup ys)):KT H' kvs xs:=
 Paired.mapP r fun _ _ z=>⟨z.1,ht _ _ z.2.1,z.2.2⟩
section
variable {P:Program}{w:World}{H:Hp}{h:Heap}{a:Addr}
theorem rd_of{u:HO}(ok:HOk P w H h)(e:Rd H a u):ObjOk P w H h a u:=e.ok ok
theorem dk_rd{kvs:List (Key×V)}(ok:HOk P w H h)(e:Rd H a (.dK kvs)):kvs.length<=sizeLine/\(a==sysModules)=false/\∃vs,KV kvs vs/\h.DictOf (mixKind P w) a vs:=
 show ObjOk P w H h a (.dK kvs) from rd_of ok e
theorem dk_of{kvs:List (Key×V)}(ok:HOk P w H h)(e:H a=some (.dK kvs)):kvs.length<=sizeLine/\(a==sysModules)=false/\∃vs,KV kvs vs/\h.DictOf (mixKind P w) a vs:=dk_rd ok (.inl e)
theorem jC{ks:List Key}(ok:HOk P w H h)(e:H a=some (.tup (ks.map kV))):(tupleKind (mixKind P w)).is h ks a:=by
 obtain⟨_,its,r,o,h1,h2,n,h3⟩:=(show ObjOk P w H h a (.tup (ks.map kV)) from ok a _ e);exact⟨o,its.toArray,n,h1,h2,h3,by simpa using vL r⟩
theorem dt_rd{kvs:List (List Key×V)}(ok:HOk P w H h)(e:Rd H a (.dT kvs)):kvs.length<=sizeLine/\(a==sysModules)=false/\
  ∃xs,KT H kvs xs/\h.DictOfH (tupleKind (mixKind P w)) a xs:=by
 obtain⟨z,y,xs,r,o,es,ep,h1,h2,h3,h4,h5⟩:=(show ObjOk P w H h a (.dT kvs) from rd_of ok e);refine⟨z,y,xs,r,o,es,ep,h1,h2,h3,h4,fun x hx=> ?_,h5⟩;have all: ∀{l:List (List Key×V)} {m:List (List Key×Addr×Value)},KT H l m->∀x∈m,(tupleKind (mixKind P w)).is h x.1 x.2.1:=by
  intro l m q;induction q with
  |nil=>intro x hx;exact nomatch hx
  | @cons p q ps qs hq t ih=>
   intro x hx;rcases List.mem_cons.mp hx with e|hx
   ·subst e;exact jC ok (by rw[<-hq.1];exact hq.2.1)
   ·exact ih x hx
 exact all r x hx
theorem dt_of{kvs:List (List Key×V)}(ok:HOk P w H h)(e:H a=some (.dT kvs)):kvs.length<=sizeLine/\(a==sysModules)=false/\
  ∃xs,KT H kvs xs/\h.DictOfH (tupleKind (mixKind P w)) a xs:=dt_rd ok (.inl e)
end
def DGet(H:Hp)(a:Addr)(y:V)(r:Option V):Prop:=
 (∃kvs k,Rd H a (.dK kvs)/\y=kV k/\r=valV kvs k)∨∃kvs k b,Rd H a (.dT kvs)/\y=.ref b/\H b=some (.tup (k.map kV))/\r=valV kvs k
def DPut(H:Hp)(a:Addr)(y v:V)(H':Hp):Prop:=
 (∃kvs k,H a=some (.dK kvs)/\y=kV k/\kvs.length<sizeLine/\H'=upd H a (.dK (putK kvs k v)))∨
 ∃kvs k b,H a=some (.dT kvs)/\y=.ref b/\H b=some (.tup (k.map kV))/\kvs.length<sizeLine/\H'=upd H a (.dT (putK kvs k v))
theorem DGet.k{H:Hp}{a:Addr}{kvs:List (Key×V)}{k:Key}(e:H a=some (.dK kvs)):DGet H a (kV k) (valV kvs k):=.inl ⟨kvs,k,.inl e,rfl,rfl⟩
theorem DGet.t{H:Hp}{a b:Addr}{kvs:List (List Key×V)}{k:List Key}(e:H a=some (.dT kvs))(eb:H b=some (.tup (k.map kV))):DGet H a (.ref b) (valV kvs k):=.inr ⟨kvs,k,b,.inl e,rfl,eb,rfl⟩
theorem DPut.k{H:Hp}{a:Addr}{kvs:List (Key×V)}{k:Key}{v:V}(e:H a=some (.dK kvs))(hl:kvs.length<sizeLine):DPut H a (kV k) v (upd H a (.dK (putK kvs k v))):=.inl ⟨kvs,k,e,rfl,hl,rfl⟩
theorem DPut.t{H:Hp}{a b:Addr}{kvs:List (List Key×V)}{k:List Key}{v:V}(e:H a=some (.dT kvs))(eb:H b=some (.tup (k.map kV)))(hl:kvs.length<sizeLine):
  DPut H a (.ref b) v (upd H a (.dT (putK kvs k v))):=.inr ⟨kvs,k,b,e,rfl,eb,hl,rfl⟩
section
variable {X:Cx}{pins:List (Addr×Obj)}{σ:St}{H:Hp}{s:Shared}{a:Addr}{y v:V}{u r:Value}{o:Option V}{A:Around}{E:Value->Shared->Prop}
theorem Inv.big(I:Inv X pins σ H s):sysModules<s.heap.objs.size:=by
 have h:mainGlobals<s.heap.objs.size:=(I.mod.glob.keeps I.bk).lt;exact Nat.lt_trans (by decide) h
theorem d_getItem{Q:Value->Shared->Prop}(hu:A.units+1<cLine)(I:Inv X pins σ H s)(g:DGet H a y (some v))(ry:RelV y u)(h: ∀w' s',Inv X pins σ H s'->RelV v w'->Q w' s'):
  wpAny (model X.prog X.w) A (getItem (.ref a) u) Q E s:=by
 rcases g with⟨kvs,k,e,ey,l⟩|⟨kvs,k,b,e,ey,eb,l⟩
 ·subst ey;obtain⟨z,hd,vs,rel,dd⟩:=dk_rd I.hok e;obtain⟨w',hw,rw'⟩:=RelO.some_of (v:=v) (o:=valueAt vs k) (by rw[l];exact rel.val k);exact wpAny_getItem_of (vJ ry) dd.mapOf hw (h w' _ (I.tok _) rw')
 ·subst ey;cases (show u=Value.ref b from ry);obtain⟨z,hd,xs,rel,dd⟩:=dt_rd I.hok e;obtain⟨w',hw,rw'⟩:=RelO.some_of (v:=v) (o:=(atKey xs k).map (·.2)) (by rw[l];exact rel.val k);obtain⟨p,hp,hp2⟩:=Option.map_eq_some_iff.mp hw;refine wpAny_getItem_heap (tupleKind_room_in1 hu) (jC I.hok eb) dd hp ?_;rw[hp2];exact h w' _ (I.tok _) rw'
theorem d_in{Q:Value->Shared->Prop}(hu:A.units+1<cLine)(I:Inv X pins σ H s)(g:DGet H a y o)(ry:RelV y u)(h: ∀s',Inv X pins σ H s'->Q (.bool o.isSome) s'):
  wpAny (model X.prog X.w) A (compareOp .In u (.ref a)) Q E s:=by
 rcases g with⟨kvs,k,e,ey,l⟩|⟨kvs,k,b,e,ey,eb,l⟩
 ·subst ey;obtain⟨z,hd,vs,rel,dd⟩:=dk_rd I.hok e;refine wpAny_in_of (vJ ry) hd dd.mapOf ?_;rw[<-(rel.val k).yG,<-l];exact h _ (I.tok _)
 ·subst ey;cases (show u=Value.ref b from ry);obtain⟨z,hd,xs,rel,dd⟩:=dt_rd I.hok e;refine wpAny_in_heap (tupleKind_room_in1 hu) (jC I.hok eb) hd dd ?_;have q:=(rel.val k).yG;rw[Option.isSome_map] at q;rw[<-q,<-l];exact h _ (I.tok _)
theorem d_notIn{Q:Value->Shared->Prop}(hu:A.units+1<cLine)(I:Inv X pins σ H s)(g:DGet H a y o)(ry:RelV y u)(h: ∀s',Inv X pins σ H s'->Q (.bool (!o.isSome)) s'):
  wpAny (model X.prog X.w) A (compareOp .NotIn u (.ref a)) Q E s:=by
 rcases g with⟨kvs,k,e,ey,l⟩|⟨kvs,k,b,e,ey,eb,l⟩
 ·subst ey;obtain⟨z,hd,vs,rel,dd⟩:=dk_rd I.hok e;refine wpAny_notIn_of (vJ ry) hd dd.mapOf ?_;rw[<-(rel.val k).yG,<-l];exact h _ (I.tok _)
 ·subst ey;cases (show u=Value.ref b from ry);obtain⟨z,hd,xs,rel,dd⟩:=dt_rd I.hok e;refine wpAny_notIn_heap (tupleKind_room_in1 hu) (jC I.hok eb) hd dd ?_;have q:=(rel.val k).yG;rw[Option.isSome_map] at q;rw[<-q,<-l];exact h _ (I.tok _)
theorem jq{h':Heap}{t':Nat}{ob:HO}(I:Inv X pins σ H s)(mu:Mut (H a))(hs:Heap.SameBut a s.heap h')(he: ∃q,h'.get? a=some q)(new:ObjOk X.prog X.w (upd H a ob) h' a ob):
  Inv X pins σ (upd H a ob) {s with heap:=h',toks:=t'}:=
 I.write (x:=a) (e:=a) mu (.inl rfl) (fun b q hb z=>(hs.2 b hb).trans z) he new
theorem dk_new{P:Program}{w:World}{H':Hp}{h':Heap}{kvs:List (Key×V)}{vs:List (Key×Value)}(z:kvs.length<=sizeLine)(hd:(a==sysModules)=false)(rel:KV kvs vs)(dd:h'.DictOf (mixKind P w) a vs):
  ObjOk P w H' h' a (.dK kvs):=⟨z,hd,vs,rel,dd⟩
theorem d_setItem{H':Hp}{Q:Unit->Shared->Prop}(hu:A.units+1<cLine)(I:Inv X pins σ H s)(g:DPut H a y v H')(ry:RelV y u)(rv:RelV v r)(h: ∀s',Inv X pins σ H' s'->Q () s'):
  wpAny (model X.prog X.w) A (setItem (.ref a) u r) Q E s:=by
 rcases g with⟨kvs,k,e,ey,l,eH⟩|⟨kvs,k,b,e,ey,eb,l,eH⟩
 ·subst ey eH;obtain⟨z,hd,vs,rel,dd⟩:=dk_of I.hok e;have hz:vs.length<=sizeLine:=by rw[<-rel.length];exact z
  have hl:(putK kvs k v).length<=sizeLine:=by have:=yf kvs k v;omega
  refine wpAny_setItem_pairs (hsz:=hz) (vJ ry) dd fun h' dd' hs=>h _ ?_;have he: ∃q,h'.get? a=some q:=let⟨q,_,_,hq,_⟩:=dd';⟨q,hq⟩;exact jq I (by rw[e];exact True.intro) hs he (dk_new hl hd (rel.put k rv) dd')
 ·subst ey eH;cases (show u=Value.ref b from ry);obtain⟨z,hd,xs,rel,dd⟩:=dt_of I.hok e;have hz:xs.length<=sizeLine:=by rw[<-Paired.length rel];exact z
  have hl:(putK kvs k v).length<=sizeLine:=by have:=yf kvs k v;omega
  refine wpAny_setItem_heap (hsz:=hz) (tupleKind_room_in1 hu) (jC I.hok eb) dd fun h' dd' hs=>h _ ?_;obtain⟨q,es,ep,hq,h2,h3,h4,_,h5⟩:=dd';refine jq I (by rw[e];exact True.intro) hs ⟨q,hq⟩ ⟨hl,hd,_,(rel.put k eb rv).keeps fun c ys ec=> ?_,q,es,ep,hq,h2,h3,h4,h5⟩;rw[zH (ZW ec e (fun z=>nomatch z))];exact ec
end
section
variable {X:Cx}{pins:List (Addr×Obj)}{σ:St}{H:Hp}{s:Shared}{a:Addr}{kvs:List (Key×V)}{k:Key}{u:Value}{A:Around}{E:Value->Shared->Prop}
end
def NoSl(i:Expr):Prop:=∀ov iv,subscripted i false ov iv=operate [ov,iv] (getItem ov iv)
theorem subD_of{prog:Program}{w:World}{A:Around}{E:Value->Shared->Prop}{s:Shared}{env:Env}{value slice:Expr}{pos:Pos}{T id:String}{Q:Value->Shared->Prop}
  (hl:typeLookup (.type T) "__getitem__"=pure (some (.builtin id)))(hs:NoSl slice)
  (h:wpAny (model prog w) A (eval value env) (fun o s₁=>wpAny (model prog w) A (eval slice env) (fun i s₂=>s₂.TypeIs o T/\wpAny (model prog w) A (getItem o i) Q E s₂) E s₁) E s):
  wpAny (model prog w) A (eval (.Subscript value slice pos) env) Q E s:=by
 refine Subscript_ (wpAny_mono h (fun o s₁ h₁=>wpAny_mono h₁ (fun i s₂ h₂=> ?_) fun _ _ x=>x) fun _ _ x=>x);obtain⟨hT,h₂⟩:=h₂;unfold subscriptTail;refine wpAny_bind ?_;rw[getitemInPython_of_ne hT.not_modules];refine wpAny_bind (wpAny_specialOf hT hl ?_);have fin:wpAny (model prog w) A (subscripted slice false o i) (fun r s₃=>wpAny (model prog w) A (letTemporaryGo value o r >>= fun _=>pure r) Q E s₃) E s₂:=by
  rw[hs o i];exact wpAny_operating (wpAny_mono h₂ (fun r s₃ h₃=>wpAny_bind (wpAny_letTemporaryGo (wpAny_pure h₃))) fun _ _ x=>x)
 first
  |exact wpAny_pure (wpAny_bind fin)
  |exact wpAny_bind (wpAny_pure (wpAny_bind fin))
  |exact wpAny_bind fin
theorem dict_typeIs{X:Cx}{pins:List (Addr×Obj)}{σ:St}{H:Hp}{s:Shared}{a:Addr}{y:V}{o:Option V}(I:Inv X pins σ H s)(g:DGet H a y o):s.TypeIs (.ref a) "dict":=by
 rcases g with⟨kvs,k,e,_,_⟩|⟨kvs,k,b,e,_,_,_⟩
 ·obtain⟨_,_,vs,_,dd⟩:=dk_rd I.hok e;exact dd.typeIs
 ·obtain⟨_,_,xs,_,dd⟩:=dt_rd I.hok e;exact dd.typeIs
def tDGet(td ty:TE):TE:=fun σ H Q=>td σ H fun x H1=>ty σ H1 fun y H2=>∃a v,x=.ref a/\DGet H2 a y (some v)/\Q v H2
def tDIn(ty td:TE):TE:=fun σ H Q=>ty σ H fun y H1=>td σ H1 fun x H2=>∃a o,x=.ref a/\DGet H2 a y o/\Q (.bl o.isSome) H2
def tDNotIn(ty td:TE):TE:=fun σ H Q=>ty σ H fun y H1=>td σ H1 fun x H2=>∃a o,x=.ref a/\DGet H2 a y o/\Q (.bl (!o.isSome)) H2
def sDPut(td ty tv:TE):TS:=fun D σ H=>tv σ H fun v H1=>td σ H1 fun x H2=>ty σ H2 fun y H3=>∃a H4,x=.ref a/\DPut H3 a y v H4/\D.nx σ H4
section
variable {X:Cx}{o i e value:Expr}{pos pos' tpos:Pos}{td ty tv:TE}
theorem yM(hu:X.A.units+1<cLine)(ho:PE X o td)(hi:PE X i ty)(hs:NoSl i):PE X (.Subscript o i pos) (tDGet td ty):=by
 intro pins s σ H Q I h;refine subD_of PySem.F.slot_dict_getitem.lookup hs (thn (ho pins s σ H _ I h) fun u s1 ⟨x,H1,I1,rx,q1⟩=>thn (hi pins s1 σ H1 _ I1 q1) fun iv s2 ⟨y,H2,I2,ry,a,v,ex,g,q2⟩=> ?_);subst ex;obtain rfl:u=Value.ref a:=rx;exact⟨dict_typeIs I2 g,d_getItem hu I2 g ry fun w' s3 I3 rw'=>⟨v,H2,I3,rw',q2⟩⟩
theorem pc_din(hu:X.A.units+1<cLine)(hi:PE X i ty)(ho:PE X o td):PC X .In i o (tDIn ty td):=by
 intro pins s σ H Q I h;refine thn (hi pins s σ H _ I h) fun iv s1 ⟨y,H1,I1,ry,q1⟩=>thn (ho pins s1 σ H1 _ I1 q1) fun u s2 ⟨x,H2,I2,rx,a,ov,ex,g,q2⟩=> ?_;subst ex;obtain rfl:u=Value.ref a:=rx;exact d_in hu I2 g ry fun s3 I3=>⟨.bl ov.isSome,H2,I3,rfl,q2⟩
theorem pc_dnotin(hu:X.A.units+1<cLine)(hi:PE X i ty)(ho:PE X o td):PC X .NotIn i o (tDNotIn ty td):=by
 intro pins s σ H Q I h;refine thn (hi pins s σ H _ I h) fun iv s1 ⟨y,H1,I1,ry,q1⟩=>thn (ho pins s1 σ H1 _ I1 q1) fun u s2 ⟨x,H2,I2,rx,a,ov,ex,g,q2⟩=> ?_;subst ex;obtain rfl:u=Value.ref a:=rx;exact d_notIn hu I2 g ry fun s3 I3=>⟨.bl (!ov.isSome),H2,I3,rfl,q2⟩
theorem ps_dput(hu:X.A.units+1<cLine)(ho:PE X o td)(hi:PE X i ty)(hv:PE X value tv)(hs:swapsWith value (some (.Subscript o i pos')) pos.line X.env=pure false):
  PS X (.Assign [.Subscript o i pos'] value pos) (sDPut td ty tv):=by
 intro pins s σ H D I h;refine wpAny_Assign_Subscript (thn (hv pins s σ H _ I h) fun r s1 ⟨v,H1,I1,rv,q1⟩=>thn (ho pins s1 σ H1 _ I1 q1) fun u s2 ⟨x,H2,I2,rx,q2⟩=>thn (hi pins s2 σ H2 _ I2 q2) fun iv s3 ⟨y,H3,I3,ry,a,H4,ex,g,q3⟩=> ?_) hs;subst ex;obtain rfl:u=Value.ref a:=rx;exact d_setItem hu I3 g ry rv fun s4 I4=>⟨σ,H4,I4,q3⟩
end
theorem dk_empty{P:Program}{w:World}{H:Hp}(h:Heap)(hb:sysModules<h.objs.size):ObjOk P w H (h.push {cls:=.type "dict",data:=.dict #[]}) h.objs.size (.dK []):=
 ⟨Nat.zero_le _,beq_eq_false_iff_ne.mpr (Ne.symm (Nat.ne_of_lt hb)),[],.nil,Heap.DictOf.new h⟩
theorem dt_empty{P:Program}{w:World}{H:Hp}(h:Heap)(hb:sysModules<h.objs.size):ObjOk P w H (h.push {cls:=.type "dict",data:=.dict #[]}) h.objs.size (.dT []):=
 ⟨Nat.zero_le _,beq_eq_false_iff_ne.mpr (Ne.symm (Nat.ne_of_lt hb)),[],.nil,_,#[],0,Heap.get?_push_size _ rfl,⟨rfl,rfl,rfl⟩,rfl,rfl,List.nodup_nil⟩
def tDNewK:TE:=fun _ H Q=>∀p,H p=none->Q (.ref p) (upd H p (.dK []))
section
variable {X:Cx}{pos:Pos}
theorem pe_dnewK:PE X (.Dict [] [] pos) tDNewK:=fun pins s σ H Q I h=>
 wpAny_Dict_empty ⟨.ref s.heap.objs.size,_,I.laid (a:=s.heap.objs.size) (o:=.dK []) (t':=s.toks) (fun _ _ q=>Heap.get?_push_of_some _ q) (Nat.le_refl _) (dk_empty s.heap I.big),rfl,h _ (I.hok.fresh (Nat.le_refl _))⟩
end
def tPairs:List (TE×TE)->St->Hp->(List (V×V)->Hp->Prop)->Prop
 |[],_,H,Q=>Q [] H
 |(tk,tv)::r,σ,H,Q=>tk σ H fun x H1=>tv σ H1 fun y H2=>tPairs r σ H2 fun ps H3=>Q ((x,y)::ps) H3
abbrev VV:List (V×V)->List (Value×Value)->Prop:=Paired fun p q=>RelV p.1 q.1/\RelV p.2 q.2
def PPs(X:Cx)(pos:Pos)(keys:List (Option Expr))(values:List Expr)(trs:List (TE×TE)):Prop:=
 ∀(pins:List (Addr×Obj)) (s:Shared) (σ:St) (H:Hp) (Q:List (V×V)->Hp->Prop),Inv X pins σ H s->tPairs trs σ H Q->
  wpAny (model X.prog X.w) X.A (evalPairs (pairTrees keys values X.env pos)) (fun vs s'=>∃ps H',Inv X pins σ H' s'/\VV ps vs/\Q ps H') X.xe s
theorem pps_nil{X:Cx}{pos:Pos}:PPs X pos [] [] []:=fun pins s σ H Q I h=>pairTrees_nil_walk ⟨[],H,I,.nil,h⟩
theorem pps_cons{X:Cx}{pos:Pos}{k v:Expr}{ks:List (Option Expr)}{vs:List Expr}{tk tv:TE}{trs:List (TE×TE)}(hk:PE X k tk)(hv:PE X v tv)(hr:PPs X pos ks vs trs):
  PPs X pos (some k::ks) (v::vs) ((tk,tv)::trs):=fun pins s σ H Q I h=>
 pairTrees_cons_walk (thn (hk pins s σ H _ I h) fun u s1 ⟨x,H1,I1,rx,q1⟩=>thn (hv pins s1 σ H1 _ I1 q1) fun w2 s2 ⟨y,H2,I2,ry,q2⟩=>
  thn (hr pins s2 σ H2 _ I2 q2) fun ws s3 ⟨ps,H3,I3,rel,q3⟩=>⟨(x,y)::ps,H3,I3,.cons ⟨rx,ry⟩ rel,q3⟩)
def mergeK(kvs more:List (Key×V)):List (Key×V):=more.foldl (fun acc kv=>putK acc kv.1 kv.2) kvs
theorem KV.merge: ∀{more:List (Key×V)} {rs:List (Key×Value)} {kvs:List (Key×V)} {vs:List (Key×Value)},KV more rs->KV kvs vs->KV (mergeK kvs more) (merged vs rs):=by
 intro more rs kvs vs r;unfold KV at r;induction r generalizing kvs vs with
 |nil=>intro q;exact q
 | @cons p q ps qs h t ih=>
  intro r0;have e:KV (putK kvs p.1 p.2) (stored vs q.1 q.2):=by
   have:=r0.put p.1 h.2;rw[<-h.1];exact this
  exact ih e
theorem yw: ∀(more kvs:List (Key×V)),(mergeK kvs more).length<=kvs.length+more.length
 |[],kvs=>by show kvs.length<=kvs.length+0;omega
 |p::r,kvs=>by
  have h1:=yw r (putK kvs p.1 p.2);have h2:=yf kvs p.1 p.2;show(mergeK (putK kvs p.1 p.2) r).length<=_;rw[List.length_cons];omega
theorem Jg{P:Program}{w:World}: ∀{kvs:List (Key×V)} {ws:List (Value×Value)},VV (kvs.map fun kv=>(kV kv.1,kv.2)) ws->∃rs,Carries (mixKind P w) ws rs/\KV kvs rs
 |[],_,r=>by rw[List.map_nil] at r;cases r;exact⟨[],True.intro,.nil⟩
 |p::kvs,_,r=>by
  rw[List.map_cons] at r;cases r with
  | @cons a b as bs h t=>
   obtain⟨rs,c,q⟩:=Jg (P:=P) (w:=w) t;obtain⟨b1,b2⟩:=b;exact⟨(p.1,b2)::rs,⟨vJ h.1,rfl,c⟩,.cons ⟨rfl,h.2⟩ q⟩
def tDisp(trs:List (TE×TE)):TE:=fun σ H Q=>∀p,H p=none->tPairs trs σ (upd H p (.dK [])) fun ps H2=>H2 p=some (.dK [])/\∃kvs:List (Key×V),ps=kvs.map (fun kv=>(kV kv.1,kv.2))/\kvs.length<=15/\Q (.ref p) (upd H2 p (.dK (mergeK [] kvs)))
theorem pe_disp{X:Cx}{pos:Pos}{keys:List (Option Expr)}{values:List Expr}{trs:List (TE×TE)}(h:PPs X pos keys values trs)(hall:keys.all (·.isSome)=true)(hl:keys.length=values.length)(h0:keys≠[])
  (h15:keys.length<=15):PE X (.Dict keys values pos) (tDisp trs):=by
 intro pins s σ H Q I q;have hn:=I.hok.fresh (Nat.le_refl s.heap.objs.size);have I1:=I.laid (a:=s.heap.objs.size) (o:=.dK []) (h':=s.heap.push {cls:=.type "dict",data:=.dict #[]}) (t':=s.toks) (fun _ _ q=>Heap.get?_push_of_some _ q) (Nat.le_refl _) (dk_empty s.heap I.big);refine wpAny_Dict_walk (knd:=mixKind X.prog X.w) hall hl h0 h15 (thn (h pins _ σ _ _ I1 (q _ hn)) fun ws s2 ⟨ps,H2,I2,rel,e,kvs,ep,lk,q2⟩=> ?_);subst ep;obtain⟨rs,c,rk⟩:=Jg (P:=X.prog) (w:=X.w) rel;obtain⟨z,hd,vs0,r0,dd⟩:=dk_of I2.hok e;cases r0;refine⟨rs,c,dd,fun h' dd' hs=>⟨.ref s.heap.objs.size,_,?_,rfl,q2⟩⟩;have hz:(mergeK [] kvs).length<=sizeLine:=by
  have h1:=yw kvs [];rw[List.length_nil] at h1;rw[sizeLine_eq];omega
 have he: ∃q,h'.get? s.heap.objs.size=some q:=let⟨q,_,_,hq,_⟩:=dd';⟨q,hq⟩;exact jq I2 (by rw[e];exact True.intro) hs he (dk_new hz hd (rk.merge .nil) dd')
section
variable {X:Cx}{pins:List (Addr×Obj)}{σ:St}{H:Hp}{s:Shared}{a:Addr}{y d:V}{u r:Value}{o:Option V}{A:Around}{E:Value->Shared->Prop}
end
section
variable {X:Cx}{o e f:Expr}{apos cpos:Pos}{td ty tx:TE}
end
section
variable {X:Cx}{pins:List (Addr×Obj)}{σ:St}{H:Hp}{s:Shared}{a:Addr}{kvs:List (Key×V)}{A:Around}{E:Value->Shared->Prop}
end
section
variable {X:Cx}{pins:List (Addr×Obj)}{σ:St}{H:Hp}{s:Shared}{a:Addr}{y:V}{u:Value}{A:Around}{E:Value->Shared->Prop}
end
section
variable {prog:Program}{w:World}{A:Around}{E:Value->Shared->Prop}
end
section
variable {X:Cx}
end
theorem boot_reversed5:bootBuiltins "reversed"=some (.type "reversed"):=by decide +kernel
section
variable {X:Cx}{pins:List (Addr×Obj)}{σ:St}{H:Hp}{s:Shared}{h':Heap}
theorem Inv.turnedL{t':Nat}{ch:List Addr}(I:Inv X pins σ H s)(k: ∀b o,b∉ch->s.heap.get? b=some o->h'.get? b=some o)(hf: ∀b∈ch,FpOk X pins H b):Inv X pins σ H {s with heap:=h',toks:=t'}:=by
 have nit: ∀b u,H b=some u->b∉ch:=fun b u e z=>by
  have q:=(hf b z).1;rw[q] at e;cases e
 refine I.step (g':=s.gens) (d':=s.drawn) (ch:=ch) (fun b hb=>⟨(hf b hb).2.2.2.1,(hf b hb).2.1,(hf b hb).2.2.2.2.1,(hf b hb).2.2.2.2.2⟩) (fun b o _ _ hc e _=>k b o hc e) (fun b o _ _ hc e _=>⟨o.slots,k b o hc e⟩)
  (fun _ _ _ _ n=>n) (fun b o hc e=>⟨o,k b o hc e⟩) (fun _ _ e=>e) (fun _ _ _ e=>e) (fun b ps e=>⟨#[],by rw[e];simp⟩) (fun m hm=> ?_) (fun b u e=> ?_) I.bare
 ·obtain⟨o,es,ep,ho,r⟩:=hm;exact⟨o,es,ep,k _ o (fun z=>(hf _ z).2.1 rfl) ho,r⟩
 ·refine(I.hok b u e).stay (fun c v hc q=>k c v ?_ q) (fun _ q=>q) fun _ _ q=>q;rcases hc with z|z
  ·rw[z];exact nit b u e
  ·exact nit c _ z
theorem Inv.turnedNew{t':Nat}{ch:List Addr}{T:Addr}{ob:HO}(I:Inv X pins σ H s)(k: ∀b o,b∉ch->s.heap.get? b=some o->h'.get? b=some o)(hf: ∀b∈ch,FpOk X pins H b)(hT:s.heap.objs.size<=T)
  (new:ObjOk X.prog X.w (upd H T ob) h' T ob):Inv X pins σ (upd H T ob) {s with heap:=h',toks:=t'}:=by
 have hn:H T=none:=I.hok.fresh hT;have nit: ∀b u,H b=some u->b∉ch:=fun b u e z=>by
  have q:=(hf b z).1;rw[q] at e;cases e
 refine I.step (g':=s.gens) (d':=s.drawn) (ch:=ch) (fun b hb=>⟨(hf b hb).2.2.2.1,(hf b hb).2.1,(hf b hb).2.2.2.2.1,(hf b hb).2.2.2.2.2⟩) (fun b o _ _ hc e _=>k b o hc e) (fun b o _ _ hc e _=>⟨o.slots,k b o hc e⟩)
  (fun b o _ e n=> ?_) (fun b o hc e=>⟨o,k b o hc e⟩) (fun b xs e=> ?_) (fun b o u e=> ?_) (fun b ps e=>⟨#[],?_⟩) (fun m hm=> ?_) (fun b u e=> ?_) I.bare
 ·rw[zH (Nat.ne_of_lt (Nat.lt_of_lt_of_le (Heap.lt_size e) hT))];exact n
 ·rw[zH (zJ e hn)];exact e
 ·rw[zH (zJ e hn)];exact e
 ·rw[zH (zJ e hn),e];simp
 ·obtain⟨o,es,ep,ho,r⟩:=hm;exact⟨o,es,ep,k _ o (fun z=>(hf _ z).2.1 rfl) ho,r⟩
 ·by_cases hb:b=T
  ·subst hb;rw[zB] at e;cases e;exact new
  ·rw[zH hb] at e;refine(I.hok b u e).stay (fun c v hc q=>k c v ?_ q) (fun c q=>by rw[zH (zJ q hn)];exact q) fun c xs q=>by rw[zH (zJ q hn)];exact q
   rcases hc with z|z
   ·rw[z];exact nit b u e
   ·exact nit c _ z
theorem Inv.lock{d:Addr}{u:HO}(I:Inv X pins σ H s)(h:H d=some u)(mu:Mut (some u)): ∃od,Inv X pins σ (upd H d (.frz od u)) s:=by
 have x:=I.hok d u h;have ex: ∃od,s.heap.get? d=some od:=by
  cases u with
  |lst xs=>obtain⟨_,_,_,_,e⟩:=x;exact⟨_,e⟩
  |dK kvs=>obtain⟨_,_,_,_,o,_,_,e,_⟩:=x;exact⟨o,e⟩
  |dT kvs=>obtain⟨_,_,_,_,o,_,_,e,_⟩:=x;exact⟨o,e⟩
  |set S n=>obtain⟨o,_,_,_,e,_⟩:=x;exact⟨o,e⟩
  |ins C dx fs=>obtain⟨_,_,_,e,_⟩:=x;exact⟨_,e⟩
  |ext φ=>obtain⟨_,⟨_,e⟩,_⟩:=x;exact⟨_,e⟩
  |_=>exact False.elim mu
 obtain⟨od,e⟩:=ex;have new:ObjOk X.prog X.w (upd H d (.frz od u)) s.heap d (.frz od u):=by
  refine⟨e,x.stay (fun b v _ q=>q) (fun b q=> ?_) fun b xs q=> ?_⟩
  ·rw[zH (fun z=>by rw[z,h] at q;cases q;exact mu)];exact q
  ·rw[zH (fun z=>by rw[z,h] at q;cases q;exact mu)];exact q
 exact⟨od,I.write (x:=d) (e:=d) (t':=s.toks) (h':=s.heap) (by rw[h];exact mu) (.inl rfl) (fun b v _ q=>q) ⟨od,e⟩ new⟩
theorem Inv.nofrz{d:Addr}{u:HO}(I:Inv X pins σ H s)(h:H d=some u)(mu:Mut (some u)): ∀o' u',X.H_0 d≠some (.frz o' u'):=fun o' u' e=>by
 have q:=I.base.frzs d o' u' e;rw[h] at q;cases q;exact mu
theorem Inv.unlock{d:Addr}{od:Obj}{u:HO}(I:Inv X pins σ H s)(h:H d=some (.frz od u))(hn: ∀o' u',X.H_0 d≠some (.frz o' u')):Inv X pins σ (upd H d u) s:=by
 have neH: ∀b o,H b=some o->(∀o' u',o≠ .frz o' u')->b≠d:=fun b o e hne z=>by
  rw[z,h] at e;cases e;exact hne _ _ rfl
 have neN: ∀b,H b=none->b≠d:=fun b e z=>by rw[z,h] at e;cases e
 refine⟨I.ok,I.os,I.bare,⟨I.base.keep,I.base.slot,fun b o e n hx=> ?_,I.base.there,fun b xs e=> ?_,fun b o x e=> ?_,fun b ps e=> ?_⟩,I.loc,I.cell,?_,fun x c e=> ?_,fun p hp=> ?_,fun b o e=> ?_,I.len⟩
 ·rw[zH (neN b (I.base.free b o e n hx))];exact I.base.free b o e n hx
 ·have q:=I.base.tups b xs e;rw[zH (neH b _ q (fun _ _ z=>nomatch z))];exact q
 ·have q:=I.base.frzs b o x e;rw[zH (fun z=>by rw[z] at e;exact hn _ _ e)];exact q
 ·obtain⟨m,q⟩:=I.base.tbls b ps e;exact⟨m,by rw[zH (neH b _ q (fun _ _ z=>nomatch z))];exact q⟩
 ·rw[zH (neN _ I.free)];exact I.free
 ·rw[zH (neN c (I.freeC x c e))];exact I.freeC x c e
 ·obtain⟨e,n,r⟩:=I.pin p hp;exact⟨e,by rw[zH (neN _ n)];exact n,r⟩
 ·by_cases hb:b=d
  ·rw[hb,zB] at e;cases e;rw[hb];obtain⟨_,x⟩:=I.hok d _ h;exact x.stay (fun c v _ q=>q) (fun c q=>by rw[zH (neH c _ q (fun _ _ z=>nomatch z))];exact q) fun c xs q=>by rw[zH (neH c _ q (fun _ _ z=>nomatch z))];exact q
  ·rw[zH hb] at e;exact(I.hok b o e).stay (fun c v _ q=>q) (fun c q=>by rw[zH (neH c _ q (fun _ _ z=>nomatch z))];exact q) fun c xs q=>by rw[zH (neH c _ q (fun _ _ z=>nomatch z))];exact q
end
def tLock(t:TS):TS:=fun D σ H=>∃d u,H d=some u/\Mut (some u)/\∀od,t ⟨fun σ' H'=>H' d=some (.frz od u)/\D.nx σ' (upd H' d u),fun v H'=>H' d=some (.frz od u)/\D.rt v (upd H' d u),fun σ' H'=>H' d=some (.frz od u)/\D.bk σ' (upd H' d u),fun σ' H'=>H' d=some (.frz od u)/\D.ct σ' (upd H' d u)⟩ σ (upd H d (.frz od u))
section
variable {X:Cx}
theorem ps_lock{st:Stmt}{t:TS}(h:PS X st t):PS X st (tLock t):=by
 intro pins s σ H D I hw;obtain⟨d,u,hd,mu,hw⟩:=hw;obtain⟨od,I1⟩:=I.lock hd mu;refine thn (h pins s σ _ _ I1 (hw od)) fun f s1 q=> ?_;cases f with
 |next=>obtain⟨σ',H',I2,e,q⟩:=q;exact⟨σ',_,I2.unlock e (I.nofrz hd mu),q⟩
 |brk=>obtain⟨σ',H',I2,e,q⟩:=q;exact⟨σ',_,I2.unlock e (I.nofrz hd mu),q⟩
 |cont=>obtain⟨σ',H',I2,e,q⟩:=q;exact⟨σ',_,I2.unlock e (I.nofrz hd mu),q⟩
 |ret v=>obtain⟨x,σ',H',I2,r,e,q⟩:=q;exact⟨x,σ',_,I2.unlock e (I.nofrz hd mu),r,q⟩
theorem pi_one{tg:Expr}{pins:List (Addr×Obj)}{σ:St}{H:Hp}{s:Shared}{R:It->Hp->Prop}{J:It}{tn:Nat->Heap->Prop}{tk:Nat}(I:Inv X pins σ H s)(o:Obj)
  (T:Turn X.prog X.w X.K tg J [s.heap.objs.size] s.heap.objs.size tn)(st:tn 0 (s.heap.push o))(q:R J H):PIE X pins σ tg R (.ref s.heap.objs.size) {s with heap:=s.heap.push o,toks:=tk}:=by
 refine⟨s.heap.objs.size,[s.heap.objs.size],tn,J,H,rfl,I.kept fun b ob e=>Heap.get?_push_of_some _ e,T,st,fun b hb=> ?_,q⟩;have e:b=s.heap.objs.size:=by simpa using hb
 subst e;exact I.fpOk (Nat.le_refl _) (I.hok.fresh (Nat.le_refl _))
end
def Itc(lo c:Int)(n:Nat):It:=⟨fun i _=>i<n,fun i H x H'=>H'=H/\x=.int (lo+(i:Nat) * c),fun i _=>n<=i⟩
theorem turn_rangeC{P:Program}{w:World}{K:PySem.W.Frag}{tg:Expr}(it:Addr)(lo c:Int)(n:Nat):Turn P w K tg (Itc lo c n) [it] it (fun i h=>IsRangeIter h it (lo+(i:Nat) * c) ((n:Int) - (i:Nat)) c) where
 mem:=by simp
 obj:=fun i h st b hb=>by
  have e:b=it:=by simpa using hb
  subst e;exact⟨_,st,fun v z=>nomatch z⟩
 keep:=fun i h h' st k=>k it (by simp) _ st
 item:=by
  intro X hP hw hK hc i pins s σ H E I hf st hg;subst hP hw hK;obtain⟨f0,f1,f2,f3,f4,f5⟩:=hf it (by simp);have W:=Walks.range (prog:=X.prog) (w:=X.w) (I.ok.hd hc) it lo c n;refine W.item i s _ _ hg st fun v h' tk hv st' kk=> ?_;obtain⟨t,rfl⟩:=hv;have I1:Inv X pins σ H {s with heap:=h',toks:=tk}:=I.turned (fun b o hb e=>kk b o (by simpa using hb) e) f0 f1 f3 f4 f5;exact⟨_,rfl,go_of (s:={s with heap:=h',toks:=tk}) (n:="range_iterator") st' rfl rfl (by decide) ⟨.int (lo+(i:Nat) * c),H,I1,⟨t,rfl⟩,⟨rfl,rfl⟩,st',fun b hb=>(hf b hb).1⟩⟩
 done:=by
  intro X hP hw hK hc i pins s σ H E I hf st hg;subst hP hw hK;obtain⟨f0,f1,f2,f3,f4,f5⟩:=hf it (by simp);exact wpAny_pyNext_range_end (I.ok.hd hc) st (by have:n<=i:=hg;omega) fun h' eb=>⟨rfl,I.turned (t':=s.toks) (fun b o hb e=>eb b o hb e) f0 f1 f3 f4 f5⟩
 self:=fun A i s Q E st h=>wpAny_pyIter_rangeiter st h
def RgC(i j c:Int)(n:Nat):Prop:=c≠0/\c.natAbs<1073741824/\Builtin.Range.small i j c=true/\Builtin.Range.rangeSize i j c=n
def iRng3(ta:TA):TI:=fun σ H R=>ta σ H fun vs H1=>∃(i j c:Int) (n:Nat),vs=[.int i,.int j,.int c]/\RgC i j c n/\R (Itc i c n) H1
section
variable {X:Cx}{tg:Expr}
theorem pi_range3{a b c:Expr}{ta:TA}{p pos:Pos}(hg:Gl X "range")(hm:X.mg "range"=none)(ha:PA X [a,b,c] ta)
  (hs:starEach [a,b,c] X.env=(false,eval a X.env)::starEach [b,c] X.env:=by rfl)(hpl:(backTo pos (starEach [b,c] X.env)).any (·.1)=false:=by rfl):
  PI X tg (.Call (.Name "range" p) [a,b,c] [] pos) (iRng3 ta):=by
 intro pins s σ H R I h;refine Call_ (Zn I hg hm boot_range (PyProof.Rows.callWith_type1 (thn (ha pos pins s σ H _ I h) fun us s1 ⟨vs,H1,I1,r1,q1⟩=> ?_) hs hpl));obtain⟨i,j,k,n,e,⟨c0,c1,c2,c3⟩,q⟩:=q1;subst e;cases r1 with
 |cons r rr=>
  cases rr with
  |cons r' rr=>
   cases rr with
   |cons r'' rr=>
    cases rr;obtain⟨t,rfl⟩:=r;obtain⟨t',rfl⟩:=r';obtain⟨t'',rfl⟩:=r'';refine call_range_3 c0 ?_ (.inl (PyProof.noPylong_small c1));refine wpAny_pyIter_range (IsRange.new ..) c2 ?_;have I2:Inv X pins σ H1 {s1 with heap:=s1.heap.push {cls:=.type "range",data:=.fields #[.int i t,.int j t',.int k t'']}}:=I1.kept (t':=s1.toks) fun b o e=>Heap.get?_push_of_some _ e;refine pi_one (tk:=s1.toks) I2 _ (turn_rangeC _ i k n) ?_ q;have e1:i+((0:Nat):Int) * k=i:=by simp
    have e2:(n:Int) - ((0:Nat):Int)=Builtin.Range.rangeSize i j k:=by rw[c3];simp
    show IsRangeIter _ _ (i+((0:Nat):Int) * k) ((n:Int) - ((0:Nat):Int)) k;rw[e1,e2];exact Heap.get?_push_size _ rfl
end
section
variable {X:Cx}{tg:Expr}
end
section
variable {prog:Program}{w:World}{A:Around}{E:Value->Shared->Prop}{s:Shared}
theorem vK{d:Addr}{o:Obj}{es:Array DictEntry}{ep:Nat}{Q:Value->Shared->Prop}(hd:(d==sysModules)=false)(ho:s.heap.get? d=some o)(hc:o.ExactDict)(hdat:o.data=.dict es ep)
  (hQ:Q (.ref s.heap.objs.size) {s with heap:=s.heap.push {cls:=.type "dict_keyiterator",data:=.fields #[.ref d,.int 0 0,.int es.size 0,.int ep 0]}}):
  wpAny (model prog w) A (pyIter (.ref d)) Q E s:=by
 have hT:s.TypeIs (.ref d) "dict":=⟨o,ho,hc.1⟩;refine wpAny_pyIter_slot hT F.slot_dict_iter (wpAny_call_entry F.slot_dict_iter hT F.entry_dict_iter ?_ (F.args_dict_iter_1 _));unfold Builtin.«dict.__iter__»;refine wpAny_bind ?_;unfold Builtin.Dict.dictSlotNone;refine wpAny_bind (wpAny_notOrdered_dict hT ?_);show wpAny _ _ (pure (Value.ref d)) _ _ s;refine wpAny_pure ?_;show wpAny _ _ (Builtin.Dict.showsAll d >>= _) _ _ s;unfold Builtin.Dict.showsAll;rw[if_neg (by rw[hd];exact Bool.false_ne_true)];refine wpAny_bind (wpAny_pure ?_);refine wpAny_bind (wpAny_dictEntries ho hdat ?_);refine wpAny_bind (wpAny_dictEpoch ho hdat ?_);refine wpAny_bind (wpAny_newObj_type (wpAny_pure ⟨_,rfl,"dict_keyiterator",_,⟨_,Heap.get?_push_size _ rfl,rfl⟩,F.slot_dict_keyiterator_next.lookup,?_⟩));simpa[rawInt] using hQ
theorem next_key_item{it d:Addr}{i n ep:Nat}{od:Obj}{es:Array DictEntry}{en:DictEntry}{Q:Option Value->Shared->Prop}(hit:s.heap.IsKeyIter it d i n ep)(hod:s.heap.get? d=some od)(hdd:od.data=.dict es ep)
  (hsz:es.size=n)(hx:es[i]? =some en)(hQ: ∀h',h'.IsKeyIter it d (i+1) n ep->Heap.SameBut it s.heap h'->Q (some en.key) {s with heap:=h'}):wpAny (model prog w) A (pyNext (.ref it)) Q E s:=by
 obtain⟨o,ho,hc,hd⟩:=id hit;unfold pyNext;refine wpAny_bind (wpAny_attempt (wpAny_callSpecial?_slot (name:=Str.ofString "__next__") hit.typeIs F.slot_dict_keyiterator_next
  (wpAny_call_entry F.slot_dict_keyiterator_next hit.typeIs F.entry_dict_keyiterator_next ?_ (F.args_dict_keyiterator_next_1 _))))
 refine wpAny_bind (wpAny_pure ?_);refine wpAny_bind ?_;refine wpAny_bind ?_
 first|refine wpAny_bind (wpAny_typeNameOfWhole_keyiter hit.typeIs (wpAny_pure ?_))|refine wpAny_bind (wpAny_typeNameOf_keyiter hit.typeIs (wpAny_pure ?_))
 refine wpAny_bind (wpAny_fieldsOf ho hd ?_);have hown:Builtin.Dict_items.ownsTuple "dict_keyiterator"=false:=by decide
 simp only[hown,Bool.false_eq_true,if_false];show wpAny _ _ (if(Value.ref d==Value.none)=true then _ else _) _ _ s;rw[if_neg (show ¬((Value.ref d==Value.none)=true) from Bool.false_ne_true)];refine wpAny_bind (wpAny_pure ?_);refine wpAny_bind (wpAny_dictEntries hod hdd ?_);rw[if_neg (by rw[hsz];simp)];refine wpAny_bind (wpAny_pure ?_);refine wpAny_bind (wpAny_dictEpoch hod hdd ?_);rw[if_neg (by simp)];refine wpAny_pure ?_;obtain⟨hlt',hen⟩:=Array.getElem?_eq_some_iff.mp hx;simp only[show ¬((i:Int)<0) from by omega,if_false,Int.toNat_natCast,Array.getElem?_eq_getElem hlt'];refine wpAny_bind ?_
 first|refine wpAny_bind (wpAny_typeNameOfWhole_keyiter hit.typeIs (wpAny_pure ?_))|refine wpAny_bind (wpAny_typeNameOf_keyiter hit.typeIs (wpAny_pure ?_))
 refine wpAny_bind (wpAny_isOneOf_keyiter hit.typeIs ?_);show wpAny _ _ (setField (.ref it) 1 (rawInt ((i:Int)+1)) >>= _) _ _ s;refine wpAny_bind (wpAny_setField ho hd (by simp) ?_);have hit':(s.heap.update it (Obj.mapFields (·.setIfInBounds 1 (rawInt ((i:Int)+1))))).IsKeyIter it d (i+1) n ep:=
  ⟨_,Heap.get?_update_self _ ho (Obj.isFreed_of_fields (Obj.data_mapFields hd _)),(Obj.cls_mapFields ..).trans hc,by rw[Obj.data_mapFields hd];simp[rawInt]⟩
 refine wpAny_bind (wpAny_holding ?_);refine wpAny_bind (wpAny_isOneOf_keyiter (s:={s with heap:=s.heap.update it (Obj.mapFields (·.setIfInBounds 1 (rawInt ((i:Int)+1))))}) hit'.typeIs ?_);show wpAny _ _ (pure es[i].key) _ _ _;rw[hen];exact wpAny_pure (wpAny_pure ⟨_,rfl,wpAny_pure (hQ _ hit' (Heap.SameBut.update ..))⟩)
theorem Yb{it d:Addr}{i n ep:Nat}{od:Obj}{es:Array DictEntry}{Q:Option Value->Shared->Prop}(hh:A.handled=none)(hit:s.heap.IsKeyIter it d i n ep)(hod:s.heap.get? d=some od)(hdd:od.data=.dict es ep)
  (hsz:es.size=n)(hge:n<=i)(hQ: ∀h',Heap.ExtBut it s.heap h'->Q none {s with heap:=h'}):wpAny (model prog w) A (pyNext (.ref it)) Q E s:=by
 obtain⟨o,ho,hc,hd⟩:=id hit;unfold pyNext;refine wpAny_bind (wpAny_attempt (wpAny_callSpecial?_slot (name:=Str.ofString "__next__") hit.typeIs F.slot_dict_keyiterator_next
  (wpAny_call_entry F.slot_dict_keyiterator_next hit.typeIs F.entry_dict_keyiterator_next ?_ (F.args_dict_keyiterator_next_1 _))))
 refine wpAny_bind (wpAny_pure ?_);refine wpAny_bind ?_;refine wpAny_bind ?_
 first|refine wpAny_bind (wpAny_typeNameOfWhole_keyiter hit.typeIs (wpAny_pure ?_))|refine wpAny_bind (wpAny_typeNameOf_keyiter hit.typeIs (wpAny_pure ?_))
 refine wpAny_bind (wpAny_fieldsOf ho hd ?_);have hown:Builtin.Dict_items.ownsTuple "dict_keyiterator"=false:=by decide
 simp only[hown,Bool.false_eq_true,if_false];show wpAny _ _ (if(Value.ref d==Value.none)=true then _ else _) _ _ s;rw[if_neg (show ¬((Value.ref d==Value.none)=true) from Bool.false_ne_true)];refine wpAny_bind (wpAny_pure ?_);refine wpAny_bind (wpAny_dictEntries hod hdd ?_);rw[if_neg (by rw[hsz];simp)];refine wpAny_bind (wpAny_pure ?_);refine wpAny_bind (wpAny_dictEpoch hod hdd ?_);rw[if_neg (by simp)];refine wpAny_pure ?_;have hge':es.size<=i:=by rw[hsz];exact hge
 simp only[show ¬((i:Int)<0) from by omega,if_false,Int.toNat_natCast,Array.getElem?_eq_none hge'];refine wpAny_bind ?_
 first|refine wpAny_bind (wpAny_typeNameOfWhole_keyiter hit.typeIs (wpAny_pure ?_))|refine wpAny_bind (wpAny_typeNameOf_keyiter hit.typeIs (wpAny_pure ?_))
 show wpAny _ _ (setField (.ref it) 0 .none >>= _) _ _ s;refine wpAny_bind (wpAny_setField ho hd (by simp) ?_);show wpAny _ _ (newExc (.type "StopIteration") [] >>= _) _ _ _;refine wpAny_bind ?_;simp only[newExc,newTuple];refine wpAny_bind (wpAny_newObj_type ?_ (by size_fits));refine wpAny_bind (m:=firstArgMember _ _) (wpAny_of_eq (a:=Value.none) (by first|rfl|(simp only[firstArgMember];rfl)) ?_);refine wpAny_newObj_type ?_ (by size_fits);simp only[raiseNew];refine wpAny_bind (wpAny_handled ?_);rw[show A.in1.handled=none from hh];refine wpAny_bind (wpAny_pure (wpAny_throw ?_));refine wpAny_bind (wpAny_isInstance (T:="StopIteration") (b:=true) ⟨_,Heap.get?_push_size _ rfl,rfl⟩ isSubtype_stop ?_);exact wpAny_pure (hQ _ (((Heap.SameBut.update ..).extBut.push _).push _))
end
theorem kv_get{κ:Type}{kvs:List (κ×V)}{vs:List (κ×Value)}(h:KV kvs vs): ∀{i:Nat} {k:κ} {v:V},kvs[i]? =some (k,v)->∃u,vs[i]? =some (k,u)/\RelV v u:=by
 unfold KV at h;induction h with
 |nil=>intro i k v e;simp at e
 | @cons a b l₁ l₂ r t ih=>
  intro i k v e;cases i with
  |zero=>
   simp only[List.getElem?_cons_zero,Option.some.injEq] at e;subst e;refine⟨b.2,?_,r.2⟩;simp only[List.getElem?_cons_zero];exact congrArg some (Prod.ext r.1.symm rfl)
  |succ j=>
   simp only[List.getElem?_cons_succ] at e ⊢;exact ih e
theorem paired_get{α β:Type}{G:α->β->Prop}{l₁:List α}{l₂:List β}(h:Paired G l₁ l₂): ∀{i:Nat} {a:α},l₁[i]? =some a->∃b,l₂[i]? =some b/\G a b:=by
 induction h with
 |nil=>intro i a e;simp at e
 | @cons a b l₁ l₂ r t ih=>
  intro i a' e;cases i with
  |zero=>
   simp only[List.getElem?_cons_zero,Option.some.injEq] at e;subst e;exact⟨b,rfl,r⟩
  |succ j=>
   simp only[List.getElem?_cons_succ] at e ⊢;exact ih e
theorem relV_key{k:Key}{u:Value}(h:keyIs k u=true):RelV (kV k) u:=by
 rcases ZF h with⟨i,t,rfl,rfl⟩|⟨x,t,rfl,rfl⟩
 ·exact⟨t,rfl⟩
 ·exact⟨t,rfl⟩
section
variable {X:Cx}{pins:List (Addr×Obj)}{σ:St}{H:Hp}{s:Shared}{d:Addr}{o:Obj}
theorem Inv.frzK{kvs:List (Key×V)}(I:Inv X pins σ H s)(h:H d=some (.frz o (.dK kvs))):
  (d==sysModules)=false/\s.heap.get? d=some o/\o.ExactDict/\∃(es:Array DictEntry) (ep:Nat) (vs:List (Key×Value)),o.data=.dict es ep/\es.size=kvs.length/\KV kvs vs/\s.heap.DictAt (mixKind X.prog X.w) d vs ep:=by
 obtain⟨hd,z,hs,vs,kv,o',es,ep,ho,hx,hdt,r⟩:=I.hok d _ h;rw[hd] at ho;cases ho;refine⟨hs,hd,hx,es,ep,vs,hdt,?_,kv,o,es,hd,hx,hdt,r⟩;have l1:=r.2.1.length;have l2:kvs.length=vs.length:=Paired.length kv;rw[Array.length_toList] at l1;omega
theorem Inv.frzT{kvs:List (List Key×V)}(I:Inv X pins σ H s)(h:H d=some (.frz o (.dT kvs))):
  (d==sysModules)=false/\s.heap.get? d=some o/\o.ExactDict/\∃(es:Array DictEntry) (ep:Nat),o.data=.dict es ep/\es.size=kvs.length/\
   ∀(i:Nat) (k:List Key) (v:V),kvs[i]? =some (k,v)->∃(en:DictEntry) (q:Addr),es[i]? =some en/\en.key=.ref q/\H q=some (.tup (k.map kV)):=by
 obtain⟨hd,z,hs,xs,pr,o',es,ep,ho,hx,hdt,he,_⟩:=I.hok d _ h;rw[hd] at ho;cases ho;refine⟨hs,hd,hx,es,ep,hdt,?_,fun i k v e=> ?_⟩
 ·have l1:es.size=xs.length:=size_of_entries he;have l2:kvs.length=xs.length:=Paired.length pr;omega
 ·obtain⟨b,hb,e1,e2,_⟩:=paired_get pr e;have q:=entry_at he i;rw[hb] at q;exact⟨_,b.2.1,q,rfl,e2⟩
end
def Itk(d:Addr)(o:Obj)(kvs:List (Key×V)):It:=
 ⟨fun i H=>H d=some (.frz o (.dK kvs))/\i<kvs.length,fun i H x H'=>H'=H/\∃k v,kvs[i]? =some (k,v)/\x=kV k,fun i H=>H d=some (.frz o (.dK kvs))/\kvs.length<=i⟩
def Itkt(d:Addr)(o:Obj)(kvs:List (List Key×V)):It:=
 ⟨fun i H=>H d=some (.frz o (.dT kvs))/\i<kvs.length,fun i H x H'=>H'=H/\∃(k:List Key) (v:V) (q:Addr),kvs[i]? =some (k,v)/\x=.ref q/\H q=some (.tup (k.map kV)),fun i H=>H d=some (.frz o (.dT kvs))/\kvs.length<=i⟩
theorem jo{o:Obj}{es es':Array DictEntry}{ep ep':Nat}(h:o.data=.dict es ep)(h':o.data=.dict es' ep'):es'=es/\ep'=ep:=by
 rw[h] at h';cases h';exact⟨rfl,rfl⟩
section
variable {P:Program}{w:World}{K:PySem.W.Frag}{tg:Expr}{d:Addr}{o:Obj}{es:Array DictEntry}{ep:Nat}
theorem turn_keys{kvs:List (Key×V)}(it:Addr)(hod:o.data=.dict es ep):Turn P w K tg (Itk d o kvs) [it] it (fun i h=>h.IsKeyIter it d i kvs.length ep) where
 mem:=by simp
 obj:=fun i h st b hb=>by
  have e:b=it:=by simpa using hb
  subst e;obtain⟨oi,e,c,dd⟩:=st;exact⟨oi,e,fun v z=>by rw[dd] at z;cases z⟩
 keep:=fun i h h' st k=>st.at fun oi e=>k it (by simp) oi e
 item:=by
  intro X hP hw hK hc i pins s σ H E I hf st hg;subst hP hw hK;obtain⟨hd,hi⟩:=hg;obtain⟨f0,f1,f2,f3,f4,f5⟩:=hf it (by simp);obtain⟨hs,hgd,hx,es',ep',vs,hdt,hsz,kv,hm⟩:=I.frzK hd;obtain⟨rfl,rfl⟩:=jo hod hdt;obtain⟨⟨k,v⟩,hkv⟩: ∃p,kvs[i]? =some p:=⟨kvs[i],List.getElem?_eq_getElem hi⟩;obtain⟨u,hu,ru⟩:=kv_get kv hkv;have hl:kvs.length=vs.length:=Paired.length kv;rw[hl] at st;refine wpAny_pyNext_dict_item st hm hu fun key h' hkey st' sb=> ?_;have I1:Inv X pins σ H {s with heap:=h'}:=I.turned (t':=s.toks) (fun b ob hb e=>(sb.2 b hb).trans e) f0 f1 f3 f4 f5;obtain⟨oi,e,c,dd⟩:=id st';refine⟨key,rfl,go_of (s:={s with heap:=h'}) e c dd (by decide) ⟨kV k,H,I1,relV_key (show keyIs k key=true from hkey),⟨rfl,k,v,hkv,rfl⟩,?_,fun b hb=>(hf b hb).1⟩⟩;show h'.IsKeyIter it d (i+1) kvs.length _;rw[hl];exact st'
 done:=by
  intro X hP hw hK hc i pins s σ H E I hf st hg;subst hP hw hK;obtain⟨hd,hi⟩:=hg;obtain⟨f0,f1,f2,f3,f4,f5⟩:=hf it (by simp);obtain⟨hs,hgd,hx,es',ep',vs,hdt,hsz,kv,hm⟩:=I.frzK hd;obtain⟨rfl,rfl⟩:=jo hod hdt;exact Yb (I.ok.hd hc) st hgd hdt hsz hi fun h' eb=>⟨rfl,I.turned (t':=s.toks) (fun b ob hb e=>eb b ob hb e) f0 f1 f3 f4 f5⟩
 self:=fun A i s Q E st h=>wpAny_pyIter_keyiter st h
theorem turn_keysT{kvs:List (List Key×V)}(it:Addr)(hod:o.data=.dict es ep):Turn P w K tg (Itkt d o kvs) [it] it (fun i h=>h.IsKeyIter it d i kvs.length ep) where
 mem:=by simp
 obj:=fun i h st b hb=>by
  have e:b=it:=by simpa using hb
  subst e;obtain⟨oi,e,c,dd⟩:=st;exact⟨oi,e,fun v z=>by rw[dd] at z;cases z⟩
 keep:=fun i h h' st k=>st.at fun oi e=>k it (by simp) oi e
 item:=by
  intro X hP hw hK hc i pins s σ H E I hf st hg;subst hP hw hK;obtain⟨hd,hi⟩:=hg;obtain⟨f0,f1,f2,f3,f4,f5⟩:=hf it (by simp);obtain⟨hs,hgd,hx,es',ep',hdt,hsz,ent⟩:=I.frzT hd;obtain⟨rfl,rfl⟩:=jo hod hdt;obtain⟨⟨k,v⟩,hkv⟩: ∃p,kvs[i]? =some p:=⟨kvs[i],List.getElem?_eq_getElem hi⟩;obtain⟨en,q,hen,hkey,hq⟩:=ent i k v hkv;refine next_key_item st hgd hdt hsz hen fun h' st' sb=> ?_;have I1:Inv X pins σ H {s with heap:=h'}:=I.turned (t':=s.toks) (fun b ob hb e=>(sb.2 b hb).trans e) f0 f1 f3 f4 f5;obtain⟨oi,e,c,dd⟩:=id st';exact⟨en.key,rfl,go_of (s:={s with heap:=h'}) e c dd (by decide) ⟨.ref q,H,I1,hkey,⟨rfl,k,v,q,hkv,rfl,hq⟩,st',fun b hb=>(hf b hb).1⟩⟩
 done:=by
  intro X hP hw hK hc i pins s σ H E I hf st hg;subst hP hw hK;obtain⟨hd,hi⟩:=hg;obtain⟨f0,f1,f2,f3,f4,f5⟩:=hf it (by simp);obtain⟨hs,hgd,hx,es',ep',hdt,hsz,ent⟩:=I.frzT hd;obtain⟨rfl,rfl⟩:=jo hod hdt;exact Yb (I.ok.hd hc) st hgd hdt hsz hi fun h' eb=>⟨rfl,I.turned (t':=s.toks) (fun b ob hb e=>eb b ob hb e) f0 f1 f3 f4 f5⟩
 self:=fun A i s Q E st h=>by
  refine wpAny_pyIter_slot st.typeIs F.slot_dict_keyiterator_iter (wpAny_call_entry F.slot_dict_keyiterator_iter st.typeIs F.entry_dict_keyiterator_iter ?_ (F.args_dict_keyiterator_iter_1 _));show wpAny _ _ (ret (.ref it)) _ _ s;exact wpAny_pure ⟨_,rfl,"dict_keyiterator",_,st.typeIs,F.slot_dict_keyiterator_next.lookup,h⟩
end
def iKeys(td:TE):TI:=fun σ H R=>td σ H fun x H1=>∃d o,x=.ref d/\((∃kvs,H1 d=some (.frz o (.dK kvs))/\R (Itk d o kvs) H1)∨∃kvs,H1 d=some (.frz o (.dT kvs))/\R (Itkt d o kvs) H1)
section
variable {X:Cx}{tg e:Expr}{td:TE}{apos cpos:Pos}
theorem pi_keys(he:PE X e td):PI X tg e (iKeys td):=by
 intro pins s σ H R I h;refine thn (he pins s σ H _ I h) fun u s1 ⟨x,H1,I1,rx,d,o,ex,q⟩=> ?_;subst ex;obtain rfl:u=Value.ref d:=rx;rcases q with⟨kvs,hd,q⟩|⟨kvs,hd,q⟩
 ·obtain⟨hs,hgd,hx,es,ep,vs,hdt,hsz,kv,hm⟩:=I1.frzK hd;refine vK hs hgd hx hdt (pi_one (tk:=s1.toks) I1 _ (turn_keys _ hdt) ⟨_,Heap.get?_push_size _ rfl,rfl,?_⟩ q);rw[hsz]<;>rfl
 ·obtain⟨hs,hgd,hx,es,ep,hdt,hsz,ent⟩:=I1.frzT hd;refine vK hs hgd hx hdt (pi_one (tk:=s1.toks) I1 _ (turn_keysT _ hdt) ⟨_,Heap.get?_push_size _ rfl,rfl,?_⟩ q);rw[hsz]<;>rfl
end
def Ite(K:PySem.W.Frag)(a:Addr):It:=
 ⟨fun i H=>∃(xs:List V) (x:V),SqL K H a xs/\xs[i]? =some x,fun i H v H'=>∃T x,v=.ref T/\H T=none/\H'=upd H T (.tup [.int (i:Nat),x])/\∀xs,SqL K H a xs->xs[i]? =some x,fun i H=>∃xs:List V,SqL K H a xs/\xs.length<=i⟩
theorem turn_enum{P:Program}{w:World}{K:PySem.W.Frag}{elts:List Expr}{kk:Nat}{tpos:Pos}(a e it:Addr):
  Turn P w K (.Tuple elts kk tpos) (Ite K a) [e,it] e (fun i h=>(∃old,IsEnum h e it ((i:Nat):Int) old)/\h.IsListIter it a i/\e≠it) where
 mem:=by simp
 obj:=fun i h st b hb=>by
  obtain⟨⟨old,he⟩,⟨o,ho,hc,hd⟩,_⟩:=st;have e':b=e∨b=it:=by simpa using hb
  rcases e' with z|z
  ·rw[z];exact⟨_,he,fun v q=>nomatch q⟩
  ·rw[z];exact⟨o,ho,fun v q=>by rw[hd] at q;cases q⟩
 keep:=fun i h h' st k=>let⟨⟨old,he⟩,hi,hne⟩:=st;⟨⟨old,k e (by simp) _ he⟩,hi.at fun o q=>k it (by simp) o q,hne⟩
 item:=by
  intro X hP hw hK hc i pins s σ H E I hf st hg;subst hP hw hK;obtain⟨⟨old,he⟩,hit,hne⟩:=st;obtain⟨xs,x,hq,hx⟩:=hg;obtain⟨its,rv,p,hz⟩:=I.list hq;obtain⟨u,hu,ru⟩:=rv.get hx;have hel:e<s.heap.objs.size:=Heap.lt_size he;have hil:it<s.heap.objs.size:=by obtain⟨_,q,_⟩:=hit;exact Heap.lt_size q
  refine wpAny_pyNext_enum_item he hit p.isList (x:=u) (by simpa using hu) hne fun h' ho hit' hT hsz hk=> ?_;refine⟨_,rfl,wpAny_letOwnedTupleGo_enum (s:={s with heap:=h',toks:=s.toks+1}) ho fun h'' he' sb=> ?_⟩;have hT2:h''.get? s.heap.objs.size=some {cls:=.type "tuple",data:=.seq #[.int i s.toks,u]}:=(sb.2 _ (Nat.ne_of_gt hel)).trans hT;have new:ObjOk X.prog X.w (upd H s.heap.objs.size (.tup [.int (i:Nat),x])) h'' s.heap.objs.size (.tup [.int (i:Nat),x]):=
   ⟨by show 2<=sizeLine;decide,[.int i s.toks,u],.cons ⟨_,rfl⟩ (.cons ru .nil),⟨_,hT2,rfl,_,rfl⟩⟩
  have I1:Inv X pins σ (upd H s.heap.objs.size (.tup [.int (i:Nat),x])) {s with heap:=h'',toks:=s.toks+1}:=
   I.turnedNew (ch:=[e,it]) (fun b ob hb q=>(sb.2 b (fun z=>hb (by simp[z]))).trans (hk b ob (fun z=>hb (by simp[z])) (fun z=>hb (by simp[z])) q)) hf (Nat.le_refl _) new
  refine⟨.ref s.heap.objs.size,_,I1,rfl,⟨_,x,rfl,I.hok.fresh (Nat.le_refl _),rfl,fun ys hy=>by rw[I.Yd hy hq];exact hx⟩,⟨⟨u,?_⟩,hit'.at fun o q=>(sb.2 it (Ne.symm hne)).trans q,hne⟩,fun b hb=> ?_⟩
  ·have e1:((i+1:Nat):Int)=(i:Int)+1:=by omega
   rw[e1];exact he'
  ·have hb':b<s.heap.objs.size:=by
    have e':b=e∨b=it:=by simpa using hb
    rcases e' with z|z
    ·rw[z];exact hel
    ·rw[z];exact hil
   rw[zH (Nat.ne_of_lt hb')];exact(hf b hb).1
 done:=by
  intro X hP hw hK hc i pins s σ H E I hf st hg;subst hP hw hK;obtain⟨⟨old,he⟩,hit,hne⟩:=st;obtain⟨xs,hq,hx⟩:=hg;obtain⟨its,rv,p,hz⟩:=I.list hq;obtain⟨f0,f1,f2,f3,f4,f5⟩:=hf it (by simp);have hl:=rv.length;exact wpAny_pyNext_enum_end (I.ok.hd hc) he hit p.isList (by simp;omega) fun h' eb=>⟨rfl,I.turned (t':=s.toks) (fun b o hb q=>eb b o hb q) f0 f1 f3 f4 f5⟩
 self:=fun A i s Q E st h=>let⟨⟨_,he⟩,_⟩:=st;wpAny_pyIter_enum he h
def iEnum(K:PySem.W.Frag)(ta:TA):TI:=fun σ H R=>ta σ H fun vs H1=>∃a xs,vs=[.ref a]/\SqL K H1 a xs/\R (Ite K a) H1
theorem ji{X:Cx}{e:Expr}{ta:TA}{p pos tpos:Pos}{elts:List Expr}{kk:Nat}(hg:Gl X "enumerate")(hm:X.mg "enumerate"=none)(ha:PA X [e] ta)(hs:starEach [e] X.env=[(false,eval e X.env)]:=by rfl):
  PI X (.Tuple elts kk tpos) (.Call (.Name "enumerate" p) [e] [] pos) (iEnum X.K ta):=by
 intro pins s σ H R I h;refine Call_ (Zn I hg hm boot_enumerate (PyProof.Rows.callWith_type1 (thn (ha pos pins s σ H _ I h) fun us s1 ⟨vs,H1,I1,r1,q1⟩=> ?_) hs rfl));obtain⟨a,xs,ex,hq,q⟩:=q1;subst ex;cases r1 with
 |cons r rr=>
  cases rr;cases r;obtain⟨its,rv,p',hz⟩:=I1.list hq;refine call_enumerate_list p'.isList fun h' he hit hsz hk=>wpAny_pyIter_enum he ?_;have I2:Inv X pins σ H1 {s1 with heap:=h'}:=I1.kept (t':=s1.toks) hk;refine⟨s1.heap.objs.size+1,[s1.heap.objs.size+1,s1.heap.objs.size],_,_,H1,rfl,I2,turn_enum a (s1.heap.objs.size+1) s1.heap.objs.size,⟨⟨.none,he⟩,hit,Nat.succ_ne_self _⟩,fun b hb=> ?_,q⟩;have e':b=s1.heap.objs.size+1∨b=s1.heap.objs.size:=by simpa using hb
  have hle:s1.heap.objs.size<=b:=by
   rcases e' with z|z
   ·rw[z];exact Nat.le_add_right _ _
   ·rw[z];exact Nat.le_refl _
  exact I1.fpOk hle (I1.hok.fresh hle)
theorem boot_zip5:bootBuiltins "zip"=some (.type "zip"):=by decide +kernel
def Itz(K:PySem.W.Frag)(a b:Addr):It:=
 ⟨fun i H=>∃(xs ys:List V) (x y:V),SqL K H a xs/\SqL K H b ys/\xs[i]? =some x/\ys[i]? =some y,
  fun i H v H'=>∃T x y,v=.ref T/\H T=none/\H'=upd H T (.tup [x,y])/\(∀xs,SqL K H a xs->xs[i]? =some x)/\∀ys,SqL K H b ys->ys[i]? =some y,
  fun i H=>∃xs ys:List V,SqL K H a xs/\SqL K H b ys/\(xs.length<=i∨ys.length<=i)⟩
theorem turn_zip{P:Program}{w:World}{K:PySem.W.Frag}{elts:List Expr}{kk:Nat}{tpos:Pos}{a b z TI TO i1 i2:Addr}(D:ZipApart z TI TO i1 i2 a b):
  Turn P w K (.Tuple elts kk tpos) (Itz K a b) [z,TI,TO,i1,i2] z (fun i h=>IsZip h z TI TO .none/\IsPair h TI (.ref i1) (.ref i2)/\(∃x y,IsPair h TO x y)/\h.IsListIter i1 a i/\h.IsListIter i2 b i) where
 mem:=by simp
 obj:=fun i h st c hc=>by
  obtain⟨hz,hTI,⟨x,y,hTO⟩,⟨o1,e1,_,d1⟩,⟨o2,e2,_,d2⟩⟩:=st;have e':c=z∨c=TI∨c=TO∨c=i1∨c=i2:=by simpa using hc
  rcases e' with q|q|q|q|q
  ·rw[q];exact⟨_,hz,fun v q=>nomatch q⟩
  ·rw[q];exact⟨_,hTI,fun v q=>nomatch q⟩
  ·rw[q];exact⟨_,hTO,fun v q=>nomatch q⟩
  ·rw[q];exact⟨o1,e1,fun v q=>by rw[d1] at q;cases q⟩
  ·rw[q];exact⟨o2,e2,fun v q=>by rw[d2] at q;cases q⟩
 keep:=fun i h h' st k=>by
  obtain⟨hz,hTI,⟨x,y,hTO⟩,h1,h2⟩:=st;exact⟨k z (by simp) _ hz,k TI (by simp) _ hTI,⟨x,y,k TO (by simp) _ hTO⟩,h1.at fun o q=>k i1 (by simp) o q,h2.at fun o q=>k i2 (by simp) o q⟩
 item:=by
  intro X hP hw hK hc i pins s σ H E I hf st hg;subst hP hw hK;obtain⟨hz,hTI,⟨x0,y0,hTO⟩,h1,h2⟩:=st;obtain⟨xs,ys,x,y,hqx,hqy,hx,hy⟩:=hg;obtain⟨its,rv,p,_⟩:=I.list hqx;obtain⟨its2,rv2,p2,_⟩:=I.list hqy;obtain⟨u,hu,ru⟩:=rv.get hx;obtain⟨u2,hu2,ru2⟩:=rv2.get hy;have hzl:z<s.heap.objs.size:=Heap.lt_size hz;refine wpAny_pyNext_zip_item D hz hTI hTO h1 h2 p.isList p2.isList (x:=u) (y:=u2) (by simpa using hu) (by simpa using hu2) fun h' z' TO' h1' h2' hT hsz hk=> ?_;refine⟨_,rfl,wpAny_letOwnedTupleGo_zip (s:={s with heap:=h'}) z' fun h'' z'' sb=> ?_⟩;have hT2:h''.get? s.heap.objs.size=some {cls:=.type "tuple",data:=.seq #[u,u2]}:=(sb.2 _ (Nat.ne_of_gt hzl)).trans hT;have new:ObjOk X.prog X.w (upd H s.heap.objs.size (.tup [x,y])) h'' s.heap.objs.size (.tup [x,y]):=
   ⟨by show 2<=sizeLine;decide,[u,u2],.cons ru (.cons ru2 .nil),⟨_,hT2,rfl,_,rfl⟩⟩
  have I1:Inv X pins σ (upd H s.heap.objs.size (.tup [x,y])) {s with heap:=h''}:=
   I.turnedNew (t':=s.toks) (ch:=[z,TI,TO,i1,i2]) (fun c o hb q=>(sb.2 c (fun q'=>hb (by simp[q']))).trans (hk c o (fun q'=>hb (by simp[q'])) (fun q'=>hb (by simp[q'])) (fun q'=>hb (by simp[q'])) (fun q'=>hb (by simp[q'])) q)) hf (Nat.le_refl _) new
  refine⟨.ref s.heap.objs.size,_,I1,rfl,⟨_,x,y,rfl,I.hok.fresh (Nat.le_refl _),rfl,fun l hl=>by rw[I.Yd hl hqx];exact hx,fun l hl=>by rw[I.Yd hl hqy];exact hy⟩,⟨z'',?_,⟨u,u2,?_⟩,?_,?_⟩,fun c hcm=> ?_⟩
  ·exact(sb.2 _ D.TIz).trans (hk _ _ D.TIz D.TITO D.TIi1 D.TIi2 hTI)
  ·exact(sb.2 _ D.TOz).trans TO'
  ·exact h1'.at fun o q=>(sb.2 _ D.i1z).trans q
  ·exact h2'.at fun o q=>(sb.2 _ D.i2z).trans q
  ·have hlt:c<s.heap.objs.size:=by
    have e':c=z∨c=TI∨c=TO∨c=i1∨c=i2:=by simpa using hcm
    rcases e' with q|q|q|q|q
    ·rw[q];exact hzl
    ·rw[q];exact Heap.lt_size hTI
    ·rw[q];exact Heap.lt_size hTO
    ·rw[q];obtain⟨_,e1,_⟩:=h1;exact Heap.lt_size e1
    ·rw[q];obtain⟨_,e2,_⟩:=h2;exact Heap.lt_size e2
   rw[zH (Nat.ne_of_lt hlt)];exact(hf c hcm).1
 done:=by
  intro X hP hw hK hc i pins s σ H E I hf st hg;subst hP hw hK;obtain⟨hz,hTI,⟨x0,y0,hTO⟩,h1,h2⟩:=st;obtain⟨xs,ys,hqx,hqy,hend⟩:=hg;obtain⟨its,rv,p,_⟩:=I.list hqx;obtain⟨its2,rv2,p2,_⟩:=I.list hqy;have l1:=rv.length;have l2:=rv2.length;have he:its.toArray[i]? =none∨its2.toArray[i]? =none:=by
   rcases hend with q|q
   ·exact .inl (by simp;omega)
   ·exact .inr (by simp;omega)
  exact wpAny_pyNext_zip_end (I.ok.hd hc) D hz hTI hTO h1 h2 p.isList p2.isList he fun h' hk=>⟨rfl,I.turnedL (t':=s.toks) (ch:=[z,TI,TO,i1,i2]) (fun c o hb q=>
   hk c o (fun q'=>hb (by simp[q'])) (fun q'=>hb (by simp[q'])) (fun q'=>hb (by simp[q'])) (fun q'=>hb (by simp[q'])) q) hf⟩
 self:=fun A i s Q E st h=>wpAny_pyIter_zip st.1 h
def iZip(K:PySem.W.Frag)(ta:TA):TI:=fun σ H R=>ta σ H fun vs H1=>∃a b xs ys,vs=[.ref a,.ref b]/\SqL K H1 a xs/\SqL K H1 b ys/\R (Itz K a b) H1
theorem Yw{X:Cx}{e e2:Expr}{ta:TA}{p pos tpos:Pos}{elts:List Expr}{kk:Nat}(hg:Gl X "zip")(hm:X.mg "zip"=none)(ha:PA X [e,e2] ta)
  (hs:starEach [e,e2] X.env=(false,eval e X.env)::starEach [e2] X.env:=by rfl)(hpl:(backTo pos (starEach [e2] X.env)).any (·.1)=false:=by rfl):
  PI X (.Tuple elts kk tpos) (.Call (.Name "zip" p) [e,e2] [] pos) (iZip X.K ta):=by
 intro pins s σ H R I h;refine Call_ (Zn I hg hm boot_zip5 (PyProof.Rows.callWith_type1 (thn (ha pos pins s σ H _ I h) fun us s1 ⟨vs,H1,I1,r1,q1⟩=> ?_) hs hpl));obtain⟨a,b,xs,ys,ex,hqx,hqy,q⟩:=q1;subst ex;cases r1 with
 |cons r rr=>
  cases rr with
  |cons r' rr=>
   cases rr;cases r;cases r';obtain⟨its,rv,p1,_⟩:=I1.list hqx;obtain⟨its2,rv2,p2,_⟩:=I1.list hqy;have la:a<s1.heap.objs.size:=p1.lt;have lb:b<s1.heap.objs.size:=p2.lt;refine call_zip_2 p1.isList p2.isList fun h' hz hTI hTO h1 h2 hsz hk=>wpAny_pyIter_zip hz ?_;have I2:Inv X pins σ H1 {s1 with heap:=h'}:=I1.kept (t':=s1.toks) hk;refine⟨s1.heap.objs.size+4,[s1.heap.objs.size+4,s1.heap.objs.size+2,s1.heap.objs.size+3,s1.heap.objs.size,s1.heap.objs.size+1],_,_,H1,rfl,I2,turn_zip (PySem.W.ktu_apart s1.heap.objs.size a b la lb),⟨hz,hTI,⟨_,_,hTO⟩,h1,h2⟩,fun c hcm=> ?_,q⟩;have e':c=s1.heap.objs.size+4∨c=s1.heap.objs.size+2∨c=s1.heap.objs.size+3∨c=s1.heap.objs.size∨c=s1.heap.objs.size+1:=by simpa using hcm
   have hle:s1.heap.objs.size<=c:=by
    rcases e' with z|z|z|z|z
    ·rw[z];exact Nat.le_add_right _ _
    ·rw[z];exact Nat.le_add_right _ _
    ·rw[z];exact Nat.le_add_right _ _
    ·rw[z];exact Nat.le_refl _
    ·rw[z];exact Nat.le_add_right _ _
   exact I1.fpOk hle (I1.hok.fresh hle)
end L2
section
namespace Bits
open PySem PyProof.Rows
end Bits
end
section
namespace TL
open PySem PySem.Builtin PySem.Builtin.Str PySem.StrLaws
end TL
end
namespace L2
open PySem PySem.Spec PyProof.Rows
section
variable {X:Cx}{pins:List (Addr×Obj)}{σ:St}{H:Hp}{s:Shared}{Q:VK}
end
section
variable {X:Cx}
end
section
variable {X:Cx}{o e:Expr}{to te:TE}
end
section
variable {X:Cx}
end
end L2
namespace Att
open PySem PySem.W PySem.Calls PyProof.Rows
section
variable {prog:Program}{w:World}{A:Around}{E:Value->Shared->Prop}{s:Shared}{K:Frag}
end
end Att
namespace L2
open PySem PySem.Spec PyProof.Rows
def inClass(s:Stmt)(j:Nat):Stmt:=match s with
 |.ClassDef _ _ _ body _ _ _ _ _ _ _=>body.getD j (.Pass ⟨0,0,0,0⟩)
 |_=>.Pass ⟨0,0,0,0⟩
def defArgs(s:Stmt):Arguments:=match s with
 |.FunctionDef _ a _ _ _ _ _ _ _ _=>a
 |_=>{posonlyargs:=[],args:=[],vararg:=none,kwonlyargs:=[],kw_defaults:=[],kwarg:=none,defaults:=[]}
def defBody(s:Stmt):List Stmt:=match s with
 |.FunctionDef _ _ b _ _ _ _ _ _ _=>b
 |_=>[]
def defScope(s:Stmt):Scope:=match s with
 |.FunctionDef _ _ _ _ _ _ sc _ _ _=>sc
 |_=>{kind:=.function,names:=[],isGenerator:=false,isCoroutine:=false}
abbrev CX0:CXT:=fun _ _ _ _ _ _=>False
abbrev E0:XK:=fun _ _ _=>False
theorem pass0{X:Cx}:Passes CX0 X E0:=fun _ _ _ _ _ _ _ h=>h.elim
structure Fun(K:PySem.W.Frag)(x qual:Str)(st:Stmt)(f:Addr)(fd:FuncData):Prop where
 ex: ∃(oc:Value) (od:Option Addr) (kV doc pm:Value) (an:Option Addr) (cdv ct:Value) (osl:Array (Option Value)),
  fd=PySem.W.fnOf x qual (defArgs st) (defBody st) (defScope st) .none kV doc pm an cdv ct/\K.lookup f=some ⟨oc,od,.func fd,osl⟩/\PySem.W.codeIn K cdv qual=true
 kp:PySem.W.keepIn K (.ref f)=true
section
variable {P:Program}{w:World}{K:PySem.W.Frag}{mg:Str->Option Value}{base:Heap}
theorem Fun.ok{x qual:Str}{st:Stmt}{f:Addr}{fd:FuncData}{N ps:List Str}{k:Nat}{sp:Sp}(F:Fun K x qual st f fd)(S:FnScope N ps (defScope st))(len: ∀vs H Q E,sp vs H Q E->vs.length=ps.length)
  (hbody: ∀(cdv:Value) (A:Around) (outer:List Env) (s:Shared) (H:Hp) (vs:List V) (Q:VK) (E:XK),Room k (A.deeper (envOfC qual (defScope st) s.heap.objs.size f cdv))->sp vs H Q E->
   ∃t,PSs (cxOf CX0 P w K mg base N qual (defScope st) f cdv A outer s H E).nox (defBody st) t/\t {nx:=fun _ H'=>Q .non H',rt:=Q} (start N vs) H):FnOk P w K mg base CX0 (k+1) f fd ps sp:=by
 obtain⟨oc,od,kV,doc,pm,an,cdv,ct,osl,rfl,lk,hcd⟩:=F.ex;refine fn_of lk hcd S len fun A outer s H vs Q E hr hsp=> ?_;obtain⟨t,h,q⟩:=hbody cdv A outer s H vs Q E hr hsp;exact⟨t,h.nox,q⟩
theorem Fun.binds{x qual:Str}{st:Stmt}{f:Addr}{fd:FuncData}{ps:List Str}(F:Fun K x qual st f fd)
  (h: ∀(kV doc pm:Value) (an:Option Addr) (cdv ct:Value) (us:List Value),us.length=ps.length->bindArgs (PySem.W.fnOf x qual (defArgs st) (defBody st) (defScope st) .none kV doc pm an cdv ct) ⟨us,[]⟩=pure (ps.zip us)):Binds K fd ps []:=by
 obtain⟨oc,od,kV,doc,pm,an,cdv,ct,osl,rfl,lk,hcd⟩:=F.ex;exact .all (h kV doc pm an cdv ct)
theorem fun_mk{x qual:Str}{st:Stmt}{f:Addr}{oc:Value}{od an:Option Addr}{osl:Array (Option Value)}{kV doc pm cdv ct:Value}(l:K.lookup f=some ⟨oc,od,.func (PySem.W.fnOf x qual (defArgs st) (defBody st) (defScope st) .none kV doc pm an cdv ct),osl⟩)
  (c:PySem.W.codeIn K cdv qual=true)(k:PySem.W.keepIn K (.ref f)=true):Fun K x qual st f (PySem.W.fnOf x qual (defArgs st) (defBody st) (defScope st) .none kV doc pm an cdv ct):=⟨⟨oc,od,kV,doc,pm,an,cdv,ct,osl,rfl,l,c⟩,k⟩
end
theorem vM{A:Around}{k:Nat}(hr:Room k A):A.units+1<cLine:=Nat.lt_of_le_of_lt (Nat.add_le_add_left (by decide:1<=64) _) hr.units
theorem small1000{n:Nat}(h:n<=1000):n<sizeLine:=Nat.lt_of_le_of_lt h (by decide)
section
variable {X:Cx}
theorem pv(i:Nat){x:Str}{pos:Pos}(hN:X.N[i]? =some x:=by rfl)(hv:Vis X.env.scope x:=by first|exact Or.inl rfl|exact Or.inr (Or.inl rfl)|exact Or.inr (Or.inr rfl))(hd:(x==("__debug__":Str))=false:=by decide)
  (hcd:(x==("__classdict__":Str))=false:=by decide):PE X (.Name x pos) (tVar i):=pe_var hN hv hd hcd
end
theorem iteF{A B:Prop}(h:B):if false=true then A else B:=by
 rw[if_neg Bool.false_ne_true];exact h
theorem iteT{A B:Prop}(h:A):if true=true then A else B:=by
 rw[if_pos rfl];exact h
theorem ite2{c A B:Prop}[Decidable c](h1:c->A)(h2: ¬c->B):if c then A else B:=by
 by_cases h:c
 ·rw[if_pos h];exact h1 h
 ·rw[if_neg h];exact h2 h
def Same(H H':Hp):Prop:=∀b o,H b=some o->H' b=some o
theorem Same.refl(H:Hp):Same H H:=fun _ _ h=>h
theorem Same.trans{H H1 H2:Hp}(a:Same H H1)(b:Same H1 H2):Same H H2:=fun c o h=>b c o (a c o h)
theorem Same.free{H H':Hp}(e:Same H H'){l:Addr}(h:H' l=Option.none):H l=Option.none:=by
 cases q:H l with
 |none=>rfl
 |some o=>
  rw[e l o q] at h;cases h
theorem Same.seq{K:PySem.W.Frag}{H H':Hp}{a:Addr}{xs:List V}(e:Same H H')(h:SqL K H a xs):SqL K H' a xs:=by
 rcases h with(h|⟨o,h⟩)|h
 ·exact .inl (.inl (e _ _ h))
 ·exact .inl (.inr ⟨o,e _ _ h⟩)
 ·exact .inr h
section
variable {κ:Type}[DecidableEq κ]
theorem nd_snoc: ∀{l:List κ} {k:κ},l.Nodup->¬k∈l->(l++[k]).Nodup
 |[],k,_,_=>by simp
 |a::r,k,h,hk=>by
  obtain⟨h1,h2⟩:=List.nodup_cons.mp h;show(a::(r++[k])).Nodup;refine List.nodup_cons.mpr ⟨fun m=> ?_,nd_snoc h2 fun m=>hk (List.mem_cons.mpr (Or.inr m))⟩;rcases List.mem_append.mp m with q|q
  ·exact h1 q
  ·exact hk (List.mem_cons.mpr (Or.inl (List.mem_singleton.mp q).symm))
end
theorem at_of{xs:List V}{z:Int}{j:Nat}{v:V}(e:z=(j:Int))(h:xs[j]? =some v):atI xs z=some v:=by
 rw[e];exact Zf h
theorem nd_ix{α:Type}{l:List α}(hN:l.Nodup){i j:Nat}{x:α}(a:l[i]? =some x)(b:l[j]? =some x):i=j:=by
 obtain⟨h1,e1⟩:=List.getElem?_eq_some_iff.mp a;obtain⟨h2,e2⟩:=List.getElem?_eq_some_iff.mp b;exact(List.getElem_inj hN).mp (e1.trans e2.symm)
end L2
namespace GW
open PySem PySem.Spec PyProof.Rows L2
def top(i:Nat):Stmt:=PySem.Challenge.pw_graphwaves_s01_answers.main.body.getD i (.Pass ⟨0,0,0,0⟩)
abbrev sStateAfter:Stmt:=top 7
abbrev sLean:Stmt:=top 8
abbrev sWalkSum:Stmt:=top 9
abbrev sGoes:Stmt:=top 10
abbrev sSteps:Stmt:=top 11
def IntG(mg:Str->Option Value)(x:Str)(i:Int):Prop:=∃t,mg x=some (.int i t)
theorem zV{X:Cx}{x:Str}{i:Int}{pos:Pos}(h:IntG X.mg x i)(hg:Gl X x:=by rfl)(hd:(x==("__debug__":Str))=false:=by decide):PE X (.Name x pos) (tC (.int i)):=by
 obtain⟨t,e⟩:=h;exact pe_glob hg e ⟨t,rfl⟩ hd
def leanI(a b:Int):Int:=if a=b then 0 else if b=(a+1) % 3 then 1 else -1
def spStateAfter:Sp:=fun vs H Q _=>∃a b:Int,vs=[.int a,.int b]/\Q (.int ((a+b) % 3)) H
def spLean:Sp:=fun vs H Q _=>∃a b:Int,vs=[.int a,.int b]/\Q (.int (leanI a b)) H
section
variable {P:Program}{w:World}{K:PySem.W.Frag}{mg:Str->Option Value}{base:Heap}
theorem scStateAfter:FnScope ["state","steps"] ["state","steps"] (defScope sStateAfter):=⟨rfl,rfl,rfl,by decide +kernel,rfl,by decide +kernel,by decide +kernel⟩
theorem ok_stateAfter{f:Addr}{fd:FuncData}(F:Fun K "state_after" "state_after" sStateAfter f fd)(hS:IntG mg "STATES" 3):FnOk P w K mg base CX0 1 f fd ["state","steps"] spStateAfter:=by
 refine F.ok scStateAfter (fun vs H Q E h=> ?_) (fun cdv A outer s H vs Q E hr h=> ?_)
 ·obtain⟨a,b,rfl,_⟩:=h;rfl
 ·obtain⟨a,b,rfl,k⟩:=h;refine⟨_,zG (zM (zj op_mod (zj ZJ (pv 0) (pv 1)) (zV hS))),?_⟩;exact⟨_,rfl,_,rfl,_,_,rfl,rfl,_,_,rfl,rfl,(by show(0:Int)<3;decide),k⟩
theorem scLean:FnScope ["a","b"] ["a","b"] (defScope sLean):=⟨rfl,rfl,rfl,by decide +kernel,rfl,by decide +kernel,by decide +kernel⟩
structure Callee(P:Program)(w:World)(K:PySem.W.Frag)(mg:Str->Option Value)(base:Heap)(k:Nat)(x:Str)(ps:List Str)(sp:Sp):Prop where
 ex: ∃f fd,FnOk P w K mg base CX0 k f fd ps sp/\mg x=some (.ref f)/\PySem.W.keepIn K (.ref f)=true/\Binds K fd ps []
theorem zP{X:Cx}{k j:Nat}{x:Str}{ps:List Str}{sp:Sp}{e:Expr}{es:List Expr}{t:TA}{p pos:Pos}(C:Callee X.prog X.w X.K X.mg X.base k x ps sp)(hr:Room j X.A)(ha:PA X (e::es) t)(hkj:k<=j:=by decide)(hg:Gl X x:=by rfl)
  (hdb:(x==("__debug__":Str))=false:=by decide)(he:starEach (e::es) X.env=(false,eval e X.env)::starEach es X.env:=by rfl)(hpl:(backTo pos (starEach es X.env)).any (·.1)=false:=by rfl):
  PE X (.Call (.Name x p) (e::es) [] pos) (tCall sp [] E0 t):=by
 obtain⟨f,fd,F,hm,hk,hb⟩:=C.ex;exact pe_call F (hr.mono hkj) hg hm hk hb .nil pass0 ha hdb he hpl
theorem ok_lean{f:Addr}{fd:FuncData}(F:Fun K "lean_between" "lean_between" sLean f fd)(C:Callee P w K mg base 1 "state_after" ["state","steps"] spStateAfter):FnOk P w K mg base CX0 2 f fd ["a","b"] spLean:=by
 refine F.ok scLean (fun vs H Q E h=> ?_) (fun cdv A outer s H vs Q E hr h=> ?_)
 ·obtain⟨a,b,rfl,_⟩:=h;rfl
 ·obtain⟨a,b,rfl,k⟩:=h;refine⟨_,zF (ZD (zc jR (pv 0) (pv 1) (nomark _)) (zG (zM zK)) zZ)
   (zG (zM (YZ (zc jR (pv 1) (zP C hr (zA (pv 0) (zA zK zE))) (nomark _)) zK (pe_un jy zK)))),?_⟩
  refine⟨_,rfl,_,rfl,rfl,_,rfl,ite2 (fun h=> ?_) (fun h=> ?_)⟩
  ·have e:a=b:=by simpa using h
   have:leanI a b=0:=by unfold leanI;rw[if_pos e]
   rw[this] at k;exact k
  ·have e: ¬a=b:=by simpa using h
   refine⟨_,rfl,_,rfl,a,1,rfl,rfl,_,rfl,ite2 (fun h2=> ?_) (fun h2=> ?_)⟩
   ·have e2:b=(a+1) % 3:=by simpa using h2
    have:leanI a b=1:=by unfold leanI;rw[if_neg e,if_pos e2]
    rw[this] at k;exact k
   ·have e2: ¬b=(a+1) % 3:=by simpa using h2
    have:leanI a b= -1:=by unfold leanI;rw[if_neg e,if_neg e2]
    rw[this] at k;exact⟨_,rfl,k⟩
def SameX(D:Addr)(H H':Hp):Prop:=∀b o,b≠D->H b=some o->H' b=some o
theorem _root_.L2.Same.x{H H':Hp}(h:Same H H')(D:Addr):SameX D H H':=fun b o _ e=>h b o e
theorem SameX.updD{H:Hp}{D:Addr}(o:HO):SameX D H (upd H D o):=fun b u n e=>by rw[zH n];exact e
theorem _root_.L2.Same.upd{H:Hp}{p:Addr}(o:HO)(h:H p=none):Same H (upd H p o):=fun b u e=>by rw[zH (zJ e h)];exact e
theorem _root_.L2.Same.upd2{H H':Hp}{p:Addr}(o:HO)(s:Same H H')(h:H p=none):Same H (L2.upd H' p o):=fun b u e=>by rw[zH (zJ e h)];exact s b u e
def LcI(H1:Hp)(D:Addr)(R:Nat->List V->Hp->Prop)(i:Nat)(H:Hp):Prop:=∃out,Same H1 H/\H D=some (.lst out)/\out.length<=i/\R i out H
def RMono(D:Addr)(R:Nat->List V->Hp->Prop):Prop:=∀i out H H',SameX D H H'->R i out H->R i out H'
theorem RMono.pure{D:Addr}{F:Nat->List V->Prop}:RMono D fun i out _=>F i out:=fun _ _ _ _ _ h=>h
theorem LcI.put{H1 H H4:Hp}{D:Addr}{R:Nat->List V->Hp->Prop}{i:Nat}{out:List V}{y:V}(hm:RMono D R)(hD:H1 D=none)(hi:i<sizeLine)(s1:Same H1 H)(hd:H D=some (.lst out))(hl:out.length<=i)(s:Same H H4)(r:R (i+1) (out++[y]) H4):
  ∃acc,H4 D=some (.lst acc)/\acc.length<sizeLine/\LcI H1 D R (i+1) (upd H4 D (.lst (acc++[y]))):=
 ⟨out,s _ _ hd,Nat.lt_of_le_of_lt hl hi,out++[y],(s1.trans s).upd2 _ hD,zB,by rw[List.length_append];exact Nat.succ_le_succ hl,hm _ _ _ _ (SameX.updD _) r⟩
theorem LcI.skip{H1 H H4:Hp}{D:Addr}{R:Nat->List V->Hp->Prop}{i:Nat}{out:List V}(s1:Same H1 H)(hd:H D=some (.lst out))(hl:out.length<=i)(s:Same H H4)(r:R (i+1) out H4):LcI H1 D R (i+1) H4:=
 ⟨out,s1.trans s,s _ _ hd,Nat.le_succ_of_le hl,r⟩
theorem JW{J:It}{n:Nat}{g:TG}{tt:TT}{te:TE}{vs:List Nat}{σ:L2.St}{H1:Hp}{D:Addr}{Qd:Hp->Prop}(R:Nat->List V->Hp->Prop)(hm:RMono D R)(hD:H1 D=none)
  (hgo: ∀i H,i<n->Same H1 H->J.go i H)(hstop: ∀H,Same H1 H->J.stop n H)(h0:R 0 [] H1)
  (hs: ∀i x H H' out,i<n->Same H1 H->H D=some (.lst out)->out.length<=i->R i out H->J.yld i H x H'->g x (wipe σ vs) H' fun σ2 H2=>wipe σ2 vs=wipe σ vs/\tt σ2 H2 fun b H3=>
   if b=true then te σ2 H3 fun y H4=>∃acc,H4 D=some (.lst acc)/\acc.length<sizeLine/\LcI H1 D R (i+1) (upd H4 D (.lst (acc++[y]))) else LcI H1 D R (i+1) H3)
  (hd: ∀H out,Same H1 H->H D=some (.lst out)->out.length<=n->R n out H->Qd H):
  ∃W:Nat->Nat->Hp->Prop,(∃m,W 0 m (upd H1 D (.lst [])))/\∀i m H,W i m H->
   (J.stop i H/\Qd H)∨(J.go i H/\∃Nx:Hp->Prop,(∀H',Nx H'->∃m',m'<m/\W (i+1) m' H')/\∀x H',J.yld i H x H'->g x (wipe σ vs) H' fun σ2 H2=>wipe σ2 vs=wipe σ vs/\tt σ2 H2 fun b H3=>
    if b=true then te σ2 H3 fun y H4=>∃acc,H4 D=some (.lst acc)/\acc.length<sizeLine/\Nx (upd H4 D (.lst (acc++[y]))) else Nx H3):=by
 refine⟨fun i m H=>m=n - i/\i<=n/\LcI H1 D R i H,⟨n,by simp,Nat.zero_le _,[],(Same.refl H1).upd2 _ hD,zB,Nat.zero_le _,hm _ _ _ _ (SameX.updD _) h0⟩,?_⟩;rintro i m H ⟨rfl,hi,out,s1,hd1,hl,r⟩;by_cases hlt:i<n
 ·exact .inr ⟨hgo i H hlt s1,LcI H1 D R (i+1),fun H' p'=>⟨n - (i+1),by omega,rfl,hlt,p'⟩,fun x H' y=>hs i x H H' out hlt s1 hd1 hl r y⟩
 ·have e:i=n:=by omega
  subst e;exact .inl ⟨hstop H s1,hd H out s1 hd1 hl r⟩
theorem ZK{K:PySem.W.Frag}{a:Addr}{xs:List V}{g:TG}{tt:TT}{te:TE}{vs:List Nat}{σ:L2.St}{H1:Hp}{D:Addr}{Qd:Hp->Prop}(R:Nat->List V->Hp->Prop)(hm:RMono D R)(hD:H1 D=none)(hl:SqL K H1 a xs)(h0:R 0 [] H1)
  (hs: ∀i x H out,i<xs.length->xs[i]? =some x->Same H1 H->H D=some (.lst out)->out.length<=i->R i out H->g x (wipe σ vs) H fun σ2 H2=>wipe σ2 vs=wipe σ vs/\tt σ2 H2 fun b H3=>
   if b=true then te σ2 H3 fun y H4=>∃acc,H4 D=some (.lst acc)/\acc.length<sizeLine/\LcI H1 D R (i+1) (upd H4 D (.lst (acc++[y]))) else LcI H1 D R (i+1) H3)
  (hd: ∀H out,Same H1 H->H D=some (.lst out)->out.length<=xs.length->R xs.length out H->Qd H):
  ∃W:Nat->Nat->Hp->Prop,(∃m,W 0 m (upd H1 D (.lst [])))/\∀i m H,W i m H->
   ((Itl K a).stop i H/\Qd H)∨((Itl K a).go i H/\∃Nx:Hp->Prop,(∀H',Nx H'->∃m',m'<m/\W (i+1) m' H')/\∀x H',(Itl K a).yld i H x H'->g x (wipe σ vs) H' fun σ2 H2=>wipe σ2 vs=wipe σ vs/\tt σ2 H2 fun b H3=>
    if b=true then te σ2 H3 fun y H4=>∃acc,H4 D=some (.lst acc)/\acc.length<sizeLine/\Nx (upd H4 D (.lst (acc++[y]))) else Nx H3):=by
 refine JW R hm hD (fun i H hi s=>⟨xs,xs[i],s.seq hl,by simp[hi]⟩) (fun H s=>⟨xs,s.seq hl,Nat.le_refl _⟩) h0 (fun i x H H' out hi s hd hl' r y=> ?_) hd;obtain⟨e,y⟩:=y;subst e;exact hs i x _ out hi (y xs (s.seq hl)) s hd hl' r
theorem Yh{K:PySem.W.Frag}{a b:Addr}{xs ys:List V}{g:TG}{tt:TT}{te:TE}{vs:List Nat}{σ:L2.St}{H1:Hp}{D:Addr}{Qd:Hp->Prop}(R:Nat->List V->Hp->Prop)(hm:RMono D R)(hD:H1 D=none)(hx:SqL K H1 a xs)(hy:SqL K H1 b ys)(h0:R 0 [] H1)
  (hs: ∀i T x y H out,i<xs.length->i<ys.length->xs[i]? =some x->ys[i]? =some y->H T=none->Same H1 H->H D=some (.lst out)->out.length<=i->R i out H->g (.ref T) (wipe σ vs) (upd H T (.tup [x,y])) fun σ2 H2=>wipe σ2 vs=wipe σ vs/\tt σ2 H2 fun b H3=>
   if b=true then te σ2 H3 fun y H4=>∃acc,H4 D=some (.lst acc)/\acc.length<sizeLine/\LcI H1 D R (i+1) (upd H4 D (.lst (acc++[y]))) else LcI H1 D R (i+1) H3)
  (hd: ∀H out,Same H1 H->H D=some (.lst out)->out.length<=min xs.length ys.length->R (min xs.length ys.length) out H->Qd H):
  ∃W:Nat->Nat->Hp->Prop,(∃m,W 0 m (upd H1 D (.lst [])))/\∀i m H,W i m H->
   ((Itz K a b).stop i H/\Qd H)∨((Itz K a b).go i H/\∃Nx:Hp->Prop,(∀H',Nx H'->∃m',m'<m/\W (i+1) m' H')/\∀x H',(Itz K a b).yld i H x H'->g x (wipe σ vs) H' fun σ2 H2=>wipe σ2 vs=wipe σ vs/\tt σ2 H2 fun b H3=>
    if b=true then te σ2 H3 fun y H4=>∃acc,H4 D=some (.lst acc)/\acc.length<sizeLine/\Nx (upd H4 D (.lst (acc++[y]))) else Nx H3):=by
 refine JW R hm hD (fun i H hi s=> ?_) (fun H s=>⟨xs,ys,s.seq hx,s.seq hy,by omega⟩) h0 (fun i x H H' out hi s hd hl' r y=> ?_) hd
 ·have h1:i<xs.length:=by omega
  have h2:i<ys.length:=by omega
  exact⟨xs,ys,xs[i],ys[i],s.seq hx,s.seq hy,by simp[h1],by simp[h2]⟩
 ·obtain⟨T,x',y',e1,hT,e2,gx,gy⟩:=y;subst e1 e2;exact hs i T x' y' H out (by omega) (by omega) (gx xs (s.seq hx)) (gy ys (s.seq hy)) hT s hd hl' r
theorem lc_enumS{K:PySem.W.Frag}{a:Addr}{xs:List V}{g:TG}{tt:TT}{te:TE}{vs:List Nat}{σ:L2.St}{H1:Hp}{D:Addr}{Qd:Hp->Prop}(R:Nat->List V->Hp->Prop)(hm:RMono D R)(hD:H1 D=none)(hx:SqL K H1 a xs)(h0:R 0 [] H1)
  (hs: ∀i T x H out,i<xs.length->xs[i]? =some x->H T=none->Same H1 H->H D=some (.lst out)->out.length<=i->R i out H->g (.ref T) (wipe σ vs) (upd H T (.tup [.int (i:Nat),x])) fun σ2 H2=>wipe σ2 vs=wipe σ vs/\tt σ2 H2 fun b H3=>
   if b=true then te σ2 H3 fun y H4=>∃acc,H4 D=some (.lst acc)/\acc.length<sizeLine/\LcI H1 D R (i+1) (upd H4 D (.lst (acc++[y]))) else LcI H1 D R (i+1) H3)
  (hd: ∀H out,Same H1 H->H D=some (.lst out)->out.length<=xs.length->R xs.length out H->Qd H):
  ∃W:Nat->Nat->Hp->Prop,(∃m,W 0 m (upd H1 D (.lst [])))/\∀i m H,W i m H->
   ((Ite K a).stop i H/\Qd H)∨((Ite K a).go i H/\∃Nx:Hp->Prop,(∀H',Nx H'->∃m',m'<m/\W (i+1) m' H')/\∀x H',(Ite K a).yld i H x H'->g x (wipe σ vs) H' fun σ2 H2=>wipe σ2 vs=wipe σ vs/\tt σ2 H2 fun b H3=>
    if b=true then te σ2 H3 fun y H4=>∃acc,H4 D=some (.lst acc)/\acc.length<sizeLine/\Nx (upd H4 D (.lst (acc++[y]))) else Nx H3):=by
 refine JW R hm hD (fun i H hi s=>⟨xs,xs[i],s.seq hx,by simp[hi]⟩) (fun H s=>⟨xs,s.seq hx,Nat.le_refl _⟩) h0 (fun i x H H' out hi s hd hl' r y=> ?_) hd;obtain⟨T,x',e1,hT,e2,gx⟩:=y;subst e1 e2;exact hs i T x' H out hi (gx xs (s.seq hx)) hT s hd hl' r
theorem jA{lo:Int}{n:Nat}{g:TG}{tt:TT}{te:TE}{vs:List Nat}{σ:L2.St}{H1:Hp}{D:Addr}{Qd:Hp->Prop}(R:Nat->List V->Hp->Prop)(hm:RMono D R)(hD:H1 D=none)(h0:R 0 [] H1)
  (hs: ∀i H out,i<n->Same H1 H->H D=some (.lst out)->out.length<=i->R i out H->g (.int (lo+i)) (wipe σ vs) H fun σ2 H2=>wipe σ2 vs=wipe σ vs/\tt σ2 H2 fun b H3=>
   if b=true then te σ2 H3 fun y H4=>∃acc,H4 D=some (.lst acc)/\acc.length<sizeLine/\LcI H1 D R (i+1) (upd H4 D (.lst (acc++[y]))) else LcI H1 D R (i+1) H3)
  (hd: ∀H out,Same H1 H->H D=some (.lst out)->out.length<=n->R n out H->Qd H):
  ∃W:Nat->Nat->Hp->Prop,(∃m,W 0 m (upd H1 D (.lst [])))/\∀i m H,W i m H->
   ((Itr lo n).stop i H/\Qd H)∨((Itr lo n).go i H/\∃Nx:Hp->Prop,(∀H',Nx H'->∃m',m'<m/\W (i+1) m' H')/\∀x H',(Itr lo n).yld i H x H'->g x (wipe σ vs) H' fun σ2 H2=>wipe σ2 vs=wipe σ vs/\tt σ2 H2 fun b H3=>
    if b=true then te σ2 H3 fun y H4=>∃acc,H4 D=some (.lst acc)/\acc.length<sizeLine/\Nx (upd H4 D (.lst (acc++[y]))) else Nx H3):=by
 refine JW R hm hD (fun i H hi s=>hi) (fun H s=>Nat.le_refl _) h0 (fun i x H H' out hi s hd hl' r y=> ?_) hd;obtain⟨e,y⟩:=y;subst e y;exact hs i _ out hi s hd hl' r
theorem pgn{X:Cx}(i:Nat){x:Str}{pos:Pos}(hN:X.N.Nodup)(hi:X.N[i]? =some x:=by rfl)(hx:Loc X.env.scope x:=by first|exact Or.inl rfl|exact Or.inr rfl)(hf:X.fn x=true∨X.env.scope.names.lookup x=some .local:=by first|exact .inl rfl|exact .inr rfl):PG X (.Name x pos) (gName i):=ZQ hN hi hx hf
theorem pgt2{X:Cx}(K:PySem.W.Frag)(i j:Nat){x y:Str}{p q pos:Pos}{k:Nat}(hN:X.N.Nodup)(hK:X.K=K:=by rfl)(hc:X.calm=true:=by rfl)(hi:X.N[i]? =some x:=by rfl)(hx:Loc X.env.scope x:=by first|exact Or.inl rfl|exact Or.inr rfl)(hf:X.fn x=true∨X.env.scope.names.lookup x=some .local:=by first|exact .inl rfl|exact .inr rfl)
  (hj:X.N[j]? =some y:=by rfl)(hy:Loc X.env.scope y:=by first|exact Or.inl rfl|exact Or.inr rfl)(hg:X.fn y=true∨X.env.scope.names.lookup y=some .local:=by first|exact .inl rfl|exact .inr rfl):
  PG X (.Tuple [.Name x p,.Name y q] k pos) (gTup K 2 (gCons (gName i) (gCons (gName j) gNil))):=by subst hK;exact pg_tup hc (yc (ZQ hN hi hx hf) (yc (ZQ hN hj hy hg) pgs_nil))
theorem ixl{X:Cx}(K:PySem.W.Frag)(hK:X.K=K:=by rfl):IxR X (rIxL K):=by subst hK;exact ix_list
theorem ixt{X:Cx}(K:PySem.W.Frag)(hK:X.K=K:=by rfl):IxR X (rIxT K):=by subst hK;exact ix_tup
theorem inl_{X:Cx}(K:PySem.W.Frag)(hK:X.K=K:=by rfl):OpR X (compareOp .In) (rIn K false):=by subst hK;exact op_in_seq
theorem zW{X:Cx}(K:PySem.W.Frag){a b:Expr}{ta tb:TE}{pos:Pos}(ha:PE X a ta)(hb:PE X b tb)(hK:X.K=K:=by rfl)(hs:PlainIx b:=by exact fun _ _=>rfl):PE X (.Subscript a b pos) (tOp (rIxL K) ta tb):=pe_ix (ixl K hK) ha hb hs
theorem yesT{σ:L2.St}{H:Hp}{A B:Hp->Prop}(h:A H):tYes σ H (fun b H3=>if b=true then A H3 else B H3):=by
 show if true=true then A H else B H
 rw[if_pos rfl];exact h
structure Bi(mg:Str->Option Value):Prop where
 sum:mg "sum"=none
 any:mg "any"=none
 tuple:mg "tuple"=none
 reversed:mg "reversed"=none
 zip:mg "zip"=none
 all:mg "all"=none
 len:mg "len"=none
 min:mg "min"=none
 max:mg "max"=none
 sorted:mg "sorted"=none
 set:mg "set"=none
 list:mg "list"=none
 range:mg "range"=none
 enumerate:mg "enumerate"=none
def at0(xs:List Int)(i:Int):Int:=xs.getD i.toNat 0
theorem zb{xs:List Int}{i:Int}(h0:0<=i)(h1:i<xs.length):atI (xs.map V.int) i=some (.int (at0 xs i)):=by
 refine at_of (j:=i.toNat) (by omega) ?_;rw[List.getElem?_map,List.getElem?_eq_getElem (by omega)];unfold at0;rw[List.getD_eq_getElem?_getD,List.getElem?_eq_getElem (by omega)];rfl
def walkLeans(xs cs:List Int):List Int:=(cs.zip (cs.drop 1)).map fun p=>leanI (at0 xs p.1) (at0 xs p.2)
def walkSumI(xs:List Int)(cs:List Int):Int:=(walkLeans xs cs).sum
def spWalkSum(K:PySem.W.Frag):Sp:=fun vs H Q _=>∃(a b:Addr) (xs cs:List Int),vs=[.ref a,.ref b]/\SqL K H a (xs.map V.int)/\SqL K H b (cs.map V.int)/\cs.length<sizeLine/\(∀c,c∈cs->0<=c/\c<xs.length)/\
 ∀H',Same H H'->Q (.int (walkSumI xs cs)) H'
theorem scWalkSum:FnScope ["states","cells","a","b"] ["states","cells"] (defScope sWalkSum):=⟨rfl,rfl,rfl,by decide +kernel,rfl,by decide +kernel,by decide +kernel⟩
theorem cut1(xs:List V):cutV xs (some 1) none=xs.drop 1:=by
 unfold cutV;rw[show(1:Int)=((1:Nat):Int) from rfl,HT.YW,HT.JD];cases xs with
 |nil=>rfl
 |cons x r=>
  have:min 1 (x::r).length=1:=by simp
  rw[this];exact List.take_of_length_le (by simp)
theorem getElem?_mapV{cs:List Int}{i:Nat}{x:V}(h:(cs.map V.int)[i]? =some x): ∃c,cs[i]? =some c/\x=.int c:=by
 rw[List.getElem?_map] at h;cases e:cs[i]? with
 |none=>rw[e] at h;cases h
 |some c=>rw[e] at h;exact⟨c,rfl,(Option.some.inj h).symm⟩
theorem zL{α:Type}{l:List α}{i:Nat}{x:α}(h:l[i]? =some x):l.take (i+1)=l.take i++[x]:=by
 rw[List.take_add_one,h];rfl
theorem ok_walkSum{f:Addr}{fd:FuncData}(F:Fun K "walk_sum" "walk_sum" sWalkSum f fd)(B:Bi mg)(C:Callee P w K mg base 2 "lean_between" ["a","b"] spLean):FnOk P w K mg base CX0 3 f fd ["states","cells"] (spWalkSum K):=by
 refine F.ok scWalkSum (fun vs H Q E h=> ?_) (fun cdv A outer s H vs Q E hr h=> ?_)
 ·obtain⟨a,b,xs,cs,rfl,_⟩:=h;rfl
 ·obtain⟨a,b,xs,cs,rfl,hx,hc,hz,hin,k⟩:=h;refine'⟨_,zG (zM (zX (cr_sum rfl) rfl B.sum boot_sum (zA (Zd (own:=[("a",2),("b",3)]) rfl scWalkSum.nd ?lc1 ?lc2 (fun _ _ _ _ _=> ?lc3) (fun _ _ _ _ _=> ?lc4) (fun _ _ _ _ _=> ?lc5)) zE))),?rd⟩
  case lc1=>exact Yw rfl B.zip (zA (pv 1) (zA (Zc Zi (pv 1) (ZZ zK) yL) zE))
  case lc2=>exact za (by show blkC ["states","cells","a","b"] (defScope sWalkSum) _ _=true;decide +kernel)
  case lc3=>exact pgt2 K 2 3 scWalkSum.nd
  case lc4=>exact zx
  case lc5=>exact zP C hr (zA (zW K (pv 0) (pv 2)) (zA (zW K (pv 0) (pv 3)) zE))
  refine⟨_,rfl,_,rfl,_,rfl,b,_,rfl,hc,fun p hp=> ?_⟩;rw[cut1];have s1:Same H (upd H p (.lst ((cs.map V.int).drop 1))):=Same.upd _ hp;refine⟨b,p,_,_,rfl,s1.seq hc,SqL.of zB,fun D hD=> ?_⟩;have hD0:=s1.free hD;refine Yh (fun i out _=>out=((walkLeans xs cs).take i).map V.int) RMono.pure hD (s1.seq hc) (SqL.of zB) rfl ?_ ?_
  ·intro i T x y H' out hi hi2 ex ey hT s2 hd hl hR;obtain⟨c1,e1,rfl⟩:=getElem?_mapV ex;rw[<-List.map_drop] at ey;obtain⟨c2,e2,rfl⟩:=getElem?_mapV ey;have m1:=hin c1 (List.mem_of_getElem? e1);have m2:=hin c2 (List.mem_of_mem_drop (List.mem_of_getElem? e2));have s3:Same H' (upd H' T (.tup [.int c1,.int c2])):=Same.upd _ hT;refine⟨T,_,rfl,SqT.of zB,rfl,_,_,rfl,_,_,rfl,rfl,rfl,yesT ?_⟩;refine⟨_,rfl,_,rfl,a,_,_,_,rfl,rfl,(s1.trans (s2.trans s3)).seq hx,zb m1.1 m1.2,_,rfl,_,rfl,a,_,_,_,rfl,rfl,(s1.trans (s2.trans s3)).seq hx,zb m2.1 m2.2,_,_,rfl,?_⟩;refine LcI.put RMono.pure hD (by rw[List.length_map] at hi;omega) s2 hd hl s3 ?_;rw[hR,zL (x:=leanI (at0 xs c1) (at0 xs c2)),List.map_append]
   ·rfl
   ·unfold walkLeans;rw[List.getElem?_map,List.getElem?_zip_eq_some (z:=(c1,c2)).mpr ⟨e1,e2⟩];rfl
  ·intro H' out s2 hd hl hR;refine⟨D,walkLeans xs cs,rfl,SqL.of ?_,k H' (s1.trans s2)⟩;rw[hd,hR,List.take_of_length_le];unfold walkLeans;rw[List.length_map,List.length_zip,List.length_map,List.length_drop,List.length_drop,List.length_map];omega
def goesI(k:Int)(ns xs:List Int)(c:Int):Bool:=(decide (k=1)&& !decide (at0 xs c=0))||ns.any fun o=>decide (at0 xs o=(at0 xs c+1) % 3)
def InR(ns:List Int)(n:Nat):Prop:=∀c,c∈ns->0<=c/\c<(n:Int)
def spGoes(K:PySem.W.Frag):Sp:=fun vs H Q _=>∃(k c:Int) (a b:Addr) (ns xs:List Int),vs=[.int k,.ref a,.ref b,.int c]/\SqL K H a (ns.map V.int)/\SqL K H b (xs.map V.int)/\InR ns xs.length/\0<=c/\c<xs.length/\
 Q (.bl (goesI k ns xs c)) H
theorem scGoes:FnScope ["kind","near","states","cell","wanted","other"] ["kind","near","states","cell"] (defScope sGoes):=⟨rfl,rfl,rfl,by decide +kernel,rfl,by decide +kernel,by decide +kernel⟩
theorem zy(a b:Int):decide (V.int a=V.int b)=decide (a=b):=by
 by_cases e:a=b
 ·subst e;simp
 ·rw[decide_eq_false e,decide_eq_false (fun h=>e (V.int.inj h))]
theorem ok_goes{f:Addr}{fd:FuncData}(F:Fun K "goes_on" "goes_on" sGoes f fd)(hF:IntG mg "FIRE" 1)(C:Callee P w K mg base 1 "state_after" ["state","steps"] spStateAfter):FnOk P w K mg base CX0 2 f fd ["kind","near","states","cell"] (spGoes K):=by
 refine F.ok scGoes (fun vs H Q E h=> ?_) (fun cdv A outer s H vs Q E hr h=> ?_)
 ·obtain⟨k,c,a,b,ns,xs,rfl,_⟩:=h;rfl
 ·obtain⟨kd,c,a,b,ns,xs,rfl,ha,hb,hin,h0,h1,k⟩:=h;refine⟨_,zF (ZD (PW.pt (pw_and (zc jR (pv 0) (zV hF) (nomark _)) (jf (zc yu (zW K (pv 2) (pv 3)) zK (nomark _))))) (zG (zM pe_bl)) zZ)
   (zF (zQ (i:=4) scGoes.nd rfl (Or.inl rfl) (zP C hr (zA (zW K (pv 2) (pv 3)) (zA zK zE))))
   (zF (ZV PassesOwn.never rfl (zq (pv 1)) (ZQ (i:=5) scGoes.nd rfl (Or.inl rfl))
    (zG (ZD (zc jR (zW K (pv 2) (pv 5)) (pv 4) (nomark _)) (zG (zM pe_bl)) zZ)))
   (zG (zM pe_bl)))),?_⟩
  have rest:(decide (kd=1)&& !decide (at0 xs c=0))=false->tSeq (tAsg (tCall spStateAfter [] E0 (tCons (tOp (rIxL K) (tVar 2) (tVar 3)) (tCons (tC (.int 1)) tNil))) (gName 4))
    (tSeq (tFor (iList K (tVar 1)) (gName 5) (tIfS (tTest (tOp rEq (tOp (rIxL K) (tVar 2) (tVar 5)) (tVar 4))) (tRet (tC (.bl true))) tNext)) (tRet (tC (.bl false)))) {nx:=fun _ H'=>Q .non H',rt:=Q} [some (.int kd),some (.ref a),some (.ref b),some (.int c),none,none] H:=by
   intro hno;refine⟨_,rfl,_,rfl,b,_,_,_,rfl,rfl,hb,zb h0 h1,_,_,rfl,?_⟩;refine⟨_,rfl,a,rfl,⟨_,ha⟩,Ze (K:=K) (a:=a) (xs:=ns.map V.int) (fun i σ H'=>∃v,σ=[some (.int kd),some (.ref a),some (.ref b),some (.int c),some (.int ((at0 xs c+1) % 3)),v]/\H'=H/\(ns.take i).any (fun o=>decide (at0 xs o=(at0 xs c+1) % 3))=false)
    ⟨none,rfl,rfl,rfl⟩ (fun i σ H' _ ⟨_,_,e,_⟩=>e ▸ ha) ?_ ?_⟩
   ·rintro i y σ H' hi ⟨v,rfl,rfl,hn⟩;obtain⟨o,eo,rfl⟩:=getElem?_mapV hi;have m:=hin o (List.mem_of_getElem? eo);refine⟨_,rfl,_,rfl,b,_,_,_,rfl,rfl,hb,zb m.1 m.2,_,rfl,rfl,_,rfl,?_⟩;rw[zy];refine ite2 (fun h=> ?_) (fun h=> ?_)
    ·have e:goesI kd ns xs c=true:=by
      unfold goesI;rw[hno,Bool.false_or];exact List.any_eq_true.mpr ⟨o,List.mem_of_getElem? eo,h⟩
     rw[e] at k;exact k
    ·refine⟨_,rfl,rfl,?_⟩;rw[zL eo,List.any_append,hn,Bool.false_or,List.any_cons,List.any_nil,Bool.or_false];simpa using h
   ·rintro σ H' ⟨v,rfl,rfl,hn⟩;rw[List.length_map,List.take_length] at hn;have e:goesI kd ns xs c=false:=by
     unfold goesI;rw[hno,Bool.false_or,hn]
    rw[e] at k;exact k
  refine⟨_,rfl,rfl,_,rfl,?_⟩;rw[zy];refine ite2 (fun h=> ?_) (fun h=> ?_)
  ·refine⟨_,rfl,_,rfl,b,_,_,_,rfl,rfl,hb,zb h0 h1,rfl,_,rfl,?_⟩;rw[zy];refine ite2 (fun h2=> ?_) (fun h2=> ?_)
   ·have e:goesI kd ns xs c=true:=by
     unfold goesI;rw[h,h2];rfl
    rw[e] at k;exact k
   ·refine rest ?_;rw[h];simpa using h2
  ·refine iteF (rest ?_);have:decide (kd=1)=false:=by simpa using h
   rw[this,Bool.false_and]
def RowsAt(K:PySem.W.Frag)(H:Hp)(a:Addr)(rows:List (List Int)):Prop:=∃ps:List Addr,SqL K H a (ps.map V.ref)/\ps.length=rows.length/\∀(i:Nat) (p:Addr) (r:List Int),ps[i]? =some p->rows[i]? =some r->SqL K H p (r.map V.int)
theorem getElem?_mapR{ps:List Addr}{i:Nat}{x:V}(h:(ps.map V.ref)[i]? =some x): ∃c,ps[i]? =some c/\x=.ref c:=by
 rw[List.getElem?_map] at h;cases e:ps[i]? with
 |none=>rw[e] at h;cases h
 |some c=>rw[e] at h;exact⟨c,rfl,(Option.some.inj h).symm⟩
def NewInts(H:Hp)(Q:VK)(ns:List Int):Prop:=∀(H':Hp) (p:Addr),H p=none->Same H H'->H' p=some (.lst (ns.map V.int))->Q (.ref p) H'
def stepsI(k:Int)(rows:List (List Int))(xs:List Int):List Int:=(List.range rows.length).map fun i=>if goesI k (rows.getD i []) xs (i:Nat)=true then 1 else 0
def spSteps(K:PySem.W.Frag):Sp:=fun vs H Q _=>∃(k:Int) (a b:Addr) (rows:List (List Int)) (xs:List Int),vs=[.int k,.ref a,.ref b]/\RowsAt K H a rows/\SqL K H b (xs.map V.int)/\rows.length=xs.length/\rows.length<sizeLine/\(∀r,r∈rows->InR r xs.length)/\
 NewInts H Q (stepsI k rows xs)
theorem scSteps:FnScope ["kind","neighbours","states","cell","near"] ["kind","neighbours","states"] (defScope sSteps):=⟨rfl,rfl,rfl,by decide +kernel,rfl,by decide +kernel,by decide +kernel⟩
theorem ok_steps{f:Addr}{fd:FuncData}(F:Fun K "steps_ahead" "steps_ahead" sSteps f fd)(B:Bi mg)(C:Callee P w K mg base 2 "goes_on" ["kind","near","states","cell"] (spGoes K)):FnOk P w K mg base CX0 3 f fd ["kind","neighbours","states"] (spSteps K):=by
 refine F.ok scSteps (fun vs H Q E h=> ?_) (fun cdv A outer s H vs Q E hr h=> ?_)
 ·obtain⟨k,a,b,rows,xs,rfl,_⟩:=h;rfl
 ·obtain⟨kd,a,b,rows,xs,rfl,ha,hb,hlen,hz,hin,k⟩:=h;obtain⟨ps,hp1,hp2,hp3⟩:=ha;refine'⟨_,zG (zM (Zd (own:=[("cell",3),("near",4)]) rfl scSteps.nd ?lc1 ?lc2 (fun _ _ _ _ _=> ?lc3) (fun _ _ _ _ _=> ?lc4) (fun _ _ _ _ _=> ?lc5))),?rd⟩
  case lc1=>exact ji rfl B.enumerate (zA (pv 1) zE)
  case lc2=>exact za (by show blkC ["kind","neighbours","states","cell","near"] (defScope sSteps) _ _=true;decide +kernel)
  case lc3=>exact pgt2 K 3 4 scSteps.nd
  case lc4=>exact zx
  case lc5=>exact YZ (ZL (zP C hr (zA (pv 0) (zA (pv 4) (zA (pv 2) (zA (pv 3) zE)))))) zK zK
  refine⟨_,rfl,a,_,rfl,hp1,fun D hD=> ?_⟩;refine lc_enumS (fun i out _=>out=((stepsI kd rows xs).take i).map V.int) RMono.pure hD hp1 rfl ?_ ?_
  ·intro i T x H' out hi ex hT s2 hd hl hR;obtain⟨p,ep,rfl⟩:=getElem?_mapR ex;rw[List.length_map] at hi;have s3:Same H' (upd H' T (.tup [.int (i:Nat),.ref p])):=Same.upd _ hT;have er:rows[i]? =some (rows.getD i []):=by
    rw[List.getD_eq_getElem?_getD,List.getElem?_eq_getElem (by omega)];rfl
   refine⟨T,_,rfl,SqT.of zB,rfl,_,_,rfl,_,_,rfl,rfl,rfl,yesT ?_⟩;refine⟨_,rfl,_,rfl,_,rfl,_,rfl,kd,(i:Nat),p,b,rows.getD i [],xs,rfl,(s2.trans s3).seq (hp3 i p _ ep er),(s2.trans s3).seq hb,hin _ (List.mem_of_getElem? er),by omega,by omega,_,rfl,?_⟩;have fin: ∀y:Int,(if goesI kd (rows.getD i []) xs (i:Nat)=true then 1 else 0)=y->∃acc,(upd H' T (.tup [.int (i:Nat),.ref p])) D=some (.lst acc)/\acc.length<sizeLine/\LcI H D (fun i out _=>out=((stepsI kd rows xs).take i).map V.int) (i+1) (upd (upd H' T (.tup [.int (i:Nat),.ref p])) D (.lst (acc++[.int y]))):=by
    intro y ey;refine LcI.put RMono.pure hD (by omega) s2 hd hl s3 ?_;rw[hR,zL (x:=y),List.map_append]
    ·rfl
    ·unfold stepsI;rw[zR _ (by omega),ey]
   refine ite2 (fun h=>fin 1 (if_pos h)) (fun h=>fin 0 (if_neg h))
  ·intro H' out s2 hd hl hR;refine k H' D hD s2 ?_;rw[hd,hR,List.take_of_length_le];unfold stepsI;rw[List.length_map,List.length_range,List.length_map];omega
abbrev sAllBelow:Stmt:=top 49
abbrev sIsWalk:Stmt:=top 30
def belowI(b:Int)(ns:List Int):Bool:=ns.all fun z=>decide (0<=z)&&decide (z<b)
def spAllBelow(K:PySem.W.Frag):Sp:=fun vs H Q _=>∃(a:Addr) (b:Int) (ns:List Int),vs=[.ref a,.int b]/\SqL K H a (ns.map V.int)/\ns.length<sizeLine/\∀H',Same H H'->Q (.bl (belowI b ns)) H'
def isWalkL(rows:List (List Int))(cs:List Int):List Bool:=(cs.zip (cs.drop 1)).map fun p=>(rows.getD p.1.toNat []).contains p.2
def isWalkI(rows:List (List Int))(cs:List Int):Bool:=(isWalkL rows cs).all id
def spIsWalk(K:PySem.W.Frag):Sp:=fun vs H Q _=>∃(a b:Addr) (rows:List (List Int)) (cs:List Int),vs=[.ref a,.ref b]/\RowsAt K H a rows/\SqL K H b (cs.map V.int)/\cs.length<sizeLine/\InR cs rows.length/\∀H',Same H H'->Q (.bl (isWalkI rows cs)) H'
theorem scAllBelow:FnScope ["numbers","bound","number"] ["numbers","bound"] (defScope sAllBelow):=⟨rfl,rfl,rfl,by decide +kernel,rfl,by decide +kernel,by decide +kernel⟩
theorem ok_allBelow{f:Addr}{fd:FuncData}(F:Fun K "all_below" "all_below" sAllBelow f fd)(B:Bi mg):FnOk P w K mg base CX0 1 f fd ["numbers","bound"] (spAllBelow K):=by
 refine F.ok scAllBelow (fun vs H Q E h=> ?_) (fun cdv A outer s H vs Q E hr h=> ?_)
 ·obtain⟨a,b,ns,rfl,_⟩:=h;rfl
 ·obtain⟨a,b,ns,rfl,ha,hz,k⟩:=h;refine'⟨_,zG (zM (zX (cr_all rfl) rfl B.all boot_all (zA (Zd (own:=[("number",2)]) rfl scAllBelow.nd ?lc1 ?lc2 (fun _ _ _ _ _=> ?lc3) (fun _ _ _ _ _=> ?lc4) (fun _ _ _ _ _=> ?lc5)) zE))),?rd⟩
  case lc1=>exact zq (pv 0)
  case lc2=>exact za (by show blkC ["numbers","bound","number"] (defScope sAllBelow) _ _=true;decide +kernel)
  case lc3=>exact pgn 2 scAllBelow.nd
  case lc4=>exact zx
  case lc5=>exact pe_chain jQ op_lt zK (pv 2) (pv 1)
  refine⟨_,rfl,a,rfl,⟨_,ha⟩,fun D hD=> ?_⟩;refine ZK (fun i out _=>out=((ns.map fun z=>decide (0<=z)&&decide (z<b)).take i).map V.bl) RMono.pure hD ha rfl ?_ ?_
  ·intro i x H' out hi ex s2 hd hl hR;obtain⟨z,ez,rfl⟩:=getElem?_mapV ex;rw[List.length_map] at hi;have fin: ∀y:Bool,(decide (0<=z)&&decide (z<b))=y->∃acc,H' D=some (.lst acc)/\acc.length<sizeLine/\LcI H D (fun i out _=>out=((ns.map fun z=>decide (0<=z)&&decide (z<b)).take i).map V.bl) (i+1) (upd H' D (.lst (acc++[.bl y]))):=by
    intro y ey;refine LcI.put RMono.pure hD (by omega) s2 hd hl (Same.refl _) ?_;rw[hR,zL (x:=y),List.map_append]
    ·rfl
    ·rw[List.getElem?_map,ez,<-ey];rfl
   refine⟨rfl,yesT ?_⟩;refine⟨_,rfl,0,z,rfl,rfl,_,rfl,ite2 (fun h=> ?_) (fun h=> ?_)⟩
   ·refine⟨_,rfl,z,b,rfl,rfl,fin _ ?_⟩;rw[h,Bool.true_and]
   ·refine fin false ?_;have:decide (0<=z)=false:=by simpa using h
    rw[this,Bool.false_and]
  ·intro H' out s2 hd hl hR;refine⟨D,ns.map fun z=>decide (0<=z)&&decide (z<b),rfl,SqL.of ?_,?_⟩
   ·rw[hd,hR,List.take_of_length_le];rw[List.length_map,List.length_map];omega
   ·have e:belowI b ns=(ns.map fun z=>decide (0<=z)&&decide (z<b)).all id:=by
     unfold belowI;rw[List.all_map];rfl
    have k':=k H' s2;rw[e] at k';exact k'
theorem inV_ints(z:Int)(r:List Int):inV (.int z) (r.map V.int)=r.contains z:=by
 unfold inV;rw[List.any_map,List.contains_eq_any_beq]
 congr 1
 funext y
 show(y==z)=(z==y);rw[Bool.eq_iff_iff,beq_iff_eq,beq_iff_eq];exact eq_comm
theorem vQ(r:List Int):(r.map V.int).all flatV=true:=by
 rw[List.all_map];exact List.all_eq_true.mpr fun _ _=>rfl
theorem scIsWalk:FnScope ["neighbours","cells","a","b"] ["neighbours","cells"] (defScope sIsWalk):=⟨rfl,rfl,rfl,by decide +kernel,rfl,by decide +kernel,by decide +kernel⟩
theorem ok_isWalk{f:Addr}{fd:FuncData}(F:Fun K "is_walk" "is_walk" sIsWalk f fd)(B:Bi mg):FnOk P w K mg base CX0 1 f fd ["neighbours","cells"] (spIsWalk K):=by
 refine F.ok scIsWalk (fun vs H Q E h=> ?_) (fun cdv A outer s H vs Q E hr h=> ?_)
 ·obtain⟨a,b,rows,cs,rfl,_⟩:=h;rfl
 ·obtain⟨a,b,rows,cs,rfl,ha,hc,hz,hin,k⟩:=h;obtain⟨ps,hp1,hp2,hp3⟩:=ha;refine'⟨_,zG (zM (zX (cr_all rfl) rfl B.all boot_all (zA (Zd (own:=[("a",2),("b",3)]) rfl scIsWalk.nd ?lc1 ?lc2 (fun _ _ _ _ _=> ?lc3) (fun _ _ _ _ _=> ?lc4) (fun _ _ _ _ _=> ?lc5)) zE))),?rd⟩
  case lc1=>exact Yw rfl B.zip (zA (pv 1) (zA (Zc Zi (pv 1) (ZZ zK) yL) zE))
  case lc2=>exact za (by show blkC ["neighbours","cells","a","b"] (defScope sIsWalk) _ _=true;decide +kernel)
  case lc3=>exact pgt2 K 2 3 scIsWalk.nd
  case lc4=>exact zx
  case lc5=>exact jj (inl_ K) (pv 3) (zW K (pv 0) (pv 2)) (by rfl)
  refine⟨_,rfl,_,rfl,_,rfl,b,_,rfl,hc,fun p hp=> ?_⟩;rw[cut1];have s1:Same H (upd H p (.lst ((cs.map V.int).drop 1))):=Same.upd _ hp;refine⟨b,p,_,_,rfl,s1.seq hc,SqL.of zB,fun D hD=> ?_⟩;refine Yh (fun i out _=>out=((isWalkL rows cs).take i).map V.bl) RMono.pure hD (s1.seq hc) (SqL.of zB) rfl ?_ ?_
  ·intro i T x y H' out hi hi2 ex ey hT s2 hd hl hR;obtain⟨c1,e1,rfl⟩:=getElem?_mapV ex;rw[<-List.map_drop] at ey;obtain⟨c2,e2,rfl⟩:=getElem?_mapV ey;have m1:=hin c1 (List.mem_of_getElem? e1);have s3:Same H' (upd H' T (.tup [.int c1,.int c2])):=Same.upd _ hT;obtain⟨q,eq⟩: ∃q,ps[c1.toNat]? =some q:=⟨_,List.getElem?_eq_getElem (by omega)⟩;have er:rows[c1.toNat]? =some (rows.getD c1.toNat []):=by
    rw[List.getD_eq_getElem?_getD,List.getElem?_eq_getElem (by omega)];rfl
   refine⟨T,_,rfl,SqT.of zB,rfl,_,_,rfl,_,_,rfl,rfl,rfl,yesT ?_⟩;refine⟨_,rfl,_,rfl,_,rfl,a,_,_,.ref q,rfl,rfl,(s1.trans (s2.trans s3)).seq hp1,at_of (j:=c1.toNat) (by omega) (by rw[List.getElem?_map,eq];rfl),q,_,rfl,.inl ((s1.trans (s2.trans s3)).seq (hp3 _ q _ eq er)),rfl,vQ _,?_⟩;refine LcI.put RMono.pure hD (by rw[List.length_map] at hi;omega) s2 hd hl s3 ?_;rw[hR,zL (x:=(rows.getD c1.toNat []).contains c2),List.map_append]
   ·rw[if_neg Bool.false_ne_true,inV_ints];rfl
   ·unfold isWalkL;rw[List.getElem?_map,List.getElem?_zip_eq_some (z:=(c1,c2)).mpr ⟨e1,e2⟩];rfl
  ·intro H' out s2 hd hl hR;refine⟨D,isWalkL rows cs,rfl,SqL.of ?_,k H' (s1.trans s2)⟩;rw[hd,hR,List.take_of_length_le];unfold isWalkL;rw[List.length_map,List.length_zip,List.length_map,List.length_drop,List.length_drop,List.length_map];omega
end
end GW
namespace GW
open Vblcas
theorem Cert.const{nb:Near}{R D:Nat->Nat}(ok:NbOk nb)(c:Cert nb R D){α:Type}(f:Nat->α)(hf: ∀v u,u∈Nb nb v->f u=f v): ∀(k v:Nat),v<nb.length->D v=k->f (R v)=f v
 |0,v,hv,h=>by rw[(c.d0 v hv).mp h]
 |k+1,v,hv,h=>by
  obtain⟨u,hu,e⟩:=c.dn v hv (by omega);have ih:=Cert.const ok c f hf k u (ok.lt v u hu) (by omega);rw[<-hf v u hu,<-c.redge v u hu];exact ih
structure HOkk(nb:Near)(y:Config)(h:Nat->Int):Prop where
 md: ∀v,v<nb.length->h v % 3=((at_ y v:Nat):Int)
 nr: ∀v u,u∈Nb nb v->h u<=h v+1
theorem any_iff{l:List Nat}{p:Nat->Bool}:l.any p=true↔ ∃u,u∈l/\p u=true:=List.any_eq_true
theorem Jb{nb:Near}{y:Config}{v:Nat}:goes nb 0 y v=true↔ ∃u,u∈Nb nb v/\at_ y u=(at_ y v+1) % 3:=by
 unfold goes;rw[if_pos rfl,any_iff];simp only[beq_iff_eq]
theorem jE{nb:Near}{y:Config}{v:Nat}:goes nb 1 y v=true↔at_ y v≠0∨∃u,u∈Nb nb v/\at_ y u=1:=by
 unfold goes;rw[if_neg (by decide),Bool.or_eq_true,any_iff];simp only[beq_iff_eq,bne_iff_ne]
theorem HOkk.up{nb:Near}{k:Nat}(hk:k<=1){y:Config}{h:Nat->Int}(ok:NbOk nb)(H:HOkk nb y h){v u:Nat}(hu:u∈Nb nb v)(e:h u=h v+1):goes nb k y v=true:=by
 have m1:=H.md v (ok.ltL hu);have m2:=H.md u (ok.lt v u hu);rcases(by omega:k=0∨k=1) with rfl|rfl
 ·exact Jb.mpr ⟨u,hu,by omega⟩
 ·refine jE.mpr ?_;by_cases q:at_ y v=0
  ·exact .inr ⟨u,hu,by omega⟩
  ·exact .inl q
def gI(nb:Near)(k:Nat)(y:Config)(v:Nat):Int:=if goes nb k y v=true then 1 else 0
theorem step_at{nb:Near}{k:Nat}{y:Config}{v:Nat}(hv:v<nb.length):at_ (step1 nb k y) v=if goes nb k y v=true then(at_ y v+1) % 3 else at_ y v:=by
 show((List.range nb.length).map fun v=>if goes nb k y v=true then(at_ y v+1) % 3 else at_ y v).getD v 0=_;rw[List.getD_eq_getElem?_getD,zR _ hv];rfl
theorem HOkk.step{nb:Near}{k:Nat}(hk:k<=1){y:Config}{h:Nat->Int}(ok:NbOk nb)(H:HOkk nb y h):HOkk nb (step1 nb k y) fun v=>h v+gI nb k y v:=by
 refine⟨fun v hv=> ?_,fun v u hu=> ?_⟩
 ·have m:=H.md v hv;rw[step_at hv];unfold gI;by_cases q:goes nb k y v=true
  ·rw[if_pos q,if_pos q];omega
  ·rw[if_neg q,if_neg q];omega
 ·have a:=H.nr v u hu;have up:h u=h v+1->goes nb k y v=true:=fun e=>H.up hk ok hu e;show h u+gI nb k y u<=h v+gI nb k y v+1;unfold gI;by_cases e:h u=h v+1
  ·rw[if_pos (up e)];split<;>omega
  ·split<;>split<;>omega
structure Top(nb:Near)(k:Nat)(T:Nat->Int):Prop where
 eq: ∀v u,u∈Nb nb v->T u=T v
 rest:k=1->∀v,v<nb.length->T v % 3=0
theorem Top.step{nb:Near}{k:Nat}(hk:k<=1){T:Nat->Int}(t:Top nb k T){y:Config}{h:Nat->Int}(ok:NbOk nb)(H:HOkk nb y h)(hle: ∀v,v<nb.length->h v<=T v): ∀v,v<nb.length->h v+gI nb k y v<=T v:=by
 intro v hv;have b:=hle v hv;unfold gI;by_cases q:goes nb k y v=true
 ·rw[if_pos q];have m1:=H.md v hv;have by_nb: ∀u,u∈Nb nb v->at_ y u=(at_ y v+1) % 3->h v+1<=T v:=fun u hu e=>by
   have m2:=H.md u (ok.lt v u hu);have n1:=H.nr v u hu;have n2:=H.nr u v (ok.sym v u hu);have b2:=hle u (ok.lt v u hu);have:=t.eq v u hu;omega
  rcases(by omega:k=0∨k=1) with rfl|rfl
  ·obtain⟨u,hu,e⟩:=Jb.mp q;exact by_nb u hu e
  ·have r:=t.rest rfl v hv;by_cases z:at_ y v=0
   ·rcases jE.mp q with z'|⟨u,hu,e⟩
    ·exact absurd z z'
    ·exact by_nb u hu (by omega)
   ·omega
 ·rw[if_neg q];omega
theorem HOkk.still{nb:Near}{k:Nat}(hk:k<=1){y:Config}{h:Nat->Int}(ok:NbOk nb)(H:HOkk nb y h)(hno: ∀v,v<nb.length->goes nb k y v=false): ∀v u,u∈Nb nb v->h u=h v:=by
 intro v u hu;have n1:=H.nr v u hu;have n2:=H.nr u v (ok.sym v u hu);have a:h u≠h v+1:=fun e=>by
  have:=H.up hk ok hu e;rw[hno v (ok.ltL hu)] at this;cases this
 have b:h v≠h u+1:=fun e=>by
  have:=H.up hk ok (ok.sym v u hu) e;rw[hno u (ok.lt v u hu)] at this;cases this
 omega
theorem HOkk.top{nb:Near}{k:Nat}(hk:k<=1){y:Config}{h h0:Nat->Int}(ok:NbOk nb){R D:Nat->Nat}(c:Cert nb R D)(H:HOkk nb y h)(hno: ∀v,v<nb.length->goes nb k y v=false){T:Nat->Int}(t:Top nb k T)(hle: ∀v,v<nb.length->h v<=T v)
  (hge: ∀v,v<nb.length->h0 v<=h v)(hpk: ∀v,v<nb.length->∃u,u<nb.length/\R u=R v/\T v<=h0 u+2/\(k=0->T v<=h0 u)): ∀v,v<nb.length->h v=T v:=by
 intro v hv;obtain⟨u,hu,er,p1,p2⟩:=hpk v hv;have e1:=c.const ok h (H.still hk ok hno) _ v hv rfl;have e2:=c.const ok h (H.still hk ok hno) _ u hu rfl;have a:=hge u hu;have b:=hle v hv;rw[er] at e2;rcases(by omega:k=0∨k=1) with rfl|rfl
 ·have:=p2 rfl;omega
 ·have r:=t.rest rfl v hv;have m:=H.md v hv;have z:at_ y v=0:=by
   apply Classical.byContradiction;intro q;have:=jE.mpr (Or.inl q:at_ y v≠0∨∃u,u∈Nb nb v/\at_ y u=1);rw[hno v hv] at this;cases this
  omega
theorem step1_same{nb:Near}{k:Nat}{y:Config}(hl:y.length=nb.length)(h3:St3 y):step1 nb k y=y↔ ∀v,v<nb.length->goes nb k y v=false:=by
 constructor
 ·intro e v hv;have s:=step_at (k:=k) (y:=y) hv;rw[e] at s;cases q:goes nb k y v with
  |false=>rfl
  |true=>
   rw[q,if_pos rfl] at s;have:=h3.at v;omega
 ·intro h;refine List.ext_getElem? fun i=> ?_;by_cases hi:i<nb.length
  ·unfold step1;rw[zR _ hi,h i hi,at_lt (by rw[hl];exact hi)];rfl
  ·rw[List.getElem?_eq_none (by unfold step1;rw[List.length_map,List.length_range];omega),List.getElem?_eq_none (by omega)]
theorem Ju{nb:Near}{k:Nat}{x:Config}:(stepsN nb k x).sum=0↔ ∀v,v<nb.length->goes nb k x v=false:=by
 refine⟨fun h v hv=>yS h hv,fun h=> ?_⟩;have:stepsN nb k x=List.replicate nb.length 0:=by
  unfold stepsN;rw[List.eq_replicate_iff];refine⟨by rw[List.length_map,List.length_range],fun b hb=> ?_⟩;obtain⟨v,hv,rfl⟩:=List.mem_map.mp hb;rw[h v (List.mem_range.mp hv)];rfl
 rw[this,List.sum_replicate_nat];omega
def hAt(nb:Near)(k:Nat)(h0:Nat->Int)(x:Config)(i:Nat)(v:Nat):Int:=h0 v+(((ST.iter (one nb k) i (x,zeros nb.length)).2.getD v 0:Nat):Int)
theorem one_getD{nb:Near}{k:Nat}{p:Config×List Nat}{v:Nat}(hv:v<nb.length):(((one nb k p).2.getD v 0:Nat):Int)=((p.2.getD v 0:Nat):Int)+gI nb k p.1 v:=by
 unfold one gI;rw[List.getD_eq_getElem?_getD,zR _ hv];show(((p.2.getD v 0+(if goes nb k p.1 v=true then 1 else 0):Nat)):Int)=_;split<;>omega
theorem ju(n v:Nat):(zeros n).getD v 0=0:=by
 unfold zeros;rw[List.getD_eq_getElem?_getD,List.getElem?_replicate];split<;>rfl
structure Way(nb:Near)(k:Nat)(x:Config)(h0 T:Nat->Int)(i:Nat):Prop where
 H:HOkk nb (ST.iter (one nb k) i (x,zeros nb.length)).1 (hAt nb k h0 x i)
 le: ∀v,v<nb.length->hAt nb k h0 x i v<=T v
 ge: ∀v,v<nb.length->h0 v<=hAt nb k h0 x i v
theorem HOkk.congr{nb:Near}{y:Config}{h h':Nat->Int}(ok:NbOk nb)(H:HOkk nb y h)(e: ∀v,v<nb.length->h' v=h v):HOkk nb y h':=
 ⟨fun v hv=>by rw[e v hv];exact H.md v hv,fun v u hu=>by rw[e v (ok.ltL hu),e u (ok.lt v u hu)];exact H.nr v u hu⟩
theorem way{nb:Near}{k:Nat}(hk:k<=1)(ok:NbOk nb){x:Config}{h0 T:Nat->Int}(H:HOkk nb x h0)(t:Top nb k T)(hle: ∀v,v<nb.length->h0 v<=T v): ∀i,Way nb k x h0 T i
 |0=>by
  have e: ∀v,hAt nb k h0 x 0 v=h0 v:=fun v=>by
   show h0 v+(((zeros nb.length).getD v 0:Nat):Int)=h0 v;rw[ju];omega
  exact⟨H.congr ok fun v _=>e v,fun v hv=>by rw[e];exact hle v hv,fun v _=>by rw[e];exact Int.le_refl _⟩
 |i+1=>by
  have W:=way hk ok H t hle i;have e: ∀v,v<nb.length->hAt nb k h0 x (i+1) v=hAt nb k h0 x i v+gI nb k (ST.iter (one nb k) i (x,zeros nb.length)).1 v:=fun v hv=>by
   unfold hAt;rw[ST.zu,one_getD hv];omega
  have S:=W.H.step (k:=k) hk ok;refine⟨?_,fun v hv=> ?_,fun v hv=> ?_⟩
  ·rw[ST.zu];exact S.congr ok e
  ·rw[e v hv];exact t.step hk ok W.H W.le v hv
  ·rw[e v hv];have:=W.ge v hv;unfold gI;split<;>omega
def left(nb:Near)(T h:Nat->Int):Nat:=((List.range nb.length).map fun v=>(T v - h v).toNat).sum
theorem sum_le{l:List Nat}{f g:Nat->Nat}(h: ∀v,v∈l->f v<=g v):(l.map f).sum<=(l.map g).sum:=by
 induction l with
 |nil=>exact Nat.le_refl _
 |cons a l ih=>
  rw[List.map_cons,List.sum_cons,List.map_cons,List.sum_cons];have:=h a List.mem_cons_self;have:=ih fun v hv=>h v (List.mem_cons_of_mem _ hv);omega
theorem sum_lt{l:List Nat}{f g:Nat->Nat}(h: ∀v,v∈l->f v<=g v){a:Nat}(ha:a∈l)(hlt:f a<g a):(l.map f).sum<(l.map g).sum:=by
 induction l with
 |nil=>cases ha
 |cons b l ih=>
  rw[List.map_cons,List.sum_cons,List.map_cons,List.sum_cons];rcases List.mem_cons.mp ha with e|e
  ·subst e;have:=sum_le fun v hv=>h v (List.mem_cons_of_mem _ hv);omega
  ·have:=h b List.mem_cons_self;have:=ih (fun v hv=>h v (List.mem_cons_of_mem _ hv)) e;omega
theorem left_lt{nb:Near}{k:Nat}(hk:k<=1)(ok:NbOk nb){x:Config}{h0 T:Nat->Int}(H:HOkk nb x h0)(t:Top nb k T)(hle: ∀v,v<nb.length->h0 v<=T v)(i:Nat)(hg: ¬ ∀v,v<nb.length->goes nb k (ST.iter (one nb k) i (x,zeros nb.length)).1 v=false):
  left nb T (hAt nb k h0 x (i+1))<left nb T (hAt nb k h0 x i):=by
 have W:=way hk ok H t hle;obtain⟨v,hv,q⟩: ∃v,v<nb.length/\goes nb k (ST.iter (one nb k) i (x,zeros nb.length)).1 v=true:=by
  apply Classical.byContradiction;intro z;refine hg fun v hv=> ?_;cases q:goes nb k (ST.iter (one nb k) i (x,zeros nb.length)).1 v with
  |false=>rfl
  |true=>exact absurd ⟨v,hv,q⟩ z
 have e: ∀v,v<nb.length->hAt nb k h0 x (i+1) v=hAt nb k h0 x i v+gI nb k (ST.iter (one nb k) i (x,zeros nb.length)).1 v:=fun v hv=>by
  unfold hAt;rw[ST.zu,one_getD hv];omega
 refine sum_lt (fun u hu=> ?_) (List.mem_range.mpr hv) ?_
 ·have:=e u (List.mem_range.mp hu);have g0:0<=gI nb k (ST.iter (one nb k) i (x,zeros nb.length)).1 u:=by unfold gI;split<;>omega
  omega
 ·have e1:=e v hv;have g1:gI nb k (ST.iter (one nb k) i (x,zeros nb.length)).1 v=1:=by unfold gI;rw[if_pos q]
  have:=(W (i+1)).le v hv;omega
theorem jW{nb:Near}{k:Nat}(hk:k<=1)(ok:NbOk nb){x:Config}{h0 T:Nat->Int}(H:HOkk nb x h0)(t:Top nb k T)(hle: ∀v,v<nb.length->h0 v<=T v): ∀(m i:Nat),left nb T (hAt nb k h0 x i)<=m->
  (∀j,j<i->¬(stepsN nb k (ST.iter (one nb k) j (x,zeros nb.length)).1).sum=0)->∃e,e<=i+m/\(stepsN nb k (ST.iter (one nb k) e (x,zeros nb.length)).1).sum=0/\∀j,j<e->¬(stepsN nb k (ST.iter (one nb k) j (x,zeros nb.length)).1).sum=0
 |m,i,hm,hj=>by
  by_cases q:(stepsN nb k (ST.iter (one nb k) i (x,zeros nb.length)).1).sum=0
  ·exact⟨i,by omega,q,hj⟩
  ·have l:=left_lt hk ok H t hle i (fun z=>q (Ju.mpr z))
   match m,hm with
   |0,hm=>omega
   |m+1,hm=>
    obtain⟨e,h1,h2,h3⟩:=jW hk ok H t hle m (i+1) (by omega) fun j hj2=>by
     rcases(by omega:j<i∨j=i) with z|rfl
     ·exact hj j z
     ·exact q
    exact⟨e,by omega,h2,h3⟩
theorem iter_fst{nb:Near}{k:Nat}(c:List Nat)(x:Config): ∀(i:Nat),(ST.iter (one nb k) (i+1) (x,c)).1=step1 nb k (ST.iter (one nb k) i (x,c)).1:=fun i=>by rw[ST.zu];rfl
theorem stillAt_first{nb:Near}{k:Nat}{x:Config}(hx:x.length=nb.length)(h3:St3 x){e:Nat}(h0:(stepsN nb k (ST.iter (one nb k) e (x,zeros nb.length)).1).sum=0)(hj: ∀j,j<e->¬(stepsN nb k (ST.iter (one nb k) j (x,zeros nb.length)).1).sum=0):
  ∀(m i:Nat),i<=e->e<=i+m->stillAt nb k m i (ST.iter (one nb k) i (x,zeros nb.length)).1=some e:=by
 have pk: ∀i,POk nb (ST.iter (one nb k) i (x,zeros nb.length)):=fun i=>POk.iter i ⟨hx,by unfold zeros;rw[List.length_replicate],h3⟩;have st: ∀i,step1 nb k (ST.iter (one nb k) i (x,zeros nb.length)).1=(ST.iter (one nb k) i (x,zeros nb.length)).1↔(stepsN nb k (ST.iter (one nb k) i (x,zeros nb.length)).1).sum=0:=fun i=>(step1_same (pk i).xl (pk i).x3).trans Ju.symm;intro m;induction m with
 |zero=>
  intro i h1 h2;obtain rfl:i=e:=by omega
  unfold stillAt;rw[if_pos ((st i).mpr h0)]
 |succ m ih=>
  intro i h1 h2;unfold stillAt;by_cases q:i=e
  ·subst q;rw[if_pos ((st i).mpr h0)]
  ·rw[if_neg (fun z=>hj i (by omega) ((st i).mp z)),<-iter_fst];exact ih (i+1) (by omega) (by omega)
theorem Yg{a b:Nat}(ha:a<3)(hb:b<3):(Vblcas.lean a b+a) % 3=(b:Int)/\ -1<=Vblcas.lean a b/\Vblcas.lean a b<=1:=by
 have h1:a=0∨a=1∨a=2:=by omega
 have h2:b=0∨b=1∨b=2:=by omega
 rcases h1 with rfl|rfl|rfl<;>rcases h2 with rfl|rfl|rfl<;>decide
theorem FCert.h_mod{nb:Near}(ok:NbOk nb){R D:Nat->Nat}(F:FCert nb R D){x:Config}(h3:St3 x): ∀(k v:Nat),v<nb.length->D v=k->hS nb x v % 3=((at_ x v:Nat):Int)
 |0,v,hv,h=>by
  have en:parentOf (forest nb) v=none:=by
   cases e:parentOf (forest nb) v with
   |none=>rfl
   |some u=>have:=F.par v hv;rw[e] at this;exact absurd h this.1
  rw[F.h_root ok x hv en];have:=h3.at v;omega
 |k+1,v,hv,h=>by
  obtain⟨u,eu⟩: ∃u,parentOf (forest nb) v=some u:=by
   cases e:parentOf (forest nb) v with
   |none=>have:=F.par v hv;rw[e] at this;have:D v=0:=this;omega
   |some u=>exact⟨u,rfl⟩
  have ip:=F.par v hv;rw[eu] at ip;have ih:=FCert.h_mod ok F h3 k u (ok.lt v u ip.2.1) (by have:=ip.2.2.1;omega);rw[F.h_step ok x hv eu];have:=Yg (h3.at u) (h3.at v);omega
theorem FCert.h_par{nb:Near}(ok:NbOk nb){R D:Nat->Nat}(F:FCert nb R D){x:Config}(h3:St3 x){v u:Nat}(hv:v<nb.length)(e:parentOf (forest nb) v=some u):hS nb x u<=hS nb x v+1/\hS nb x v<=hS nb x u+1:=by
 rw[F.h_step ok x hv e];have:=Yg (h3.at u) (h3.at v);omega
theorem lives_no{g:Graph}{x:Config}(h:lives g x=false): ∀e,e∈chords g (forest g.near)->winding (forest g.near) x e=0:=by
 intro e he;unfold lives wound at h;rw[Option.isSome_map] at h;have h2:((chords g (forest g.near)).find? fun e=>winding (forest g.near) x e != 0)=none:=by
  cases q:(chords g (forest g.near)).find? fun e=>winding (forest g.near) x e != 0 with
  |none=>rfl
  |some z=>rw[q] at h;cases h
 have:=List.find?_eq_none.mp h2 e he;simpa using this
theorem heights_near{g:Graph}(ge:EOk g){x:Config}(h3:St3 x)(hl:lives g x=false):HOkk g.near x fun v=>hS g.near x v:=by
 have ok:=nbOk g;obtain⟨R,D,F⟩:=fcert ok;refine⟨fun v hv=>F.h_mod ok h3 _ v hv rfl,fun v u hu=> ?_⟩;obtain⟨hv,hu2,adj⟩:=ZM.mp hu;have he:(min v u,max v u)∈g.edges:=by
  unfold Graph.adjacent at adj
  rwa [List.contains_iff_mem] at adj
 have hlt:=ge.lt _ he;simp only at hlt;have both: ∀a b,(a,b)∈g.edges->hS g.near x a<=hS g.near x b+1/\hS g.near x b<=hS g.near x a+1:=fun a b hab=>by
  have hb:=ge.lt _ hab;simp only at hb;have la:a<g.near.length:=by rw[zf];omega
  have lb:b<g.near.length:=by rw[zf];omega
  by_cases p1:parentOf (forest g.near) a=some b
  ·have:=F.h_par ok h3 la p1;omega
  ·by_cases p2:parentOf (forest g.near) b=some a
   ·have:=F.h_par ok h3 lb p2;omega
   ·have hc:(a,b)∈chords g (forest g.near):=by
     unfold chords;rw[List.mem_filter];refine⟨hab,?_⟩;simp[p1,p2]
    have w:=lives_no hl _ hc;unfold winding at w;simp only at w;have m1:=F.h_mod ok h3 _ a la rfl;have m2:=F.h_mod ok h3 _ b lb rfl;have l:=Yg (h3.at a) (h3.at b);show height (forest g.near) x a<=height (forest g.near) x b+1/\_;have m1:height (forest g.near) x a % 3=_:=m1;have m2:height (forest g.near) x b % 3=_:=m2;show height (forest g.near) x a<=height (forest g.near) x b+1/\height (forest g.near) x b<=height (forest g.near) x a+1;omega
 have:=both _ _ he;show hS g.near x u<=hS g.near x v+1;rcases(by omega:v<u∨u<v∨u=v) with q|q|q
 ·rw[Nat.min_eq_left (by omega),Nat.max_eq_right (by omega)] at this;omega
 ·rw[Nat.min_eq_right (by omega),Nat.max_eq_left (by omega)] at this;omega
 ·subst q;omega
def peakOf(f:Forest)(hs:List Int)(v:Nat):Int:=(List.range f.length).foldl (fun m u=>if rootOf f u=rootOf f v then max m (hs.getD u 0) else m) (hs.getD v 0)
theorem fold_max(p:Nat->Prop)[DecidablePred p](q:Nat->Int): ∀(l:List Nat) (m:Int),m<=l.foldl (fun m u=>if p u then max m (q u) else m) m/\(∀u,u∈l->p u->q u<=l.foldl (fun m u=>if p u then max m (q u) else m) m)/\
  (l.foldl (fun m u=>if p u then max m (q u) else m) m=m∨∃u,u∈l/\p u/\l.foldl (fun m u=>if p u then max m (q u) else m) m=q u)
 |[],m=>⟨Int.le_refl _,fun u hu=>by(cases hu),.inl rfl⟩
 |a::l,m=>by
  rw[List.foldl_cons];by_cases pa:p a
  ·rw[if_pos pa];obtain⟨h1,h2,h3⟩:=fold_max p q l (max m (q a));refine⟨by omega,fun u hu pu=> ?_,?_⟩
   ·rcases List.mem_cons.mp hu with e|e
    ·subst e;omega
    ·exact h2 u e pu
   ·rcases h3 with h3|⟨u,hu,pu,e⟩
    ·rcases(by omega:max m (q a)=m∨max m (q a)=q a) with z|z
     ·exact .inl (h3.trans z)
     ·exact .inr ⟨a,List.mem_cons_self,pa,h3.trans z⟩
    ·exact .inr ⟨u,List.mem_cons_of_mem _ hu,pu,e⟩
  ·rw[if_neg pa];obtain⟨h1,h2,h3⟩:=fold_max p q l m;refine⟨h1,fun u hu pu=> ?_,?_⟩
   ·rcases List.mem_cons.mp hu with e|e
    ·subst e;exact absurd pu pa
    ·exact h2 u e pu
   ·rcases h3 with h3|⟨u,hu,pu,e⟩
    ·exact .inl h3
    ·exact .inr ⟨u,List.mem_cons_of_mem _ hu,pu,e⟩
theorem Yj{nb:Near}{x:Config}{R D:Nat->Nat}(F:FCert nb R D){v:Nat}(hv:v<nb.length):(heights (forest nb) x).getD v 0=hS nb x v:=by
 unfold heights;rw[List.getD_eq_getElem?_getD,zR _ (by rw[F.len];exact hv)];rfl
theorem FCert.peak{nb:Near}{R D:Nat->Nat}(F:FCert nb R D)(x:Config){v:Nat}(hv:v<nb.length):
  (∀u,u<nb.length->R u=R v->hS nb x u<=peakOf (forest nb) (heights (forest nb) x) v)/\∃u,u<nb.length/\R u=R v/\peakOf (forest nb) (heights (forest nb) x) v=hS nb x u:=by
 obtain⟨h1,h2,h3⟩:=fold_max (fun u=>rootOf (forest nb) u=rootOf (forest nb) v) (fun u=>(heights (forest nb) x).getD u 0) (List.range (forest nb).length) ((heights (forest nb) x).getD v 0);refine⟨fun u hu e=> ?_,?_⟩
 ·have:=h2 u (List.mem_range.mpr (by rw[F.len];exact hu)) (by rw[F.root u hu,F.root v hv];exact e);rw[Yj F hu] at this;exact this
 ·rcases h3 with h3|⟨u,hu,pu,e⟩
  ·exact⟨v,hv,rfl,by rw[<-Yj F hv];exact h3⟩
  ·have hu2:u<nb.length:=by rw[<-F.len];exact List.mem_range.mp hu
   refine⟨u,hu2,by rw[<-F.root u hu2,<-F.root v hv];exact pu,?_⟩;rw[<-Yj F hu2];exact e
def topOf(nb:Near)(k:Nat)(x:Config)(v:Nat):Int:=if k=0 then peakOf (forest nb) (heights (forest nb) x) v else(peakOf (forest nb) (heights (forest nb) x) v+2) / 3 * 3
theorem FCert.peak_eq{nb:Near}{R D:Nat->Nat}(F:FCert nb R D)(x:Config){v u:Nat}(hv:v<nb.length)(hu:u<nb.length)(e:R u=R v):peakOf (forest nb) (heights (forest nb) x) u=peakOf (forest nb) (heights (forest nb) x) v:=by
 obtain⟨a1,z,a2,a3,a4⟩:=F.peak x hv;obtain⟨b1,y,b2,b3,b4⟩:=F.peak x hu;have:=a1 y b2 (by omega);have:=b1 z a2 (by omega);omega
theorem FCert.h_dist{nb:Near}(ok:NbOk nb){R D:Nat->Nat}(F:FCert nb R D){x:Config}(h3:St3 x): ∀(k v:Nat),v<nb.length->D v=k->hS nb x v<=hS nb x (R v)+k/\hS nb x (R v)<=hS nb x v+k
 |0,v,hv,h=>by rw[(F.c.d0 v hv).mp h];omega
 |k+1,v,hv,h=>by
  obtain⟨u,eu⟩: ∃u,parentOf (forest nb) v=some u:=by
   cases e:parentOf (forest nb) v with
   |none=>have:=F.par v hv;rw[e] at this;have:D v=0:=this;omega
   |some u=>exact⟨u,rfl⟩
  have ip:=F.par v hv;rw[eu] at ip;have ih:=FCert.h_dist ok F h3 k u (ok.lt v u ip.2.1) (by have:=ip.2.2.1;omega);rw[F.c.redge v u ip.2.1] at ih;have:=F.h_par ok h3 hv eu;omega
theorem sum_const_le{l:List Nat}{f:Nat->Nat}{b:Nat}(h: ∀v,v∈l->f v<=b):(l.map f).sum<=l.length * b:=by
 induction l with
 |nil=>simp
 |cons a l ih=>
  rw[List.map_cons,List.sum_cons,List.length_cons,Nat.add_mul];have:=h a List.mem_cons_self;have:=ih fun v hv=>h v (List.mem_cons_of_mem _ hv);omega
theorem end_math{g:Graph}(ge:EOk g)(n16:g.n<=16){k:Nat}(hk:k<=1){x:Config}(hx:x.length=g.n)(h3:St3 x)(hl:lives g x=false): ∃t,t<1000/\stillAt g.near k MOST 0 x=some t/\(stepsN g.near k (ST.iter (one g.near k) t (x,zeros g.n)).1).sum=0/\
  (∀j,j<t->¬(stepsN g.near k (ST.iter (one g.near k) j (x,zeros g.n)).1).sum=0)/\goesTillEnd (forest g.near) k x=(ST.iter (one g.near k) t (x,zeros g.n)).2.map fun(n:Nat)=>(n:Int):=by
 have ok:=nbOk g;obtain⟨R,D,F⟩:=fcert ok;have H:=heights_near ge h3 hl;have nl:=zf g;have hx':x.length=g.near.length:=by rw[nl];exact hx
 have T:Top g.near k (topOf g.near k x):=by
  refine⟨fun v u hu=> ?_,fun e v hv=> ?_⟩
  ·unfold topOf;rw[F.peak_eq x (ok.ltL hu) (ok.lt v u hu) (F.c.redge v u hu)]
  ·unfold topOf;rw[if_neg (by omega)];omega
 have up: ∀v,peakOf (forest g.near) (heights (forest g.near) x) v<=topOf g.near k x v/\topOf g.near k x v<=peakOf (forest g.near) (heights (forest g.near) x) v+2/\(k=0->topOf g.near k x v=peakOf (forest g.near) (heights (forest g.near) x) v):=fun v=>by
  unfold topOf;by_cases q:k=0
  ·rw[if_pos q];exact⟨Int.le_refl _,by omega,fun _=>rfl⟩
  ·rw[if_neg q];exact⟨by omega,by omega,fun z=>absurd z q⟩
 have le: ∀v,v<g.near.length->hS g.near x v<=topOf g.near k x v:=fun v hv=>Int.le_trans ((F.peak x hv).1 v hv rfl) (up v).1;have small:left g.near (topOf g.near k x) (hAt g.near k (fun v=>hS g.near x v) x 0)<=600:=by
  have:=sum_const_le (l:=List.range g.near.length) (f:=fun v=>(topOf g.near k x v - hAt g.near k (fun v=>hS g.near x v) x 0 v).toNat) (b:=34) fun v hv=>by
   have hv:=List.mem_range.mp hv;obtain⟨u,hu,er,e⟩:=(F.peak x hv).2;have d1:=F.h_dist ok h3 _ v hv rfl;have d2:=F.h_dist ok h3 _ u hu rfl;have l1:=F.dlt ok hv;have l2:=F.dlt ok hu;rw[er] at d2;have t:=(up v).2.1;have z:hAt g.near k (fun v=>hS g.near x v) x 0 v=hS g.near x v:=by
    show hS g.near x v+(((zeros g.near.length).getD v 0:Nat):Int)=_;rw[ju];omega
   rw[z];omega
  rw[List.length_range,nl] at this;unfold left;rw[nl];omega
 obtain⟨t,t1,t2,t3⟩:=jW hk ok H T le 600 0 small fun j hj=>by omega
 rw[nl] at t2 t3;have sa:=stillAt_first (nb:=g.near) (k:=k) hx' h3 (e:=t) (by rw[nl];exact t2) (by rw[nl];exact t3) MOST 0 (by omega) (by show t<=0+1000;omega);refine⟨t,by omega,sa,t2,t3,?_⟩;have W:=way hk ok H T le t;have fin:=W.H.top hk ok F.c (fun v hv=>yS (by rw[nl];exact t2) hv) T W.le (fun v hv=>W.ge v hv) fun v hv=>by
  obtain⟨u,hu,er,e⟩:=(F.peak x hv).2;have z:=up v;exact⟨u,hu,er,by omega,fun q=>by have:=z.2.2 q;omega⟩
 have pk:POk g.near (ST.iter (one g.near k) t (x,zeros g.n)):=POk.iter t ⟨hx',by unfold zeros;rw[List.length_replicate,nl],h3⟩;refine List.ext_getElem? fun i=> ?_;by_cases hi:i<g.near.length
 ·have f:=fin i hi;unfold hAt at f;rw[nl] at f;unfold goesTillEnd;rw[zR _ (by rw[F.len];exact hi),List.getElem?_map,List.getElem?_eq_getElem (by rw[pk.cl];exact hi)];simp only[Option.map_some]
  congr 1
  have e2:(ST.iter (one g.near k) t (x,zeros g.n)).2.getD i 0=(ST.iter (one g.near k) t (x,zeros g.n)).2[i]'(by rw[pk.cl];exact hi):=by
   rw[List.getD_eq_getElem?_getD,List.getElem?_eq_getElem (by rw[pk.cl];exact hi)];rfl
  rw[Yj F hi];have e3:topOf g.near k x i=if k=0 then(List.range (forest g.near).length).foldl (fun m u=>if rootOf (forest g.near) u=rootOf (forest g.near) i then max m ((heights (forest g.near) x).getD u 0) else m) (hS g.near x i) else((List.range (forest g.near).length).foldl (fun m u=>if rootOf (forest g.near) u=rootOf (forest g.near) i then max m ((heights (forest g.near) x).getD u 0) else m) (hS g.near x i)+2) / 3 * 3:=by
   unfold topOf peakOf;rw[Yj F hi]
  rw[e2,e3] at f;rw[<-f];show hS g.near x i+_ - hS g.near x i=_;omega
 ·rw[List.getElem?_eq_none (by unfold goesTillEnd;rw[List.length_map,List.length_range,F.len];omega),List.getElem?_eq_none (by rw[List.length_map,pk.cl];omega)]
def bt(nb:Near)(x:Config)(t v:Nat):Int:=(bests nb x t).getD v 0
theorem yJ(nb:Near)(x:Config)(t:Nat):(bests nb x t).length=nb.length:=by
 cases t with
 |zero=>unfold bests;rw[List.length_replicate]
 |succ t=>unfold bests;rw[List.length_map,List.length_range]
theorem bt_zero(nb:Near)(x:Config)(v:Nat):bt nb x 0 v=0:=by
 unfold bt bests;rw[List.getD_eq_getElem?_getD,List.getElem?_replicate];split<;>rfl
theorem foldl_max(l:List Int): ∀(m:Int),m<=l.foldl max m/\(∀z,z∈l->z<=l.foldl max m)/\(l.foldl max m=m∨l.foldl max m∈l):=by
 induction l with
 |nil=>exact fun m=>⟨Int.le_refl _,fun z hz=>(by cases hz),.inl rfl⟩
 |cons a l ih=>
  intro m;rw[List.foldl_cons];obtain⟨h1,h2,h3⟩:=ih (max m a);refine⟨by omega,fun z hz=> ?_,?_⟩
  ·rcases List.mem_cons.mp hz with e|e
   ·subst e;omega
   ·exact h2 z e
  ·rcases h3 with h3|h3
   ·rcases(by omega:max m a=m∨max m a=a) with q|q
    ·exact .inl (h3.trans q)
    ·exact .inr (by rw[h3,q];exact List.mem_cons_self)
   ·exact .inr (List.mem_cons_of_mem _ h3)
theorem Yn{nb:Near}{x:Config}{t v:Nat}(hv:v<nb.length):0<=bt nb x (t+1) v/\(∀u,u∈Nb nb v->lean (at_ x v) (at_ x u)+bt nb x t u<=bt nb x (t+1) v)/\
  (bt nb x (t+1) v=0∨∃u,u∈Nb nb v/\bt nb x (t+1) v=lean (at_ x v) (at_ x u)+bt nb x t u):=by
 have e:bt nb x (t+1) v=((Nb nb v).map fun u=>lean (at_ x v) (at_ x u)+bt nb x t u).foldl max 0:=by
  show((List.range nb.length).map fun v=>((nb.getD v []).map fun u=>lean (at_ x v) (at_ x u)+(bests nb x t).getD u 0).foldl max 0).getD v 0=_;rw[List.getD_eq_getElem?_getD,zR _ hv];rfl
 obtain⟨h1,h2,h3⟩:=foldl_max ((Nb nb v).map fun u=>lean (at_ x v) (at_ x u)+bt nb x t u) 0;rw[e];refine⟨h1,fun u hu=>h2 _ (List.mem_map.mpr ⟨u,hu,rfl⟩),?_⟩;rcases h3 with h3|h3
 ·exact .inl h3
 ·obtain⟨u,hu,e2⟩:=List.mem_map.mp h3;exact .inr ⟨u,hu,e2.symm⟩
theorem bt_grow{nb:Near}(ok:NbOk nb){x:Config}(h3:St3 x): ∀(t v:Nat),v<nb.length->bt nb x t v<=bt nb x (t+1) v/\bt nb x (t+1) v<=bt nb x t v+1
 |0,v,hv=>by
  obtain⟨a,b,c⟩:=Yn (x:=x) (t:=0) hv;rw[bt_zero];refine⟨a,?_⟩;rcases c with c|⟨u,hu,c⟩
  ·omega
  ·have:=Yg (h3.at v) (h3.at u);rw[bt_zero] at c;omega
 |t+1,v,hv=>by
  obtain⟨a,b,c⟩:=Yn (x:=x) (t:=t+1) hv;obtain⟨a2,b2,c2⟩:=Yn (x:=x) (t:=t) hv;constructor
  ·rcases c2 with c2|⟨u,hu,c2⟩
   ·omega
   ·have:=(bt_grow ok h3 t u (ok.lt v u hu)).1;have:=b u hu;omega
  ·rcases c with c|⟨u,hu,c⟩
   ·omega
   ·have:=(bt_grow ok h3 t u (ok.lt v u hu)).2;have:=b2 u hu;omega
def exceeds(nb:Near)(x:Config)(t v:Nat):Bool:=(Nb nb v).any fun u=>decide (bt nb x t v<lean (at_ x v) (at_ x u)+bt nb x t u)
theorem bt_next{nb:Near}(ok:NbOk nb){x:Config}(h3:St3 x){t v:Nat}(hv:v<nb.length):bt nb x (t+1) v=if exceeds nb x t v=true then bt nb x t v+1 else bt nb x t v:=by
 obtain⟨a,b,c⟩:=Yn (x:=x) (t:=t) hv;obtain⟨g1,g2⟩:=bt_grow ok h3 t v hv;by_cases q:exceeds nb x t v=true
 ·rw[if_pos q];unfold exceeds at q;obtain⟨u,hu,h⟩:=List.any_eq_true.mp q;have:=of_decide_eq_true h;have:=b u hu;omega
 ·rw[if_neg q];have z:0<=bt nb x t v:=by
   cases t with
   |zero=>rw[bt_zero];omega
   |succ t=>exact(Yn hv).1
  rcases c with c|⟨u,hu,c⟩
  ·omega
  ·have: ¬bt nb x t v<lean (at_ x v) (at_ x u)+bt nb x t u:=fun h=>q (List.any_eq_true.mpr ⟨u,hu,decide_eq_true h⟩);omega
theorem Jh{nb:Near}{x:Config}{t:Nat}(e:bests nb x (t+1)=bests nb x t): ∀j,bests nb x (t+j)=bests nb x t
 |0=>rfl
 |j+1=>by
  have ih:=Jh e j;have z:bests nb x (t+(j+1))=(List.range nb.length).map fun v=>((nb.getD v []).map fun u=>lean (at_ x v) (at_ x u)+(bests nb x (t+j)).getD u 0).foldl max 0:=rfl;rw[z,ih];exact e
structure Dist(nb:Near)(v:Nat)(ds:List (Option Nat)):Prop where
 len:ds.length=nb.length
 here:Dd ds v=some 0
 zero: ∀u,Dd ds u=some 0->u=v
 step: ∀u w,w∈Nb nb u->(Dd ds w).isSome=true->(Dd ds u).isSome=true/\dep ds u<=dep ds w+1
 back: ∀u d,Dd ds u=some (d+1)->∃w,w∈Nb nb u/\Dd ds w=some d
theorem Dist.of{nb:Near}(ok:NbOk nb){v:Nat}{ds:List (Option Nat)}{found:List Nat}{place:Nat}(hv:v<nb.length)(b:Bfs nb (List.replicate nb.length none) v ds found place)(hp:found.length<=place):Dist nb v ds:=by
 have no: ∀u,Dd (List.replicate nb.length (none:Option Nat)) u=none:=fun u=>by
  unfold Dd;rw[List.getD_eq_getElem?_getD,List.getElem?_replicate];split<;>rfl
 have fnd: ∀u,u∈found↔(Dd ds u).isSome=true:=fun u=>by rw[b.fnd,no];simp
 have dp: ∀u d,Dd ds u=some d->dep ds u=d:=fun u d e=>by unfold dep;rw[e];rfl
 refine⟨b.len,?_,fun u e=> ?_,fun u w hw hs=> ?_,fun u d e=> ?_⟩
 ·have hs:=(fnd v).mp b.rt;obtain⟨d,e⟩:=Option.isSome_iff_exists.mp hs;have:=(b.zero v b.rt).mpr rfl;rw[dp v d e] at this;rw[e,this]
 ·exact(b.zero u ((fnd u).mpr (by rw[e];rfl))).mp (dp u 0 e)
 ·obtain⟨i,hi⟩:=List.mem_iff_getElem?.mp ((fnd w).mpr hs);have:i<found.length:=(List.getElem?_eq_some_iff.mp hi).1;exact b.done i w (by omega) hi u (ok.sym u w hw)
 ·obtain⟨w,h1,h2,h3⟩:=b.par u ((fnd u).mpr (by rw[e];rfl)) (by rw[dp u _ e];omega);rw[dp u _ e] at h3;obtain⟨d',e'⟩:=Option.isSome_iff_exists.mp ((fnd w).mp h2);rw[dp w _ e'] at h3;exact⟨w,h1,by rw[e'];congr 1;omega⟩
theorem Dist.ball{nb:Near}(ok:NbOk nb){v:Nat}{ds:List (Option Nat)}(hv:v<nb.length)(B:Dist nb v ds): ∀(k u:Nat),u∈Vblcas.ball nb v k↔ ∃d,Dd ds u=some d/\d<=k
 |0,u=>by
  show u∈[v]↔_;rw[List.mem_singleton];constructor
  ·rintro rfl;exact⟨0,B.here,Nat.le_refl _⟩
  ·rintro⟨d,e,h⟩;obtain rfl:d=0:=by omega
   exact B.zero u e
 |k+1,u=>by
  show u∈((List.range nb.length).filter fun u=>(Vblcas.ball nb v k).contains u||(nb.getD u []).any fun w=>(Vblcas.ball nb v k).contains w)↔_;rw[List.mem_filter,List.mem_range,Bool.or_eq_true,List.contains_iff_mem,List.any_eq_true,Dist.ball ok hv B k u];constructor
  ·rintro⟨hu,⟨d,e,h⟩|⟨w,hw,h⟩⟩
   ·exact⟨d,e,by omega⟩
   ·obtain⟨d,e,h⟩:=(Dist.ball ok hv B k w).mp (List.contains_iff_mem.mp h);obtain⟨h1,h2⟩:=B.step u w hw (by rw[e];rfl);obtain⟨d',e'⟩:=Option.isSome_iff_exists.mp h1;refine⟨d',e',?_⟩;unfold dep at h2;rw[e,e'] at h2;simp only[Option.getD_some] at h2;omega
  ·rintro⟨d,e,h⟩;have hu:u<nb.length:=by rw[<-B.len];exact dd_lt (by rw[e];rfl)
   refine⟨hu,?_⟩;by_cases q:d<=k
   ·exact .inl ⟨d,e,q⟩
   ·obtain rfl:d=k+1:=by omega
    obtain⟨w,hw,e'⟩:=B.back u k e;exact .inr ⟨w,hw,List.contains_iff_mem.mpr ((Dist.ball ok hv B k w).mpr ⟨k,e',Nat.le_refl _⟩)⟩
def withinL(ds:List (Option Nat))(n k:Nat):List Nat:=(List.range n).filter fun u=>match Dd ds u with
 |none=>false
 |some d=>decide (d<=k)
theorem Dist.cells{nb:Near}(ok:NbOk nb){v:Nat}{ds:List (Option Nat)}(hv:v<nb.length)(B:Dist nb v ds)(k:Nat):withinL ds nb.length k=(List.range nb.length).filter fun u=>(Vblcas.ball nb v k).contains u:=by
 unfold withinL;refine List.filter_congr fun u _=> ?_;rw[Bool.eq_iff_iff,List.contains_iff_mem,B.ball ok hv];cases e:Dd ds u with
 |none=>simp
 |some d=>simp
theorem ball_range{nb:Near}{v:Nat}(k:Nat):Vblcas.ball nb v (k+1)=(List.range nb.length).filter fun u=>(Vblcas.ball nb v (k+1)).contains u:=by
 have e:Vblcas.ball nb v (k+1)=(List.range nb.length).filter fun u=>(Vblcas.ball nb v k).contains u||(nb.getD u []).any fun w=>(Vblcas.ball nb v k).contains w:=rfl;rw[e];refine List.filter_congr fun u hu=> ?_;rw[Bool.eq_iff_iff,List.contains_iff_mem,List.mem_filter];exact⟨fun h=>⟨hu,h⟩,fun h=>h.2⟩
def wayUp(nb:Near)(v:Nat):List Nat:=ancestors (forest nb) nb.length v
theorem ym{f:Forest}{v:Nat}(h:parentOf f v=none)(k:Nat):ancestors f k v=[v]:=by
 cases k with
 |zero=>rfl
 |succ k=>unfold ancestors;rw[h]
theorem Jl{f:Forest}{v u:Nat}(h:parentOf f v=some u)(k:Nat):ancestors f (k+1) v=v::ancestors f k u:=by
 show(match parentOf f v with|none=>[v]|some u=>v::ancestors f k u)=_;rw[h]
theorem FCert.Jk{nb:Near}(ok:NbOk nb){R D:Nat->Nat}(F:FCert nb R D): ∀(k v:Nat),v<nb.length->D v<=k->ancestors (forest nb) (k+1) v=ancestors (forest nb) k v
 |0,v,hv,h=>by
  have hp:=F.par v hv;cases e:parentOf (forest nb) v with
  |none=>rw[ym e,ym e]
  |some u=>rw[e] at hp;exact absurd (by omega) hp.1
 |k+1,v,hv,h=>by
  have hp:=F.par v hv;cases e:parentOf (forest nb) v with
  |none=>rw[ym e,ym e]
  |some u=>
   rw[e] at hp;obtain⟨h1,h2,h3,_⟩:=hp;rw[Jl e,Jl e,FCert.Jk ok F k u (ok.lt v u h2) (by omega)]
theorem way_root{nb:Near}{v:Nat}(h:parentOf (forest nb) v=none):wayUp nb v=[v]:=ym h _
theorem FCert.way_step{nb:Near}(ok:NbOk nb){R D:Nat->Nat}(F:FCert nb R D){v u:Nat}(hv:v<nb.length)(h:parentOf (forest nb) v=some u):wayUp nb v=v::wayUp nb u:=by
 have hp:=F.par v hv;rw[h] at hp;obtain⟨h1,h2,h3,_⟩:=hp;have hd:=F.dlt ok hv;obtain⟨m,hm⟩: ∃m,nb.length=m+1:=⟨nb.length - 1,by omega⟩;unfold wayUp;rw[hm,Jl h,F.Jk ok m u (ok.lt v u h2) (by omega)]
structure WayOk(nb:Near)(R D:Nat->Nat)(v:Nat)(l:List Nat):Prop where
 lt: ∀z,z∈l->z<nb.length
 dp: ∀z,z∈l->D z<=D v
 nd:l.Nodup
 ne:l≠[]
 last:l.getLast? =some (R v)
 len:l.length=D v+1
 suf: ∀z,z∈l->∃p,l=p++wayUp nb z
theorem FCert.way{nb:Near}(ok:NbOk nb){R D:Nat->Nat}(F:FCert nb R D): ∀(k v:Nat),v<nb.length->D v=k->WayOk nb R D v (wayUp nb v)
 |0,v,hv,h=>by
  have en:parentOf (forest nb) v=none:=by
   cases e:parentOf (forest nb) v with
   |none=>rfl
   |some u=>have:=F.par v hv;rw[e] at this;exact absurd h this.1
  have e:=way_root en;have er:=(F.c.d0 v hv).mp h;rw[e];refine⟨fun z hz=> ?_,fun z hz=> ?_,by simp,by simp,by rw[er];rfl,by rw[h];rfl,fun z hz=> ?_⟩
  ·rw[List.mem_singleton.mp hz];exact hv
  ·rw[List.mem_singleton.mp hz];exact Nat.le_refl _
  ·rw[List.mem_singleton.mp hz,e];exact⟨[],rfl⟩
 |k+1,v,hv,h=>by
  obtain⟨u,eu⟩: ∃u,parentOf (forest nb) v=some u:=by
   cases e:parentOf (forest nb) v with
   |none=>have:=F.par v hv;rw[e] at this;have:D v=0:=this;omega
   |some u=>exact⟨u,rfl⟩
  have ip:=F.par v hv;rw[eu] at ip;have hd:=ip.2.2.1;have W:=FCert.way ok F k u (ok.lt v u ip.2.1) (by omega);have e:=F.way_step ok hv eu;rw[e];refine⟨fun z hz=> ?_,fun z hz=> ?_,?_,by simp,?_,?_,fun z hz=> ?_⟩
  ·rcases List.mem_cons.mp hz with q|q
   ·rw[q];exact hv
   ·exact W.lt z q
  ·rcases List.mem_cons.mp hz with q|q
   ·rw[q];exact Nat.le_refl _
   ·have:=W.dp z q;omega
  ·refine List.nodup_cons.mpr ⟨fun q=> ?_,W.nd⟩;have:=W.dp v q;omega
  ·rw[List.getLast?_cons,W.last];rw[F.c.redge v u ip.2.1];rfl
  ·rw[List.length_cons,W.len];omega
  ·rcases List.mem_cons.mp hz with q|q
   ·rw[q];exact⟨[],by rw[e];rfl⟩
   ·obtain⟨p,hp⟩:=W.suf z q;exact⟨v::p,by rw[hp];rfl⟩
theorem wayUp_head(nb:Near)(v:Nat): ∃l,wayUp nb v=v::l:=anc_head _ _ _
theorem roots_eq{nb:Near}(ok:NbOk nb):(forest nb).map (fun p=>p.root)=(List.range nb.length).map fun v=>((wayUp nb v).getLast?).getD 0:=by
 obtain⟨R,D,F⟩:=fcert ok;refine List.ext_getElem? fun i=> ?_;by_cases hi:i<nb.length
 ·rw[zR _ hi,(F.way ok _ i hi rfl).last,List.getElem?_map];have r:=F.root i hi;unfold rootOf at r;rw[List.getElem?_eq_getElem (by rw[F.len];exact hi)] at r ⊢;simp only[Option.map_some,Option.getD_some] at r ⊢;rw[r]
 ·rw[List.getElem?_eq_none (by rw[List.length_map,F.len];omega),List.getElem?_eq_none (by rw[List.length_map,List.length_range];omega)]
theorem takeWhile_all{α:Type}{p:α->Bool}{l r:List α}{m:α}(h: ∀z,z∈l->p z=true)(hm:p m=false):(l++m::r).takeWhile p=l:=by
 induction l with
 |nil=>rw[List.nil_append,List.takeWhile_cons,hm];rfl
 |cons a l ih=>
  rw[List.cons_append,List.takeWhile_cons,h a List.mem_cons_self];show a::_=_;rw[ih fun z hz=>h z (List.mem_cons_of_mem _ hz)]
structure Meet(A B pa pb r:List Nat)(m:Nat):Prop where
 ea:A=pa++m::r
 eb:B=pb++m::r
 na: ∀z,z∈pa->z∉B
 nb: ∀z,z∈pb->z∉A
 ma:m∉pa
 mb:m∉pb
theorem first_of{A B:List Nat}(h: ∃z,z∈A/\z∈B): ∃pa m r,A=pa++m::r/\m∈B/\∀z,z∈pa->z∉B:=by
 induction A with
 |nil=>obtain⟨z,hz,_⟩:=h;cases hz
 |cons a A ih=>
  by_cases q:a∈B
  ·exact⟨[],a,A,rfl,q,fun z hz=>by cases hz⟩
  ·obtain⟨z,h1,h2⟩:=h;have:z∈A:=by
    rcases List.mem_cons.mp h1 with e|e
    ·subst e;exact absurd h2 q
    ·exact e
   obtain⟨pa,m,r,e1,e2,e3⟩:=ih ⟨z,this,h2⟩;refine⟨a::pa,m,r,by rw[e1];rfl,e2,fun y hy=> ?_⟩;rcases List.mem_cons.mp hy with e|e
   ·rw[e];exact q
   ·exact e3 y e
theorem suffix_eq{A p p' r q:List Nat}{m:Nat}(nd:A.Nodup)(h1:A=p++m::r)(h2:A=p'++m::q):p=p'/\r=q:=by
 induction p generalizing A p' with
 |nil=>
  cases p' with
  |nil=>
   rw[h1] at h2;exact⟨rfl,(List.cons.inj h2).2⟩
  |cons a p'=>
   rw[h1] at h2 nd;have e:=List.cons.inj h2;have:m∈r:=by rw[e.2];simp
   exact absurd this (List.nodup_cons.mp nd).1
 |cons a p ih=>
  cases p' with
  |nil=>
   rw[h2] at h1 nd;have e:=List.cons.inj h1;have:m∈q:=by rw[e.2];simp
   exact absurd this (List.nodup_cons.mp nd).1
  |cons b p'=>
   rw[h1] at h2 nd;have e:=List.cons.inj h2;obtain⟨g1,g2⟩:=ih (List.nodup_cons.mp nd).2 rfl e.2;exact⟨by rw[e.1,g1],g2⟩
theorem FCert.meet{nb:Near}(ok:NbOk nb){R D:Nat->Nat}(F:FCert nb R D){a b:Nat}(ha:a<nb.length)(hb:b<nb.length)(e:R a=R b): ∃pa pb r m,Meet (wayUp nb a) (wayUp nb b) pa pb r m:=by
 have A:=F.way ok _ a ha rfl;have B:=F.way ok _ b hb rfl;have m1:R a∈wayUp nb a:=List.mem_of_getLast? A.last;have m2:R a∈wayUp nb b:=by rw[e];exact List.mem_of_getLast? B.last
 obtain⟨pa,m,r,e1,e2,e3⟩:=first_of ⟨_,m1,m2⟩;have mA:m∈wayUp nb a:=by rw[e1];simp
 obtain⟨qa,hqa⟩:=A.suf m mA;obtain⟨qb,hqb⟩:=B.suf m e2;obtain⟨l,hl⟩:=wayUp_head nb m;rw[hl] at hqa hqb;obtain⟨z1,z2⟩:=suffix_eq A.nd e1 hqa;subst z2;have ndB:=B.nd;rw[hqb] at ndB;have ndA:=A.nd;rw[e1] at ndA;have dB:=(List.nodup_append.mp ndB).2.2;have dA:=(List.nodup_append.mp ndA).2.2;refine⟨pa,qb,r,m,e1,hqb,e3,fun z hz hA=> ?_,fun h=>dA m h m List.mem_cons_self rfl,fun h=>dB m h m List.mem_cons_self rfl⟩;rw[e1] at hA;rcases List.mem_append.mp hA with q|q
 ·exact e3 z q (by rw[hqb];exact List.mem_append_left _ hz)
 ·exact dB z hz z q rfl
def ringI(pa pb:List Nat)(a m:Nat):List Nat:=[a]++pb++(if pa=[] then[] else m::(pa.drop 1).reverse)
theorem Meet.ring{nb:Near}{R D:Nat->Nat}(F:FCert nb R D){a b:Nat}{pa pb r:List Nat}{m:Nat}(M:Meet (wayUp nb a) (wayUp nb b) pa pb r m):ringOf (forest nb) (a,b)=ringI pa pb a m:=by
 have e1:ancestors (forest nb) (forest nb).length a=pa++m::r:=by rw[F.len];exact M.ea
 have e2:ancestors (forest nb) (forest nb).length b=pb++m::r:=by rw[F.len];exact M.eb
 unfold ringOf ringI;simp only[e1,e2];have t1:(pa++m::r).takeWhile (fun v=> !(pb++m::r).contains v)=pa:=by
  refine takeWhile_all (fun z hz=> ?_) ?_
  ·have:=M.na z hz;rw[M.eb] at this;simpa using this
  ·simp
 rw[t1,List.drop_left];simp only[List.headD_cons];have t2:(pb++m::r).takeWhile (fun v=>v != m)=pb:=by
  refine takeWhile_all (fun z hz=> ?_) (by simp);have:z≠m:=fun q=>M.mb (by rw[<-q];exact hz);simp[this]
 rw[t2];cases pa with
 |nil=>simp
 |cons c pa=>simp
abbrev AL:=List (Nat×Int)
def lookA:AL->Nat->Option Int
 |[],_=>none
 |p::l,u=>if p.1=u then some p.2 else lookA l u
def putA(l:AL)(u:Nat)(z:Int):AL:=if(l.any fun p=>decide (p.1=u))=true then l.map (fun p=>if p.1=u then(p.1,z) else p) else l++[(u,z)]
theorem Zt{l:AL}{u:Nat}:lookA l u=none↔ ∀p,p∈l->p.1≠u:=by
 induction l with
 |nil=>exact⟨fun _ p hp=>(by cases hp),fun _=>rfl⟩
 |cons q l ih=>
  unfold lookA;by_cases e:q.1=u
  ·rw[if_pos e];exact⟨fun h=>(by cases h),fun h=>absurd e (h q List.mem_cons_self)⟩
  ·rw[if_neg e,ih];constructor
   ·intro h p hp;rcases List.mem_cons.mp hp with z|z
    ·rw[z];exact e
    ·exact h p z
   ·exact fun h p hp=>h p (List.mem_cons_of_mem _ hp)
theorem vI{l:AL}{u:Nat}{z:Int}(h:lookA l u=some z):(u,z)∈l:=by
 induction l with
 |nil=>cases h
 |cons q l ih=>
  unfold lookA at h;by_cases e:q.1=u
  ·rw[if_pos e] at h;have:q=(u,z):=Prod.ext e (Option.some.inj h);rw[this];exact List.mem_cons_self
  ·rw[if_neg e] at h;exact List.mem_cons_of_mem _ (ih h)
def OnceA(l:AL):Prop:=(l.map (·.1)).Nodup
theorem OnceA.look{l:AL}(o:OnceA l){u:Nat}{z:Int}(h:(u,z)∈l):lookA l u=some z:=by
 induction l with
 |nil=>cases h
 |cons q l ih=>
  unfold OnceA at o;rw[List.map_cons,List.nodup_cons] at o;unfold lookA;rcases List.mem_cons.mp h with e|e
  ·rw[<-e,if_pos rfl]
  ·rw[if_neg (fun x=>o.1 (by rw[x];exact List.mem_map.mpr ⟨_,e,rfl⟩))];exact ih o.2 e
theorem lookA_map{l:AL}{u w:Nat}{z:Int}:lookA (l.map fun p=>if p.1=u then(p.1,z) else p) w=if w=u then(lookA l w).map (fun _=>z) else lookA l w:=by
 induction l with
 |nil=>split<;>rfl
 |cons q l ih=>
  rw[List.map_cons];unfold lookA;by_cases e:q.1=u
  ·rw[if_pos e];by_cases e2:w=u
   ·rw[if_pos (by simp only;omega),if_pos e2,if_pos (by omega)];rfl
   ·rw[if_neg (by simp only;omega),ih,if_neg e2,if_neg e2,if_neg (by omega)]
  ·rw[if_neg e];by_cases e2:q.1=w
   ·rw[if_pos e2,if_neg (by omega),if_pos e2]
   ·rw[if_neg e2,ih,if_neg e2]
theorem lookA_snoc{l:AL}{u w:Nat}{z:Int}(h:lookA l u=none):lookA (l++[(u,z)]) w=if w=u then some z else lookA l w:=by
 induction l with
 |nil=>
  show(if u=w then some z else none)=_;by_cases e:w=u
  ·rw[if_pos e,if_pos e.symm]
  ·rw[if_neg e,if_neg (fun x=>e x.symm)];rfl
 |cons q l ih=>
  have hq:q.1≠u:=Zt.mp h q List.mem_cons_self;have h':lookA l u=none:=Zt.mpr fun p hp=>Zt.mp h p (List.mem_cons_of_mem _ hp);rw[List.cons_append];unfold lookA;by_cases e2:q.1=w
  ·rw[if_pos e2,if_neg (by omega),if_pos e2]
  ·rw[if_neg e2,ih h',if_neg e2]
theorem Jj{l:AL}{u:Nat}:(l.any fun p=>decide (p.1=u))=(lookA l u).isSome:=by
 cases e:lookA l u with
 |none=>
  show _=false;rw[Bool.eq_false_iff];intro h;obtain⟨p,hp,q⟩:=List.any_eq_true.mp h;exact Zt.mp e p hp (of_decide_eq_true q)
 |some z=>exact List.any_eq_true.mpr ⟨_,vI e,decide_eq_true rfl⟩
theorem look_put(l:AL)(u w:Nat)(z:Int):lookA (putA l u z) w=if w=u then some z else lookA l w:=by
 unfold putA;rw[Jj];cases e:lookA l u with
 |none=>rw[if_neg (by simp)];exact lookA_snoc e
 |some y=>
  rw[if_pos (by rfl),lookA_map];by_cases q:w=u
  ·rw[if_pos q,if_pos q,q,e];rfl
  ·rw[if_neg q,if_neg q]
theorem keys_map(l:AL)(u:Nat)(z:Int):(l.map fun p=>if p.1=u then(p.1,z) else p).map (·.1)=l.map (·.1):=by
 rw[List.map_map];refine List.map_congr_left fun p _=> ?_;show(if p.1=u then(p.1,z) else p).1=p.1;split<;>rfl
theorem OnceA.put{l:AL}(o:OnceA l)(u:Nat)(z:Int):OnceA (putA l u z):=by
 unfold putA;rw[Jj];cases e:lookA l u with
 |none=>
  rw[if_neg (by simp)];unfold OnceA;rw[List.map_append,List.nodup_append];refine⟨o,by simp,fun a ha b hb q=> ?_⟩;obtain⟨p,hp,rfl⟩:=List.mem_map.mp ha;have:b=u:=by simpa using hb
  exact Zt.mp e p hp (by omega)
 |some y=>
  rw[if_pos (by rfl)];unfold OnceA;rw[keys_map];exact o
theorem mem_keys_put{l:AL}{u:Nat}{z:Int}{w:Nat}(h:w∈(putA l u z).map (·.1)):w=u∨w∈l.map (·.1):=by
 unfold putA at h;split at h
 ·rw[keys_map] at h;exact .inr h
 ·rw[List.map_append,List.mem_append] at h;rcases h with h|h
  ·exact .inr h
  ·exact .inl (by simpa using h)
def IsMaxL(S:List Int):Option Int->Prop
 |none=>S=[]
 |some m=>m∈S/\∀z,z∈S->z<=m
theorem IsMaxL.uniq{S S':List Int}{o o':Option Int}(h:IsMaxL S o)(h':IsMaxL S' o')(e: ∀z,z∈S↔z∈S'):o=o':=by
 cases o with
 |none=>
  cases o' with
  |none=>rfl
  |some m=>
   have:m∈S:=(e m).mpr h'.1;rw[show S=[] from h] at this;cases this
 |some m=>
  cases o' with
  |none=>
   have:m∈S':=(e m).mp h.1;rw[show S'=[] from h'] at this;cases this
  |some m'=>
   have a:=h.2 m' ((e m').mpr h'.1);have b:=h'.2 m ((e m).mp h.1);rw[show m=m' by omega]
theorem IsMaxL.new{S:List Int}(h:IsMaxL S none)(z:Int):IsMaxL (S++[z]) (some z):=by
 rw[show S=[] from h];exact⟨by simp,fun y hy=>by
                 have:y=z:=by simpa using hy
                 omega⟩
theorem IsMaxL.more{S:List Int}{m z:Int}(h:IsMaxL S (some m))(q:m<z):IsMaxL (S++[z]) (some z):=by
 refine⟨by simp,fun y hy=> ?_⟩;rcases List.mem_append.mp hy with e|e
 ·have:=h.2 y e;omega
 ·have:y=z:=by simpa using e
  omega
theorem IsMaxL.less{S:List Int}{m z:Int}(h:IsMaxL S (some m))(q: ¬m<z):IsMaxL (S++[z]) (some m):=by
 refine⟨List.mem_append_left _ h.1,fun y hy=> ?_⟩;rcases List.mem_append.mp hy with e|e
 ·exact h.2 y e
 ·have:y=z:=by simpa using e
  omega
theorem yg: ∀(l:List (Option Int)) (S:List Int) (o:Option Int),IsMaxL S o->IsMaxL (S++l.filterMap id) (l.foldl further o)
 |[],S,o,h=>by rw[List.filterMap_nil,List.append_nil];exact h
 |a::l,S,o,h=>by
  rw[List.foldl_cons];cases a with
  |none=>
   have e:further o none=o:=by cases o<;>rfl
   rw[e];exact yg l S o h
  |some z=>
   have h2:IsMaxL (S++[z]) (further o (some z)):=by
    cases o with
    |none=>exact h.new z
    |some m=>
     show IsMaxL _ (some (max m z));by_cases q:m<z
     ·rw[show max m z=z by omega];exact h.more q
     ·rw[show max m z=m by omega];exact h.less q
   have:=yg l (S++[z]) _ h2;rw[List.append_assoc] at this;exact this
structure LeansOk(nb:Near)(x:Config)(rows:Nat->List (Nat×Int)):Prop where
 mem: ∀w,w<nb.length->∀q,q∈rows w↔q.1∈Nb nb w/\q.2=lean (at_ x w) (at_ x q.1)
def cand1(row:List (Nat×Int))(s:Int)(u:Nat):List Int:=(row.filter fun q=>decide (q.1=u)).map fun q=>s+q.2
def candL(rows:Nat->List (Nat×Int))(l:AL)(u:Nat):List Int:=l.flatMap fun p=>cand1 (rows p.1) p.2 u
theorem mem_cand{rows:Nat->List (Nat×Int)}{l:AL}{u:Nat}{z:Int}:z∈candL rows l u↔ ∃w s,(w,s)∈l/\∃q,q∈rows w/\q.1=u/\z=s+q.2:=by
 unfold candL cand1;rw[List.mem_flatMap];constructor
 ·rintro⟨p,hp,h⟩;obtain⟨q,hq,rfl⟩:=List.mem_map.mp h;rw[List.mem_filter] at hq;exact⟨p.1,p.2,hp,q,hq.1,of_decide_eq_true hq.2,rfl⟩
 ·rintro⟨w,s,hp,q,hq,e,rfl⟩;exact⟨(w,s),hp,List.mem_map.mpr ⟨q,List.mem_filter.mpr ⟨hq,decide_eq_true e⟩,rfl⟩⟩
theorem cand1_snoc(row:List (Nat×Int))(q:Nat×Int)(s:Int)(u:Nat):cand1 (row++[q]) s u=cand1 row s u++(if q.1=u then[s+q.2] else[]):=by
 unfold cand1;rw[List.filter_append,List.map_append,List.filter_cons]
 congr 1
 by_cases e:q.1=u
 ·rw[if_pos (decide_eq_true e),if_pos e];rfl
 ·rw[if_neg (by simpa using e),if_neg e];rfl
theorem candL_snoc(rows:Nat->List (Nat×Int))(l:AL)(p:Nat×Int)(u:Nat):candL rows (l++[p]) u=candL rows l u++cand1 (rows p.1) p.2 u:=by
 unfold candL;rw[List.flatMap_append]
 congr 1
 simp
structure SumsRel(nb:Near)(l:AL)(b:List (Option Int)):Prop where
 once:OnceA l
 lt: ∀p,p∈l->p.1<nb.length
 eq: ∀w,w<nb.length->lookA l w=b.getD w none
structure StepIs(nb:Near)(rows:Nat->List (Nat×Int))(l l':AL):Prop where
 once:OnceA l'
 lt: ∀p,p∈l'->p.1<nb.length
 mx: ∀u,u<nb.length->IsMaxL (candL rows l u) (lookA l' u)
theorem StepIs.rel{nb:Near}(ok:NbOk nb){x:Config}{rows:Nat->List (Nat×Int)}(L:LeansOk nb x rows){l l':AL}{b:List (Option Int)}(r:SumsRel nb l b)(S:StepIs nb rows l l'):SumsRel nb l' (longer nb x b):=by
 refine⟨S.once,S.lt,fun u hu=> ?_⟩;have e:(longer nb x b).getD u none=((Nb nb u).map fun w=>(b.getD w none).map fun s=>s+lean (at_ x w) (at_ x u)).foldl further none:=by
  unfold longer;rw[List.getD_eq_getElem?_getD,zR _ hu];rfl
 rw[e];have m:=yg ((Nb nb u).map fun w=>(b.getD w none).map fun s=>s+lean (at_ x w) (at_ x u)) [] none rfl;rw[List.nil_append] at m;refine(S.mx u hu).uniq m fun z=> ?_;rw[mem_cand,List.mem_filterMap];constructor
 ·rintro⟨w,s,hp,q,hq,e1,e2⟩;have hw:=r.lt _ hp;obtain⟨m1,m2⟩:=(L.mem w hw q).mp hq;rw[e1] at m1 m2;refine⟨some z,List.mem_map.mpr ⟨w,ok.sym w u m1,?_⟩,rfl⟩;rw[<-r.eq w hw,r.once.look hp,e2,m2];rfl
 ·rintro⟨o,ho,e1⟩;obtain⟨w,hw,e2⟩:=List.mem_map.mp ho;have hwl:=ok.lt u w hw;rw[<-r.eq w hwl] at e2;cases q:lookA l w with
  |none=>rw[q] at e2;rw[<-e2] at e1;cases e1
  |some s=>
   rw[q] at e2;rw[<-e2] at e1;refine⟨w,s,vI q,(u,lean (at_ x w) (at_ x u)),(L.mem w hwl _).mpr ⟨ok.sym u w hw,rfl⟩,rfl,?_⟩;exact(Option.some.inj e1).symm
theorem SumsRel.start{nb:Near}{v:Nat}(hv:v<nb.length):SumsRel nb [(v,0)] ((List.range nb.length).map fun w=>if w=v then some 0 else none):=by
 refine⟨by unfold OnceA;simp,fun p hp=>by rw[List.mem_singleton.mp hp];exact hv,fun w hw=> ?_⟩;rw[List.getD_eq_getElem?_getD,zR _ hw];show(if v=w then some 0 else none)=if w=v then some 0 else none
 by_cases e:w=v
 ·rw[if_pos e,if_pos e.symm]
 ·rw[if_neg e,if_neg (fun q=>e q.symm)]
structure FracOk(n:Nat)(f:Int×Int):Prop where
 nn:0<=f.1
 pos:1<=f.2
 le:f.2<=n
theorem FracOk.greater{n:Nat}{f:Int×Int}(h:FracOk n f){s:Int}{len:Nat}(h1:1<=len)(h2:len<=n):FracOk n (greater f (s,(len:Int))):=by
 unfold Vblcas.greater;simp only;split
 ·next q=>
  refine⟨?_,by simp only;omega,by simp only;omega⟩;have a:0<=f.1 * (len:Int):=Int.mul_nonneg h.nn (by omega);have b:0<s * f.2:=by omega
  have c:0<f.2:=by have:=h.pos;omega
  simp only;exact Int.le_of_lt (Int.pos_of_mul_pos_left b c)
 ·exact h
theorem lowest_pos{f:Int×Int}(h0:0<=f.1)(h1:1<=f.2){d:Int}(hd:d=((Nat.gcd f.1.natAbs f.2.natAbs:Nat):Int)):lowest f=(f.1 / d,f.2 / d)/\0<d/\d<=f.2:=by
 have g:0<Nat.gcd f.1.natAbs f.2.natAbs:=Nat.gcd_pos_of_pos_right _ (by omega);have l:Nat.gcd f.1.natAbs f.2.natAbs<=f.2.natAbs:=Nat.gcd_le_right _ (by omega);refine⟨?_,by omega,by omega⟩;unfold lowest;simp only;rw[<-hd,if_neg (by omega)]
section
variable (nb:Near)(k:Nat)(x:Config)
def xAt(i:Nat):Config:=ST.iter (step1 nb k) i x
theorem xAt_succ(i:Nat):xAt nb k x (i+1)=step1 nb k (xAt nb k x i):=ST.zu _ _ _
def pastL:Nat->List Config
 |0=>[]
 |i+1=>xAt nb k x i::pastL i
end
section
variable {nb:Near}{k:Nat}{x:Config}
theorem vB: ∀i,(pastL nb k x i).length=i
 |0=>rfl
 |i+1=>by show(pastL nb k x i).length+1=_;rw[vB i]
def Apart(nb:Near)(k:Nat)(x:Config)(g:Nat):Prop:=∀i j,i<j->j<g->xAt nb k x i≠xAt nb k x j
theorem vA: ∀(g:Nat) {j:Nat} {y:Config},Apart nb k x g->j<g->xAt nb k x j=y->(pastL nb k x g).findIdx? (fun z=>z==y)=some (g - 1 - j)
 |0,j,y,_,h,_=>by omega
 |g+1,j,y,A,h,e=>by
  show List.findIdx? (fun z=>z==y) (xAt nb k x g::pastL nb k x g)=_;rw[List.findIdx?_cons];by_cases q:j=g
  ·subst q;rw[if_pos (by rw[e];exact beq_self_eq_true y)];rw[show j+1 - 1 - j=0 by omega]
  ·have ne: ¬(xAt nb k x g==y)=true:=fun z=>A j g (by omega) (by omega) (by rw[e];exact(beq_iff_eq.mp z).symm);rw[if_neg ne,vA g (fun i j a b=>A i j a (by omega)) (by omega) e];show some (g - 1 - j+1)=some (g+1 - 1 - j)
   congr 1
   omega
theorem Yx: ∀(g:Nat) {y:Config},(∀j,j<g->xAt nb k x j≠y)->(pastL nb k x g).findIdx? (fun z=>z==y)=none
 |0,y,_=>rfl
 |g+1,y,h=>by
  show List.findIdx? (fun z=>z==y) (xAt nb k x g::pastL nb k x g)=_;rw[List.findIdx?_cons,if_neg (fun z=>h g (by omega) (beq_iff_eq.mp z)),Yx g fun j hj=>h j (by omega)];rfl
theorem course_hit{g m j:Nat}(A:Apart nb k x g)(hj:j<g)(e:xAt nb k x j=xAt nb k x g):course nb k m (xAt nb k x g) (pastL nb k x g)=some (j,g - j):=by
 unfold course;rw[vA g A hj e];show some ((pastL nb k x g).length - (g - 1 - j+1),g - 1 - j+1)=_;rw[vB]
 congr 2<;>omega
theorem course_go{g m:Nat}(h: ∀j,j<g->xAt nb k x j≠xAt nb k x g):course nb k (m+1) (xAt nb k x g) (pastL nb k x g)=course nb k m (xAt nb k x (g+1)) (pastL nb k x (g+1)):=by
 rw[course,Yx g h,xAt_succ];rfl
theorem course_out{g:Nat}(h: ∀j,j<g->xAt nb k x j≠xAt nb k x g):course nb k 0 (xAt nb k x g) (pastL nb k x g)=none:=by
 rw[course,Yx g h]
theorem Apart.next{g:Nat}(A:Apart nb k x g)(h: ∀j,j<g->xAt nb k x j≠xAt nb k x g):Apart nb k x (g+1):=by
 intro i j a b;by_cases q:j=g
 ·subst q;exact h i a
 ·exact A i j a (by omega)
theorem iter_xAt{c:List Nat}: ∀i,(ST.iter (one nb k) i (x,c)).1=xAt nb k x i
 |0=>rfl
 |i+1=>by rw[ST.zu,xAt_succ,<-iter_xAt i (c:=c)];rfl
end
theorem Zz: ∀(S l:List Nat),S.Nodup->(∀z,z∈S->z∈l)->l.length<=S.length->l.Perm S
 |[],l,_,_,h=>by
  have:l=[]:=List.eq_nil_of_length_eq_zero (by simpa using h);rw[this]
 |a::S,l,nd,h,hl=>by
  rw[List.nodup_cons] at nd;have ha:=h a List.mem_cons_self;have p:=List.perm_cons_erase ha;have q:=Zz S (l.erase a) nd.2 (fun z hz=>by
   have ne:z≠a:=fun e=>nd.1 (by rw[<-e];exact hz);exact(List.mem_erase_of_ne ne).mpr (h z (List.mem_cons_of_mem _ hz))) (by
   rw[List.length_erase_of_mem ha];rw[List.length_cons] at hl;omega)
  exact p.trans (q.cons a)
structure NamesOk(n:Nat)(l:List Nat):Prop where
 perm:l.Perm (List.range n)
theorem NamesOk.len{n:Nat}{l:List Nat}(h:NamesOk n l):l.length=n:=by rw[h.perm.length_eq,List.length_range]
theorem NamesOk.nd{n:Nat}{l:List Nat}(h:NamesOk n l):l.Nodup:=h.perm.nodup_iff.mpr List.nodup_range
theorem NamesOk.lt{n:Nat}{l:List Nat}(h:NamesOk n l){v:Nat}(hv:v<n):l.getD v 0<n:=by
 have hl:=h.len;rw[List.getD_eq_getElem?_getD,List.getElem?_eq_getElem (by omega)];exact List.mem_range.mp (h.perm.mem_iff.mp (List.getElem_mem (by omega)))
theorem NamesOk.inj{n:Nat}{l:List Nat}(h:NamesOk n l){v u:Nat}(hv:v<n)(hu:u<n)(e:l.getD v 0=l.getD u 0):v=u:=by
 have hl:=h.len;rw[List.getD_eq_getElem?_getD,List.getD_eq_getElem?_getD,List.getElem?_eq_getElem (by omega),List.getElem?_eq_getElem (by omega)] at e;exact(List.getElem_inj h.nd).mp e
def oldN(l:List Nat)(u:Nat):Nat:=(l.findIdx? fun v=>v==u).getD 0
theorem NamesOk.old{n:Nat}{l:List Nat}(h:NamesOk n l){u:Nat}(hu:u<n):oldN l u<n/\l.getD (oldN l u) 0=u:=by
 have hl:=h.len;have hm:u∈l:=h.perm.mem_iff.mpr (List.mem_range.mpr hu);unfold oldN;cases e:l.findIdx? fun v=>v==u with
 |none=>
  have:=List.findIdx?_eq_none_iff.mp e u hm;simp at this
 |some i=>
  obtain⟨h1,h2,_⟩:=List.findIdx?_eq_some_iff_getElem.mp e;refine⟨by show i<n;omega,?_⟩;show l.getD i 0=u;rw[List.getD_eq_getElem?_getD,List.getElem?_eq_getElem h1];exact beq_iff_eq.mp h2
def toE(l:List Nat)(e:Nat×Nat):Nat×Nat:=(min (l.getD e.1 0) (l.getD e.2 0),max (l.getD e.1 0) (l.getD e.2 0))
theorem NamesOk.edge{n:Nat}{l:List Nat}(h:NamesOk n l){e:Nat×Nat}(h1:e.1<e.2)(h2:e.2<n):(toE l e).1<(toE l e).2/\(toE l e).2<n:=by
 have a:=h.lt (v:=e.1) (by omega);have b:=h.lt h2;have c:l.getD e.1 0≠l.getD e.2 0:=fun q=>by have:=h.inj (by omega) h2 q;omega
 unfold toE;simp only;omega
theorem NamesOk.edge_inj{n:Nat}{l:List Nat}(h:NamesOk n l){e f:Nat×Nat}(h1:e.1<e.2)(h2:e.2<n)(h3:f.1<f.2)(h4:f.2<n)(q:toE l e=toE l f):e=f:=by
 unfold toE at q;have q1:=congrArg Prod.fst q;have q2:=congrArg Prod.snd q;simp only at q1 q2;rcases(by omega:(l.getD e.1 0=l.getD f.1 0/\l.getD e.2 0=l.getD f.2 0)∨(l.getD e.1 0=l.getD f.2 0/\l.getD e.2 0=l.getD f.1 0)) with⟨a,b⟩|⟨a,b⟩
 ·exact Prod.ext (h.inj (by omega) (by omega) a) (h.inj h2 h4 b)
 ·have:=h.inj (by omega) h4 a;have:=h.inj h2 (by omega) b;omega
theorem NamesOk.edges{g:Graph}(ge:EOk g)(srt:g.edges.Pairwise lexLt2){l:List Nat}(h:NamesOk g.n l):
  (g.edges.foldl (fun m e=>putPair (toE l e) m) []).Perm (g.edges.map (toE l))/\(g.edges.foldl (fun m e=>putPair (toE l e) m) []).Pairwise lexLt2/\EOk {n:=g.n,edges:=g.edges.foldl (fun m e=>putPair (toE l e) m) []}:=by
 have e:g.edges.foldl (fun m e=>putPair (toE l e) m) []=(g.edges.map (toE l)).foldl (fun m p=>putPair p m) []:=by rw[List.foldl_map]
 have nd:(g.edges.map (toE l)).Nodup:=by
  rw[List.nodup_iff_pairwise_ne,List.pairwise_map];refine srt.imp_of_mem fun{a b} ha hb q z=> ?_;have e1:=ge.lt a ha;have e2:=ge.lt b hb;have:=h.edge_inj e1.1 e1.2 e2.1 e2.2 z;subst this;unfold lexLt2 at q;omega
 obtain⟨p1,p2⟩:=putAll _ nd;rw[e];refine⟨p1,p2,⟨fun d hd=> ?_⟩⟩;obtain⟨a,ha,rfl⟩:=List.mem_map.mp (p1.mem_iff.mp hd);have e1:=ge.lt a ha;exact h.edge e1.1 e1.2
def placedL(l vals:List Nat)(n j:Nat):List Nat:=(List.range n).map fun u=>if oldN l u<j then vals.getD (oldN l u) 0 else 0
theorem placedL_zero(l vals:List Nat)(n:Nat):placedL l vals n 0=zeros n:=by
 unfold placedL zeros;rw[List.eq_replicate_iff];refine⟨by rw[List.length_map,List.length_range],fun b hb=> ?_⟩;obtain⟨u,_,rfl⟩:=List.mem_map.mp hb;rw[if_neg (by omega)]
theorem NamesOk.placed{n:Nat}{l vals:List Nat}(h:NamesOk n l){j:Nat}(hj:j<n):(placedL l vals n j).set (l.getD j 0) (vals.getD j 0)=placedL l vals n (j+1):=by
 have hlt:=h.lt hj;refine List.ext_getElem? fun i=> ?_;by_cases hi:i<n
 ·rw[List.getElem?_set];have o:=h.old hi;unfold placedL;rw[List.length_map,List.length_range];by_cases q:l.getD j 0=i
  ·have e:oldN l i=j:=h.inj o.1 hj (by rw[o.2,q]);rw[if_pos q,if_pos (by omega),zR _ hi,e,if_pos (by omega)]
  ·have ne:oldN l i≠j:=fun z=>q (by rw[<-z];exact o.2);rw[if_neg q,zR _ hi,zR _ hi]
   congr 1
   by_cases z:oldN l i<j
   ·rw[if_pos z,if_pos (by omega)]
   ·rw[if_neg z,if_neg (by omega)]
 ·rw[List.getElem?_eq_none (by rw[List.length_set];unfold placedL;rw[List.length_map,List.length_range];omega),List.getElem?_eq_none (by unfold placedL;rw[List.length_map,List.length_range];omega)]
theorem NamesOk.placed_all{n:Nat}{l vals:List Nat}(h:NamesOk n l):placedL l vals n n=(List.range n).map fun u=>vals.getD (oldN l u) 0:=by
 unfold placedL;refine List.map_congr_left fun u hu=> ?_;rw[if_pos (h.old (List.mem_range.mp hu)).1]
end GW
namespace GW
open PySem PySem.Spec PyProof.Rows L2
abbrev sWriteDepths:Stmt:=top 13
structure RowsNb(rows:List (List Int))(nb:Vblcas.Near):Prop where
 len:rows.length=nb.length
 mem: ∀(v:Nat) (z:Int),z∈rows.getD v []↔ ∃u:Nat,z=(u:Int)/\u∈Nb nb v
def dsV:Option Nat->V
 |none=>.non
 |some k=>.int (k:Nat)
def natV(n:Nat):V:=.int (n:Nat)
theorem SameX.seq{K:PySem.W.Frag}{H H':Hp}{a d:Addr}{xs:List V}(e:SameX d H H')(hn:a≠d)(h:SqL K H a xs):SqL K H' a xs:=by
 rcases h with(h|⟨o,h⟩)|h
 ·exact .inl (.inl (e _ _ hn h))
 ·exact .inl (.inr ⟨o,e _ _ hn h⟩)
 ·exact .inr h
theorem SameX.trans{H H1 H2:Hp}{d:Addr}(a:SameX d H H1)(b:SameX d H1 H2):SameX d H H2:=fun c o n h=>b c o n (a c o n h)
structure RowsX(K:PySem.W.Frag)(H:Hp)(a d:Addr)(ps:List Addr)(rows:List (List Int)):Prop where
 lst:SqL K H a (ps.map V.ref)
 len:ps.length=rows.length
 row: ∀(i:Nat) (p:Addr) (r:List Int),ps[i]? =some p->rows[i]? =some r->SqL K H p (r.map V.int)
 na:a≠d
 np: ∀p,p∈ps->p≠d
theorem RowsX.same{K:PySem.W.Frag}{H H':Hp}{a d:Addr}{ps:List Addr}{rows:List (List Int)}(h:RowsX K H a d ps rows)(s:SameX d H H'):RowsX K H' a d ps rows:=
 ⟨s.seq h.na h.lst,h.len,fun i p r e1 e2=>s.seq (h.np p (List.mem_of_getElem? e1)) (h.row i p r e1 e2),h.na,h.np⟩
theorem RowsX.at{K:PySem.W.Frag}{H:Hp}{a d:Addr}{ps:List Addr}{rows:List (List Int)}(h:RowsX K H a d ps rows){c:Nat}(hc:c<rows.length): ∃p,ps[c]? =some p/\p≠d/\SqL K H p ((rows.getD c []).map V.int)/\atI (ps.map V.ref) (c:Nat)=some (.ref p):=by
 obtain⟨p,ep⟩: ∃p,ps[c]? =some p:=⟨_,List.getElem?_eq_getElem (by rw[h.len];exact hc)⟩;refine⟨p,ep,h.np p (List.mem_of_getElem? ep),h.row c p _ ep ?_,at_of (j:=c) rfl (by rw[List.getElem?_map,ep];rfl)⟩;rw[List.getD_eq_getElem?_getD,List.getElem?_eq_getElem hc];rfl
theorem ds_at{ds:List (Option Nat)}{c:Nat}(h:c<ds.length):atI (ds.map dsV) (c:Nat)=some (dsV (Dd ds c)):=by
 refine at_of (j:=c) rfl ?_;rw[List.getElem?_map,List.getElem?_eq_getElem h];unfold Dd;rw[List.getD_eq_getElem?_getD,List.getElem?_eq_getElem h];rfl
theorem ds_set(ds:List (Option Nat))(c k:Nat):(ds.map dsV).set c (.int (k:Nat))=(ds.set c (some k)).map dsV:=by
 rw[List.map_set];rfl
theorem ixN_nat{n c:Nat}(h:c<n):ixN n (c:Nat)=some c:=by
 unfold ixN;rw[if_pos (by omega),if_pos (by omega),Int.toNat_natCast]
def spWriteDepths(K:PySem.W.Frag):Sp:=fun vs H Q _=>∃(a d:Addr) (root:Nat) (ps:List Addr) (rows:List (List Int)) (nb:Vblcas.Near) (d0:List (Option Nat)),vs=[.ref a,.int (root:Nat),.ref d]/\RowsX K H a d ps rows/\RowsNb rows nb/\NbOk nb/\nb.length<1000/\
 H d=some (.lst (d0.map dsV))/\d0.length=nb.length/\ClosedD nb d0/\root<nb.length/\Dd d0 root=none/\
 ∀H' ds found place,Bfs nb d0 root ds found place->found.length<=place->H' d=some (.lst (ds.map dsV))->SameX d H H'->Q .non H'
section
variable {P:Program}{w:World}{K:PySem.W.Frag}{mg:Str->Option Value}{base:Heap}
theorem scWriteDepths:FnScope ["neighbours","start","depths","found","place","cell","other"] ["neighbours","start","depths"] (defScope sWriteDepths):=⟨rfl,rfl,rfl,by decide +kernel,rfl,by decide +kernel,by decide +kernel⟩
theorem ok_writeDepths{f:Addr}{fd:FuncData}(F:Fun K "write_depths" "write_depths" sWriteDepths f fd)(B:Bi mg):FnOk P w K mg base CX0 1 f fd ["neighbours","start","depths"] (spWriteDepths K):=by
 refine F.ok scWriteDepths (fun vs H Q E h=> ?_) (fun cdv A outer s H vs Q E hr h=> ?_)
 ·obtain⟨a,d,root,ps,rows,nb,d0,rfl,_⟩:=h;rfl
 ·obtain⟨a,d,root,ps,rows,nb,d0,rfl,hrows,hnb,ok,hsm,hd,hl0,hcl,hroot,hn0,k⟩:=h;refine⟨_,zF (ps_asg zK (pg_sub (pv 2) (pv 1) set_list))
   (zF (zQ (i:=3) scWriteDepths.nd rfl (Or.inl rfl) (zT (zA (pv 1) zE)))
   (zF (zQ (i:=4) scWriteDepths.nd rfl (Or.inl rfl) zK)
   (zG (yX PassesOwn.never (zc op_lt (pv 4) (zX zY rfl B.len PySem.boot_len (zA (pv 3) zE)) (nomark _))
    (zF (zQ (i:=5) scWriteDepths.nd rfl (Or.inl rfl) (zW K (pv 3) (pv 4)))
    (zF (ZV PassesOwn.never rfl (zq (zW K (pv 0) (pv 5))) (ZQ (i:=6) scWriteDepths.nd rfl (Or.inl rfl))
     (zG (ZD (zc op_isN (zW K (pv 2) (pv 6)) JP (nomark _))
      (zF (ps_asg (zj ZJ (zW K (pv 2) (pv 5)) zK) (pg_sub (pv 2) (pv 6) set_list))
      (zG (zg (yP PySem.F.plainAttrs_list PySem.F.slot_list_append PySem.F.type_list_append Zh (pv 3) (zA (pv 6) zE))))) zZ)))
    (zG (ps_aug (i:=4) scWriteDepths.nd rfl (Or.inl rfl) zK ip_add)))))))),?_⟩
  refine⟨_,rfl,_,rfl,d,_,_,root,rfl,rfl,hd,ixN_nat (by rw[List.length_map];omega),?_⟩;rw[show(V.int 0)=V.int ((0:Nat):Int) from rfl,ds_set];refine⟨_,rfl,(by show 1<=sizeLine;decide),fun q hq=> ?_⟩;have qd:q≠d:=fun e=>by subst e;rw[zB] at hq;cases hq
  have hq0:H q=none:=by rw[zH qd] at hq;exact hq
  have s1:SameX d H (upd (upd H d (.lst ((d0.set root (some 0)).map dsV))) q (.lst [.int (root:Nat)])):=fun b o n e=>by
   rw[zH (zJ e hq0),zH n];exact e
  refine⟨fun m σ H'=>∃(ds:List (Option Nat)) (found:List Nat) (place:Nat) (v5 v6:Option V),m=nb.length - place/\σ=[some (.ref a),some (.int (root:Nat)),some (.ref d),some (.ref q),some (.int (place:Nat)),v5,v6]/\Bfs nb d0 root ds found place/\H' d=some (.lst (ds.map dsV))/\H' q=some (.lst (found.map natV))/\SameX d H H',
   ⟨_,d0.set root (some 0),[root],0,none,none,rfl,rfl,Bfs.start hl0 hroot hn0,by rw[zH qd.symm,zB],zB,s1⟩,?_⟩
  rintro m σ H' ⟨ds,found,place,v5,v6,rfl,rfl,b,hd',hq',sx⟩;refine⟨_,rfl,_,rfl,q,_,rfl,.inl (SqL.of hq'),_,_,rfl,rfl,_,rfl,ite2 (fun h=> ?_) (fun h=> ?_)⟩
  ·
   have hpl:place<found.length:=by
    have:(place:Int)<((found.map natV).length:Int):=by simpa using h
    rw[List.length_map] at this;omega
   obtain⟨c,hc⟩: ∃c,found[place]? =some c:=⟨_,List.getElem?_eq_getElem hpl⟩;have hcl':c<nb.length:=b.lt (List.mem_of_getElem? hc);have hsmall:=b.small;refine⟨fun σ' H'=>∃(ds:List (Option Nat)) (found:List Nat) (v5 v6:Option V),σ'=[some (.ref a),some (.int (root:Nat)),some (.ref d),some (.ref q),some (.int ((place+1:Nat):Int)),v5,v6]/\Bfs nb d0 root ds found (place+1)/\H' d=some (.lst (ds.map dsV))/\H' q=some (.lst (found.map natV))/\SameX d H H',
    fun σ' H' ⟨ds',found',v5',v6',e1,e2,e3,e4,e5⟩=>⟨nb.length - (place+1),by omega,ds',found',place+1,v5',v6',rfl,e1,e2,e3,e4,e5⟩,?_⟩
   refine⟨_,rfl,_,rfl,q,_,_,natV c,rfl,rfl,SqL.of hq',at_of (j:=place) rfl (by rw[List.getElem?_map,hc];rfl),?_⟩;obtain⟨p,ep,npd,hrow,eat⟩:=hrows.at (c:=c) (by rw[hnb.len];exact hcl');refine⟨_,rfl,_,rfl,a,_,_,.ref p,rfl,rfl,sx.seq hrows.na hrows.lst,eat,p,rfl,⟨_,sx.seq npd hrow⟩,?_⟩;refine Ze (K:=K) (a:=p) (xs:=(rows.getD c []).map V.int) (fun i σ H'=>∃(ds:List (Option Nat)) (found:List Nat) (v6:Option V),σ=[some (.ref a),some (.int (root:Nat)),some (.ref d),some (.ref q),some (.int (place:Nat)),some (natV c),v6]/\Bfs nb d0 root ds found place/\found[place]? =some c/\H' d=some (.lst (ds.map dsV))/\H' q=some (.lst (found.map natV))/\SameX d H H'/\∀u:Nat,(u:Int)∈(rows.getD c []).take i->(Dd ds u).isSome=true)
    ⟨ds,found,v6,rfl,b,hc,hd',hq',sx,fun u hu=>by simp at hu⟩ (fun i σ H' _ ⟨_,_,_,_,_,_,_,_,sx,_⟩=>sx.seq npd hrow) ?_ ?_
   ·rintro i y σ H2 hi ⟨ds,found,v6,rfl,b,hc,hd',hq',sx,hall⟩;obtain⟨z,ez,rfl⟩:=getElem?_mapV hi;obtain⟨u,rfl,hu⟩:=(hnb.mem c z).mp (List.mem_of_getElem? ez);have hul:u<nb.length:=ok.lt c u hu;have hsmall:=b.small;refine⟨_,rfl,_,rfl,d,_,_,_,rfl,rfl,SqL.of hd',ds_at (by rw[b.len];exact hul),rfl,_,rfl,?_⟩;refine ite2 (fun h=> ?_) (fun h=> ?_)
    ·have hn:Dd ds u=none:=by
      cases e:Dd ds u with
      |none=>rfl
      |some x=>
       rw[e] at h;have:dsV (some x)=V.non:=by simpa using h
       cases this
     have hcs:(Dd ds c).isSome=true:=((b.fnd c).mp (List.mem_of_getElem? hc)).2;have edc:dsV (Dd ds c)=V.int ((dep ds c:Nat):Int):=by
      unfold dep;obtain⟨x,ex⟩:=Option.isSome_iff_exists.mp hcs;rw[ex];rfl
     refine⟨_,rfl,_,rfl,d,_,_,_,rfl,rfl,SqL.of hd',ds_at (by rw[b.len];exact hcl'),_,_,edc,rfl,_,rfl,_,rfl,d,_,_,u,rfl,rfl,hd',ixN_nat (by rw[List.length_map,b.len];exact hul),?_⟩;have e1:(ds.map dsV).set u (V.int (((dep ds c:Nat):Int)+1))=(ds.set u (some (dep ds c+1))).map dsV:=by
      rw[<-ds_set];rfl
     rw[e1];have hqd:upd H2 d (.lst ((ds.set u (some (dep ds c+1))).map dsV)) q=some (.lst (found.map natV)):=by rw[zH qd];exact hq'
     refine⟨_,rfl,.inl ⟨rfl,_,SqL.of hqd⟩,_,rfl,q,_,_,rfl,rfl,hqd,by rw[List.length_map];exact small1000 (by omega),?_⟩;have b2:=b.reach ok hcl hc hu hn;refine⟨ds.set u (some (dep ds c+1)),found++[u],_,rfl,b2,?_,by rw[zH qd.symm,zB],?_,?_,?_⟩
     ·rw[List.getElem?_append_left (List.getElem?_eq_some_iff.mp hc).1];exact hc
     ·rw[zB,List.map_append];rfl
     ·exact fun b' o n e=>by rw[zH (zJ e hq0),zH n];exact sx b' o n e
     ·intro x hx;rw[zL ez] at hx;rw[dd_set (by rw[b.len];exact hul)];by_cases exu:x=u
      ·rw[if_pos exu];rfl
      ·rw[if_neg exu];rcases List.mem_append.mp hx with m|m
       ·exact hall x m
       ·have:(x:Int)=(u:Int):=by simpa using m
        omega
    ·have hs:(Dd ds u).isSome=true:=by
      cases e:Dd ds u with
      |none=>rw[e] at h;exact absurd rfl h
      |some x=>rfl
     refine⟨ds,found,_,rfl,b,hc,hd',hq',sx,fun x hx=> ?_⟩;rw[zL ez] at hx;rcases List.mem_append.mp hx with m|m
     ·exact hall x m
     ·have:(x:Int)=(u:Int):=by simpa using m
      obtain rfl:x=u:=by omega
      exact hs
   ·rintro σ H2 ⟨ds,found,v6,rfl,b,hc,hd',hq',sx,hall⟩;rw[List.length_map,List.take_length] at hall;have b2:=b.next ok hcl hc fun u hu=>hall u ((hnb.mem c _).mpr ⟨u,rfl,hu⟩);exact⟨_,rfl,_,_,rfl,rfl,ds,found,_,_,rfl,b2,hd',hq',sx⟩
  ·have hpl:found.length<=place:=by
    have: ¬(place:Int)<((found.map natV).length:Int):=by simpa using h
    rw[List.length_map] at this;omega
   exact k H' ds found place b hpl hd' sx
abbrev sDepthsBy:Stmt:=top 15
def RowsT(H:Hp)(a:Addr)(rows:List (List Int)):Prop:=∃ps:List Addr,H a=some (.lst (ps.map V.ref))/\ps.length=rows.length/\∀(i:Nat) (p:Addr) (r:List Int),ps[i]? =some p->rows[i]? =some r->H p=some (.lst (r.map V.int))
theorem RowsT.same{H H':Hp}{a:Addr}{rows:List (List Int)}(h:RowsT H a rows)(s:Same H H'):RowsT H' a rows:=by
 obtain⟨ps,h1,h2,h3⟩:=h;exact⟨ps,s _ _ h1,h2,fun i p r e1 e2=>s _ _ (h3 i p r e1 e2)⟩
theorem RowsT.rows{K:PySem.W.Frag}{H:Hp}{a:Addr}{rows:List (List Int)}(h:RowsT H a rows):RowsAt K H a rows:=by
 obtain⟨ps,h1,h2,h3⟩:=h;exact⟨ps,SqL.of h1,h2,fun i p r e1 e2=>SqL.of (h3 i p r e1 e2)⟩
theorem RowsT.x{K:PySem.W.Frag}{H:Hp}{a d:Addr}{rows:List (List Int)}(h:RowsT H a rows)(hd:H d=none): ∃ps,RowsX K H a d ps rows:=by
 obtain⟨ps,h1,h2,h3⟩:=h;refine⟨ps,SqL.of h1,h2,fun i p r e1 e2=>SqL.of (h3 i p r e1 e2),zJ h1 hd,fun p hp=> ?_⟩;obtain⟨i,hi⟩:=List.mem_iff_getElem?.mp hp;obtain⟨r,hr⟩: ∃r,rows[i]? =some r:=⟨_,List.getElem?_eq_getElem (by rw[<-h2];exact(List.getElem?_eq_some_iff.mp hi).1)⟩;exact zJ (h3 i p r hi hr) hd
def spDepthsBy:Sp:=fun vs H Q _=>∃(a:Addr) (rows:List (List Int)) (nb:Vblcas.Near),vs=[.ref a]/\RowsT H a rows/\RowsNb rows nb/\NbOk nb/\nb.length<1000/\
 ∀H' p ds R,H p=none->Same H H'->H' p=some (.lst (ds.map dsV))->DPart nb nb.length ds R->Q (.ref p) H'
theorem scDepthsBy:FnScope ["neighbours","depths","cell"] ["neighbours"] (defScope sDepthsBy):=⟨rfl,rfl,rfl,by decide +kernel,rfl,by decide +kernel,by decide +kernel⟩
theorem ok_depthsBy{f:Addr}{fd:FuncData}(F:Fun K "depths_by" "depths_by" sDepthsBy f fd)(B:Bi mg)(C:Callee P w K mg base 1 "write_depths" ["neighbours","start","depths"] (spWriteDepths K)):FnOk P w K mg base CX0 2 f fd ["neighbours"] spDepthsBy:=by
 refine F.ok scDepthsBy (fun vs H Q E h=> ?_) (fun cdv A outer s H vs Q E hr h=> ?_)
 ·obtain⟨a,rows,nb,rfl,_⟩:=h;rfl
 ·obtain⟨a,rows,nb,rfl,hrows,hnb,ok,hsm,k⟩:=h;refine'⟨_,zF (yE (i:=1) (own:=[("cell",2)]) rfl scDepthsBy.nd rfl rfl (yo rfl rfl rfl rfl) ?lc1 ?lc2 (fun _ _ _ _ _=> ?lc3) (fun _ _ _ _ _=> ?lc4) (fun _ _ _ _ _=> ?lc5))
   (zF (ZV PassesOwn.never rfl (Zr rfl B.range (zA (zX zY rfl B.len PySem.boot_len (zA (pv 0) zE)) zE)) (ZQ (i:=2) scDepthsBy.nd rfl (Or.inl rfl))
    (zG (ZD (zc op_isN (zW K (pv 1) (pv 2)) JP (nomark _)) (zG (zg (zP C hr (zA (pv 0) (zA (pv 2) (zA (pv 1) zE)))))) zZ)))
   (zG (zM (pv 1)))),?rd⟩
  case lc1=>exact zq (pv 0)
  case lc2=>exact za (by show blkC ["neighbours","depths","cell"] (defScope sDepthsBy) _ _=true;decide +kernel)
  case lc3=>exact pgn 2 scDepthsBy.nd
  case lc4=>exact zx
  case lc5=>exact JP
  obtain⟨ps0,hp1,hp2,hp3⟩:=id hrows;have hlen:ps0.length=nb.length:=hp2.trans hnb.len;refine⟨_,rfl,a,rfl,⟨_,SqL.of hp1⟩,fun D hD=> ?_⟩;refine ZK (K:=K) (fun i out _=>out=List.replicate i V.non) RMono.pure hD (SqL.of hp1) rfl ?_ ?_
  ·intro i x H' out hi ex s2 hd hl hR;rw[List.length_map] at hi;refine⟨rfl,yesT ?_⟩;refine LcI.put RMono.pure hD (small1000 (by omega)) s2 hd hl (Same.refl _) ?_;rw[hR,List.replicate_succ']
  ·intro H1 out s1 hd hl hR;rw[hR,List.length_map,hlen] at hd;obtain⟨ps,hx⟩:=hrows.x (K:=K) hD;have hx1:=hx.same (s1.x D);have e0:List.replicate nb.length V.non=(List.replicate nb.length (none:Option Nat)).map dsV:=by rw[List.map_replicate];rfl
   rw[e0] at hd;refine⟨_,rfl,a,_,rfl,.inl (SqL.of (s1 _ _ hp1)),_,rfl,(by rw[List.length_map];omega),(by rw[List.length_map];omega),?_⟩;rw[List.length_map,Int.toNat_natCast,hlen];refine yH (n:=nb.length) (fun i σ H'=>∃(ds:List (Option Nat)) (R:Nat->Nat) (v:Option V),σ=[some (.ref a),some (.ref D),v]/\DPart nb i ds R/\H' D=some (.lst (ds.map dsV))/\SameX D H1 H')
    ⟨_,_,_,rfl,DPart.start nb,hd,fun b o _ e=>e⟩ ?_ ?_
   ·rintro i σ H' hi ⟨ds,R,v,rfl,Pt,hd',sx⟩;rw[Int.zero_add];refine⟨_,rfl,_,rfl,D,_,_,_,rfl,rfl,SqL.of hd',ds_at (by rw[Pt.len];exact hi),rfl,_,rfl,?_⟩;refine ite2 (fun h=> ?_) (fun h=> ?_)
    ·have hn:Dd ds i=none:=by
      cases e:Dd ds i with
      |none=>rfl
      |some x=>
       rw[e] at h;have:dsV (some x)=V.non:=by simpa using h
       cases this
     refine⟨_,rfl,_,rfl,_,rfl,a,D,i,ps,rows,nb,ds,rfl,hx1.same sx,hnb,ok,hsm,hd',Pt.len,Pt.cl,hi,hn,fun H2 ds2 found place b hp hd2 sx2=> ?_⟩;obtain⟨R2,Pt2⟩:=Pt.grown ok b hp;exact⟨ds2,R2,_,rfl,Pt2,hd2,sx.trans sx2⟩
    ·have hs:(Dd ds i).isSome=true:=by
      cases e:Dd ds i with
      |none=>rw[e] at h;exact absurd rfl h
      |some x=>rfl
     exact⟨ds,R,_,rfl,Pt.skip hs,hd',sx⟩
   ·rintro σ H' ⟨ds,R,v,rfl,Pt,hd',sx⟩;exact⟨_,rfl,k H' D ds R hD (fun b o e=>sx b o (zJ e hD) (s1 b o e)) hd' Pt⟩
end
section
variable {prog:Program}{w:World}{A:Around}{R:Result->Shared->Prop}{I:Addr}{fp wr:List Addr}{n:Nat}{P:Nat->Value->Prop}{Sx:Nat->Heap->Prop}{kw:List (Str×Value)}
theorem minLoopD(W:Walks prog w A.in1 I fp wr n P Sx)(bt:Nat->Nat->Bool)(hc:CmpOf prog w A.in1 .Lt P bt)(S:Addr)(hS:S∉fp): ∀(k j:Nat) (s:Shared) (vb:Value) (c:Nat),n - (j+1)=k->j+1<=n->Sx (j+1) s.heap->P (argBest bt j) vb->
  s.heap.get? S=some {cls:=.type "list",dict:=none,data:=.seq #[vb,vb] c,slots:=#[]}->(∀v h' tk,P (argBest bt (n - 1)) v->(∀b o,b∉wr->b≠S->s.heap.get? b=some o->h'.get? b=some o)->R (.ok (.ret v)) {s with heap:=h',toks:=tk})->
  codeAny (model prog w) A (.builtin "min.loop" ⟨[.ref I,.none,.ref S],kw⟩) R s:=by
 have hw:S∉wr:=fun h=>hS (W.sub _ h);have nm:(toString "min"++toString ".loop":String)="min.loop":=by decide
 intro k;induction k with
 |zero=>
  intro j s vb c hk hj st hP h0 hR;have e:j+1=n:=by omega
  refine codeAny_builtin PySem.F.entry_min_loop (Eq.mpr (by rw[Around.under_plainId PySem.F.plain_min_loop _]) ?_);show wpAny _ A.in1 (seqItems? (.ref S) >>= _) _ _ s;refine wpAny_bind (wpAny_seqItems h0 rfl ?_);show wpAny _ A.in1 (tryCatch (pyNext (.ref I)) _ >>= _) _ _ s;refine wpAny_bind (wpAny_tryCatch (W.done s _ _ (e ▸ st) fun h' tk hk'=> ?_));show wpAny _ A.in1 (updateSeq S (fun _=>#[]) >>= _) _ _ _;refine wpAny_bind (wpAny_updateSeq (hk' S _ hw h0) rfl (wpAny_bind (wpAny_letGo (wpAny_pure ?_))));exact hR vb _ tk (by rw[<-e];exact hP) fun b o q1 q2 q3=>(Heap.get?_update_other _ _ (Ne.symm q2)).trans (hk' b o q1 q3)
 |succ k ih=>
  intro j s vb c hk hj st hP h0 hR;have lt:j+1<n:=by omega
  refine codeAny_builtin PySem.F.entry_min_loop (Eq.mpr (by rw[Around.under_plainId PySem.F.plain_min_loop _]) ?_);show wpAny _ A.in1 (seqItems? (.ref S) >>= _) _ _ s;refine wpAny_bind (wpAny_seqItems h0 rfl ?_);show wpAny _ A.in1 (tryCatch (pyNext (.ref I)) _ >>= _) _ _ s;refine wpAny_bind (wpAny_tryCatch (W.item (j+1) s _ _ lt st fun v h' tk hv st' hk'=> ?_));have h1:=hk' S _ hw h0;show wpAny _ A.in1 (tryCatch (holding [v,v] (richCompare .Lt v vb >>= _)) _ >>= _) _ _ _;refine wpAny_bind (wpAny_tryCatch (wpAny_holding (wpAny_bind (hc (j+1) (argBest bt j) v vb _ _ _ hv hP (wpAny_bind (wpAny_holding (wpAny_truthy_bool (wpAny_bind (wpAny_letGo (wpAny_pure ?_))))))))));cases hb:bt (j+1) (argBest bt j) with
  |true=>
   simp only[if_true];refine wpAny_bind (wpAny_updateSeq h1 rfl (wpAny_bind (wpAny_letGo ?_)));rw[nm];refine wpAny_pure ⟨plainId_quiet PySem.F.plain_min_loop _,ih (j+1) _ v _ (by omega) lt (W.frame _ _ _ st' fun b q o e=>(Heap.get?_update_other _ _ (fun h:S=b=>hS (by rw[h];exact q))).trans e) (by simp only[argBest,hb,if_true];exact hv) (Heap.get?_update_self _ h1 rfl) fun v' h'' tk'' q1 q2=> ?_⟩;exact hR v' h'' tk'' q1 fun b o r1 r2 r3=>q2 b o r1 r2 ((Heap.get?_update_other _ _ (Ne.symm r2)).trans (hk' b o r1 r3))
  |false=>
   simp only[Bool.false_eq_true,if_false];refine wpAny_bind (wpAny_letGo ?_);rw[nm];exact wpAny_pure ⟨plainId_quiet PySem.F.plain_min_loop _,ih (j+1) _ vb c (by omega) lt st' (by simp only[argBest,hb,Bool.false_eq_true,if_false];exact hP) h1 fun v' h'' tk'' q1 q2=>hR v' h'' tk'' q1 fun b o r1 r2 r3=>q2 b o r1 r2 (hk' b o r1 r3)⟩
theorem minLoopD1(W:Walks prog w A.in1 I fp wr n P Sx)(bt:Nat->Nat->Bool)(hc:CmpOf prog w A.in1 .Lt P bt)(S:Addr)(hS:S∉fp)(hn:0<n){s:Shared}{c:Nat}(st:Sx 0 s.heap)(h0:s.heap.get? S=some {cls:=.type "list",dict:=none,data:=.seq #[] c,slots:=#[]})
  (hR: ∀v h' tk,P (argBest bt (n - 1)) v->(∀b o,b∉wr->b≠S->s.heap.get? b=some o->h'.get? b=some o)->R (.ok (.ret v)) {s with heap:=h',toks:=tk}):codeAny (model prog w) A (.builtin "min.loop" ⟨[.ref I,.none,.ref S],kw⟩) R s:=by
 have hw:S∉wr:=fun h=>hS (W.sub _ h);have nm:(toString "min"++toString ".loop":String)="min.loop":=by decide
 refine codeAny_builtin PySem.F.entry_min_loop (Eq.mpr (by rw[Around.under_plainId PySem.F.plain_min_loop _]) ?_);show wpAny _ A.in1 (seqItems? (.ref S) >>= _) _ _ s;refine wpAny_bind (wpAny_seqItems h0 rfl ?_);show wpAny _ A.in1 (tryCatch (pyNext (.ref I)) _ >>= _) _ _ s;refine wpAny_bind (wpAny_tryCatch (W.item 0 s _ _ hn st fun v h' tk hv st' hk'=> ?_));have h1:=hk' S _ hw h0;show wpAny _ A.in1 (updateSeq S (fun _=>#[v,v]) >>= _) _ _ _;refine wpAny_bind (wpAny_updateSeq h1 rfl ?_);rw[nm];refine wpAny_pure ⟨plainId_quiet PySem.F.plain_min_loop _,minLoopD W bt hc S hS _ 0 _ v _ rfl hn (W.frame _ _ _ st' fun b q o e=>(Heap.get?_update_other _ _ (fun h:S=b=>hS (by rw[h];exact q))).trans e) hv (Heap.get?_update_self _ h1 rfl) fun v' h'' tk'' q1 q2=> ?_⟩;exact hR v' h'' tk'' q1 fun b o r1 r2 r3=>q2 b o r1 r2 ((Heap.get?_update_other _ _ (Ne.symm r2)).trans (hk' b o r1 r3))
theorem minLoopD0{x:Str}{d:Value}{kws:List (Str×Value)}(W:Walks prog w A.in1 I fp wr 0 P Sx)(S:Addr)(hS:S∉fp){s:Shared}{c:Nat}(st:Sx 0 s.heap)(h0:s.heap.get? S=some {cls:=.type "list",dict:=none,data:=.seq #[] c,slots:=#[]})
  (hR: ∀h' tk,(∀b o,b∉wr->b≠S->s.heap.get? b=some o->h'.get? b=some o)->R (.ok (.ret d)) {s with heap:=h',toks:=tk}):codeAny (model prog w) A (.builtin "min.loop" ⟨[.ref I,.none,.ref S],(x,d)::kws⟩) R s:=by
 refine codeAny_builtin PySem.F.entry_min_loop (Eq.mpr (by rw[Around.under_plainId PySem.F.plain_min_loop _]) ?_);show wpAny _ A.in1 (seqItems? (.ref S) >>= _) _ _ s;refine wpAny_bind (wpAny_seqItems h0 rfl ?_);show wpAny _ A.in1 (tryCatch (pyNext (.ref I)) _ >>= _) _ _ s;refine wpAny_bind (wpAny_tryCatch (W.done s _ _ st fun h' tk hk'=> ?_));exact wpAny_bind (wpAny_rule (wpAny_pure (hR h' tk fun b o q1 q2 q3=>hk' b o q1 q3)))
end
section
variable {prog:Program}{w:World}{A:Around}{E:Value->Shared->Prop}{s:Shared}{l:Addr}{its:List Value}{ns:List Int}{Q:Value->Shared->Prop}
theorem argsMinD(a d:Value):argsOk "min" ⟨[a],[(Str.ofString "default",d)]⟩:=by unfold argsOk;kernel_rfl
theorem minD_raw{d:Value}(hh:A.handled=none)(hl:s.heap.IsList l its.toArray)(hi:IntsAre its ns)
  (h1: ∀h' tk M t',(∀b o,s.heap.get? b=some o->h'.get? b=some o)->M∈ns->(∀a,a∈ns->M<=a)->Q (.int M t') {s with heap:=h',toks:=tk})
  (h0:ns=[]->∀h' tk,(∀b o,s.heap.get? b=some o->h'.get? b=some o)->Q d {s with heap:=h',toks:=tk}):wpAny (model prog w) A (call (.builtin "min") [.ref l] [(Str.ofString "default",d)]) Q E s:=by
 obtain⟨xs,e⟩:=hi.allInts.items;have hn:numsOf (intItems xs).toList=ns:=by rw[<-e];exact hi.numsOf
 rw[nums_intItems] at hn;subst hn;rw[e] at hl;have nm:(toString "min"++toString ".loop":String)="min.loop":=by decide
 refine kmk_tree PySem.F.kind_min PySem.F.plain_min PySem.F.entry_min (argsMinD _ _) ?_;show wpAny _ A.in1 (Builtin.Builtins.bindParams "min" ["key","default"] 0 ⟨[],[(Str.ofString "default",d)]⟩ >>= _) _ _ s;refine wpAny_bind (wpAny_of_eq (show Builtin.Builtins.bindParams "min" ["key","default"] 0 ⟨[],[(Str.ofString "default",d)]⟩=pure [none,some d] from rfl) (wpAny_bind (wpAny_pure (wpAny_bind (iter_intList hl fun s2 e2 st hfp hlI=> ?_)))));subst e2;refine wpAny_bind (wpAny_newObj_type ?_);rw[nm];have hSf: ∀b∈[s.heap.objs.size,l],b≠_:=fun b hb=>Nat.ne_of_lt (hfp b hb);have W:Walks prog w A.in1 s.heap.objs.size [s.heap.objs.size,l] _ _ _ _:=Walks.list (A:=A.in1) hh _ l hlI (intItems xs);have kp: ∀{h':Heap},(∀b o,b∉[s.heap.objs.size]->b≠(s.heap.push {cls:=.type "list_iterator",data:=.fields #[.ref l,.int 0 0]}).objs.size->((s.heap.push {cls:=.type "list_iterator",data:=.fields #[.ref l,.int 0 0]}).push {cls:=.type "list",data:=.seq #[]}).get? b=some o->h'.get? b=some o)->∀b o,s.heap.get? b=some o->h'.get? b=some o:=fun hk b o q=>by
  have lt:=Heap.lt_size q;refine hk b o (fun m=> ?_) (fun z=> ?_) (Heap.get?_push_of_some _ (Heap.get?_push_of_some _ q))
  ·have:b=s.heap.objs.size:=by simpa using m
   exact absurd (this ▸ lt) (Nat.lt_irrefl _)
  ·rw[Heap.size_push] at z;exact absurd lt (by rw[z];exact Nat.not_lt.mpr (Nat.le_succ _))
 have frame:=W.frame;by_cases hz:xs.size=0
 ·have en:xs.toList.map (·.1)=[]:=by
   have:xs=#[]:=Array.eq_empty_of_size_eq_zero hz;subst this;rfl
  have W0:=W;rw[show(intItems xs).size=0 by simpa[intItems] using hz] at W0;exact wpAny_pure ⟨plainId_quiet PySem.F.plain_min_loop _,minLoopD0 W0 _ (fun m=>hSf _ m rfl) (W0.frame _ _ _ st fun b _ o q=>Heap.get?_push_of_some _ q) (Heap.get?_push_size _ rfl) fun h' tk hk=>h0 en h' tk (kp hk)⟩
 ·have hpos:0<(intItems xs).size:=by
                       have:(intItems xs).size=xs.size:=by simp[intItems]
                       omega
  refine wpAny_pure ⟨plainId_quiet PySem.F.plain_min_loop _,minLoopD1 W _ (CmpOf.ints_lt (numAt xs) (fun _ _=>intItems_at)) _ (fun m=>hSf _ m rfl) hpos (W.frame _ _ _ st fun b _ o q=>Heap.get?_push_of_some _ q) (Heap.get?_push_size _ rfl) fun v h' tk hv hk=> ?_⟩;rw[show(intItems xs).size=xs.size by simp[intItems]] at hv;obtain⟨t,rfl⟩:=intItems_at hv;obtain⟨q1,q2⟩:=argBest_lt (numAt xs) (xs.size - 1);refine h1 h' tk _ t (kp hk) ?_ fun a ha=> ?_
  ·rw[numAt_eq];exact PySem.getD_mem (by rw[List.length_map,Array.length_toList];omega)
  ·obtain⟨j,hj,rfl⟩:=mem_getD ha;rw[List.length_map,Array.length_toList] at hj;rw[<-numAt_eq];exact q2 j (by omega)
end
section
variable {X:Cx}{x:Str}{p pos kpos:Pos}{e d:Expr}{te td:TE}
def tMinD(K:PySem.W.Frag)(te td:TE):TE:=fun σ H Q=>te σ H fun y H1=>td σ H1 fun z H2=>∃(a:Addr) (ns:List Int),y=.ref a/\SqL K H2 a (ns.map V.int)/\(ns=[]->Q z H2)/\∀m,m∈ns->(∀y,y∈ns->m<=y)->Q (.int m) H2
theorem pe_minD(hc:X.calm=true)(hg:Gl X "min")(hm:X.mg "min"=none)(he:PE X e te)(hd:PE X d td)(me: ∀{σ:L2.St} {H:Hp} {Q Q':VK},(∀v H',Q v H'->Q' v H')->te σ H Q->te σ H Q')(md: ∀{σ:L2.St} {H:Hp} {Q Q':VK},(∀v H',Q v H'->Q' v H')->td σ H Q->td σ H Q')(hs:starEach [e] X.env=[(false,eval e X.env)]:=by rfl):PE X (.Call (.Name "min" p) [e] [⟨some "default",d,kpos⟩] pos) (tMinD X.K te td):=by
 intro pins s σ H Q I h;have hs1:backTo pos (starEach [e] X.env)=(false,eval e X.env)::backTo pos (starEach [] X.env):=by rw[hs];rfl
 have h2:tCons te tNil σ H (fun vs H1=>td σ H1 fun z H2=>∃(a:Addr) (ns:List Int),vs=[V.ref a]/\SqL X.K H2 a (ns.map V.int)/\(ns=[]->Q z H2)/\∀m,m∈ns->(∀y,y∈ns->m<=y)->Q (.int m) H2):=me (fun v H1 q=>md (fun z H2 ⟨a,ns,q1,q2,q3,q4⟩=>⟨a,ns,by rw[q1],q2,q3,q4⟩) q) h;refine wpAny_Call_Name_kw (Zn I hg hm boot_min (PyProof.Rows.callWith_kw ?_ hs1 (by rw[hs1];rfl)));refine thn (zA he zE hs pos pins s σ H _ I h2) fun us s1 ⟨vs,H1,I1,r1,q1⟩=> ?_;refine thn (pk_cons (kws:=[]) hd pk_nil pos pins s1 σ H1 (fun zs H2=>∃z,zs=[z]/\∃(a:Addr) (ns:List Int),vs=[V.ref a]/\SqL X.K H2 a (ns.map V.int)/\(ns=[]->Q z H2)/\∀m,m∈ns->(∀y,y∈ns->m<=y)->Q (.int m) H2) I1 (md (fun z H2 q=>⟨z,rfl,q⟩) q1)) fun ws s2 ⟨zs,H2,I2,r2,z,ez,a,ns,ev,hq,q0,q⟩=> ?_;subst ez ev;cases r2 with
 |cons rz rr=>
  cases rr;rw[Vals.ref1 r1];obtain⟨its,rv,hl,_⟩:=I2.list hq;exact minD_raw (I2.ok.hd hc) hl.isList rv.ints (fun h' tk m t' hk g1 g2=>⟨.int m,H2,I2.kept hk,⟨_,rfl⟩,q m g1 g2⟩) fun en h' tk hk=>⟨z,H2,I2.kept hk,rz,q0 en⟩
end
abbrev sParentsBy:Stmt:=top 16
theorem for_gen{J:It}{n:Nat}{g:TG}{tb:TS}{D:Ends}{σ:L2.St}{H:Hp}(Pv:Nat->L2.St->Hp->Prop)(h0:Pv 0 σ H)(hgo: ∀i σ H,i<n->Pv i σ H->J.go i H)(hstop: ∀σ H,Pv n σ H->J.stop n H)
  (hs: ∀i x σ H H',i<n->Pv i σ H->J.yld i H x H'->g x σ H' fun σ2 H2=>tb {D with nx:=Pv (i+1),ct:=Pv (i+1),bk:=D.nx} σ2 H2)(hd: ∀σ H,Pv n σ H->D.nx σ H):
  ∃W:Nat->Nat->L2.St->Hp->Prop,(∃m,W 0 m σ H)/\∀i m σ H,W i m σ H->
   (J.stop i H/\D.nx σ H)∨(J.go i H/\∃N:L2.St->Hp->Prop,(∀σ' H',N σ' H'->∃m',m'<m/\W (i+1) m' σ' H')/\∀x H',J.yld i H x H'->g x σ H' fun σ2 H2=>tb {D with nx:=N,ct:=N,bk:=D.nx} σ2 H2):=by
 refine⟨fun i m σ H=>m=n - i/\i<=n/\Pv i σ H,⟨n,by simp,Nat.zero_le _,h0⟩,?_⟩;rintro i m σ H ⟨rfl,hi,p⟩;by_cases hlt:i<n
 ·exact .inr ⟨hgo i σ H hlt p,Pv (i+1),fun σ' H' p'=>⟨n - (i+1),by omega,rfl,hlt,p'⟩,fun x H' y=>hs i x σ H H' hlt p y⟩
 ·have e:i=n:=by omega
  subst e;exact .inl ⟨hstop σ H p,hd σ H p⟩
theorem vP{K:PySem.W.Frag}{a:Addr}{xs:List V}{g:TG}{tb:TS}{D:Ends}{σ:L2.St}{H:Hp}(Pv:Nat->L2.St->Hp->Prop)(h0:Pv 0 σ H)(hl: ∀i σ H,Pv i σ H->SqL K H a xs)
  (hs: ∀i T x σ H,i<xs.length->xs[i]? =some x->H T=none->Pv i σ H->g (.ref T) σ (upd H T (.tup [.int (i:Nat),x])) fun σ2 H2=>tb {D with nx:=Pv (i+1),ct:=Pv (i+1),bk:=D.nx} σ2 H2)(hd: ∀σ H,Pv xs.length σ H->D.nx σ H):
  ∃W:Nat->Nat->L2.St->Hp->Prop,(∃m,W 0 m σ H)/\∀i m σ H,W i m σ H->
   ((Ite K a).stop i H/\D.nx σ H)∨((Ite K a).go i H/\∃N:L2.St->Hp->Prop,(∀σ' H',N σ' H'->∃m',m'<m/\W (i+1) m' σ' H')/\∀x H',(Ite K a).yld i H x H'->g x σ H' fun σ2 H2=>tb {D with nx:=N,ct:=N,bk:=D.nx} σ2 H2):=by
 refine for_gen Pv h0 (fun i σ H hi p=>⟨xs,xs[i],hl i σ H p,by simp[hi]⟩) (fun σ H p=>⟨xs,hl _ σ H p,Nat.le_refl _⟩) (fun i x σ H H' hi p y=> ?_) hd;obtain⟨T,x',e1,hT,e2,gx⟩:=y;subst e1 e2;exact hs i T x' σ H hi (gx xs (hl i σ H p)) hT p
theorem mVar{i:Nat}{σ:L2.St}{H:Hp}{Q Q':VK}(h: ∀v H',Q v H'->Q' v H')(q:tVar i σ H Q):tVar i σ H Q':=by
 obtain⟨v,e,q⟩:=q;exact⟨v,e,h _ _ q⟩
def parN(nb:Vblcas.Near)(v:Nat):Nat:=(Vblcas.parentOf (Vblcas.forest nb) v).getD v
def parI(nb:Vblcas.Near):List Int:=(List.range nb.length).map fun v=>((parN nb v:Nat):Int)
def spParentsBy:Sp:=fun vs H Q _=>∃(a:Addr) (rows:List (List Int)) (nb:Vblcas.Near),vs=[.ref a]/\RowsT H a rows/\RowsNb rows nb/\NbOk nb/\nb.length<1000/\(∀r,r∈rows->r.length<1000)/\NewInts H Q (parI nb)
theorem par_least{nb:Vblcas.Near}(ok:NbOk nb){ds:List (Option Nat)}{R:Nat->Nat}(Pt:DPart nb nb.length ds R){v:Nat}(hv:v<nb.length){row:List Int}(hrow: ∀z:Int,z∈row↔ ∃u:Nat,z=(u:Int)/\u∈Nb nb v){ns:List Int}
  (hns: ∀z:Int,z∈ns↔z∈row/\((dep ds z.toNat:Nat):Int)=((dep ds v:Nat):Int) - 1):(ns=[]->parN nb v=v)/\∀m,m∈ns->(∀y,y∈ns->m<=y)->((parN nb v:Nat):Int)=m:=by
 have c:=Pt.cert ok;constructor
 ·intro e;have h0:dep ds v=0:=by
   apply Classical.byContradiction;intro hne;obtain⟨u,hu,e2⟩:=c.dn v hv hne;have:(u:Int)∈ns:=(hns _).mpr ⟨(hrow _).mpr ⟨u,rfl,hu⟩,by rw[Int.toNat_natCast];omega⟩;rw[e] at this;cases this
  unfold parN;rw[(Yi ok c hv (p:=none) h0).1];rfl
 ·intro m hm hle;obtain⟨h1,h2⟩:=(hns m).mp hm;obtain⟨u,rfl,hu⟩:=(hrow m).mp h1;rw[Int.toNat_natCast] at h2;have hp:IsPar nb (dep ds) v (some u):=by
   refine⟨by omega,hu,by omega,fun x hx hd=> ?_⟩;have:=hle (x:Int) ((hns _).mpr ⟨(hrow _).mpr ⟨x,rfl,hx⟩,by rw[Int.toNat_natCast];omega⟩);omega
  unfold parN;rw[(Yi ok c hv hp).1];rfl
section
variable {P:Program}{w:World}{K:PySem.W.Frag}{mg:Str->Option Value}{base:Heap}
theorem scParentsBy:FnScope ["neighbours","depths","parents","cell","near","nearer","other"] ["neighbours"] (defScope sParentsBy):=⟨rfl,rfl,rfl,by decide +kernel,rfl,by decide +kernel,by decide +kernel⟩
theorem ok_parentsBy{f:Addr}{fd:FuncData}(F:Fun K "parents_by" "parents_by" sParentsBy f fd)(B:Bi mg)(C:Callee P w K mg base 2 "depths_by" ["neighbours"] spDepthsBy):FnOk P w K mg base CX0 3 f fd ["neighbours"] spParentsBy:=by
 refine F.ok scParentsBy (fun vs H Q E h=> ?_) (fun cdv A outer s H vs Q E hr h=> ?_)
 ·obtain⟨a,rows,nb,rfl,_⟩:=h;rfl
 ·obtain⟨a,rows,nb,rfl,hrows,hnb,ok,hsm,hrl,k⟩:=h;refine'⟨_,zF (zQ (i:=1) scParentsBy.nd rfl (Or.inr rfl) (zP C hr (zA (pv 0) zE)))
   (zF (zQ (i:=2) scParentsBy.nd rfl (Or.inl rfl) (zT zE))
   (zF (ZV PassesOwn.never rfl (ji rfl B.enumerate (zA (pv 0) zE)) (pgt2 K 3 4 scParentsBy.nd)
    (zF (yE (i:=5) (own:=[("other",6)]) rfl scParentsBy.nd rfl rfl (yo rfl rfl rfl rfl) ?lc1 ?lc2 (fun _ _ _ _ _=> ?lc3) (fun _ _ _ _ _=> ?lc4) (fun _ _ _ _ _=> ?lc5))
    (zG (zg (yP PySem.F.plainAttrs_list PySem.F.slot_list_append PySem.F.type_list_append Zh (pv 2) (zA (pe_minD rfl rfl B.min (pv 5) (pv 3) mVar mVar) zE))))))
   (zG (zM (pv 2))))),?rd⟩
  case lc1=>exact zq (pv 4)
  case lc2=>exact za (by show blkC ["neighbours","depths","parents","cell","near","nearer","other"] (defScope sParentsBy) _ _=true;decide +kernel)
  case lc3=>exact pgn 6 scParentsBy.nd
  case lc4=>exact jh (zc jR (zW K (pv 1) (pv 6)) (zj op_sub (zW K (pv 1) (pv 3)) zK) (nomark _))
  case lc5=>exact pv 6
  refine⟨_,rfl,a,rows,nb,rfl,hrows,hnb,ok,hsm,fun H1 dl ds R hdl s1 hds Pt=> ?_⟩;refine⟨Nat.zero_le _,fun pl hpl=> ?_⟩;have s2:Same H1 (upd H1 pl (.lst [])):=Same.upd _ hpl;have hpl0:H pl=none:=s1.free hpl;have pd:dl≠pl:=zJ hds hpl;obtain⟨ps,hp1,hp2,hp3⟩:=(hrows.same s1);have hal:a≠pl:=zJ hp1 hpl;have hlen:ps.length=nb.length:=hp2.trans hnb.len;refine⟨_,rfl,a,_,rfl,SqL.of (s2 _ _ hp1),?_⟩;refine vP (K:=K) (a:=a) (xs:=ps.map V.ref) (fun i σ H'=>∃v3 v4 v5:Option V,σ=[some (.ref a),some (.ref dl),some (.ref pl),v3,v4,v5,none]/\H' pl=some (.lst (((parI nb).take i).map V.int))/\SameX pl H1 H')
   ⟨none,none,none,rfl,zB,SameX.updD _⟩ (fun i σ H' ⟨_,_,_,_,_,sx⟩=>SqL.of (sx _ _ hal hp1)) ?_ ?_
  ·rintro i T x σ H' hi ex hT ⟨v3,v4,v5,rfl,hpl',sx⟩;rw[List.length_map,hlen] at hi;obtain⟨p,ep,rfl⟩:=getElem?_mapR ex;have er:rows[i]? =some (rows.getD i []):=by
    rw[List.getD_eq_getElem?_getD,List.getElem?_eq_getElem (by rw[hnb.len];exact hi)];rfl
   have hrow:=hp3 i p _ ep er;have hppl:p≠pl:=zJ hrow hpl;have hrl':=hrl _ (List.mem_of_getElem? er);have s3:Same H' (upd H' T (.tup [.int (i:Nat),.ref p])):=Same.upd _ hT;have hds':H' dl=some (.lst (ds.map dsV)):=sx _ _ pd hds;have dsi: ∀u,u<nb.length->dsV (Dd ds u)=V.int ((dep ds u:Nat):Int):=fun u hu=>by
    obtain⟨z,ez⟩:=Option.isSome_iff_exists.mp (Pt.all u hu hu);unfold dep;rw[ez];rfl
   refine⟨T,_,rfl,SqT.of zB,rfl,_,_,rfl,_,_,rfl,rfl,?_⟩;refine⟨_,rfl,p,rfl,⟨_,SqL.of (s3 _ _ (sx _ _ hppl hrow))⟩,fun D hD=> ?_⟩;have hD':H' D=none:=s3.free hD;refine ZK (K:=K) (fun j out _=>out=(((rows.getD i []).take j).filter fun z=>decide (((dep ds z.toNat:Nat):Int)=((dep ds i:Nat):Int) - 1)).map V.int) RMono.pure hD (SqL.of (s3 _ _ (sx _ _ hppl hrow))) rfl ?_ ?_
   ·intro j y H2 out hj ey s4 hd hl hR;obtain⟨z,ez,rfl⟩:=getElem?_mapV ey;rw[List.length_map] at hj;obtain⟨u,rfl,hu⟩:=(hnb.mem i z).mp (List.mem_of_getElem? ez);have hul:u<nb.length:=ok.lt i u hu;refine⟨rfl,?_⟩;refine⟨_,rfl,_,rfl,dl,_,_,_,rfl,rfl,SqL.of (s4 _ _ (s3 _ _ hds')),ds_at (by rw[Pt.len];exact hul),_,rfl,_,rfl,dl,_,_,_,rfl,rfl,SqL.of (s4 _ _ (s3 _ _ hds')),ds_at (by rw[Pt.len];exact hi),_,_,dsi i hi,rfl,?_⟩;rw[dsi u hul];refine⟨rfl,_,rfl,?_⟩;rw[zy];refine ite2 (fun h=> ?_) (fun h=> ?_)
    ·refine⟨_,rfl,LcI.put RMono.pure hD (small1000 (by omega)) s4 hd hl (Same.refl _) ?_⟩;rw[hR,zL ez,List.filter_append,List.map_append,List.filter_cons,if_pos (by rw[Int.toNat_natCast];exact h)];rfl
    ·refine LcI.skip s4 hd hl (Same.refl _) ?_;rw[hR,zL ez,List.filter_append,List.map_append,List.filter_cons,if_neg (by rw[Int.toNat_natCast];exact h)];simp
   ·intro H2 out s4 hd hl hR;rw[List.length_map,List.take_length] at hR;rw[hR] at hd;have s5:Same H' H2:=s3.trans s4;have hpl2:=s5 _ _ hpl';have key:=par_least ok Pt hi (hnb.mem i) (ns:=(rows.getD i []).filter fun z=>decide (((dep ds z.toNat:Nat):Int)=((dep ds i:Nat):Int) - 1)) (fun z=>by rw[List.mem_filter,decide_eq_true_eq]);have hplen:(((parI nb).take i).map V.int).length<sizeLine:=by
     rw[List.length_map,List.length_take];exact small1000 (by omega)
    have fin: ∀m:Int,((parN nb i:Nat):Int)=m->∃v3 v4 v5:Option V,[some (V.ref a),some (V.ref dl),some (V.ref pl),some (V.int (i:Nat)),some (V.ref p),some (V.ref D),none]=[some (V.ref a),some (.ref dl),some (.ref pl),v3,v4,v5,none]/\(upd H2 pl (.lst (((parI nb).take i).map V.int++[.int m]))) pl=some (.lst (((parI nb).take (i+1)).map V.int))/\SameX pl H1 (upd H2 pl (.lst (((parI nb).take i).map V.int++[.int m]))):=by
     intro m em;refine⟨_,_,_,rfl,?_,fun b o n e=>by rw[zH n];exact s5 _ _ (sx b o n e)⟩;rw[zB,zL (x:=m),List.map_append]
     ·rfl
     ·unfold parI;rw[zR _ hi,em]
    refine⟨_,rfl,.inl ⟨rfl,_,SqL.of hpl2⟩,_,rfl,_,rfl,D,_,rfl,SqL.of hd,fun en=> ?_,fun m h1 h2=> ?_⟩
    ·refine⟨pl,_,_,rfl,rfl,hpl2,hplen,fin _ ?_⟩;rw[key.1 en]
    ·exact⟨pl,_,_,rfl,rfl,hpl2,hplen,fin m (key.2 m h1 h2)⟩
  ·rintro σ H' ⟨v3,v4,v5,rfl,hpl',sx⟩;rw[List.length_map,hlen,List.take_of_length_le (by unfold parI;rw[List.length_map,List.length_range];exact Nat.le_refl _)] at hpl';exact⟨_,rfl,k H' pl hpl0 (fun b o e=>sx b o (zJ (s1 b o e) hpl) (s1 b o e)) hpl'⟩
end
theorem jm{a b:Nat}(ha:a<3)(hb:b<3):leanI (a:Nat) (b:Nat)=Vblcas.lean a b:=by
 have h1:a=0∨a=1∨a=2:=by omega
 have h2:b=0∨b=1∨b=2:=by omega
 rcases h1 with rfl|rfl|rfl<;>rcases h2 with rfl|rfl|rfl<;>rfl
theorem nolen_lri:typeLookup (.type "list_reverseiterator") "__len__"=pure none:=by rw[typeLookup_type,builtinLookup_eq_fast];kernel_rfl
theorem hint_lri:typeLookup (.type "list_reverseiterator") "__length_hint__"=pure (some (.builtin "list_reverseiterator.__length_hint__")):=by rw[typeLookup_type,builtinLookup_eq_fast];kernel_rfl
section
variable {prog:Program}{w:World}{A:Around}{E:Value->Shared->Prop}{s:Shared}
theorem extend_rev{R:Result->Shared->Prop}{I l:Addr}{items:Array Value}(hh:A.handled=none)(hne:l≠I)(hit:s.heap.IsRevIter I l ((items.size:Int) - 1))(hl:s.heap.IsList l items)(hn:items.size<=sizeLine)(S:Addr)(res:Value)(c0:Nat)(hSI:S≠I)(hSl:S≠l)(hS:s.heap.get? S=some {cls:=.type "list",data:=.seq #[] c0})
  (hR: ∀h' tk acc' c',(∀b o,b≠S->b≠I->s.heap.get? b=some o->h'.get? b=some o)->h'.get? S=some {cls:=.type "list",dict:=none,data:=.seq acc' c',slots:=#[]}->
   ItemsOf (fun i v=>items[items.size - 1 - i]? =some v) acc' items.size->R (.ok (.ret res)) {s with heap:=h',toks:=tk}):
  wpAny (model prog w) A.in1 (Builtin.List.listExtendWith (.ref S) (.ref I) res)
   (fun fin s'=>match fin with|.done f=>R (.ok f) s'|.again c'=>c'.quiet=true/\codeAny (model prog w) A c' R s') (fun e s'=>R (.error e) s') s:=by
 have hSf:S∉[I,l]:=fun hm=>by
  rcases List.mem_cons.mp hm with e|e
  ·exact hSI e
  ·exact hSl (List.mem_singleton.mp e)
 have W:=(Walks.listRev (prog:=prog) (w:=w) (A:=A.in1) hh I l hne items).toS;have hT:s.TypeIs (.ref I) "list_reverseiterator":=hit.typeIs;have e0:(items.size:Int) - 1 - ((0:Nat):Int)=(items.size:Int) - 1:=by omega
 have hst:0<=items.size/\s.heap.IsRevIter I l ((items.size:Int) - 1 - ((0:Nat):Int))/\s.heap.IsList l items:=⟨Nat.zero_le _,by rw[e0];exact hit,hl⟩;unfold Builtin.List.listExtendWith;refine wpAny_bind (wpAny_typeOf hT ?_);have h1:Builtin.List.listSameRef (.ref S) (.ref I)=false:=by simp[Builtin.List.listSameRef,hSI]
 rw[if_neg (by rw[h1];decide)];refine wpAny_bind (W.self 0 _ _ _ hst ?_);refine wpAny_bind (wpAny_holding ?_);unfold Builtin.List.listLengthHint;refine wpAny_bind (wpAny_specialOf hT nolen_lri ?_);show wpAny _ A.in1 (specialOf (Value.ref I) (Str.ofString "__length_hint__") >>= _) _ _ _;refine wpAny_bind (wpAny_specialOf hT hint_lri ?_);generalize hid:("list_reverseiterator.__length_hint__":String)=id0
 wp_delta
 rw[show splitId id0=some ("list_reverseiterator","__length_hint__") from by subst hid;decide +kernel];subst hid;refine wpAny_bind (wpAny_isInstance (b:=true) hT (by rw[isSubtype_type];kernel_rfl) ?_);refine wpAny_pure ?_;rw[if_neg (by decide)];refine wpAny_pure ⟨plainId_quiet F.plain_extend_loop _,codeAny_extend_loopS W hn _ hSf _ items.size 0 _ _ _ rfl (Nat.zero_le _) hst hS (ItemsOf.nil _) fun s' acc' c' hm hS' hacc=> ?_⟩;rw[Moved.eq_with hm];refine hR s'.heap s'.toks acc' c' (fun b o hb hb2 e=>hm.heap b o (fun hmem=> ?_) e) hS' hacc;rcases List.mem_cons.mp hmem with e'|hmem
 ·exact hb e'
 ·exact hb2 (List.mem_singleton.mp hmem)
theorem call_list_rev{Q:Value->Shared->Prop}{I l:Addr}{items:Array Value}(hh:A.handled=none)(hne:l≠I)(hit:s.heap.IsRevIter I l ((items.size:Int) - 1))(hl:s.heap.IsList l items)(hn:items.size<=sizeLine)
  (hQ: ∀h' tk acc' c',(∀b o,b≠I->s.heap.get? b=some o->h'.get? b=some o)->
   h'.get? s.heap.objs.size=some {cls:=.type "list",dict:=none,data:=.seq acc' c',slots:=#[]}->ItemsOf (fun i v=>items[items.size - 1 - i]? =some v) acc' items.size->Q (.ref s.heap.objs.size) {s with heap:=h',toks:=tk}):
  wpAny (model prog w) A (call (.type "list") [.ref I]) Q E s:=by
 refine callType_codes (Q₁:=fun obj s₁=>obj=.ref s.heap.objs.size/\s₁={s with heap:=s.heap.push {cls:=.type "list",data:=.seq #[]}}) F.called_list (F.typeCall_list_1 _) F.entry_list_init
  (code_list_new _ ⟨rfl,rfl⟩) fun obj s₁ h₁=> ?_
 obtain⟨rfl,rfl⟩:=h₁;have hS:(s.heap.push {cls:=.type "list",data:=.seq #[]}).get? s.heap.objs.size=some {cls:=.type "list",data:=.seq #[]}:=Heap.get?_push_size _ rfl;have ltI:I<s.heap.objs.size:=let⟨_,e,_⟩:=hit;Heap.lt_size e;have ltl:l<s.heap.objs.size:=let⟨_,e,_⟩:=hl;Heap.lt_size e;refine⟨⟨_,hS,rfl⟩,F.args_list_init_2 _ _,?_⟩;show wpAny _ A.in1.in1 (do let old <-Builtin.List.listItems (.ref s.heap.objs.size);Builtin.List.listUpdate (.ref s.heap.objs.size) (fun _=>#[]);letGo old.toList.reverse;Builtin.List.listExtendWith (.ref s.heap.objs.size) (.ref I) .none) _ _ _;refine wpAny_bind ?_;unfold Builtin.List.listItems;refine wpAny_bind (wpAny_seqItems hS rfl (wpAny_pure ?_));show wpAny _ _ (updateSeq s.heap.objs.size (fun _=>#[]) >>= fun _=>letGo (#[]:Array Value).toList.reverse >>= fun _=>Builtin.List.listExtendWith (.ref s.heap.objs.size) (.ref I) .none) _ _ _;refine wpAny_bind (wpAny_updateSeq hS rfl ?_);have hS₂:=Heap.get?_update_self (Obj.mapSeq (fun _=>(#[]:Array Value))) hS rfl;have oth: ∀b o,b≠s.heap.objs.size->s.heap.get? b=some o->((s.heap.push {cls:=.type "list",data:=.seq #[]}).update s.heap.objs.size (Obj.mapSeq (fun _=>(#[]:Array Value)))).get? b=some o:=
  fun b o hb e=>(Heap.get?_update_other _ _ (Ne.symm hb)).trans (Heap.get?_push_of_some _ e)
 refine wpAny_bind (wpAny_letGo ?_);refine extend_rev (A:=A.in1) (I:=I) (l:=l) (items:=items) hh hne (hit.at fun o e=>oth I o (Nat.ne_of_lt ltI) e) (hl.at fun o e=>oth l o (Nat.ne_of_lt ltl) e) hn s.heap.objs.size .none _ (Nat.ne_of_gt ltI) (Nat.ne_of_gt ltl) hS₂ fun h' tk acc' c' hk hS' hacc=> ?_;exact⟨rfl,hQ h' tk acc' c' (fun b o hb e=>hk b o (Nat.ne_of_lt (Heap.lt_size e)) hb (oth b o (Nat.ne_of_lt (Heap.lt_size e)) e)) hS' hacc⟩
end
theorem vals_rev{xs:List V}{its acc:List Value}(r:Vals xs its)(hl:acc.length=its.length)(h: ∀i,i<its.length->∃v,acc[i]? =some v/\its[its.length - 1 - i]? =some v):Vals xs.reverse acc:=by
 have e:acc=its.reverse:=by
  refine List.ext_getElem? fun i=> ?_;by_cases hi:i<its.length
  ·obtain⟨v,h1,h2⟩:=h i hi;rw[h1,List.getElem?_reverse hi,h2]
  ·rw[List.getElem?_eq_none (by omega),List.getElem?_eq_none (by rw[List.length_reverse];omega)]
 rw[e];clear e h hl;induction r with
 |nil=>exact .nil
 | @cons a b as bs h t ih=>
  rw[List.reverse_cons,List.reverse_cons];exact ih.append (.cons h .nil)
def natV0(n:Nat):V:=.int (n:Nat)
theorem vals_range{n:Nat}{acc:List Value}(hl:acc.length=n)(h: ∀i,i<n->∃t,acc[i]? =some (.int ((i:Nat):Int) t)):Vals ((List.range n).map natV0) acc:=by
 induction n generalizing acc with
 |zero=>
  have:acc=[]:=List.eq_nil_of_length_eq_zero hl;rw[this];exact .nil
 |succ n ih=>
  have e:acc=acc.take n++[acc[n]'(by omega)]:=by
   rw[List.take_append_getElem,List.take_of_length_le (by omega)]
  rw[e,List.range_succ,List.map_append];refine Vals.append (ih (by rw[List.length_take];omega) fun i hi=> ?_) (.cons ?_ .nil)
  ·obtain⟨t,ht⟩:=h i (by omega);exact⟨t,by rw[List.getElem?_take_of_lt hi];exact ht⟩
  ·obtain⟨t,ht⟩:=h n (by omega);rw[List.getElem?_eq_getElem (by omega)] at ht;exact⟨t,Option.some.inj ht⟩
section
variable {X:Cx}
def tListRev(K:PySem.W.Frag)(ta:TA):TE:=fun σ H Q=>ta σ H fun vs H1=>∃(a:Addr) (xs:List V),vs=[.ref a]/\SqL K H1 a xs/\∀l,H1 l=none->Q (.ref l) (upd H1 l (.lst xs.reverse))
theorem JQ{e:Expr}{ta:TA}{p q pos pos2:Pos}(hc:X.calm=true)(hgl:Gl X "list")(hml:X.mg "list"=none)(hgr:Gl X "reversed")(hmr:X.mg "reversed"=none)(ha:PA X [e] ta)
  (hs1:starEach [Expr.Call (.Name "reversed" q) [e] [] pos2] X.env=[(false,eval (.Call (.Name "reversed" q) [e] [] pos2) X.env)]:=by rfl)(hs2:starEach [e] X.env=[(false,eval e X.env)]:=by rfl):
  PE X (.Call (.Name "list" p) [.Call (.Name "reversed" q) [e] [] pos2] [] pos) (tListRev X.K ta):=by
 intro pins s σ H Q I h;refine wpAny_Call_Name_kw (Zn I hgl hml boot_list ?_);refine PyProof.Rows.callWith_type1 ?_ hs1 rfl;rw[hs1];show wpAny _ _ (spliced [(false,eval (.Call (.Name "reversed" q) [e] [] pos2) X.env)]) _ _ s;refine Calls.spliced_cons ?_;refine wpAny_Call_Name_kw (Zn I hgr hmr boot_reversed5 (PyProof.Rows.callWith_type1 (thn (ha pos2 pins s σ H _ I h) fun us s1 ⟨vs,H1,I1,r1,q1⟩=> ?_) hs2 rfl));obtain⟨a,xs,e,hq,q⟩:=q1;subst e;rw[Vals.ref1 r1];obtain⟨its,rv,p',hz⟩:=I1.list hq;have hlen:=rv.length;refine call_reversed_list p'.isList ?_;refine Calls.spliced_nil ?_;have lt:=(let⟨_,e,_⟩:=p'.isList;Heap.lt_size e:a<s1.heap.objs.size);refine call_list_rev (I:=s1.heap.objs.size) (l:=a) (items:=its.toArray) (I.ok.hd hc) (Nat.ne_of_lt lt) ⟨_,Heap.get?_push_size _ rfl,rfl,rfl⟩ (p'.isList.at fun o e=>Heap.get?_push_of_some _ e) (by rw[List.size_toArray];omega) fun h' tk acc' c' hk hS hacc=> ?_;have kp: ∀b o,s1.heap.get? b=some o->h'.get? b=some o:=fun b o e=>hk b o (Nat.ne_of_lt (Heap.lt_size e)) (Heap.get?_push_of_some _ e);refine⟨.ref _,_,I1.laid (t':=tk) (o:=.lst xs.reverse) kp (by show s1.heap.objs.size<=(s1.heap.push _).objs.size;simp[Heap.push]) ⟨?_,acc'.toList,c',?_,by simpa using hS⟩,rfl,q _ (I1.hok.fresh ?_)⟩
 ·rw[List.length_reverse];exact hz
 ·obtain⟨hsz,hit⟩:=hacc;have hsz:acc'.size=its.length:=by rw[hsz,List.size_toArray]
  refine vals_rev rv (by rw[Array.length_toList];exact hsz) fun i hi=> ?_;have hi':i<acc'.size:=by omega
  have e1:acc'[i]? =some acc'[i]:=Array.getElem?_eq_getElem hi';have:=hit i _ e1;rw[List.size_toArray] at this;exact⟨acc'[i],by simpa using e1,by simpa using this⟩
 ·show s1.heap.objs.size<=(s1.heap.push _).objs.size;rw[Heap.objs_push,Array.size_push];omega
def tListRange(ta:TA):TE:=fun σ H Q=>ta σ H fun vs H1=>∃n:Nat,vs=[.int (n:Nat)]/\n<1000/\∀l,H1 l=none->Q (.ref l) (upd H1 l (.lst ((List.range n).map natV0)))
theorem pe_listRange{e:Expr}{ta:TA}{p q pos pos2:Pos}(hc:X.calm=true)(hgl:Gl X "list")(hml:X.mg "list"=none)(hgr:Gl X "range")(hmr:X.mg "range"=none)(ha:PA X [e] ta)
  (hs1:starEach [Expr.Call (.Name "range" q) [e] [] pos2] X.env=[(false,eval (.Call (.Name "range" q) [e] [] pos2) X.env)]:=by rfl)(hs2:starEach [e] X.env=[(false,eval e X.env)]:=by rfl):
  PE X (.Call (.Name "list" p) [.Call (.Name "range" q) [e] [] pos2] [] pos) (tListRange ta):=by
 intro pins s σ H Q I h;refine wpAny_Call_Name_kw (Zn I hgl hml boot_list ?_);refine PyProof.Rows.callWith_type1 ?_ hs1 rfl;rw[hs1];show wpAny _ _ (spliced [(false,eval (.Call (.Name "range" q) [e] [] pos2) X.env)]) _ _ s;refine Calls.spliced_cons ?_;refine wpAny_Call_Name_kw (Zn I hgr hmr boot_range (PyProof.Rows.callWith_type1 (thn (ha pos2 pins s σ H _ I h) fun us s1 ⟨vs,H1,I1,r1,q1⟩=> ?_) hs2 rfl));obtain⟨n,e,hn,q⟩:=q1;subst e;cases r1 with
 |cons r rr=>
  cases rr;obtain⟨t,rfl⟩:=r;refine call_range_1 ?_;refine Calls.spliced_nil ?_;have rs:Builtin.Range.rangeSize 0 ((n:Nat):Int) 1=n:=by
   rw[rangeSize_one];split<;>omega
  refine call_list_range (n:=n) (I.ok.hd hc) (IsRange.new ..) (small_one (by omega) (by omega) (by omega) (by omega)) rs (by omega) fun h' tk acc' c' hk hS hacc=> ?_;have kp: ∀b o,s1.heap.get? b=some o->h'.get? b=some o:=fun b o e=>hk b o (Heap.get?_push_of_some _ e);have sz:sizeLine=16777216:=sizeLine_eq;obtain⟨hsz,hit⟩:=hacc;refine⟨.ref _,_,I1.laid (t':=tk) (o:=.lst ((List.range n).map natV0)) kp (by show s1.heap.objs.size<=(s1.heap.push _).objs.size;rw[Heap.objs_push,Array.size_push];omega) ⟨?_,acc'.toList,c',?_,by simpa using hS⟩,rfl,q _ (I1.hok.fresh ?_)⟩
  ·rw[List.length_map,List.length_range];omega
  ·refine vals_range (by rw[Array.length_toList];exact hsz) fun i hi=> ?_;have hi':i<acc'.size:=by omega
   have e1:acc'[i]? =some acc'[i]:=Array.getElem?_eq_getElem hi';obtain⟨t,e2⟩:=hit i _ e1;exact⟨t,by rw[Array.getElem?_toList,e1,e2];congr 2;omega⟩
  ·show s1.heap.objs.size<=(s1.heap.push _).objs.size;rw[Heap.objs_push,Array.size_push];omega
def rSortedI(K:PySem.W.Frag):List V->Hp->VK->Prop:=fun vs H Q=>∃(a:Addr) (ns:List Int),vs=[V.ref a]/\SqL K H a (ns.map V.int)/\
 ∀(ns':List Int) (p:Addr),ns'.Perm ns->ns'.Pairwise (·<= ·)->H p=none->Q (.ref p) (upd H p (.lst (ns'.map V.int)))
theorem cr_sortedI:CallR X (.builtin "sorted") (rSortedI X.K):=by
 intro pins s σ H vs us Q I r h;obtain⟨a,ns,rfl,hs,q⟩:=h;obtain⟨its,rv,hl,hz⟩:=I.list hs;rw[Vals.ref1 r];have hi:=rv.ints;have hz2:its.length<=sizeLine:=by rw[<-rv.length];exact hz
 refine PyProof.Rows.sorted_intsAny hl.isList hi hz2 fun out ns' h1 h2 h3=> ?_;obtain⟨ep,he'⟩:=PyProof.Rows.sortedAll_at s.heap its out;have hlen:(ns'.map V.int).length<=sizeLine:=by
  rw[List.length_map] at hz ⊢;rw[h2.length_eq];exact hz
 exact⟨.ref _,upd H (s.heap.objs.size+1) (.lst (ns'.map V.int)),I.laid (t':=s.toks) (fun _ _=>PyProof.Rows.sortedAll_old) (Nat.le_succ _) ⟨hlen,out.toList,ep,YL h1,he'⟩,rfl,q ns' _ h2 h3 (I.hok.fresh (Nat.le_succ _))⟩
def rNotInD(K:PySem.W.Frag):R2:=fun x y H Q=>∃d xs,Dp K H x d/\Dp K H y (.list xs)/\SeqAt.shaped (.list xs)=true/\SeqAt.shaped d=true/\Q (.bl (!(xs.any fun z=>PyData.eqv z d))) H
theorem op_notInD(hu:X.A.units+65<cLine):OpR X (compareOp .NotIn) (rNotInD X.K):=by
 intro pins s σ H x y v u Q I rx ry h;obtain⟨d,xs,hd,he,sd,se,q⟩:=h;obtain⟨as,r1⟩:=Dp.reads I d x v hd rx;obtain⟨bs,r2⟩:=Dp.reads I _ y u he ry;exact SeqAt.notIn_list_reads r2 r1 (SeqAt.canLay_of_shaped sd) (SeqAt.canLay_of_shaped se) (room_in_shaped se hu) ⟨.bl _,H,I,rfl,q⟩
def tDisp1(tk tv:TE):TE:=fun σ H Q=>∀p,H p=none->tk σ (upd H p (.dT [])) fun x H1=>tv σ H1 fun y H2=>∃(b:Addr) (k:List Key),x=.ref b/\H2 b=some (.tup (k.map kV))/\H2 p=some (.dT [])/\Q (.ref p) (upd H2 p (.dT [(k,y)]))
theorem pe_disp1{ke ve:Expr}{tk tv:TE}{pos:Pos}(hu:X.A.units<cLine)(hk:PE X ke tk)(hv:PE X ve tv):PE X (.Dict [some ke] [ve] pos) (tDisp1 tk tv):=by
 intro pins s σ H Q I h;have hn:=I.hok.fresh (Nat.le_refl s.heap.objs.size);have I1:=I.laid (a:=s.heap.objs.size) (o:=.dT []) (h':=s.heap.push {cls:=.type "dict",data:=.dict #[]}) (t':=s.toks) (fun _ _ q=>Heap.get?_push_of_some _ q) (Nat.le_refl _) (dt_empty s.heap I.big);refine wpAny_Dict_any rfl rfl (by simp) (by show 1<=15;decide) ?_;refine pairTrees_cons_walk (thn (hk pins _ σ _ _ I1 (h _ hn)) fun u s1 ⟨x,H1,J1,rx,q1⟩=>thn (hv pins s1 σ H1 _ J1 q1) fun w2 s2 ⟨y,H2,J2,ry,b,k,ex,hb,hp,q2⟩=> ?_);subst ex;obtain rfl:u=Value.ref b:=rx;refine pairTrees_nil_walk ?_;obtain⟨z,hd,xs,rel,dd⟩:=dt_of J2.hok hp;cases rel;unfold storeAll;rw[List.forIn_cons];refine wpAny_bind (wpAny_bind (wpAny_dictSet_heap (hsz:=Nat.zero_le _) (knd:=tupleKind (mixKind X.prog X.w)) hu (jC J2.hok hb) dd fun h' dd' hs=> ?_));refine wpAny_pure ?_;show wpAny _ _ (forIn ([]:List (Value×Value)) PUnit.unit _) _ _ _;rw[List.forIn_nil];refine wpAny_pure ?_;obtain⟨o,es,ep,ho,h2,h3,h4,_,h5⟩:=dd';refine⟨.ref s.heap.objs.size,_,jq (ob:=.dT [(k,y)]) J2 (by rw[hp];exact True.intro) hs ⟨o,ho⟩ ⟨by show 1<=sizeLine;decide,hd,_,?_,o,es,ep,ho,h2,h3,h4,h5⟩,rfl,q2⟩;refine(KT.put (kvs:=[]) .nil k hb ry).keeps fun c ys ec=> ?_;rw[zH (ZW ec hp (fun z=>nomatch z))];exact ec
end
abbrev sChords:Stmt:=top 17
abbrev sWayUp:Stmt:=top 18
abbrev sRootsBy:Stmt:=top 19
abbrev sRingOf:Stmt:=top 20
abbrev sHeightOf:Stmt:=top 21
abbrev sHeightsBy:Stmt:=top 22
abbrev sWindingOf:Stmt:=top 23
theorem iteT'{p:Bool}{A B:Prop}(h:p=true)(a:A):if p=true then A else B:=by rw[if_pos h];exact a
theorem iteF'{p:Bool}{A B:Prop}(h:p=false)(b:B):if p=true then A else B:=by rw[if_neg (by rw[h];exact Bool.false_ne_true)];exact b
def natsI(x:List Nat):List Int:=x.map fun(n:Nat)=>(n:Int)
theorem zN(x:List Nat):(natsI x).length=x.length:=List.length_map _
theorem yF{x:List Nat}{v:Nat}(h:v<x.length):at0 (natsI x) (v:Nat)=((Vblcas.at_ x v:Nat):Int):=by
 unfold at0 natsI Vblcas.at_;rw[Int.toNat_natCast,List.getD_eq_getElem?_getD,List.getD_eq_getElem?_getD,List.getElem?_map,List.getElem?_eq_getElem h];rfl
theorem Zm{x:List Nat}{v:Nat}(h:v<x.length):atI ((natsI x).map V.int) (v:Nat)=some (.int (Vblcas.at_ x v:Nat)):=by
 rw[<-yF h];exact zb (by omega) (by rw[zN];omega)
theorem atI_par{nb:Vblcas.Near}{v:Nat}(h:v<nb.length):atI ((parI nb).map V.int) (v:Nat)=some (.int (parN nb v:Nat)):=by
 refine at_of (j:=v) rfl ?_;rw[List.getElem?_map];unfold parI;rw[zR _ h];rfl
theorem natsV(l:List Nat):(natsI l).map V.int=l.map natV:=by
 unfold natsI;rw[List.map_map];rfl
theorem sum_eq{x:List Nat}(h3:St3 x): ∀(cs:List Nat),(∀c,c∈cs->c<x.length)->walkSumI (natsI x) (natsI cs)=Vblcas.sumAlong x cs
 |[],_=>rfl
 |[a],_=>rfl
 |a::b::l,h=>by
  have ih:=sum_eq h3 (b::l) fun c hc=>h c (List.mem_cons_of_mem _ hc);show leanI (at0 (natsI x) (a:Nat)) (at0 (natsI x) (b:Nat))+walkSumI (natsI x) (natsI (b::l))=Vblcas.lean (Vblcas.at_ x a) (Vblcas.at_ x b)+Vblcas.sumAlong x (b::l);rw[ih,yF (h a List.mem_cons_self),yF (h b (List.mem_cons_of_mem _ List.mem_cons_self)),jm (h3.at a) (h3.at b)]
theorem _root_.L2.SqL.sx{K:PySem.W.Frag}{H H':Hp}{a q:Addr}{xs:List V}(h:SqL K H a xs)(hq:H q=none)(s:SameX q H H'):SqL K H' a xs:=by
 rcases h with(z|⟨o,z⟩)|z
 ·exact .inl (.inl (s _ _ (zJ z hq) z))
 ·exact .inl (.inr ⟨o,s _ _ (zJ z hq) z⟩)
 ·exact .inr z
theorem FCert.parN_cases{nb:Vblcas.Near}(ok:NbOk nb){R D:Nat->Nat}(F:FCert nb R D){v:Nat}(hv:v<nb.length):(parN nb v=v/\Vblcas.parentOf (Vblcas.forest nb) v=none)∨(parN nb v≠v/\Vblcas.parentOf (Vblcas.forest nb) v=some (parN nb v)/\D (parN nb v)+1=D v/\parN nb v<nb.length):=by
 have ip:=F.par v hv;cases e:Vblcas.parentOf (Vblcas.forest nb) v with
 |none=>exact .inl ⟨by unfold parN;rw[e];rfl,rfl⟩
 |some u=>
  have pe:parN nb v=u:=by unfold parN;rw[e];rfl
  rw[e] at ip;have:=ip.2.2.1;refine .inr ⟨fun z=> ?_,by rw[pe],by rw[pe];exact this,by rw[pe];exact ok.lt v u ip.2.1⟩;rw[pe] at z;subst z;omega
def spWayUp(K:PySem.W.Frag):Sp:=fun vs H Q _=>∃(a:Addr) (v:Nat) (nb:Vblcas.Near),vs=[.int (v:Nat),.ref a]/\SqL K H a ((parI nb).map V.int)/\NbOk nb/\v<nb.length/\nb.length<1000/\NewInts H Q (natsI (wayUp nb v))
def spHeightOf(K:PySem.W.Frag):Sp:=fun vs H Q _=>∃(a b:Addr) (v:Nat) (nb:Vblcas.Near) (x:List Nat),vs=[.int (v:Nat),.ref a,.ref b]/\SqL K H a ((parI nb).map V.int)/\SqL K H b ((natsI x).map V.int)/\NbOk nb/\v<nb.length/\nb.length<1000/\x.length=nb.length/\St3 x/\∀H',Same H H'->Q (.int (hS nb x v)) H'
def rootsN(nb:Vblcas.Near):List Nat:=(List.range nb.length).map fun v=>((wayUp nb v).getLast?).getD 0
def spRootsBy(K:PySem.W.Frag):Sp:=fun vs H Q _=>∃(a:Addr) (nb:Vblcas.Near),vs=[.ref a]/\SqL K H a ((parI nb).map V.int)/\NbOk nb/\nb.length<1000/\NewInts H Q (natsI (rootsN nb))
def spWindingOf(K:PySem.W.Frag):Sp:=fun vs H Q _=>∃(c d:Addr) (a b:Nat) (hs:List Int) (x:List Nat),vs=[.int (a:Nat),.int (b:Nat),.ref c,.ref d]/\SqL K H c (hs.map V.int)/\SqL K H d ((natsI x).map V.int)/\a<hs.length/\b<hs.length/\hs.length=x.length/\St3 x/\
 Q (.int ((at0 hs a+Vblcas.lean (Vblcas.at_ x a) (Vblcas.at_ x b) - at0 hs b) / 3)) H
section
variable {P:Program}{w:World}{K:PySem.W.Frag}{mg:Str->Option Value}{base:Heap}
theorem scWayUp:FnScope ["cell","parents","way"] ["cell","parents"] (defScope sWayUp):=⟨rfl,rfl,rfl,by decide +kernel,rfl,by decide +kernel,by decide +kernel⟩
theorem ok_wayUp{f:Addr}{fd:FuncData}(F:Fun K "way_up" "way_up" sWayUp f fd):FnOk P w K mg base CX0 1 f fd ["cell","parents"] (spWayUp K):=by
 refine F.ok scWayUp (fun vs H Q E h=> ?_) (fun cdv A outer s H vs Q E hr h=> ?_)
 ·obtain⟨a,v,nb,rfl,_⟩:=h;rfl
 ·obtain⟨a,v,nb,rfl,ha,ok,hv,hsm,k⟩:=h;obtain⟨R,D,FC⟩:=fcert ok;have hdv:=FC.dlt ok hv;refine⟨_,zF (zQ (i:=2) scWayUp.nd rfl (Or.inl rfl) (zT (zA (pv 0) zE)))
   (zF (yX PassesOwn.never (zc yu (zW K (pv 1) (zW K (pv 2) (pe_un jy zK))) (zW K (pv 2) (pe_un jy zK)) (nomark _))
    (zG (zg (yP PySem.F.plainAttrs_list PySem.F.slot_list_append PySem.F.type_list_append Zh (pv 2) (zA (zW K (pv 1) (zW K (pv 2) (pe_un jy zK))) zE)))))
   (zG (zM (pv 2)))),?_⟩
  refine⟨_,rfl,(by show 1<=sizeLine;decide),fun q hq=> ?_⟩;refine⟨fun m σ H'=>∃(pre:List Nat) (u:Nat),m=D u/\σ=[some (.int (v:Nat)),some (.ref a),some (.ref q)]/\H' q=some (.lst (pre.map natV++[natV u]))/\SameX q H H'/\u<nb.length/\wayUp nb v=pre++wayUp nb u/\pre.length+D u=D v,
   ⟨_,[],v,rfl,rfl,zB,SameX.updD _,hv,rfl,by simp⟩,?_⟩
  rintro m σ H' ⟨pre,u,rfl,rfl,hq',sx,hu,hway,hlen⟩;have hsa:SqL K H' a ((parI nb).map V.int):=ha.sx hq sx;refine⟨_,rfl,_,rfl,_,rfl,q,_,_,_,rfl,rfl,SqL.of hq',Yp _ _,a,_,_,_,rfl,rfl,hsa,atI_par hu,_,rfl,_,rfl,q,_,_,_,rfl,rfl,SqL.of hq',Yp _ _,rfl,_,rfl,?_⟩;show if(!decide (V.int ((parN nb u:Nat):Int)=V.int ((u:Nat):Int)))=true then _ else _
  rw[zy];rcases FC.parN_cases ok hu with⟨e1,e2⟩|⟨e1,e2,e3,e4⟩
  ·rw[e1];refine iteF' ?_ ?_
   ·simp
   ·refine⟨_,rfl,k H' q hq (fun b o e=>sx b o (zJ e hq) e) ?_⟩;rw[hq',natsV,hway,way_root e2,List.map_append];rfl
  ·refine iteT' ?_ ?_
   ·have: ¬((parN nb u:Nat):Int)=((u:Nat):Int):=by omega
    simp[this]
   ·refine⟨fun σ' H''=>σ'=[some (.int (v:Nat)),some (.ref a),some (.ref q)]/\H''=upd H' q (.lst ((pre.map natV++[natV u])++[natV (parN nb u)])),
     fun σ' H'' ⟨e5,e6⟩=>⟨D (parN nb u),by omega,pre++[u],parN nb u,rfl,e5,by rw[e6,zB,List.map_append];rfl,fun b o n e=>by rw[e6,zH n];exact sx b o n e,e4,by rw[hway,FC.way_step ok hu e2,List.append_assoc];rfl,by rw[List.length_append];show pre.length+1+_=_;omega⟩,?_⟩
    refine⟨_,rfl,.inl ⟨rfl,_,SqL.of hq'⟩,_,rfl,_,rfl,_,rfl,q,_,_,_,rfl,rfl,SqL.of hq',Yp _ _,a,_,_,_,rfl,rfl,hsa,atI_par hu,q,_,_,rfl,rfl,hq',?_,rfl,rfl⟩;rw[List.length_append,List.length_map];exact small1000 (by show pre.length+1<=1000;omega)
theorem scHeightOf:FnScope ["cell","parents","states","down"] ["cell","parents","states"] (defScope sHeightOf):=⟨rfl,rfl,rfl,by decide +kernel,rfl,by decide +kernel,by decide +kernel⟩
theorem ok_heightOf{f:Addr}{fd:FuncData}(F:Fun K "height_of" "height_of" sHeightOf f fd)(B:Bi mg)(CU:Callee P w K mg base 1 "way_up" ["cell","parents"] (spWayUp K))(CS:Callee P w K mg base 3 "walk_sum" ["states","cells"] (spWalkSum K)):FnOk P w K mg base CX0 4 f fd ["cell","parents","states"] (spHeightOf K):=by
 refine F.ok scHeightOf (fun vs H Q E h=> ?_) (fun cdv A outer s H vs Q E hr h=> ?_)
 ·obtain⟨a,b,v,nb,x,rfl,_⟩:=h;rfl
 ·obtain⟨a,b,v,nb,x,rfl,ha,hb,ok,hv,hsm,hx,h3,k⟩:=h;obtain⟨R,D,FC⟩:=fcert ok;have W:=FC.way ok _ v hv rfl;have dl:=FC.dlt ok hv;have wl:=W.len;have rr:=(FC.c.rroot ok hv).1;refine⟨_,zF (zQ (i:=3) scHeightOf.nd rfl (Or.inl rfl) (JQ rfl rfl B.list rfl B.reversed (zA (zP CU hr (zA (pv 0) (zA (pv 1) zE))) zE)))
   (zG (zM (zj ZJ (zW K (pv 2) (zW K (pv 3) zK)) (zP CS hr (zA (pv 2) (zA (pv 3) zE)))))),?_⟩
  refine⟨_,rfl,_,rfl,a,v,nb,rfl,ha,ok,hv,hsm,fun H1 p hp s1 hp1=>⟨p,_,rfl,SqL.of hp1,fun l hl=> ?_⟩⟩;have s2:Same H1 (upd H1 l (.lst ((natsI (wayUp nb v)).map V.int).reverse)):=Same.upd _ hl;have el:((natsI (wayUp nb v)).map V.int).reverse=(natsI (wayUp nb v).reverse).map V.int:=by rw[natsV,natsV,List.map_reverse]
  rw[el] at s2 ⊢;obtain⟨t,ht⟩: ∃t,(wayUp nb v).reverse=R v::t:=by
   have e:=W.last;rw[List.getLast?_eq_head?_reverse] at e;cases q:(wayUp nb v).reverse with
   |nil=>rw[q] at e;cases e
   |cons z t=>rw[q] at e;exact⟨t,by rw[show z=R v from Option.some.inj e]⟩
  have s12:=s1.trans s2;refine⟨_,rfl,_,rfl,l,_,_,natV (R v),rfl,rfl,SqL.of zB,?_,b,_,_,_,rfl,rfl,s12.seq hb,Zm (by rw[hx];exact rr),_,rfl,_,rfl,b,l,natsI x,natsI (wayUp nb v).reverse,rfl,s12.seq hb,SqL.of zB,?_,?_,fun H2 s3=>⟨_,_,rfl,rfl,?_⟩⟩
  ·rw[ht];exact Zf (j:=0) rfl
  ·rw[zN,List.length_reverse];exact small1000 (by omega)
  ·intro c hc;unfold natsI at hc;obtain⟨z,hz,rfl⟩:=List.mem_map.mp hc;have:=W.lt z (List.mem_reverse.mp hz);rw[zN,hx];show 0<=((z:Nat):Int)/\((z:Nat):Int)<_;omega
  ·have e:(Vblcas.at_ x (R v):Int)+walkSumI (natsI x) (natsI (wayUp nb v).reverse)=hS nb x v:=by
    rw[sum_eq h3 _ fun c hc=>by rw[hx];exact W.lt c (List.mem_reverse.mp hc)];show _=(Vblcas.at_ x (Vblcas.rootOf (Vblcas.forest nb) v):Int)+Vblcas.sumAlong x (Vblcas.ancestors (Vblcas.forest nb) (Vblcas.forest nb).length v).reverse;rw[FC.root v hv,FC.len];rfl
   show Q (V.int ((Vblcas.at_ x (R v):Int)+walkSumI (natsI x) (natsI (wayUp nb v).reverse))) H2;rw[e];exact k H2 (s12.trans s3)
theorem scRootsBy:FnScope ["parents","cell"] ["parents"] (defScope sRootsBy):=⟨rfl,rfl,rfl,by decide +kernel,rfl,by decide +kernel,by decide +kernel⟩
theorem ok_rootsBy{f:Addr}{fd:FuncData}(F:Fun K "roots_by" "roots_by" sRootsBy f fd)(B:Bi mg)(CU:Callee P w K mg base 1 "way_up" ["cell","parents"] (spWayUp K)):FnOk P w K mg base CX0 2 f fd ["parents"] (spRootsBy K):=by
 refine F.ok scRootsBy (fun vs H Q E h=> ?_) (fun cdv A outer s H vs Q E hr h=> ?_)
 ·obtain⟨a,nb,rfl,_⟩:=h;rfl
 ·obtain⟨a,nb,rfl,ha,ok,hsm,k⟩:=h;obtain⟨R,D,FC⟩:=fcert ok;refine'⟨_,zG (zM (Zd (own:=[("cell",1)]) rfl scRootsBy.nd ?lc1 ?lc2 (fun _ _ _ _ _=> ?lc3) (fun _ _ _ _ _=> ?lc4) (fun _ _ _ _ _=> ?lc5))),?rd⟩
  case lc1=>exact Zr rfl B.range (zA (zX zY rfl B.len PySem.boot_len (zA (pv 0) zE)) zE)
  case lc2=>exact za (by show blkC ["parents","cell"] (defScope sRootsBy) _ _=true;decide +kernel)
  case lc3=>exact pgn 1 scRootsBy.nd
  case lc4=>exact zx
  case lc5=>exact zW K (zP CU hr (zA (pv 1) (zA (pv 0) zE))) (pe_un jy zK)
  have hl:((parI nb).map V.int).length=nb.length:=by unfold parI;rw[List.length_map,List.length_map,List.length_range]
  refine⟨_,rfl,a,_,rfl,.inl ha,_,rfl,(by rw[hl];omega),(by rw[hl];omega),?_⟩;rw[hl,Int.toNat_natCast];intro D0 hD;refine jA (fun i out _=>out=((natsI (rootsN nb)).take i).map V.int) RMono.pure hD rfl ?_ ?_
  ·intro i H' out hi s2 hd hl2 hR;rw[Int.zero_add];refine⟨rfl,yesT ?_⟩;have W:=FC.way ok _ i hi rfl;refine⟨_,rfl,_,rfl,a,i,nb,rfl,s2.seq ha,ok,hi,hsm,fun H2 p hp s3 hp1=> ?_⟩;obtain⟨t,ht⟩: ∃t,wayUp nb i=t++[R i]:=List.getLast?_eq_some_iff.mp W.last;rw[natsV,ht,List.map_append] at hp1;refine⟨_,rfl,p,_,_,_,rfl,rfl,SqL.of hp1,Yp _ _,?_⟩;refine LcI.put RMono.pure hD (small1000 (by omega)) s2 hd hl2 s3 ?_;rw[hR,zL (x:=((R i:Nat):Int)),List.map_append]
   ·rfl
   ·unfold natsI rootsN;rw[List.getElem?_map,zR _ hi,W.last];rfl
  ·intro H' out s2 hd hl2 hR;refine k H' D0 hD s2 ?_;rw[hd,hR,List.take_of_length_le];rw[zN];unfold rootsN;rw[List.length_map,List.length_range];exact Nat.le_refl _
theorem scWindingOf:FnScope ["a","b","heights","states"] ["a","b","heights","states"] (defScope sWindingOf):=⟨rfl,rfl,rfl,by decide +kernel,rfl,by decide +kernel,by decide +kernel⟩
theorem ok_windingOf{f:Addr}{fd:FuncData}(F:Fun K "winding_of" "winding_of" sWindingOf f fd)(hS3:IntG mg "STATES" 3)(C:Callee P w K mg base 2 "lean_between" ["a","b"] spLean):FnOk P w K mg base CX0 3 f fd ["a","b","heights","states"] (spWindingOf K):=by
 refine F.ok scWindingOf (fun vs H Q E h=> ?_) (fun cdv A outer s H vs Q E hr h=> ?_)
 ·obtain⟨c,d,a,b,hs,x,rfl,_⟩:=h;rfl
 ·obtain⟨c,d,a,b,hs,x,rfl,hc,hd,ha,hb,hl,h3,k⟩:=h;refine⟨_,zG (zM (zj op_fdiv (zj op_sub (zj ZJ (zW K (pv 2) (pv 0)) (zP C hr (zA (zW K (pv 3) (pv 0)) (zA (zW K (pv 3) (pv 1)) zE)))) (zW K (pv 2) (pv 1))) (zV hS3))),?_⟩;refine⟨_,rfl,_,rfl,c,_,_,_,rfl,rfl,hc,zb (by omega) (by omega),_,rfl,_,rfl,d,_,_,_,rfl,rfl,hd,Zm (by omega),_,rfl,_,rfl,d,_,_,_,rfl,rfl,hd,Zm (by omega),_,_,rfl,_,_,rfl,rfl,_,rfl,_,rfl,c,_,_,_,rfl,rfl,hc,zb (by omega) (by omega),_,_,rfl,rfl,_,_,rfl,rfl,⟨by decide,by decide⟩,?_⟩;rw[jm (h3.at a) (h3.at b)];exact k
def PairsT(H:Hp)(a:Addr)(es:List (Int×Int)):Prop:=∃ps:List Addr,H a=some (.lst (ps.map V.ref))/\ps.length=es.length/\∀(i:Nat) (p:Addr) (e:Int×Int),ps[i]? =some p->es[i]? =some e->H p=some (.tup [.int e.1,.int e.2])
theorem PairsT.same{H H':Hp}{a:Addr}{es:List (Int×Int)}(h:PairsT H a es)(s:Same H H'):PairsT H' a es:=by
 obtain⟨ps,h1,h2,h3⟩:=h;exact⟨ps,s _ _ h1,h2,fun i p r e1 e2=>s _ _ (h3 i p r e1 e2)⟩
def NewPairs(H:Hp)(Q:VK)(es:List (Int×Int)):Prop:=∀(H':Hp) (p:Addr),H p=none->Same H H'->PairsT H' p es->Q (.ref p) H'
def chordsI(pars:List Int)(es:List (Int×Int)):List (Int×Int):=es.filter fun e=> !decide (at0 pars e.1=e.2)&& !decide (at0 pars e.2=e.1)
def spChords(K:PySem.W.Frag):Sp:=fun vs H Q _=>∃(a b:Addr) (es:List (Int×Int)) (pars:List Int),vs=[.ref a,.ref b]/\PairsT H a es/\SqL K H b (pars.map V.int)/\es.length<1000/\(∀e,e∈es->(0<=e.1/\e.1<pars.length)/\0<=e.2/\e.2<pars.length)/\NewPairs H Q (chordsI pars es)
def heightsI(nb:Vblcas.Near)(x:List Nat):List Int:=(List.range nb.length).map fun v=>hS nb x v
def spHeightsBy(K:PySem.W.Frag):Sp:=fun vs H Q _=>∃(a b:Addr) (nb:Vblcas.Near) (x:List Nat),vs=[.ref a,.ref b]/\SqL K H a ((parI nb).map V.int)/\SqL K H b ((natsI x).map V.int)/\NbOk nb/\nb.length<1000/\x.length=nb.length/\St3 x/\NewInts H Q (heightsI nb x)
theorem JS(nb:Vblcas.Near):(parI nb).length=nb.length:=by unfold parI;rw[List.length_map,List.length_range]
theorem scHeightsBy:FnScope ["parents","states","cell"] ["parents","states"] (defScope sHeightsBy):=⟨rfl,rfl,rfl,by decide +kernel,rfl,by decide +kernel,by decide +kernel⟩
theorem ok_heightsBy{f:Addr}{fd:FuncData}(F:Fun K "heights_by" "heights_by" sHeightsBy f fd)(B:Bi mg)(C:Callee P w K mg base 4 "height_of" ["cell","parents","states"] (spHeightOf K)):FnOk P w K mg base CX0 5 f fd ["parents","states"] (spHeightsBy K):=by
 refine F.ok scHeightsBy (fun vs H Q E h=> ?_) (fun cdv A outer s H vs Q E hr h=> ?_)
 ·obtain⟨a,b,nb,x,rfl,_⟩:=h;rfl
 ·obtain⟨a,b,nb,x,rfl,ha,hb,ok,hsm,hx,h3,k⟩:=h;refine'⟨_,zG (zM (Zd (own:=[("cell",2)]) rfl scHeightsBy.nd ?lc1 ?lc2 (fun _ _ _ _ _=> ?lc3) (fun _ _ _ _ _=> ?lc4) (fun _ _ _ _ _=> ?lc5))),?rd⟩
  case lc1=>exact Zr rfl B.range (zA (zX zY rfl B.len PySem.boot_len (zA (pv 0) zE)) zE)
  case lc2=>exact za (by show blkC ["parents","states","cell"] (defScope sHeightsBy) _ _=true;decide +kernel)
  case lc3=>exact pgn 2 scHeightsBy.nd
  case lc4=>exact zx
  case lc5=>exact zP C hr (zA (pv 2) (zA (pv 0) (zA (pv 1) zE)))
  have hl:((parI nb).map V.int).length=nb.length:=by rw[List.length_map,JS]
  refine⟨_,rfl,a,_,rfl,.inl ha,_,rfl,(by rw[hl];omega),(by rw[hl];omega),?_⟩;rw[hl,Int.toNat_natCast];intro D hD;refine jA (fun i out _=>out=((heightsI nb x).take i).map V.int) RMono.pure hD rfl ?_ ?_
  ·intro i H' out hi s2 hd hl2 hR;rw[Int.zero_add];refine⟨rfl,yesT ?_⟩;refine⟨_,rfl,_,rfl,_,rfl,a,b,i,nb,x,rfl,s2.seq ha,s2.seq hb,ok,hi,hsm,hx,h3,fun H2 s3=> ?_⟩;refine LcI.put RMono.pure hD (small1000 (by omega)) s2 hd hl2 s3 ?_;rw[hR,zL (x:=hS nb x i),List.map_append]
   ·rfl
   ·unfold heightsI;rw[zR _ hi]
  ·intro H' out s2 hd hl2 hR;refine k H' D hD s2 ?_;rw[hd,hR,List.take_of_length_le];unfold heightsI;rw[List.length_map,List.length_range];exact Nat.le_refl _
theorem scChords:FnScope ["edges","parents","a","b"] ["edges","parents"] (defScope sChords):=⟨rfl,rfl,rfl,by decide +kernel,rfl,by decide +kernel,by decide +kernel⟩
theorem ok_chords{f:Addr}{fd:FuncData}(F:Fun K "chords_among" "chords_among" sChords f fd):FnOk P w K mg base CX0 1 f fd ["edges","parents"] (spChords K):=by
 refine F.ok scChords (fun vs H Q E h=> ?_) (fun cdv A outer s H vs Q E hr h=> ?_)
 ·obtain⟨a,b,es,pars,rfl,_⟩:=h;rfl
 ·obtain⟨a,b,es,pars,rfl,ha,hb,hsm,hin,k⟩:=h;refine'⟨_,zG (zM (Zd (own:=[("a",2),("b",3)]) rfl scChords.nd ?lc1 ?lc2 (fun _ _ _ _ _=> ?lc3) (fun _ _ _ _ _=> ?lc4) (fun _ _ _ _ _=> ?lc5))),?rd⟩
  case lc1=>exact zq (pv 0)
  case lc2=>exact za (by show blkC ["edges","parents","a","b"] (defScope sChords) _ _=true;decide +kernel)
  case lc3=>exact pgt2 K 2 3 scChords.nd
  case lc4=>exact jh (PW.pt (pw_and (zc yu (zW K (pv 1) (pv 2)) (pv 3) (nomark _)) (jf (zc yu (zW K (pv 1) (pv 3)) (pv 2) (nomark _)))))
  case lc5=>exact YD (zA (pv 2) (zA (pv 3) zE))
  obtain⟨ps,hp1,hp2,hp3⟩:=ha;refine⟨_,rfl,a,rfl,⟨_,SqL.of hp1⟩,fun D hD=> ?_⟩;refine ZK (K:=K) (fun i out H'=>∃qs:List Addr,out=qs.map V.ref/\qs.length=(chordsI pars (es.take i)).length/\∀(j:Nat) (q:Addr) (e:Int×Int),qs[j]? =some q->(chordsI pars (es.take i))[j]? =some e->q≠D/\H' q=some (.tup [.int e.1,.int e.2])) ?_ hD (SqL.of hp1) ⟨[],rfl,rfl,fun j q e h=>by simp at h⟩ ?_ ?_
  ·rintro i out H1 H2 sx ⟨qs,e1,e2,e3⟩;exact⟨qs,e1,e2,fun j q e g1 g2=>⟨(e3 j q e g1 g2).1,sx _ _ (e3 j q e g1 g2).1 (e3 j q e g1 g2).2⟩⟩
  ·rintro i y H' out hi ey s2 hd hl ⟨qs,rfl,e2,e3⟩;obtain⟨p,ep,rfl⟩:=getElem?_mapR ey;rw[List.length_map] at hi;obtain⟨e,ee⟩: ∃e,es[i]? =some e:=⟨_,List.getElem?_eq_getElem (by omega)⟩;have me:=hin e (List.mem_of_getElem? ee);have htup:=hp3 i p e ep ee;refine⟨p,_,rfl,SqT.of (s2 _ _ htup),rfl,_,_,rfl,_,_,rfl,rfl,rfl,?_⟩;have skip:(!decide (at0 pars e.1=e.2)&& !decide (at0 pars e.2=e.1))=false->LcI H D (fun i out H'=>∃qs:List Addr,out=qs.map V.ref/\qs.length=(chordsI pars (es.take i)).length/\∀(j:Nat) (q:Addr) (e:Int×Int),qs[j]? =some q->(chordsI pars (es.take i))[j]? =some e->q≠D/\H' q=some (.tup [.int e.1,.int e.2])) (i+1) H':=fun hno=>by
    refine LcI.skip s2 hd hl (Same.refl _) ?_;have e4:chordsI pars (es.take (i+1))=chordsI pars (es.take i):=by
     unfold chordsI;rw[zL ee,List.filter_append,List.filter_cons,if_neg (by rw[hno];exact Bool.false_ne_true),List.filter_nil,List.append_nil]
    rw[e4];exact⟨qs,rfl,e2,e3⟩
   refine⟨_,rfl,_,rfl,b,_,_,_,rfl,rfl,s2.seq hb,zb me.1.1 me.1.2,_,rfl,rfl,_,rfl,?_⟩;rw[zy];refine ite2 (fun h1=> ?_) (fun h1=> ?_)
   ·refine⟨_,rfl,_,rfl,b,_,_,_,rfl,rfl,s2.seq hb,zb me.2.1 me.2.2,_,rfl,rfl,_,rfl,?_⟩;rw[zy];refine ite2 (fun h2=> ?_) (fun h2=> ?_)
    ·refine⟨_,rfl,_,rfl,(by show 2<=sizeLine;decide),fun t ht=> ?_⟩;have s3:Same H' (upd H' t (.tup [.int e.1,.int e.2])):=Same.upd _ ht;have td:t≠D:=fun z=>by rw[z,hd] at ht;cases ht
     refine LcI.put ?_ hD (small1000 (by omega)) s2 hd hl s3 ?_
     ·rintro i out H1 H2 sx ⟨qs,e1,e2,e3⟩;exact⟨qs,e1,e2,fun j q e g1 g2=>⟨(e3 j q e g1 g2).1,sx _ _ (e3 j q e g1 g2).1 (e3 j q e g1 g2).2⟩⟩
     ·have e4:chordsI pars (es.take (i+1))=chordsI pars (es.take i)++[e]:=by
       unfold chordsI;rw[zL ee,List.filter_append,List.filter_cons,if_pos (by rw[h1,h2];rfl),List.filter_nil]
      rw[e4];refine⟨qs++[t],by rw[List.map_append];rfl,by rw[List.length_append,List.length_append,e2];rfl,fun j q e' g1 g2=> ?_⟩;rcases Nat.lt_or_ge j qs.length with lt|ge
      ·rw[List.getElem?_append_left lt] at g1;rw[List.getElem?_append_left (by omega)] at g2;obtain⟨r1,r2⟩:=e3 j q e' g1 g2;exact⟨r1,s3 _ _ r2⟩
      ·have hj:j=qs.length:=by
        have:=(List.getElem?_eq_some_iff.mp g1).1;rw[List.length_append] at this;have e1:([t]:List Addr).length=1:=rfl;omega
       subst hj;rw[List.getElem?_append_right (Nat.le_refl _),Nat.sub_self] at g1;rw[e2,List.getElem?_append_right (Nat.le_refl _),Nat.sub_self] at g2;obtain rfl:t=q:=Option.some.inj g1;obtain rfl:e=e':=Option.some.inj g2;exact⟨td,zB⟩
    ·refine skip ?_;rw[h1,Bool.true_and];simpa using h2
   ·refine iteF (skip ?_);have:(!decide (at0 pars e.1=e.2))=false:=by simpa using h1
    rw[this,Bool.false_and]
  ·rintro H' out s2 hd hl ⟨qs,rfl,e2,e3⟩;rw[List.length_map,hp2,List.take_length] at e2 e3;exact k H' D hD s2 ⟨qs,hd,e2,fun j q e g1 g2=>(e3 j q e g1 g2).2⟩
end
end GW
namespace GW
open PySem PySem.Spec PyProof.Rows
section
variable {prog:Program}{w:World}{A:Around}{E:Value->Shared->Prop}{s:Shared}
abbrev TK(prog:Program)(w:World)(h:Heap)(k:List Int)(a:Addr):Prop:=IsTupleKey (intKind prog w) h k a
abbrev tkh(prog:Program)(w:World)(k:List Int):Int:=tupleKeyHash (intKind prog w) k
theorem Ja{k:List Int}{vs:List Value}(h:ItemsAre (intKind prog w) k vs): ∀v,v∈vs->∃i t,v=.int i t:=by
 induction h with
 |nil=>intro v hv;cases hv
 | @cons k v' ks vs h1 _ ih=>
  intro v hv;rcases List.mem_cons.mp hv with rfl|hv
  ·obtain⟨t,e⟩:=Value.isInt_shape (k:=k) h1;exact⟨k,t,e⟩
  ·exact ih v hv
theorem jL{k:List Int}{a:Addr}{Q:Bool->Shared->Prop}(hk:TK prog w s.heap k a)(h:Q false s):wpAny (model prog w) A (ofAClassStatement 8 (.ref a)) Q E s:=by
 have hT:=hk.typeIs;obtain⟨o,items,n,ho,_,hd,hi⟩:=hk;unfold ofAClassStatement;refine wpAny_bind (wpAny_typeOf hT ?_);show wpAny _ _ ((if("tuple"=="tuple")=true then pure true else isSubtype (.type "tuple") (.type "tuple")) >>= _) _ _ s;rw[if_pos (by decide)];refine wpAny_bind (wpAny_pure ?_);simp only[Bool.not_true,Bool.false_eq_true,if_false];refine wpAny_bind (wpAny_seqItems ho hd ?_);refine wpAny_bind ?_;show wpAny _ _ (forIn items _ _) _ _ s;rw[<-Array.forIn_toList];refine wpAny_forIn_list _ (fun rest r s'=>r.1=none/\s'=s/\∀v∈rest,∃i t,v=.int i t) _ ?_ ?_ _ _ ⟨rfl,rfl,Ja hi⟩
 ·rintro v rest r s' ⟨hr,rfl,hall⟩;obtain⟨i,t,rfl⟩:=hall v List.mem_cons_self;have e:ofAClassStatement 7 (Value.int i t)=pure false:=by unfold ofAClassStatement;rfl
  rw[e];refine wpAny_bind (wpAny_pure ?_);simp only[Bool.false_eq_true,if_false];exact wpAny_pure ⟨rfl,rfl,fun u hu'=>hall u (List.mem_cons_of_mem _ hu')⟩
 ·rintro⟨r1,r2⟩ s' ⟨hr,rfl,_⟩;simp only at hr;subst hr;exact wpAny_pure h
theorem wp_hashByValue{k:List Int}{a:Addr}{Q:Bool->Shared->Prop}(hk:TK prog w s.heap k a)(h:Q true s):wpAny (model prog w) A (hashByValue 8 (.ref a)) Q E s:=by
 have hT:=hk.typeIs;obtain⟨o,items,n,ho,_,hd,hi⟩:=hk;unfold hashByValue;refine wpAny_bind (wpAny_specialOf hT PySem.F.slot_tuple_hash.lookup ?_);show wpAny _ _ (seqItems? (.ref a) >>= _) _ _ s;refine wpAny_bind (wpAny_seqItems ho hd ?_);refine wpAny_bind ?_;show wpAny _ _ (forIn items _ _) _ _ s;rw[<-Array.forIn_toList];refine wpAny_forIn_list _ (fun rest r s'=>r.1=none/\s'=s/\∀v∈rest,∃i t,v=.int i t) _ ?_ ?_ _ _ ⟨rfl,rfl,Ja hi⟩
 ·rintro v rest r s' ⟨hr,rfl,hall⟩;obtain⟨i,t,rfl⟩:=hall v List.mem_cons_self;have e:hashByValue 7 (Value.int i t)=pure true:=by unfold hashByValue;rfl
  rw[e];refine wpAny_bind (wpAny_pure ?_);simp only[Bool.not_true,Bool.false_eq_true,if_false];exact wpAny_pure ⟨rfl,rfl,fun u hu'=>hall u (List.mem_cons_of_mem _ hu')⟩
 ·rintro⟨r1,r2⟩ s' ⟨hr,rfl,_⟩;simp only at hr;subst hr;exact wpAny_pure h
theorem wp_seen{k:List Int}{a:Addr}{Q:Bool->Shared->Prop}(hk:TK prog w s.heap k a): ∀(ys:List Value),(∀y,y∈ys->∃k' b,y=.ref b/\TK prog w s.heap k' b)->Q false s->wpAny (model prog w) A (searchCouldBeSeen (.ref a) ys) Q E s:=by
 intro ys hy h;unfold searchCouldBeSeen;refine wpAny_bind ?_;refine wpAny_forIn_list _ (fun rest r s'=>r.1=none/\s'=s/\∀y∈rest,∃k' b,y=.ref b/\TK prog w s.heap k' b) _ ?_ ?_ _ _ ⟨rfl,rfl,hy⟩
 ·rintro v rest r s' ⟨hr,rfl,hall⟩;obtain⟨k',b,rfl,hb⟩:=hall v List.mem_cons_self;have nx: ∀u∈rest,∃k' b,u=.ref b/\TK prog w s'.heap k' b:=fun u hu'=>hall u (List.mem_cons_of_mem _ hu');show wpAny _ _ (if((a==b)||(carriedByValue (.ref a)&&carriedByValue (.ref b)))=true then _ else _) _ _ s';by_cases q:((a==b)||(carriedByValue (.ref a)&&carriedByValue (.ref b)))=true
  ·rw[if_pos q];exact wpAny_pure ⟨rfl,rfl,nx⟩
  ·rw[if_neg q];refine wpAny_bind (wpAny_eqIsQuiet_tuple hk ?_);simp only[Bool.not_true,Bool.false_eq_true,if_false];refine wpAny_bind (wpAny_eqIsQuiet_tuple hb ?_);simp only[Bool.not_true,Bool.false_eq_true,if_false];refine wpAny_bind (jL hk ?_);simp only[Bool.false_eq_true,if_false];refine wpAny_bind (jL hb ?_);simp only[Bool.false_eq_true,if_false];exact wpAny_pure ⟨rfl,rfl,nx⟩
 ·rintro⟨r1,r2⟩ s' ⟨hr,rfl,_⟩;simp only at hr;subst hr;exact wpAny_pure h
end
section
variable {prog:Program}{w:World}{A:Around}{E:Value->Shared->Prop}{s:Shared}
def Ent(prog:Program)(w:World)(h:Heap)(e:Nat×Int×Value)(k:List Int):Prop:=∃a,e.2.2=.ref a/\TK prog w h k a/\e.2.1=tkh prog w k
theorem Ent.inj{h:Heap}{e:Nat×Int×Value}{k k':List Int}(x:Ent prog w h e k)(y:Ent prog w h e k'):k=k':=by
 obtain⟨a,e1,t1,_⟩:=x;obtain⟨b,e2,t2,_⟩:=y;rw[e1] at e2;have e2:Value.ref a=Value.ref b:=e2;cases e2;exact t1.inj t2
structure SetOk(prog:Program)(w:World)(h:Heap)(S:Addr)(o:Obj)(es:Array (Int×Value))(ep:Nat)(t:SetTable)(ts:List (Nat×Int×Value)):Prop where
 get:h.get? S=some o
 dat:o.data=.set es ep t
 tok:ST.TOk es t ts
 ent: ∀e,e∈ts->∃k,Ent prog w h e k
 room:ts.length<=t.mask
theorem SetOk.fits{h:Heap}{S:Addr}{o:Obj}{es:Array (Int×Value)}{ep:Nat}{t:SetTable}{ts:List (Nat×Int×Value)}(Z:SetOk prog w h S o es ep t ts):t.fits es.size=true:=by
 have l1:t.place.size=ts.length:=by rw[<-Array.length_toList,Z.tok.pl,List.length_map]
 have l2:es.size=ts.length:=by rw[<-Array.length_toList,Z.tok.es,List.length_map]
 unfold SetTable.fits SetTable.fill;rw[Z.tok.dm,l1,l2];simp[Z.room]
theorem odd_mask{t:SetTable}(h:ST.MaskOk t.mask):t.gaveWay=false:=by
 unfold SetTable.gaveWay;rcases h with e|e|e|e<;>rw[e]<;>rfl
theorem Jm{S:Addr}{o:Obj}{es:Array (Int×Value)}{ep:Nat}{t:SetTable}{ts:List (Nat×Int×Value)}(Z:SetOk prog w s.heap S o es ep t ts){k:List Int}{a:Addr}(hk:TK prog w s.heap k a)(hu:A.units<cLine){Q:SetFound->Shared->Prop}
  (h1:(∃e,e∈ts/\Ent prog w s.heap e k)->Q (.there none) s)
  (h0: ∀m,(∀e,e∈ts->¬Ent prog w s.heap e k)->ST.path t.mask (tkh prog w k) m∉ts.map (·.1)->(∀m',m'<m->ST.path t.mask (tkh prog w k) m'∈ts.map (·.1))->Q (.free (ST.path t.mask (tkh prog w k) m) false) s){M:Nat}(hM:ST.path t.mask (tkh prog w k) M∉ts.map (·.1)):
  ∀(fuel m:Nat) (stand:Option SetTable.Probe),stand.getD (t.probeStart (tkh prog w k))=ST.stAt t.mask (tkh prog w k) m->(∀m',m'<m->ST.path t.mask (tkh prog w k) m'∈ts.map (·.1))->(∀m',m'<m->∀e,e∈ts->e.1=ST.path t.mask (tkh prog w k) m'->¬Ent prog w s.heap e k)->m<=M->M - m<fuel->
   wpAny (model prog w) A (setSearchFrom S (.ref a) (tkh prog w k) true fuel stand) Q E s
 |0,m,stand,_,_,_,_,hf=>by omega
 |fuel+1,m,stand,hst,hb,hne,hmM,hf=>by
  unfold setSearchFrom;refine wpAny_bind (wpAny_setState_of Z.get Z.dat Z.fits ?_);dsimp only;rw[odd_mask Z.tok.mo];simp only[Bool.false_eq_true,↓reduceIte];obtain⟨z,hz,hzf⟩:=Z.tok.free Z.room;obtain⟨d,hd,ed⟩:=ST.JR Z.tok.mo (tkh prog w k) m hz;have hashAt: ∀(i:Nat) (e:Nat×Int×Value),ts[i]? =some e->((es[i]?.map (·.1)).getD 0)=e.2.1:=fun i e hi=>by
   rw[(Z.tok.at_ hi).2];rfl
  obtain⟨m1,hm1,pass,met⟩:=Z.tok.probe (fun i=>(es[i]?.map (·.1)).getD 0) (tkh prog w k) (10 * SetTable.turns t.mask) m ⟨d,by unfold SetTable.turns;omega,by rw[ed];exact hzf⟩;have pass1: ∀m',m'<m1->ST.path t.mask (tkh prog w k) m'∈ts.map (·.1):=fun m' hm'=>by
   by_cases q:m'<m
   ·exact hb m' q
   ·obtain⟨i,e,hi,ee,_⟩:=pass m' (by omega) hm';rw[<-ee];exact List.mem_map.mpr ⟨e,List.mem_of_getElem? hi,rfl⟩
  have same: ∀(e e':Nat×Int×Value),e∈ts->e'∈ts->e.1=e'.1->e=e':=fun e e' he he' q=>by
   obtain⟨i,hi⟩:=List.mem_iff_getElem?.mp he;obtain⟨j,hj⟩:=List.mem_iff_getElem?.mp he';have a1:=Z.tok.live hi;have a2:=Z.tok.live hj;rw[q,a2] at a1;injection a1 with a1
   rw[a1,hi] at hj;exact Option.some.inj hj
  have pass2: ∀m',m'<m1->∀e,e∈ts->e.1=ST.path t.mask (tkh prog w k) m'->¬Ent prog w s.heap e k:=fun m' hm' e he ee hE=>by
   by_cases q:m'<m
   ·exact hne m' q e he ee hE
   ·obtain⟨i,e',hi,ee',hh⟩:=pass m' (by omega) hm';have:=same e e' he (List.mem_of_getElem? hi) (ee.trans ee'.symm);subst this;refine hh ((hashAt i e hi).trans ?_);obtain⟨_,_,_,q3⟩:=hE;exact q3
  have hm1M:m1<=M:=by
   apply Classical.byContradiction;intro q;exact hM (pass1 M (by omega))
  rw[hst];rcases met with⟨fr,eg⟩|⟨i,e,hi,ee,hh,eg⟩
  ·show wpAny _ _ (match SetTable.probe.go t (fun i=>(es[i]?.map (·.1)).getD 0) (tkh prog w k) (10 * SetTable.turns t.mask) (ST.stAt t.mask (tkh prog w k) m) with|some met=>_|_=>_) _ _ s;rw[eg];refine wpAny_pure (h0 m1 (fun e he hE=> ?_) fr pass1);obtain⟨m0,p1,p2⟩:=Z.tok.rc e he;obtain⟨b,_,_,q3⟩:=id hE;rw[q3] at p1 p2;rcases Nat.lt_or_ge m0 m1 with lt|ge
   ·exact pass2 m0 lt e he p1.symm hE
   ·rcases Nat.lt_or_ge m1 m0 with lt|ge2
    ·exact fr (p2 m1 lt)
    ·have:m1=m0:=by omega
     subst this;exact fr (by rw[p1];exact List.mem_map.mpr ⟨e,he,rfl⟩)
  ·show wpAny _ _ (match SetTable.probe.go t (fun i=>(es[i]?.map (·.1)).getD 0) (tkh prog w k) (10 * SetTable.turns t.mask) (ST.stAt t.mask (tkh prog w k) m) with|some met=>_|_=>_) _ _ s;rw[eg];dsimp only;have hmem:=List.mem_of_getElem? hi;obtain⟨ke,hE⟩:=Z.ent e hmem;obtain⟨b,eb,tb,eh⟩:=id hE;have esi:es[i]? =some (e.2.1,.ref b):=by rw[(Z.tok.at_ hi).2,<-eb]
   have mem:SetTable.sameMemory t t.moves t.mask=some true:=by unfold SetTable.sameMemory;rw[if_pos (beq_self_eq_true _)]
   have lv:t.slot (ST.path t.mask (tkh prog w k) m1)=.live i:=by rw[<-ee];exact Z.tok.live hi
   have same2: ∀{R:Bool->Shared->Prop},R true s->wpAny (model prog w) A (isSame (.ref b) (.ref b)) R E s:=fun hr=>by
    unfold isSame;show wpAny _ _ (if(b==b)=true then pure true else _) _ _ s;rw[if_pos (beq_self_eq_true _)];exact wpAny_pure hr
   have stored: ∀y,y∈List.map (fun x=>x.snd) (Array.filter (fun x=>x.fst==tkh prog w k) es).toList->∃k' b,y=.ref b/\TK prog w s.heap k' b:=fun y hy=>by
    obtain⟨x,hx,rfl⟩:=List.mem_map.mp hy;rw[Array.toList_filter] at hx;have hx:=(List.mem_filter.mp hx).1;rw[Z.tok.es] at hx;obtain⟨e',he',rfl⟩:=List.mem_map.mp hx;obtain⟨k',b',q1,q2,_⟩:=Z.ent e' he';exact⟨k',b',q1,q2⟩
   have step: ∀(eq:Bool),eq=decide (ke=k)->(eq=true->Q (.there none) s)/\(eq=false->wpAny (model prog w) A (setSearchFrom S (.ref a) (tkh prog w k) true fuel (some (ST.stAt t.mask (tkh prog w k) (m1+1)))) Q E s):=fun eq e0=>by
    refine⟨fun q=> ?_,fun q=> ?_⟩
    ·rw[q] at e0;have:ke=k:=of_decide_eq_true e0.symm;subst this;exact h1 ⟨e,hmem,hE⟩
    ·rw[q] at e0;have hno: ¬ke=k:=of_decide_eq_false e0.symm;have mM:m1≠M:=fun z=>hM (by rw[<-z,<-ee];exact List.mem_map.mpr ⟨e,hmem,rfl⟩);refine Jm Z hk hu h1 h0 hM fuel (m1+1) _ rfl (fun m' hm'=> ?_) (fun m' hm' e' he' ee' hE'=> ?_) ?_ ?_
     ·by_cases q2:m'=m1
      ·subst q2;rw[<-ee];exact List.mem_map.mpr ⟨e,hmem,rfl⟩
      ·exact pass1 m' (by omega)
     ·by_cases q2:m'=m1
      ·subst q2;have:=same e' e he' hmem (ee'.trans ee.symm);subst this;exact hno (hE.inj hE')
      ·exact pass2 m' (by omega) e' he' ee' hE'
     ·omega
     ·omega
   split
   ·refine wpAny_bind (wp_seen hk _ stored ?_);simp only[Bool.false_eq_true,↓reduceIte];rw[esi];refine wpAny_bind (wpAny_holding (wpAny_eqBool_tuple hu tb hk ?_));refine wpAny_bind (wpAny_setState_of Z.get Z.dat Z.fits ?_);dsimp only;obtain⟨st1,st2⟩:=step _ rfl;cases q:decide (ke=k) with
    |true=>exact wpAny_pure (st1 q)
    |false=>
     simp only[Bool.and_false,Bool.false_eq_true,↓reduceIte,mem,lv,esi];refine wpAny_bind (same2 ?_);exact wpAny_bind (wpAny_pure (st2 q))
   ·rw[esi];refine wpAny_bind (wpAny_holding (wpAny_eqBool_tuple hu tb hk ?_));refine wpAny_bind (wpAny_setState_of Z.get Z.dat Z.fits ?_);dsimp only;obtain⟨st1,st2⟩:=step _ rfl;cases q:decide (ke=k) with
    |true=>exact wpAny_pure (st1 q)
    |false=>
     simp only[Bool.and_false,Bool.false_eq_true,↓reduceIte,mem,lv,esi];refine wpAny_bind (same2 ?_);exact wpAny_bind (wpAny_pure (st2 q))
theorem next_size{mask n:Nat}(h:ST.MaskOk mask)(h1:n * 5<mask * 3)(h2:mask * 3<=(n+1) * 5)(h3:n+1<=300):
  ST.MaskOk (SetTable.sizeAbove (SetTable.grown (n+1)) - 1)/\(n+1) * 5<(SetTable.sizeAbove (SetTable.grown (n+1)) - 1) * 3/\SetTable.sizeAbove (SetTable.grown (n+1))<=512/\n+1<=SetTable.sizeAbove (SetTable.grown (n+1)) - 1:=by
 rcases h with rfl|rfl|rfl|rfl
 ·obtain rfl:n=4:=by omega
  refine⟨.inr (.inl (by decide)),by decide,by decide,by decide⟩
 ·obtain rfl:n=18:=by omega
  refine⟨.inr (.inr (.inl (by decide))),by decide,by decide,by decide⟩
 ·obtain rfl:n=76:=by omega
  refine⟨.inr (.inr (.inr (by decide))),by decide,by decide,by decide⟩
 ·omega
def SetK(prog:Program)(w:World)(h:Heap)(S:Addr)(ks:List (List Int)):Prop:=∃o es ep t ts,SetOk prog w h S o es ep t ts/\o.ExactSet/\t.fill * 5<t.mask * 3/\ks.Nodup/\ks.length=ts.length/\(∀e,e∈ts->∃k,k∈ks/\Ent prog w h e k)/\∀k,k∈ks->∃e,e∈ts/\Ent prog w h e k
theorem TK.keep{h h':Heap}{S b:Addr}{k:List Int}{o:Obj}{es:Array (Int×Value)}{ep:Nat}{t:SetTable}(x:TK prog w h k b)(ho:h.get? S=some o)(hd:o.data=.set es ep t)(hs:Heap.SameBut S h h'):TK prog w h' k b:=by
 obtain⟨o',items,n,ho',hc,hd',hi⟩:=x;have hne:b≠S:=by
  rintro rfl;obtain rfl:o'=o:=Option.some.inj (ho'.symm.trans ho);rw[hd] at hd';exact nomatch hd'
 exact⟨o',items,n,(hs.2 b hne).trans ho',hc,hd',hi⟩
theorem fill_of{β:Type}{es:Array (Int×β)}{t:SetTable}{ts:List (Nat×Int×β)}(T:ST.TOk es t ts):t.fill=ts.length:=by
 unfold SetTable.fill;rw[T.dm,<-Array.length_toList,T.pl,List.length_map];rfl
theorem wp_add{S:Addr}{ks:List (List Int)}(Z:SetK prog w s.heap S ks){k:List Int}{a:Addr}(hk:TK prog w s.heap k a)(hu:A.units<cLine)(hn:ks.length+1<=300){Q:Bool->Shared->Prop}
  (h: ∀h' tk ks' b,Heap.SameBut S s.heap h'->SetK prog w h' S ks'->(k∈ks->ks'=ks)->(k∉ks->ks'=k::ks)->Q b {s with heap:=h',toks:=tk}):wpAny (model prog w) A (setAdd S (.ref a)) Q E s:=by
 unfold setAdd;refine wpAny_holding (wpAny_bind (wpAny_pyHash_tuple hu hk ?_));generalize hs2:({s with toks:=s.toks+(k.length+1)}:Shared)=s2;have eh:s2.heap=s.heap:=by rw[<-hs2]
 obtain⟨o,es,ep,t,ts,Z,ex,ld,nd,ln,back,forth⟩:=Z;rw[<-eh] at Z hk back forth;have h': ∀h' ks' b,Heap.SameBut S s2.heap h'->SetK prog w h' S ks'->(k∈ks->ks'=ks)->(k∉ks->ks'=k::ks)->Q b {s2 with heap:=h'}:=fun h'' ks' b q1 q2 q3 q4=>by
  rw[<-hs2];rw[eh] at q1;exact h h'' _ ks' b q1 q2 q3 q4
 have fl:=fill_of Z.tok;obtain⟨z,hz,hzf⟩:=Z.tok.free Z.room;obtain⟨M,hM1,hM2⟩:=ST.JR Z.tok.mo (tkh prog w k) 0 hz;rw[Nat.zero_add] at hM2;have hM1':M<100000:=by rcases Z.tok.mo with e|e|e|e<;>rw[e] at hM1<;>omega
 unfold setAddHashed setAddHashedIn;refine wpAny_holding (wpAny_bind (wpAny_setState_of Z.get Z.dat Z.fits ?_));dsimp only;rw[show byScan (.ref a) es=false from rfl];simp only[Bool.false_eq_true,↓reduceIte];refine wpAny_bind (Jm Z hk hu ?h1 ?h0 (M:=M) (by rw[hM2];exact hzf) 100000 0 none rfl (fun m' q=>by omega) (fun m' q=>by omega) (Nat.zero_le _) (by omega))
 case h1=>
  rintro⟨e,he,hE⟩;dsimp only;obtain⟨k',hk',hE'⟩:=back e he;obtain rfl:=hE.inj hE';have e0:s2={s2 with heap:=s2.heap}:=by cases s2;rfl
  rw[e0];exact wpAny_pure (h' s2.heap ks false (Heap.SameBut.refl S s2.heap) ⟨o,es,ep,t,ts,Z,ex,ld,nd,ln,back,forth⟩ (fun _=>rfl) fun q=>absurd hk' q)
 case h0=>
  intro m hnone hfr hb;dsimp only;have knew:k∉ks:=fun q=>by
   obtain⟨e,he,hE⟩:=forth k q;exact hnone e he hE
  refine wpAny_bind (wpAny_setState_of Z.get Z.dat Z.fits ?_);dsimp only;obtain⟨ts1,T1,P1⟩:=Z.tok.put (h:=tkh prog w k) (x:=Value.ref a) hfr hb (t.put (ST.path t.mask (tkh prog w k) m)).1.plain;generalize htp:t.put (ST.path t.mask (tkh prog w k) m)=tp at T1 ⊢;have htp2:tp.2=SetTable.below t.place (ST.path t.mask (tkh prog w k) m):=by rw[<-htp];rfl
  obtain⟨t1,p1⟩:=tp;dsimp only at T1 htp2 ⊢;have T1:ST.TOk (SetTable.insertAt es p1 (tkh prog w k,Value.ref a)) t1 ts1:=by rw[htp2];exact T1
  have tm:t1.mask=t.mask:=by have:=congrArg (fun q=>q.1.mask) htp;exact this.symm
  have l1:ts1.length=ts.length+1:=by rw[P1.length_eq];rfl
  have ln3:ts.length * 5<t.mask * 3:=by rw[<-fl];exact ld
  have les:(SetTable.insertAt es p1 (tkh prog w k,Value.ref a)).size=ts1.length:=by rw[<-Array.length_toList,T1.es,List.length_map]
  generalize hes1:SetTable.insertAt es p1 (tkh prog w k,Value.ref a)=es1 at T1 les;have hsl:sizeLine=16777216:=sizeLine_eq;have tail:wpAny (model prog w) A (do
    storeSet S es1 t1
    if(
      !false&&t1.tooFull)=true then do
      setRelay S (SetTable.grown (es.size+1))
      pure true
     else pure true) Q E s2:=by
   refine wpAny_bind (wpAny_storeSet_of Z.get Z.dat ?_ (by omega));have sb:=Heap.SameBut.update s2.heap S (Obj.putSet es1 t1);have hg:(s2.heap.update S (Obj.putSet es1 t1)).get? S=some {o with data:=.set es1 (ep+1) t1}:=by
    have:=Heap.get?_update_self (Obj.putSet es1 t1) Z.get (by rw[putSet_of es1 t1 Z.dat];rfl);rw[putSet_of es1 t1 Z.dat] at this;exact this
   generalize s2.heap.update S (Obj.putSet es1 t1)=h1 at sb hg ⊢;have kE: ∀{e:Nat×Int×Value} {q:List Int},Ent prog w s2.heap e q->Ent prog w h1 e q:=fun⟨b,q1,q2,q3⟩=>⟨b,q1,TK.keep q2 Z.get Z.dat sb,q3⟩;have newE:Ent prog w h1 (ST.path t.mask (tkh prog w k) m,tkh prog w k,Value.ref a) k:=⟨a,rfl,TK.keep hk Z.get Z.dat sb,rfl⟩;have back1: ∀e,e∈ts1->∃q,q∈k::ks/\Ent prog w h1 e q:=fun e he=>by
    rcases List.mem_cons.mp (P1.mem_iff.mp he) with q|q
    ·subst q;exact⟨k,List.mem_cons_self,newE⟩
    ·obtain⟨k',g1,g2⟩:=back e q;exact⟨k',List.mem_cons_of_mem _ g1,kE g2⟩
   have forth1: ∀q,q∈k::ks->∃e,e∈ts1/\Ent prog w h1 e q:=fun q hq=>by
    rcases List.mem_cons.mp hq with z|z
    ·subst z;exact⟨_,P1.mem_iff.mpr List.mem_cons_self,newE⟩
    ·obtain⟨e,g1,g2⟩:=forth q z;exact⟨e,P1.mem_iff.mpr (List.mem_cons_of_mem _ g1),kE g2⟩
   have room1:ts1.length<=t1.mask:=by rcases Z.tok.mo with e|e|e|e<;>rw[tm,l1]<;>omega
   have Z1:SetOk prog w h1 S {o with data:=.set es1 (ep+1) t1} es1 (ep+1) t1 ts1:=⟨hg,rfl,T1,fun e he=>let⟨q,_,g⟩:=back1 e he;⟨q,g⟩,room1⟩;have nd1:(k::ks).Nodup:=List.nodup_cons.mpr ⟨knew,nd⟩;have ln1:(k::ks).length=ts1.length:=by rw[List.length_cons,ln,l1]
   have fl1:=fill_of T1;by_cases full:t1.tooFull=true
   ·rw[full];simp only[Bool.not_false,Bool.and_self,↓reduceIte];have hfull:t1.mask * 3<=t1.fill * 5:=by
     unfold SetTable.tooFull at full;exact of_decide_eq_true full
    have eg:es.size+1=ts.length+1:=by rw[<-Array.length_toList,Z.tok.es,List.length_map]
    rw[eg];obtain⟨n1,n2,n3,n4⟩:=next_size Z.tok.mo ln3 (by rw[fl1,tm,l1] at hfull;exact hfull) (by omega);obtain⟨t2,order,ts2,r1,r2,T2,P2,m2,_,_⟩:=T1.relay n1 (by omega);unfold setRelay;refine wpAny_bind ?_;refine wpAny_bind (wpAny_setState_of (s:={s2 with heap:=h1}) hg rfl Z1.fits ?_);dsimp only;rw[if_neg (by omega),r1];refine wpAny_bind (wpAny_of_eq (show _=pure (order.filterMap fun k=>es1[k]?,t2) from if_neg (c:=((order.filterMap fun k=>es1[k]?).size != es1.size)=true) (by rw[r2];simp)) ?_);dsimp only;refine wpAny_storeSet_of (s:={s2 with heap:=h1}) hg rfl ?_ (by omega);have sb2:=Heap.SameBut.update h1 S (Obj.putSet (order.filterMap fun k=>es1[k]?) t2);have hg2:(h1.update S (Obj.putSet (order.filterMap fun k=>es1[k]?) t2)).get? S=some {o with data:=.set (order.filterMap fun k=>es1[k]?) (ep+1+1) t2}:=by
     have:=Heap.get?_update_self (Obj.putSet (order.filterMap fun k=>es1[k]?) t2) hg (by rw[putSet_of _ t2 (o:={o with data:=.set es1 (ep+1) t1}) rfl];rfl);rw[putSet_of _ t2 (o:={o with data:=.set es1 (ep+1) t1}) rfl] at this;exact this
    show wpAny _ _ (pure true) Q E {s2 with heap:=h1.update S (Obj.putSet (order.filterMap fun k=>es1[k]?) t2)};generalize h1.update S (Obj.putSet (order.filterMap fun k=>es1[k]?) t2)=h2 at sb2 hg2 ⊢;have kE2: ∀{e e':Nat×Int×Value} {q:List Int},e.2=e'.2->Ent prog w h1 e q->Ent prog w h2 e' q:=fun z ⟨b,q1,q2,q3⟩=>⟨b,by rw[<-z];exact q1,TK.keep q2 hg rfl sb2,by rw[<-z];exact q3⟩;have l2:ts2.length=ts1.length:=by have:=P2.length_eq;rw[List.length_map,List.length_map] at this;exact this
    have back2: ∀e,e∈ts2->∃q,q∈k::ks/\Ent prog w h2 e q:=fun e he=>by
     obtain⟨e',g1,g2⟩:=List.mem_map.mp (P2.mem_iff.mp (List.mem_map.mpr ⟨e,he,rfl⟩));obtain⟨q,g3,g4⟩:=back1 e' g1;exact⟨q,g3,kE2 g2 g4⟩
    have forth2: ∀q,q∈k::ks->∃e,e∈ts2/\Ent prog w h2 e q:=fun q hq=>by
     obtain⟨e,g1,g2⟩:=forth1 q hq;obtain⟨e',g3,g4⟩:=List.mem_map.mp (P2.mem_iff.mpr (List.mem_map.mpr ⟨e,g1,rfl⟩));exact⟨e',g3,kE2 g4.symm g2⟩
    have fl2:=fill_of T2;refine wpAny_pure (h' h2 (k::ks) true (sb.trans sb2) ⟨_,_,_,_,ts2,⟨hg2,rfl,T2,fun e he=>let⟨q,_,g⟩:=back2 e he;⟨q,g⟩,by omega⟩,ex,by rw[fl2,m2];omega,nd1,ln1.trans l2.symm,back2,forth2⟩ (fun q=>absurd q knew) fun _=>rfl)
   ·have hf:t1.tooFull=false:=by simpa using full
    rw[hf];simp only[Bool.not_false,Bool.and_false,Bool.false_eq_true,↓reduceIte];have hload:t1.fill * 5<t1.mask * 3:=by
     unfold SetTable.tooFull at hf;have:=of_decide_eq_false hf;omega
    exact wpAny_pure (h' h1 (k::ks) true sb ⟨_,_,_,_,ts1,Z1,ex,hload,nd1,ln1,back1,forth1⟩ (fun q=>absurd q knew) fun _=>rfl)
  split
  ·refine wpAny_bind (wp_hashByValue hk ?_);simp only[↓reduceIte];exact tail
  ·refine wpAny_bind (wpAny_pure ?_);simp only[↓reduceIte];exact tail
end
def dd(ks:List (List Int)):List (List Int):=ks.foldl (fun acc k=>if k∈acc then acc else k::acc) []
theorem dd_snoc(ks:List (List Int))(k:List Int):dd (ks++[k])=if k∈dd ks then dd ks else k::dd ks:=by
 unfold dd;rw[List.foldl_append];rfl
theorem dd_mem: ∀(n:Nat) (ks:List (List Int)),ks.length=n->∀k,k∈dd ks↔k∈ks
 |0,ks,h,k=>by
  have:ks=[]:=List.length_eq_zero_iff.mp h;subst this;exact Iff.rfl
 |n+1,ks,h,k=>by
  obtain⟨l,x,rfl⟩: ∃l x,ks=l++[x]:=⟨ks.dropLast,ks.getLast (by intro e;rw[e] at h;cases h),(List.dropLast_concat_getLast _).symm⟩;have ih:=dd_mem n l (by rw[List.length_append] at h;simpa using h);rw[dd_snoc];by_cases q:x∈dd l
  ·rw[if_pos q,ih,List.mem_append,List.mem_singleton];refine⟨.inl,fun z=>z.elim id fun e=> ?_⟩;rw[e];exact(ih x).mp q
  ·rw[if_neg q,List.mem_cons,ih,List.mem_append,List.mem_singleton];exact⟨fun z=>z.elim .inr .inl,fun z=>z.elim .inr .inl⟩
theorem dd_le: ∀(n:Nat) (ks:List (List Int)),ks.length=n->(dd ks).length<=n/\((dd ks).length=n↔ks.Nodup)
 |0,ks,h=>by
  have:ks=[]:=List.length_eq_zero_iff.mp h;subst this;exact⟨Nat.le_refl _,fun _=>List.nodup_nil,fun _=>rfl⟩
 |n+1,ks,h=>by
  obtain⟨l,x,rfl⟩: ∃l x,ks=l++[x]:=⟨ks.dropLast,ks.getLast (by intro e;rw[e] at h;cases h),(List.dropLast_concat_getLast _).symm⟩;have hl:l.length=n:=by rw[List.length_append] at h;simpa using h
  obtain⟨i1,i2⟩:=dd_le n l hl;have hm:=dd_mem n l hl x;rw[dd_snoc,List.nodup_append];by_cases q:x∈dd l
  ·rw[if_pos q];refine⟨by omega,fun e=>by omega,fun⟨_,_,z⟩=>absurd rfl (z x (hm.mp q) x (by simp))⟩
  ·rw[if_neg q,List.length_cons];refine⟨by omega,fun e=>⟨i2.mp (by omega),by simp,fun a ha b hb e2=> ?_⟩,fun⟨z,_,_⟩=>by rw[i2.mpr z]⟩;have:b=x:=by simpa using hb
   rw[e2,this] at ha;exact q (hm.mpr ha)
section
variable {prog:Program}{w:World}{A:Around}{E:Value->Shared->Prop}{s:Shared}
theorem TK.keepI{h h':Heap}{I l b:Addr}{i:Nat}{k:List Int}(x:TK prog w h k b)(hI:h.IsListIter I l i)(hk: ∀b o,b∉[I]->h.get? b=some o->h'.get? b=some o):TK prog w h' k b:=by
 obtain⟨o,items,n,ho,hc,hd,hi⟩:=x;refine⟨o,items,n,hk b o (fun m=> ?_) ho,hc,hd,hi⟩;have e:b=I:=by simpa using m
 obtain⟨oI,eI,cI,_⟩:=hI;rw[e,eI] at ho;obtain rfl:=Option.some.inj ho;rw[cI] at hc;injection hc with hc
 exact absurd hc (by decide)
theorem SetK.keepI{h h':Heap}{I l S:Addr}{i:Nat}{ks:List (List Int)}(x:SetK prog w h S ks)(hI:h.IsListIter I l i)(hS:S≠I)(hk: ∀b o,b∉[I]->h.get? b=some o->h'.get? b=some o):SetK prog w h' S ks:=by
 obtain⟨o,es,ep,t,ts,Z,ex,ld,nd,ln,back,forth⟩:=x;have kE: ∀{e:Nat×Int×Value} {q:List Int},Ent prog w h e q->Ent prog w h' e q:=fun⟨b,q1,q2,q3⟩=>⟨b,q1,q2.keepI hI hk,q3⟩;exact⟨o,es,ep,t,ts,⟨hk S o (fun m=>hS (by simpa using m)) Z.get,Z.dat,Z.tok,fun e he=>let⟨q,g⟩:=Z.ent e he;⟨q,kE g⟩,Z.room⟩,ex,ld,nd,ln,fun e he=>let⟨q,g1,g2⟩:=back e he;⟨q,g1,kE g2⟩,fun q hq=>let⟨e,g1,g2⟩:=forth q hq;⟨e,g1,kE g2⟩⟩
theorem setLoop{R:Result->Shared->Prop}{I l S:Addr}{items:Array Value}{ks:List (List Int)}(hh:A.in1.handled=none)(hu:A.in1.units<cLine)(hlI:l≠I)(hSI:S≠I)(hSl:S≠l)(hn:items.size=ks.length)(h299:ks.length<=299):
  ∀(j i:Nat) (s:Shared),items.size - i=j->i<=items.size->(s.heap.IsListIter I l i/\s.heap.IsList l items)->(∀(n:Nat) (v:Value),items[n]? =some v->∃k a,v=.ref a/\ks[n]? =some k/\TK prog w s.heap k a)->SetK prog w s.heap S (dd (ks.take i))->
   (∀h' tk,(∀b o,b≠S->b≠I->s.heap.get? b=some o->h'.get? b=some o)->SetK prog w h' S (dd ks)->R (.ok (.ret .none)) {s with heap:=h',toks:=tk})->
   codeAny (model prog w) A (.builtin "set.update.loop" ⟨[.ref S,.ref I],[]⟩) R s:=by
 have W:Walks prog w A.in1 I [I,l] [I] items.size (fun i v=>items[i]? =some v) (fun i h=>h.IsListIter I l i/\h.IsList l items):=Walks.list hh I l hlI items;intro j;induction j with
 |zero=>
  intro i s hj hi st hv hS hR;have e:i=items.size:=by omega
  refine codeAny_builtin PyProof.Rows.F.entry_set_update_loop (Eq.mpr (by rw[Around.under_plainId PyProof.Rows.F.plain_set_update_loop _]) ?_);show wpAny _ A.in1 (pyNext (.ref I) >>= _) _ _ s;refine wpAny_bind (W.done s _ _ (e ▸ st) fun h' tk hk=> ?_);show wpAny _ A.in1 (ret Value.none) _ _ _;refine wpAny_pure (hR h' tk (fun b o _ q2 q3=>hk b o (fun m=>q2 (by simpa using m)) q3) ?_);have:=hS.keepI st.1 hSI hk;rw[e,hn,List.take_length] at this;exact this
 |succ j ih=>
  intro i s hj hi st hv hS hR;have lt:i<items.size:=by omega
  refine codeAny_builtin PyProof.Rows.F.entry_set_update_loop (Eq.mpr (by rw[Around.under_plainId PyProof.Rows.F.plain_set_update_loop _]) ?_);show wpAny _ A.in1 (pyNext (.ref I) >>= _) _ _ s;refine wpAny_bind (W.item i s _ _ lt st fun v h' tk hP st' hk=> ?_);obtain⟨k,a,rfl,ek,ta⟩:=hv i v hP;have S1:=hS.keepI st.1 hSI hk;have ta1:=ta.keepI st.1 hk;show wpAny _ A.in1 (holding [Value.ref a] (setAdd S (.ref a)) >>= _) _ _ _;have hlen:(dd (ks.take i)).length+1<=300:=by
   have:=(dd_le _ (ks.take i) rfl).1;rw[List.length_take] at this;omega
  refine wpAny_bind (wpAny_holding (wp_add (s:={s with heap:=h',toks:=tk}) S1 ta1 hu hlen fun h2 tk2 ks2 b sb S2 k1 k2=> ?_));obtain⟨oS,_,_,_,_,ZS,_⟩:=id S1;have e2:ks2=dd (ks.take (i+1)):=by
   rw[List.take_add_one,ek];show _=dd (ks.take i++[k]);rw[dd_snoc];by_cases q:k∈dd (ks.take i)
   ·rw[if_pos q];exact k1 q
   ·rw[if_neg q];exact k2 q
  rw[e2] at S2;have keep: ∀b o,b≠S->h'.get? b=some o->h2.get? b=some o:=fun b o q e=>(sb.2 b q).trans e;have st2:h2.IsListIter I l (i+1)/\h2.IsList l items:=W.frame _ _ _ st' fun b hb o e=>keep b o (fun z=>by
   rcases List.mem_cons.mp hb with q|q
   ·exact hSI (z.symm.trans q)
   ·exact hSl (z.symm.trans (by simpa using q))) e
  refine wpAny_pure ⟨plainId_quiet PyProof.Rows.F.plain_set_update_loop _,ih (i+1) _ (by omega) lt st2 (fun n v e=> ?_) S2 fun h3 tk3 hk3 S3=> ?_⟩
  ·obtain⟨k',a',e1,e2,e3⟩:=hv n v e;exact⟨k',a',e1,e2,TK.keep (e3.keepI st.1 hk) ZS.get ZS.dat sb⟩
  ·exact hR h3 tk3 (fun b o q1 q2 q3=>hk3 b o q1 q2 (keep b o q1 (hk b o (fun m=>q2 (by simpa using m)) q3))) S3
theorem SetK.fresh{h:Heap}{S:Addr}(led:Bool)(e:h.get? S=some {cls:=.type "set",dict:=none,data:=.set #[] 0 (.fresh 0 0 led)}):SetK prog w h S []:=by
 refine⟨_,#[],0,.fresh 0 0 led,[],⟨e,rfl,⟨rfl,rfl,List.Pairwise.nil,rfl,.inl rfl,fun e he=>(by cases he),fun e he=>(by cases he)⟩,fun e he=>(by cases he),Nat.zero_le _⟩,⟨rfl,rfl,rfl⟩,by show 0<21;decide,List.nodup_nil,rfl,fun e he=>(by cases he),fun k hk=>(by cases hk)⟩
theorem set_call{l:Addr}{items:Array Value}{ks:List (List Int)}{Q:Value->Shared->Prop}(hh:A.handled=none)(hu:A.units+10<cLine)(hl:s.heap.IsList l items)(hn:items.size=ks.length)(h299:ks.length<=299)
  (hv: ∀(n:Nat) (v:Value),items[n]? =some v->∃k a,v=.ref a/\ks[n]? =some k/\TK prog w s.heap k a)
  (h: ∀(h':Heap) (tk:Nat),SetK prog w h' s.heap.objs.size (dd ks)->(∀b o,b<s.heap.objs.size->s.heap.get? b=some o->h'.get? b=some o)->Q (.ref s.heap.objs.size) {s with heap:=h',toks:=tk}):
  wpAny (model prog w) A (call (.type "set") [.ref l]) Q E s:=by
 obtain⟨c,tl,hmro⟩:=F.called_set.mro;have hmade:=F.called_set.made;have hsub:=F.called_set.sub;have h1:=F.called_set.notType;have h2:=F.called_set.canCreate;have hct:=F.typeCall_set_1 (.ref l);refine wpAny_call (codeAny_of_tree (show wpAny _ _ (callAny (.type "set") _) _ _ _ from wpAny_pure ⟨Code.quiet_builtin _ (by decide +kernel),codeAny_builtin F.entry_type_call ?_⟩));rw[Around.under_plain (weight_type_call_type "set" [.ref l] []) rfl];repeat (any_goals (first|assumption|wp_step))
 refine codeAny_mono (code_set_new_1 (.ref l) (E:=E) (Q₁:=fun x s1=>∃led:Bool,x=.ref s.heap.objs.size/\s1={s with heap:=s.heap.push {cls:=.type "set",dict:=none,data:=.set #[] 0 (.fresh 0 0 led)}}) fun led=>⟨led,rfl,rfl⟩) fun r s1 hr=> ?_;cases r with
 |error e=>exact hr
 |ok fl=>
  cases fl with
  |ret obj=>
   obtain⟨led,rfl,rfl⟩:=hr;have gS:(s.heap.push {cls:=.type "set",dict:=none,data:=.set #[] 0 (.fresh 0 0 led)}).get? s.heap.objs.size=some {cls:=.type "set",dict:=none,data:=.set #[] 0 (.fresh 0 0 led)}:=Heap.get?_push_size _ rfl;have hT:Shared.TypeIs {s with heap:=s.heap.push {cls:=.type "set",dict:=none,data:=.set #[] 0 (.fresh 0 0 led)}} (.ref s.heap.objs.size) "set":=⟨_,gS,rfl⟩;have hli:=F.called_set.init.lookup;have hbi:=F.called_set.init.bind (.ref s.heap.objs.size);repeat (any_goals (first|assumption|wp_step))
   refine codeAny_mono (codeAny_call_builtin (R:=wants (fun r s2=>r=.none/\∃h' tk,s2={s with heap:=h',toks:=tk}/\SetK prog w h' s.heap.objs.size (dd ks)/\∀b o,b<s.heap.objs.size->s.heap.get? b=some o->h'.get? b=some o) E) F.called_set.init.plain F.entry_set_init (check_set_init_1 hT ?_)) fun r2 s2 hr2=> ?_
   ·obtain⟨ol,hol,hcl,nl,hdl⟩:=hl;obtain⟨ocls,odict,odata,oslots⟩:=ol;simp only at hcl hdl;subst hcl;subst hdl;have hol':(s.heap.push {cls:=.type "set",dict:=none,data:=.set #[] 0 (.fresh 0 0 led)}).get? l=some {cls:=.type "list",dict:=odict,data:=.seq items nl,slots:=oslots}:=Heap.get?_push_of_some _ hol;have q1:=F.sub_list_set;have q2:=F.sub_list_frozenset;have q3:(Value.type "list"==Value.type "dict")=false:=by decide
    have hl1:(s.heap.push {cls:=.type "set",dict:=none,data:=.set #[] 0 (.fresh 0 0 led)}).IsList l items:=⟨_,hol',rfl,nl,rfl⟩;unfold Builtin.«set.__init__» noKeywords Builtin.Frozenset.updateFrom;generalize hPI:pyIter=PI;wp_walk;subst hPI;refine wpAny_pyIter_list hl1 (wpAny_bind (wpAny_runValue ?_));have llt:l<s.heap.objs.size:=Heap.lt_size hol;have zsz:(s.heap.push {cls:=.type "set",dict:=none,data:=.set #[] 0 (.fresh 0 0 led)}).objs.size=s.heap.objs.size+1:=Heap.size_push ..;have hh3:A.in1.in1.in1.handled=none:=by simp[hh]
    refine setLoop (A:=A.in1.in1) (I:=(s.heap.push {cls:=.type "set",dict:=none,data:=.set #[] 0 (.fresh 0 0 led)}).objs.size) (l:=l) (S:=s.heap.objs.size) (items:=items) (ks:=ks) hh3 ?hu ?n1 ?n2 ?n3 hn h299 _ 0 _ rfl (Nat.zero_le _) ⟨⟨_,Heap.get?_push_size _ rfl,rfl,rfl⟩,hl1.push _⟩ ?hv ?hS ?hR
    case hu=>show A.units+1+1+1<cLine;omega
    case n1=>rw[zsz];exact Nat.ne_of_lt (Nat.lt_succ_of_lt llt)
    case n2=>rw[zsz];exact Nat.ne_of_lt (Nat.lt_succ_self _)
    case n3=>exact Nat.ne_of_gt llt
    case hv=>
     intro n v e;obtain⟨k,a,e1,e2,o,its,m,e3,e4⟩:=hv n v e;exact⟨k,a,e1,e2,o,its,m,Heap.get?_push_of_some _ (Heap.get?_push_of_some _ e3),e4⟩
    case hS=>exact SetK.fresh led (Heap.get?_push_of_some _ gS)
    case hR=>
     intro h' tk hk S';show wpAny _ _ _ _ _ _;refine wpAny_pure (show wpAny _ _ (ret Value.none) _ _ _ from wpAny_pure ⟨rfl,h',tk,rfl,S',fun b o hb e=>hk b o (Nat.ne_of_lt hb) (by rw[zsz];exact Nat.ne_of_lt (Nat.lt_succ_of_lt hb)) (Heap.get?_push_of_some _ (Heap.get?_push_of_some _ e))⟩)
   ·cases r2 with
    |error e=>exact hr2
    |ok fl2=>
     cases fl2 with
     |ret r=>
      obtain⟨rfl,h',tk,rfl,hS',hk'⟩:=hr2
      repeat (any_goals (first|assumption|wp_step))
      exact h _ _ hS' hk'
     |_=>exact hr2.elim
  |_=>exact hr.elim
end
end GW
namespace GW
open PySem PySem.Spec PyProof.Rows L2
def SetN(S:Addr)(n:Nat):Heap->Prop:=fun h=>∃o es ep t,h.get? S=some o/\o.ExactSet/\o.data=.set es ep t/\t.fits es.size=true/\es.size=n
theorem SetK.n{prog:Program}{w:World}{h:Heap}{S:Addr}{ks:List (List Int)}(x:SetK prog w h S ks):SetN S ks.length h:=by
 obtain⟨o,es,ep,t,ts,Z,ex,ld,nd,ln,_,_⟩:=x;refine⟨o,es,ep,t,Z.get,ex,Z.dat,Z.fits,?_⟩;rw[<-Array.length_toList,Z.tok.es,List.length_map,ln]
theorem items_of{prog:Program}{w:World}: ∀{k:List Int} {its:List Value},Vals (k.map V.int) its->ItemsAre (intKind prog w) k its
 |[],its,h=>by
  cases h;exact .nil
 |z::k,its,h=>by
  cases h with
  |cons r t=>
   obtain⟨tk,rfl⟩:=r;exact .cons (intKind_is _ _ _ _) (items_of t)
section
variable {X:Cx}
def rSetT(K:PySem.W.Frag):List V->Hp->VK->Prop:=fun xs H Q=>∃(a:Addr) (ps:List Addr) (ks:List (List Int)),xs=[.ref a]/\SqL K H a (ps.map V.ref)/\ps.length=ks.length/\ks.length<=299/\(∀(i:Nat) (p:Addr) (k:List Int),ps[i]? =some p->ks[i]? =some k->H p=some (.tup (k.map V.int)))/\
 ∀S,H S=none->Q (.ref S) (upd H S (.ext (SetN S (dd ks).length)))
theorem cr_set(hc:X.calm=true)(hu:X.A.units+10<cLine):CallR X (.type "set") (rSetT X.K):=by
 intro pins s σ H vs us Q I r h;obtain⟨a,ps,ks,rfl,hs,hl1,h299,hps,q⟩:=h;obtain⟨its,rv,hl,_⟩:=I.list hs;rw[Vals.ref1 r];have hlen:=rv.length;rw[List.length_map] at hlen;refine set_call (I.ok.hd hc) hu hl.isList (ks:=ks) (by rw[List.size_toArray];omega) h299 (fun n v e=> ?_) fun h' tk S' hk=> ?_
 ·have e:its[n]? =some v:=by simpa using e
  have hn:n<ps.length:=by have:=(List.getElem?_eq_some_iff.mp e).1;omega
  obtain⟨p,ep⟩: ∃p,ps[n]? =some p:=⟨_,List.getElem?_eq_getElem hn⟩;obtain⟨k,ek⟩: ∃k,ks[n]? =some k:=⟨_,List.getElem?_eq_getElem (by omega)⟩;obtain⟨u,e1,e2⟩:=rv.get (i:=n) (x:=V.ref p) (by rw[List.getElem?_map,ep];rfl);rw[e] at e1;obtain rfl:=Option.some.inj e1;obtain rfl:v=Value.ref p:=e2;obtain⟨_,its2,rv2,o,ho,hcl,m,hd⟩:=I.hok p _ (hps n p k ep ek);exact⟨k,p,rfl,ek,o,its2.toArray,m,ho,hcl,hd,by simpa using items_of rv2⟩
 ·have hn:H s.heap.objs.size=none:=I.hok.fresh (Nat.le_refl _);refine⟨.ref s.heap.objs.size,_,I.laid (t':=tk) (o:=.ext (SetN s.heap.objs.size (dd ks).length)) (fun b o e=>hk b o (Heap.lt_size e) e) (Nat.le_refl _) ⟨S'.n,?_,fun h1 h2 g1 g2=> ?_⟩,rfl,q _ hn⟩
  ·obtain⟨o,_,_,_,_,Z,_⟩:=S';exact⟨o,Z.get⟩
  ·obtain⟨o,es,ep,t,e1,e2⟩:=g1;exact⟨o,es,ep,t,g2 o e1,e2⟩
theorem cr_lenSet:CallR X (.builtin "len") (fun xs H Q=>∃S n,xs=[.ref S]/\n<1000/\H S=some (.ext (SetN S n))/\Q (.int (n:Nat)) H):=by
 intro pins s σ H vs us Q I r h;obtain⟨S,n,rfl,hn,hs,q⟩:=h;rw[Vals.ref1 r];obtain⟨⟨o,es,ep,t,e1,e2,e3,e4,e5⟩,_⟩:=I.hok S _ hs;exact call_len_set e1 e2 e3 e4 (by omega) ⟨.int (n:Nat),H,I.tok _,⟨_,by rw[e5]⟩,q⟩
end
def lexLe(e f:Int×Int):Prop:=e.1<f.1∨(e.1=f.1/\e.2<=f.2)
def eOf(H:Hp)(p:Addr):Int×Int:=match H p with
 |some (.tup [.int a,.int b])=>(a,b)
 |_=>(0,0)
theorem eOf_tup{H:Hp}{p:Addr}{e:Int×Int}(h:H p=some (.tup [.int e.1,.int e.2])):eOf H p=e:=by
 unfold eOf;rw[h]
def sh0:Nat->Bool:=fun _=>false
def unref:Value->Addr
 |.ref a=>a
 |_=>0
theorem lex2{a b c d:Int}(h:lexLt itemOrd [Sum.inl c,Sum.inl d] [Sum.inl a,Sum.inl b]=false):lexLe (a,b) (c,d):=by
 obtain⟨h1,h2⟩:=lex_false.mp h;have h1:decide (c<a)=false:=h1;have h1:=of_decide_eq_false h1;rcases h2 with h2|h2
 ·have h2:decide (a<c)=true:=h2;exact .inl (of_decide_eq_true h2)
 ·obtain⟨h3,_⟩:=lex_false.mp h2;have h3:decide (d<b)=false:=h3;have h3:=of_decide_eq_false h3;by_cases q:a<c
  ·exact .inl q
  ·refine .inr ⟨?_,?_⟩
   ·show a=c;omega
   ·show b<=d;omega
section
variable {X:Cx}
def PsAt(H:Hp)(ps:List Addr)(es:List (Int×Int)):Prop:=ps.length=es.length/\∀(i:Nat) (p:Addr) (e:Int×Int),ps[i]? =some p->es[i]? =some e->H p=some (.tup [.int e.1,.int e.2])
theorem PsAt.map{H:Hp}{ps:List Addr}{es:List (Int×Int)}(h:PsAt H ps es):es=ps.map (eOf H):=by
 refine List.ext_getElem? fun i=> ?_;rw[List.getElem?_map];cases e1:ps[i]? with
 |none=>
  have:=List.getElem?_eq_none_iff.mp e1;rw[List.getElem?_eq_none (by rw[<-h.1];exact this)];rfl
 |some p=>
  have hi:=(List.getElem?_eq_some_iff.mp e1).1;obtain⟨e,he⟩: ∃e,es[i]? =some e:=⟨_,List.getElem?_eq_getElem (by rw[<-h.1];exact hi)⟩;rw[he];show some e=some (eOf H p);rw[eOf_tup (h.2 i p e e1 he)]
theorem PsAt.mem{H:Hp}{ps:List Addr}{es:List (Int×Int)}(h:PsAt H ps es){p:Addr}(hp:p∈ps):H p=some (.tup [.int (eOf H p).1,.int (eOf H p).2]):=by
 obtain⟨i,hi⟩:=List.mem_iff_getElem?.mp hp;obtain⟨e,he⟩: ∃e,es[i]? =some e:=⟨_,List.getElem?_eq_getElem (by rw[<-h.1];exact(List.getElem?_eq_some_iff.mp hi).1)⟩;have:=h.2 i p e hi he;rw[eOf_tup this];exact this
theorem PsAt.of{H:Hp}{ps:List Addr}(h: ∀p,p∈ps->H p=some (.tup [.int (eOf H p).1,.int (eOf H p).2])):PsAt H ps (ps.map (eOf H)):=by
 refine⟨by rw[List.length_map],fun i p e e1 e2=> ?_⟩;rw[List.getElem?_map,e1] at e2;have:eOf H p=e:=Option.some.inj e2;rw[<-this];exact h p (List.mem_of_getElem? e1)
def rSortP(K:PySem.W.Frag):List V->Hp->VK->Prop:=fun xs H Q=>∃(a:Addr) (ps:List Addr) (es:List (Int×Int)),xs=[.ref a]/\SqL K H a (ps.map V.ref)/\PsAt H ps es/\ps.length<1000/\
 ∀(S:Addr) (ps':List Addr) (es':List (Int×Int)),H S=none->PsAt H ps' es'->es'.Perm es->es'.Pairwise lexLe->Q (.ref S) (upd H S (.lst (ps'.map V.ref)))
theorem Jq: ∀{ps:List Addr} {us:List Value},Vals (ps.map V.ref) us->us=ps.map Value.ref
 |[],us,h=>by cases h;rfl
 |p::ps,us,h=>by
  cases h with
  |cons r t=>
   obtain rfl:=r;rw[Jq t];rfl
theorem vals_refs': ∀(ps:List Addr),Vals (ps.map V.ref) (ps.map Value.ref)
 |[]=>.nil
 |p::ps=>.cons rfl (vals_refs' ps)
theorem cr_sortedP:CallR X (.builtin "sorted") (rSortP X.K):=by
 intro pins s σ H vs us Q I r h;obtain⟨a,ps,es,rfl,hs,hp,hlt,q⟩:=h;obtain⟨its,rv,hl,_⟩:=I.list hs;rw[Vals.ref1 r];obtain rfl:=Jq rv;have tup: ∀p,p∈ps->∃o t1 t2 n,s.heap.get? p=some o/\o.cls=.type "tuple"/\o.data=.seq #[.int (eOf H p).1 t1,.int (eOf H p).2 t2] n:=fun p hpm=>by
  obtain⟨_,its2,rv2,o,ho,hcl,m,hd⟩:=I.hok p _ (hp.mem hpm);obtain⟨t1,t2,e⟩:=Vals.int2 rv2;exact⟨o,t1,t2,m,ho,hcl,by rw[hd,e]⟩
 have key: ∀p,p∈ps->PyProof.Rows.G.tupKeyC s.heap sh0 (.ref p)=some [Sum.inl (eOf H p).1,Sum.inl (eOf H p).2]:=fun p hpm=>by
  obtain⟨o,t1,t2,n,ho,hcl,hd⟩:=tup p hpm;unfold PyProof.Rows.G.tupKeyC;rw[if_pos (by unfold PyProof.Rows.G.isTupObj;simp[ho,hcl])];unfold tupKey;simp only[ho,hd];rfl
 have tups: ∀(l:List Addr),(∀p,p∈l->p∈ps)->∃fs,TupsOf s.heap sh0 (l.map Value.ref) fs:=by
  intro l;induction l with
  |nil=>exact fun _=>⟨[],.nil⟩
  |cons p l ih=>
   intro hsub;obtain⟨fs,hf⟩:=ih fun x hx=>hsub x (List.mem_cons_of_mem _ hx);obtain⟨o,t1,t2,n,ho,hcl,hd⟩:=tup p (hsub p List.mem_cons_self);exact⟨_,.cons ⟨p,o,_,n,rfl,ho,hcl,hd,rfl,fun _=>⟨_,_,rfl⟩,fun z=>absurd z (by decide)⟩ hf⟩
 obtain⟨fs,hfs⟩:=tups ps fun _ h=>h;have hsl:sizeLine=16777216:=sizeLine_eq;refine PyProof.Rows.G.sorted_tups hl.isList hfs (fun v hv=> ?_) (by rw[List.length_map];omega) fun st h1 h2 _=> ?_
 ·obtain⟨p,hpm,rfl⟩:=List.mem_map.mp hv;exact⟨_,key p hpm⟩
 ·obtain⟨ep,he⟩:=PyProof.Rows.sortedAll_at s.heap (ps.map Value.ref) ((arrOf st).map (·.2));have pm:(arrOf st).toList.Perm ((ps.map Value.ref).zip (ps.map Value.ref)):=by
   have:=Array.perm_iff_toList_perm.mp h1;rw[pairsOf_toList] at this;exact this
  have mem: ∀z,z∈(arrOf st).toList->∃p,p∈ps/\z=(.ref p,.ref p):=fun z hz=>by
   obtain⟨i,hi⟩:=List.mem_iff_getElem?.mp (pm.mem_iff.mp hz);obtain⟨e1,e2⟩:=List.getElem?_zip_eq_some.mp hi;rw[List.getElem?_map] at e1 e2;cases ep:ps[i]? with
   |none=>rw[ep] at e1;cases e1
   |some p=>
    rw[ep] at e1 e2;exact⟨p,List.mem_of_getElem? ep,Prod.ext (Option.some.inj e1).symm (Option.some.inj e2).symm⟩
  generalize arrOf st=arr at h2 pm mem he ⊢;have eps:(arr.map (·.2)).toList=(arr.toList.map fun z=>unref z.1).map Value.ref:=by
   rw[Array.toList_map,List.map_map];refine List.map_congr_left fun z hz=> ?_;obtain⟨p,_,rfl⟩:=mem z hz;rfl
  have pps:(arr.toList.map fun z=>unref z.1).Perm ps:=by
   have:=pm.map fun z=>unref z.1;refine this.trans ?_;have e:((ps.map Value.ref).zip (ps.map Value.ref)).map (fun z=>unref z.1)=ps:=by
    rw[List.zip_map',List.map_map];exact List.map_id _
   rw[e]
  generalize hps':(arr.toList.map fun z=>unref z.1)=ps' at eps pps;have hlen:ps'.length=ps.length:=pps.length_eq;have srt:(ps'.map (eOf H)).Pairwise lexLe:=by
   rw[List.pairwise_iff_getElem];intro i j hi hj hij;rw[List.length_map] at hi hj;have sz:arr.size=ps'.length:=by rw[<-hps',List.length_map,Array.length_toList]
   have at_: ∀i,(h:i<ps'.length)->KK (PyProof.Rows.G.tupKindC s.heap sh0) arr i=[Sum.inl (eOf H ps'[i]).1,Sum.inl (eOf H ps'[i]).2]:=fun i h=>by
    have h0:arr[i]? =some arr[i]:=Array.getElem?_eq_getElem (by omega);obtain⟨p,hpm,ez⟩:=mem arr[i] (by rw[Array.mem_toList_iff];exact Array.getElem_mem _);have ep':ps'[i]=p:=by
     have:ps'[i]? =some p:=by rw[<-hps',List.getElem?_map,Array.getElem?_toList,h0,ez];rfl
     rw[List.getElem?_eq_getElem h] at this;exact Option.some.inj this
    unfold KK;rw[h0,ez,ep'];show(PyProof.Rows.G.tupKeyC s.heap sh0 (.ref p)).getD _=_;rw[key p hpm];rfl
   have:=h2 i j (by omega) (by rw[pairsOf_size,List.length_map,<-hlen];exact hj);rw[at_ i hi,at_ j hj] at this;rw[List.getElem_map,List.getElem_map];exact lex2 this
  have hn:H (s.heap.objs.size+1)=none:=I.hok.fresh (Nat.le_succ _);refine⟨.ref _,upd H (s.heap.objs.size+1) (.lst (ps'.map V.ref)),I.laid (t':=s.toks) (fun _ _=>PyProof.Rows.sortedAll_old) (Nat.le_succ _) ⟨by rw[List.length_map];omega,ps'.map Value.ref,ep,vals_refs' ps',?_⟩,rfl,q _ ps' (ps'.map (eOf H)) hn (PsAt.of fun p hpm=>hp.mem (pps.mem_iff.mp hpm)) ?_ srt⟩
  ·rw[he,<-eps]
  ·rw[hp.map];exact pps.map _
end
section
variable {α:Type}(f:α->List V)
def PsG(D:Addr)(H:Hp)(qs:List Addr)(es:List α):Prop:=qs.length=es.length/\∀(j:Nat) (q:Addr) (e:α),qs[j]? =some q->es[j]? =some e->q≠D/\H q=some (.tup (f e))
def TupsT(H:Hp)(a:Addr)(es:List α):Prop:=∃ps:List Addr,H a=some (.lst (ps.map V.ref))/\ps.length=es.length/\∀(i:Nat) (p:Addr) (e:α),ps[i]? =some p->es[i]? =some e->H p=some (.tup (f e))
end
section
variable {α:Type}{f:α->List V}
theorem PsG.nil{D:Addr}{H:Hp}:PsG f D H [] []:=⟨rfl,fun j q e h=>by simp at h⟩
theorem PsG.mono{D:Addr}{H H':Hp}{qs:List Addr}{es:List α}(h:PsG f D H qs es)(s:SameX D H H'):PsG f D H' qs es:=
 ⟨h.1,fun j q e g1 g2=>⟨(h.2 j q e g1 g2).1,s _ _ (h.2 j q e g1 g2).1 (h.2 j q e g1 g2).2⟩⟩
theorem PsG.snoc{D t:Addr}{H H':Hp}{qs:List Addr}{es:List α}{e:α}(h:PsG f D H qs es)(s:Same H H')(ht:t≠D)(hv:H' t=some (.tup (f e))):PsG f D H' (qs++[t]) (es++[e]):=by
 refine⟨by rw[List.length_append,List.length_append,h.1];rfl,fun j q e' g1 g2=> ?_⟩;rcases Nat.lt_or_ge j qs.length with lt|ge
 ·rw[List.getElem?_append_left lt] at g1;rw[List.getElem?_append_left (by rw[<-h.1];exact lt)] at g2;exact⟨(h.2 j q e' g1 g2).1,s _ _ (h.2 j q e' g1 g2).2⟩
 ·have hj:j=qs.length:=by
   have:=(List.getElem?_eq_some_iff.mp g1).1;rw[List.length_append] at this;have e1:([t]:List Addr).length=1:=rfl;omega
  subst hj;rw[List.getElem?_append_right (Nat.le_refl _),Nat.sub_self] at g1;rw[h.1,List.getElem?_append_right (Nat.le_refl _),Nat.sub_self] at g2;obtain rfl:t=q:=Option.some.inj g1;obtain rfl:e=e':=Option.some.inj g2;exact⟨ht,hv⟩
def RTup(f:α->List V)(D:Addr)(F:Nat->List α):Nat->List V->Hp->Prop:=fun i out H=>∃qs:List Addr,out=qs.map V.ref/\PsG f D H qs (F i)
theorem RTup.mono{D:Addr}{F:Nat->List α}:RMono D (RTup f D F):=by
 rintro i out H H' s ⟨qs,e,h⟩;exact⟨qs,e,h.mono s⟩
theorem RTup.tups{D:Addr}{F:Nat->List α}{i:Nat}{out:List V}{H:Hp}(h:RTup f D F i out H)(hd:H D=some (.lst out)):TupsT f H D (F i):=by
 obtain⟨qs,e,h⟩:=h;rw[e] at hd;exact⟨qs,hd,h.1,fun j p x g1 g2=>(h.2 j p x g1 g2).2⟩
theorem TupsT.same{H H':Hp}{a:Addr}{es:List α}(h:TupsT f H a es)(s:Same H H'):TupsT f H' a es:=by
 obtain⟨ps,h1,h2,h3⟩:=h;exact⟨ps,s _ _ h1,h2,fun i p r e1 e2=>s _ _ (h3 i p r e1 e2)⟩
end
def pI(e:Int×Int):List V:=[.int e.1,.int e.2]
def tI(e:Int×Int×Int):List V:=[.int e.1,.int e.2.1,.int e.2.2]
def NewTups{α:Type}(f:α->List V)(H:Hp)(Q:VK)(es:List α):Prop:=∀(H':Hp) (p:Addr),H p=none->Same H H'->TupsT f H' p es->Q (.ref p) H'
theorem lc_rangeCS{lo c:Int}{n:Nat}{g:TG}{tt:TT}{te:TE}{vs:List Nat}{σ:L2.St}{H1:Hp}{D:Addr}{Qd:Hp->Prop}(R:Nat->List V->Hp->Prop)(hm:RMono D R)(hD:H1 D=none)(h0:R 0 [] H1)
  (hs: ∀i H out,i<n->Same H1 H->H D=some (.lst out)->out.length<=i->R i out H->g (.int (lo+(i:Nat) * c)) (wipe σ vs) H fun σ2 H2=>wipe σ2 vs=wipe σ vs/\tt σ2 H2 fun b H3=>
   if b=true then te σ2 H3 fun y H4=>∃acc,H4 D=some (.lst acc)/\acc.length<sizeLine/\LcI H1 D R (i+1) (upd H4 D (.lst (acc++[y]))) else LcI H1 D R (i+1) H3)
  (hd: ∀H out,Same H1 H->H D=some (.lst out)->out.length<=n->R n out H->Qd H):
  ∃W:Nat->Nat->Hp->Prop,(∃m,W 0 m (upd H1 D (.lst [])))/\∀i m H,W i m H->
   ((Itc lo c n).stop i H/\Qd H)∨((Itc lo c n).go i H/\∃Nx:Hp->Prop,(∀H',Nx H'->∃m',m'<m/\W (i+1) m' H')/\∀x H',(Itc lo c n).yld i H x H'->g x (wipe σ vs) H' fun σ2 H2=>wipe σ2 vs=wipe σ vs/\tt σ2 H2 fun b H3=>
    if b=true then te σ2 H3 fun y H4=>∃acc,H4 D=some (.lst acc)/\acc.length<sizeLine/\Nx (upd H4 D (.lst (acc++[y]))) else Nx H3):=by
 refine JW R hm hD (fun i H hi s=>hi) (fun H s=>Nat.le_refl _) h0 (fun i x H H' out hi s hd hl' r y=> ?_) hd;obtain⟨e,y⟩:=y;subst e y;exact hs i _ out hi s hd hl' r
theorem for_zipS{K:PySem.W.Frag}{a b:Addr}{xs ys:List V}{g:TG}{tb:TS}{D:Ends}{σ:L2.St}{H:Hp}(Pv:Nat->L2.St->Hp->Prop)(h0:Pv 0 σ H)(hx: ∀i σ H,Pv i σ H->SqL K H a xs)(hy: ∀i σ H,Pv i σ H->SqL K H b ys)(hn:xs.length=ys.length)
  (hs: ∀i T x y σ H,i<xs.length->xs[i]? =some x->ys[i]? =some y->H T=none->Pv i σ H->g (.ref T) σ (upd H T (.tup [x,y])) fun σ2 H2=>tb {D with nx:=Pv (i+1),ct:=Pv (i+1),bk:=D.nx} σ2 H2)(hd: ∀σ H,Pv xs.length σ H->D.nx σ H):
  ∃W:Nat->Nat->L2.St->Hp->Prop,(∃m,W 0 m σ H)/\∀i m σ H,W i m σ H->
   ((Itz K a b).stop i H/\D.nx σ H)∨((Itz K a b).go i H/\∃N:L2.St->Hp->Prop,(∀σ' H',N σ' H'->∃m',m'<m/\W (i+1) m' σ' H')/\∀x H',(Itz K a b).yld i H x H'->g x σ H' fun σ2 H2=>tb {D with nx:=N,ct:=N,bk:=D.nx} σ2 H2):=by
 refine for_gen Pv h0 (fun i σ H hi p=> ?_) (fun σ H p=>⟨xs,ys,hx _ σ H p,hy _ σ H p,by omega⟩) (fun i x σ H H' hi p y=> ?_) hd
 ·have h2:i<ys.length:=by omega
  exact⟨xs,ys,xs[i],ys[i],hx i σ H p,hy i σ H p,by simp[hi],by simp[h2]⟩
 ·obtain⟨T,x',y',e1,hT,e2,gx,gy⟩:=y;subst e1 e2;exact hs i T x' y' σ H hi (gx xs (hx i σ H p)) (gy ys (hy i σ H p)) hT p
theorem pgt3{X:Cx}(K:PySem.W.Frag)(i j l:Nat){x y z:Str}{p q r pos:Pos}{k:Nat}(hN:X.N.Nodup)(hK:X.K=K:=by rfl)(hc:X.calm=true:=by rfl)(hi:X.N[i]? =some x:=by rfl)(hx:Loc X.env.scope x:=by first|exact Or.inl rfl|exact Or.inr rfl)(hf:X.fn x=true∨X.env.scope.names.lookup x=some .local:=by first|exact .inl rfl|exact .inr rfl)
  (hj:X.N[j]? =some y:=by rfl)(hy:Loc X.env.scope y:=by first|exact Or.inl rfl|exact Or.inr rfl)(hg:X.fn y=true∨X.env.scope.names.lookup y=some .local:=by first|exact .inl rfl|exact .inr rfl)
  (hl:X.N[l]? =some z:=by rfl)(hz:Loc X.env.scope z:=by first|exact Or.inl rfl|exact Or.inr rfl)(hh:X.fn z=true∨X.env.scope.names.lookup z=some .local:=by first|exact .inl rfl|exact .inr rfl):
  PG X (.Tuple [.Name x p,.Name y q,.Name z r] k pos) (gTup K 3 (gCons (gName i) (gCons (gName j) (gCons (gName l) gNil)))):=by subst hK;exact pg_tup hc (yc (ZQ hN hi hx hf) (yc (ZQ hN hj hy hg) (yc (ZQ hN hl hz hh) pgs_nil)))
abbrev sEdge:Stmt:=top 26
abbrev sEdgesTold:Stmt:=top 27
abbrev sProper:Stmt:=top 28
abbrev sNeighbours:Stmt:=top 29
def mn(a b:Int):Int:=if b<a then b else a
def mx(a b:Int):Int:=if b>a then b else a
def pairsI:List Int->List (Int×Int)
 |a::b::l=>(mn a b,mx a b)::pairsI l
 |_=>[]
theorem vC: ∀(m:Nat) (ns:List Int),ns.length=2 * m->(pairsI ns).length=m/\∀i,i<m->(pairsI ns)[i]? =some (mn (at0 ns ((2 * i:Nat):Int)) (at0 ns ((2 * i+1:Nat):Int)),mx (at0 ns ((2 * i:Nat):Int)) (at0 ns ((2 * i+1:Nat):Int)))
 |0,ns,h=>by
  have:ns=[]:=List.length_eq_zero_iff.mp (by omega);subst this;exact⟨rfl,fun i hi=>by omega⟩
 |m+1,ns,h=>by
  match ns,h with
  |a::b::l,h=>
   obtain⟨h1,h2⟩:=vC m l (by simp at h;omega);refine⟨by unfold pairsI;rw[List.length_cons,h1],fun i hi=> ?_⟩;unfold pairsI
   match i,hi with
   |0,_=>rfl
   |i+1,hi=>
    rw[List.getElem?_cons_succ,h2 i (by omega)];have e: ∀k:Nat,at0 (a::b::l) ((k+2:Nat):Int)=at0 l (k:Nat):=fun k=>by
     unfold at0;rw[Int.toNat_natCast,Int.toNat_natCast];rfl
    rw[show 2 * (i+1)=2 * i+2 by omega,show 2 * i+2+1=(2 * i+1)+2 by omega,e,e]
  |[a],h=>
   rw[List.length_singleton] at h;omega
  |[],h=>
   rw[List.length_nil] at h;omega
def spEdge:Sp:=fun vs H Q _=>∃(a b:Int),vs=[.int a,.int b]/\∀t,H t=none->Q (.ref t) (upd H t (.tup [.int (mn a b),.int (mx a b)]))
def spEdgesTold(K:PySem.W.Frag):Sp:=fun vs H Q _=>∃(a:Addr) (ns:List Int) (m:Nat),vs=[.ref a]/\SqL K H a (ns.map V.int)/\ns.length=2 * m/\m<1000/\NewPairs H Q (pairsI ns)
def spProper:Sp:=fun vs H Q _=>∃(a:Addr) (es:List (Int×Int)),vs=[.ref a]/\PairsT H a es/\es.length<=299/\∀H',Same H H'->Q (.bl ((es.all fun e=> !decide (e.1=e.2))&&decide es.Nodup)) H'
section
variable {P:Program}{w:World}{K:PySem.W.Frag}{mg:Str->Option Value}{base:Heap}
theorem size2(m:Nat):Builtin.Range.rangeSize 0 ((2 * m:Nat):Int) 2=(m:Int):=by
 unfold Builtin.Range.rangeSize;rw[if_pos (by decide)];by_cases q:(0:Int)<((2 * m:Nat):Int)
 ·rw[if_pos q];omega
 ·rw[if_neg q];omega
theorem fitsL{z:Int}(h0:0<=z)(h1:z<5000):Builtin.Range.rangeFitsLong z=true:=by
 unfold Builtin.Range.rangeFitsLong;simp;omega
theorem range2(m:Nat)(h:m<1000):RgC 0 ((2 * m:Nat):Int) 2 m:=by
 refine⟨by decide,by decide,?_,size2 m⟩;unfold Builtin.Range.small;rw[size2,fitsL (by omega) (by omega),fitsL (by omega) (by omega),fitsL (by omega) (by omega),fitsL (by omega) (by omega),if_pos (by decide),fitsL (by omega) (by omega)];simp
theorem scEdge:FnScope ["a","b"] ["a","b"] (defScope sEdge):=⟨rfl,rfl,rfl,by decide +kernel,rfl,by decide +kernel,by decide +kernel⟩
theorem ok_edge{f:Addr}{fd:FuncData}(F:Fun K "edge_between" "edge_between" sEdge f fd)(B:Bi mg):FnOk P w K mg base CX0 1 f fd ["a","b"] spEdge:=by
 refine F.ok scEdge (fun vs H Q E h=> ?_) (fun cdv A outer s H vs Q E hr h=> ?_)
 ·obtain⟨a,b,rfl,_⟩:=h;rfl
 ·obtain⟨a,b,rfl,k⟩:=h;refine⟨_,zG (zM (YD (zA (zX (call_min2 rfl) rfl B.min boot_min (zA (pv 0) (zA (pv 1) zE))) (zA (zX (call_max2 rfl) rfl B.max boot_max (zA (pv 0) (zA (pv 1) zE))) zE)))),?_⟩;exact⟨_,rfl,_,rfl,_,_,rfl,_,rfl,_,rfl,_,_,rfl,(by show 2<=sizeLine;decide),fun t ht=>k t ht⟩
theorem scEdgesTold:FnScope ["numbers","place"] ["numbers"] (defScope sEdgesTold):=⟨rfl,rfl,rfl,by decide +kernel,rfl,by decide +kernel,by decide +kernel⟩
theorem ok_edgesTold{f:Addr}{fd:FuncData}(F:Fun K "edges_told" "edges_told" sEdgesTold f fd)(B:Bi mg)(CE:Callee P w K mg base 1 "edge_between" ["a","b"] spEdge):FnOk P w K mg base CX0 2 f fd ["numbers"] (spEdgesTold K):=by
 refine F.ok scEdgesTold (fun vs H Q E h=> ?_) (fun cdv A outer s H vs Q E hr h=> ?_)
 ·obtain⟨a,ns,m,rfl,_⟩:=h;rfl
 ·obtain⟨a,ns,m,rfl,ha,hl,hm,k⟩:=h;obtain⟨pl,pat⟩:=vC m ns hl;refine'⟨_,zG (zM (Zd (own:=[("place",1)]) rfl scEdgesTold.nd ?lc1 ?lc2 (fun _ _ _ _ _=> ?lc3) (fun _ _ _ _ _=> ?lc4) (fun _ _ _ _ _=> ?lc5))),?rd⟩
  case lc1=>exact pi_range3 rfl B.range (zA zK (zA (zX zY rfl B.len PySem.boot_len (zA (pv 0) zE)) (zA zK zE)))
  case lc2=>exact za (by show blkC ["numbers","place"] (defScope sEdgesTold) _ _=true;decide +kernel)
  case lc3=>exact pgn 1 scEdgesTold.nd
  case lc4=>exact zx
  case lc5=>exact zP CE hr (zA (zW K (pv 0) (pv 1)) (zA (zW K (pv 0) (zj ZJ (pv 1) zK)) zE))
  refine⟨_,rfl,a,_,rfl,.inl ha,0,((2 * m:Nat):Int),2,m,(by rw[List.length_map,hl]),range2 m hm,fun D hD=> ?_⟩;refine lc_rangeCS (RTup pI D fun i=>(pairsI ns).take i) RTup.mono hD ⟨[],rfl,PsG.nil⟩ ?_ ?_
  ·rintro i H' out hi s2 hd hl2 ⟨qs,rfl,hqs⟩;have e0:(0:Int)+(i:Nat) * 2=((2 * i:Nat):Int):=by omega
   rw[e0];refine⟨rfl,yesT ?_⟩;refine⟨_,rfl,_,rfl,a,_,_,_,rfl,rfl,s2.seq ha,zb (by omega) (by omega),_,rfl,_,rfl,_,_,rfl,rfl,a,_,_,_,rfl,rfl,s2.seq ha,zb (by omega) (by omega),_,_,rfl,fun t ht=> ?_⟩;have tD:t≠D:=fun z=>by rw[z,hd] at ht;cases ht
   have s3:Same H' (upd H' t _):=Same.upd (.tup [.int (mn (at0 ns ((2 * i:Nat):Int)) (at0 ns (((2 * i:Nat):Int)+1))),.int (mx (at0 ns ((2 * i:Nat):Int)) (at0 ns (((2 * i:Nat):Int)+1)))]) ht;refine LcI.put RTup.mono hD (small1000 (by omega)) s2 hd hl2 s3 ⟨qs++[t],by rw[List.map_append];rfl,?_⟩;show PsG pI D _ _ ((pairsI ns).take (i+1));rw[zL (pat i hi)];refine hqs.snoc s3 tD ?_;rw[zB];rfl
  ·intro H' out s2 hd hl2 hR;have t:TupsT pI H' D ((pairsI ns).take m):=hR.tups hd;rw[List.take_of_length_le (by rw[pl];exact Nat.le_refl _)] at t;exact k H' D hD s2 t
theorem scProper:FnScope ["edges","a","b"] ["edges"] (defScope sProper):=⟨rfl,rfl,rfl,by decide +kernel,rfl,by decide +kernel,by decide +kernel⟩
theorem nodup_pairs{es:List (Int×Int)}:(es.map fun e=>[e.1,e.2]).Nodup↔es.Nodup:=by
 rw[List.nodup_iff_pairwise_ne,List.pairwise_map,List.nodup_iff_pairwise_ne];constructor
 ·exact fun h=>h.imp fun q e=>q (by rw[e])
 ·refine fun h=>h.imp fun{x y} q e=>q ?_;injection e with e1 e2
  injection e2 with e2 _
  exact Prod.ext e1 e2
theorem ok_proper{f:Addr}{fd:FuncData}(F:Fun K "are_proper" "are_proper" sProper f fd)(B:Bi mg):FnOk P w K mg base CX0 1 f fd ["edges"] spProper:=by
 refine F.ok scProper (fun vs H Q E h=> ?_) (fun cdv A outer s H vs Q E hr h=> ?_)
 ·obtain⟨a,es,rfl,_⟩:=h;rfl
 ·obtain⟨a,es,rfl,ha,hl,k⟩:=h;obtain⟨ps,hp1,hp2,hp3⟩:=ha;refine'⟨_,zG (zM (pe_and (zX (cr_all rfl) rfl B.all boot_all (zA (Zd (own:=[("a",1),("b",2)]) rfl scProper.nd ?lc1 ?lc2 (fun _ _ _ _ _=> ?lc3) (fun _ _ _ _ _=> ?lc4) (fun _ _ _ _ _=> ?lc5)) zE))
   (pe_one (jj jR (zX cr_lenSet rfl B.len PySem.boot_len (zA (yq (cr_set rfl (Nat.lt_of_le_of_lt (Nat.add_le_add_left (by omega) _) hr.un)) rfl B.set boot_set (zA (pv 0) zE)) zE)) (zX zY rfl B.len PySem.boot_len (zA (pv 0) zE)) (nomark _))))),?rd⟩
  case lc1=>exact zq (pv 0)
  case lc2=>exact za (by show blkC ["edges","a","b"] (defScope sProper) _ _=true;decide +kernel)
  case lc3=>exact pgt2 K 1 2 scProper.nd
  case lc4=>exact zx
  case lc5=>exact jj yu (pv 1) (pv 2) (nomark _)
  refine⟨_,rfl,a,rfl,⟨_,SqL.of hp1⟩,fun D hD=> ?_⟩;refine ZK (K:=K) (fun i out _=>out=((es.map fun e=> !decide (e.1=e.2)).take i).map V.bl) RMono.pure hD (SqL.of hp1) rfl ?_ ?_
  ·intro i y H' out hi ey s2 hd hl2 hR;obtain⟨p,ep,rfl⟩:=getElem?_mapR ey;rw[List.length_map] at hi;obtain⟨e,ee⟩: ∃e,es[i]? =some e:=⟨_,List.getElem?_eq_getElem (by omega)⟩;refine⟨p,_,rfl,SqT.of (s2 _ _ (hp3 i p e ep ee)),rfl,_,_,rfl,_,_,rfl,rfl,rfl,yesT ?_⟩;refine⟨_,rfl,_,rfl,rfl,?_⟩;refine LcI.put RMono.pure hD (small1000 (by omega)) s2 hd hl2 (Same.refl _) ?_;rw[zy,hR,zL (x:= !decide (e.1=e.2)),List.map_append]
   ·rfl
   ·rw[List.getElem?_map,ee];rfl
  ·intro H' out s2 hd hl2 hR;rw[List.length_map,hp2,List.take_of_length_le (by rw[List.length_map];exact Nat.le_refl _)] at hR;rw[hR] at hd;refine⟨D,es.map fun e=> !decide (e.1=e.2),rfl,SqL.of hd,_,rfl,?_⟩;have ea:(es.map fun e=> !decide (e.1=e.2)).all id=es.all fun e=> !decide (e.1=e.2):=by rw[List.all_map];rfl
   rw[ea];refine ite2 (fun h=> ?_) (fun h=> ?_)
   ·refine⟨_,rfl,a,ps,es.map fun e=>[e.1,e.2],rfl,SqL.of (s2 _ _ hp1),by rw[List.length_map];exact hp2,by rw[List.length_map];exact hl,fun i p kk e1 e2=> ?_,fun S hS=> ?_⟩
    ·rw[List.getElem?_map] at e2;cases e3:es[i]? with
     |none=>rw[e3] at e2;cases e2
     |some e=>
      rw[e3] at e2;have:[e.1,e.2]=kk:=Option.some.inj e2;rw[<-this];exact s2 _ _ (hp3 i p e e1 e3)
    ·have s3:Same H' (upd H' S (.ext (SetN S (dd (es.map fun e=>[e.1,e.2])).length))):=Same.upd _ hS;obtain⟨d1,d2⟩:=dd_le _ (es.map fun e=>[e.1,e.2]) rfl;rw[List.length_map] at d1 d2;refine⟨S,_,rfl,by omega,zB,_,rfl,a,_,rfl,.inl (SqL.of (s3 _ _ (s2 _ _ hp1))),rfl,?_⟩;have k':=k _ (s2.trans s3);rw[h,Bool.true_and] at k';have e:decide (V.int ((dd (es.map fun e=>[e.1,e.2])).length:Nat)=V.int (((ps.map V.ref).length:Nat):Int))=decide es.Nodup:=by
      rw[zy,List.length_map,hp2];rw[Bool.eq_iff_iff,decide_eq_true_eq,decide_eq_true_eq,<-nodup_pairs,<-d2];constructor<;>intro q<;>omega
     rw[e];exact k'
   ·have:(es.all fun e=> !decide (e.1=e.2))=false:=by simpa using h
    have k':=k _ s2;rw[this,Bool.false_and] at k';exact k'
def adjRow(es:List (Int×Int))(v:Int):List Int:=es.flatMap fun e=>if e.1=v then[e.2] else if e.2=v then[e.1] else[]
theorem adjRow_snoc(es:List (Int×Int))(e:Int×Int)(v:Int):adjRow (es++[e]) v=adjRow es v++(if e.1=v then[e.2] else if e.2=v then[e.1] else[]):=by
 unfold adjRow;rw[List.flatMap_append];simp
theorem yO(v:Int): ∀es:List (Int×Int),(adjRow es v).length<=es.length
 |[]=>Nat.le_refl _
 |e::es=>by
  have ih:=yO v es;unfold adjRow at ih ⊢;rw[List.flatMap_cons,List.length_append,List.length_cons];have:(if e.1=v then[e.2] else if e.2=v then[e.1] else[]).length<=1:=by
   split
   ·exact Nat.le_refl _
   ·split
    ·exact Nat.le_refl _
    ·exact Nat.zero_le _
  omega
def rowsI(n:Nat)(es:List (Int×Int)):List (List Int):=(List.range n).map fun v=>adjRow es (v:Nat)
def spNeighbours:Sp:=fun vs H Q _=>∃(n:Nat) (a:Addr) (es:List (Int×Int)),vs=[.int (n:Nat),.ref a]/\n<1000/\PairsT H a es/\es.length<1000/\(∀e,e∈es->(0<=e.1/\e.1<n)/\(0<=e.2/\e.2<n)/\e.1≠e.2)/\
 ∀H' p,H p=none->Same H H'->RowsT H' p (rowsI n es)->Q (.ref p) H'
theorem scNeighbours:FnScope ["n","edges","neighbours","a","b","cell"] ["n","edges"] (defScope sNeighbours):=⟨rfl,rfl,rfl,by decide +kernel,rfl,by decide +kernel,by decide +kernel⟩
theorem ok_neighbours{f:Addr}{fd:FuncData}(F:Fun K "neighbours_by" "neighbours_by" sNeighbours f fd)(B:Bi mg):FnOk P w K mg base CX0 1 f fd ["n","edges"] spNeighbours:=by
 refine F.ok scNeighbours (fun vs H Q E h=> ?_) (fun cdv A outer s H vs Q E hr h=> ?_)
 ·obtain⟨n,a,es,rfl,_⟩:=h;rfl
 ·obtain⟨n,a,es,rfl,hn,ha,hl,hin,k⟩:=h;obtain⟨ps,hp1,hp2,hp3⟩:=ha;refine'⟨_,zF (yE (i:=2) (own:=[("cell",5)]) rfl scNeighbours.nd rfl rfl (yo rfl rfl rfl rfl) ?lc1 ?lc2 (fun _ _ _ _ _=> ?lc3) (fun _ _ _ _ _=> ?lc4) (fun _ _ _ _ _=> ?lc5))
   (zF (ZV PassesOwn.never rfl (zq (pv 1)) (pgt2 K 3 4 scNeighbours.nd)
    (zF (zg (yP PySem.F.plainAttrs_list PySem.F.slot_list_append PySem.F.type_list_append Zh (zW K (pv 2) (pv 3)) (zA (pv 4) zE)))
    (zG (zg (yP PySem.F.plainAttrs_list PySem.F.slot_list_append PySem.F.type_list_append Zh (zW K (pv 2) (pv 4)) (zA (pv 3) zE))))))
   (zG (zM (pv 2)))),?rd⟩
  case lc1=>exact Zr rfl B.range (zA (pv 0) zE)
  case lc2=>exact za (by show blkC ["n","edges","neighbours","a","b","cell"] (defScope sNeighbours) _ _=true;decide +kernel)
  case lc3=>exact pgn 5 scNeighbours.nd
  case lc4=>exact zx
  case lc5=>exact zT zE
  refine⟨_,rfl,_,rfl,by omega,by omega,fun D hD=> ?_⟩;rw[Int.toNat_natCast];have mono:RMono D (fun i out H'=>∃qs:List Addr,out=qs.map V.ref/\qs.length=i/\qs.Nodup/\∀q,q∈qs->q≠D/\H q=none/\H' q=some (.lst [])):=by
   rintro i out H1 H2 sx ⟨qs,e1,e2,e3,e4⟩;exact⟨qs,e1,e2,e3,fun q hq=>⟨(e4 q hq).1,(e4 q hq).2.1,sx _ _ (e4 q hq).1 (e4 q hq).2.2⟩⟩
  refine jA (fun i out H'=>∃qs:List Addr,out=qs.map V.ref/\qs.length=i/\qs.Nodup/\∀q,q∈qs->q≠D/\H q=none/\H' q=some (.lst [])) mono hD ⟨[],rfl,rfl,List.nodup_nil,fun q hq=>by cases hq⟩ ?_ ?_
  ·rintro i H' out hi s2 hd hl2 ⟨qs,rfl,e2,e3,e4⟩;refine⟨rfl,yesT ?_⟩;refine⟨Nat.zero_le _,fun t ht=> ?_⟩;have s3:Same H' (upd H' t (.lst [])):=Same.upd _ ht;have td:t≠D:=fun z=>by rw[z,hd] at ht;cases ht
   refine LcI.put mono hD (small1000 (by omega)) s2 hd hl2 s3 ⟨qs++[t],by rw[List.map_append];rfl,by rw[List.length_append,e2];rfl,?_,fun q hq=> ?_⟩
   ·refine nd_snoc e3 fun z=> ?_;have:=(e4 t z).2.2;rw[ht] at this;cases this
   ·rcases List.mem_append.mp hq with z|z
    ·exact⟨(e4 q z).1,(e4 q z).2.1,s3 _ _ (e4 q z).2.2⟩
    ·have:q=t:=by simpa using z
     subst this;exact⟨td,s2.free ht,zB⟩
  ·rintro H1 out s1 hd hl2 ⟨qs,rfl,e2,e3,e4⟩;have qat: ∀v:Nat,v<n->∃q,qs[v]? =some q:=fun v hv=>⟨_,List.getElem?_eq_getElem (by rw[e2];exact hv)⟩;refine⟨_,rfl,a,rfl,⟨_,SqL.of (s1 _ _ hp1)⟩,?_⟩;refine Ze (K:=K) (a:=a) (xs:=ps.map V.ref) (fun i σ H'=>∃v3 v4,σ=[some (.int (n:Nat)),some (.ref a),some (.ref D),v3,v4,none]/\Same H H'/\H' D=some (.lst (qs.map V.ref))/\∀(v:Nat) (q:Addr),qs[v]? =some q->H' q=some (.lst ((adjRow (es.take i) (v:Nat)).map V.int)))
    ⟨none,none,rfl,s1,hd,fun v q e=>(e4 q (List.mem_of_getElem? e)).2.2⟩ (fun i σ H' _ ⟨_,_,_,sm,_⟩=>SqL.of (sm _ _ hp1)) ?_ ?_
   ·rintro i y σ H' hi ⟨v3,v4,rfl,sm,hD',hrow⟩;obtain⟨p,ep,rfl⟩:=getElem?_mapR hi;obtain⟨e,ee⟩: ∃e,es[i]? =some e:=⟨_,List.getElem?_eq_getElem (by rw[<-hp2];exact(List.getElem?_eq_some_iff.mp ep).1)⟩;obtain⟨⟨a0,a1⟩,⟨b0,b1⟩,hne⟩:=hin e (List.mem_of_getElem? ee);obtain⟨na,hna⟩: ∃na:Nat,e.1=(na:Int):=⟨e.1.toNat,by omega⟩;obtain⟨nb,hnb⟩: ∃nb:Nat,e.2=(nb:Int):=⟨e.2.toNat,by omega⟩;obtain⟨qa,eqa⟩:=qat na (by omega);obtain⟨qb,eqb⟩:=qat nb (by omega);have qab:qb≠qa:=fun z=>by
     rw[z] at eqb;have:=nd_ix e3 eqa eqb;omega
    have fa:=e4 qa (List.mem_of_getElem? eqa);have fb:=e4 qb (List.mem_of_getElem? eqb);have ra:=hrow na qa eqa;have rb:=hrow nb qb eqb;have lenA:=yO (na:Nat) (es.take i);have lenB:=yO (nb:Nat) (es.take i);rw[List.length_take] at lenA lenB;refine⟨p,_,rfl,SqT.of (sm _ _ (hp3 i p e ep ee)),rfl,_,_,rfl,_,_,rfl,rfl,?_⟩;refine⟨_,rfl,_,rfl,D,_,_,.ref qa,rfl,rfl,SqL.of hD',at_of (j:=na) hna (by rw[List.getElem?_map,eqa];rfl),.inl ⟨rfl,_,SqL.of ra⟩,_,rfl,qa,_,_,rfl,rfl,ra,by rw[List.length_map];exact small1000 (by omega),?_⟩;have rb2:(upd H' qa (.lst ((adjRow (es.take i) (na:Nat)).map V.int++[.int e.2]))) qb=some (.lst ((adjRow (es.take i) (nb:Nat)).map V.int)):=by rw[zH qab];exact rb
    have hD2:(upd H' qa (.lst ((adjRow (es.take i) (na:Nat)).map V.int++[.int e.2]))) D=some (.lst (qs.map V.ref)):=by rw[zH fa.1.symm];exact hD'
    refine⟨_,rfl,_,rfl,D,_,_,.ref qb,rfl,rfl,SqL.of hD2,at_of (j:=nb) hnb (by rw[List.getElem?_map,eqb];rfl),.inl ⟨rfl,_,SqL.of rb2⟩,_,rfl,qb,_,_,rfl,rfl,rb2,by rw[List.length_map];exact small1000 (by omega),?_⟩;refine⟨_,_,rfl,fun b o q=> ?_,by rw[zH fb.1.symm];exact hD2,fun v q eq=> ?_⟩
    ·rw[zH (zJ q fb.2.1),zH (zJ q fa.2.1)];exact sm b o q
    ·rw[zL ee,adjRow_snoc];by_cases z1:q=qb
     ·subst z1;obtain rfl:v=nb:=nd_ix e3 eq eqb;rw[zB,if_neg (by omega),if_pos hnb,List.map_append];rfl
     ·rw[zH z1];have vnb:(v:Int)≠nb:=fun z=>z1 (by
       have:v=nb:=by omega
       rw[this,eqb] at eq;exact(Option.some.inj eq).symm)
      by_cases z2:q=qa
      ·subst z2;obtain rfl:v=na:=nd_ix e3 eq eqa;rw[zB,if_pos hna,List.map_append];rfl
      ·rw[zH z2];have vna:(v:Int)≠na:=fun z=>z2 (by
        have:v=na:=by omega
        rw[this,eqa] at eq;exact(Option.some.inj eq).symm)
       rw[if_neg (by omega),if_neg (by omega),List.append_nil];exact hrow v q eq
   ·rintro σ H' ⟨v3,v4,rfl,sm,hD',hrow⟩;rw[List.length_map,hp2,List.take_length] at hrow;refine⟨_,rfl,k H' D hD sm ⟨qs,hD',by unfold rowsI;rw[List.length_map,List.length_range];exact e2,fun i p r g1 g2=> ?_⟩⟩;have hi:i<n:=by rw[<-e2];exact(List.getElem?_eq_some_iff.mp g1).1
    unfold rowsI at g2;rw[zR _ hi] at g2;have:=hrow i p g1;rw[<-Option.some.inj g2];exact this
abbrev sInit:Stmt:=inClass (top 79) 0
abbrev sTakeGraph:Stmt:=inClass (top 79) 1
abbrev sTakeEdges:Stmt:=inClass (top 79) 2
abbrev sTakeKind:Stmt:=inClass (top 79) 3
abbrev sTakeStates:Stmt:=inClass (top 79) 4
abbrev sForget:Stmt:=inClass (top 79) 5
abbrev sRun:Stmt:=inClass (top 79) 6
abbrev sTurn:Stmt:=inClass (top 79) 7
abbrev sRename:Stmt:=inClass (top 79) 8
abbrev sTwin:Stmt:=inClass (top 79) 9
structure WTxt(K:PySem.W.Frag)(C:Addr):Prop where
 cl:Cls K C
 nKind:NoAttr K C "kind"
 nN:NoAttr K C "n"
 nEdges:NoAttr K C "edges"
 nNear:NoAttr K C "neighbours"
 nStates:NoAttr K C "states"
 nTime:NoAttr K C "time"
 nCounts:NoAttr K C "counts"
def meths:List Str:=["take_graph","take_edges","take_kind","take_states","forget_runs","run","turn","rename","twin"]
structure FsOk(fs:List (Str×V))(k:Nat):Prop where
 len:fs.length<=k
 nom: ∀m,m∈meths->fs.lookup m=none
theorem JM(f:Str)(v:V): ∀fs:List (Str×V),(putF f v fs).length<=fs.length+1
 |[]=>Nat.le_refl _
 |(g,x)::r=>by
  have ih:=JM f v r;show(if g=f then(g,v)::r else(g,x)::putF f v r).length<=_;split
  ·rw[List.length_cons,List.length_cons];omega
  ·rw[List.length_cons,List.length_cons];omega
theorem FsOk.put{fs:List (Str×V)}{k:Nat}(h:FsOk fs k){f:Str}(v:V)(hf:f∉meths):FsOk (putF f v fs) (k+1):=by
 refine⟨Nat.le_trans (JM f v fs) (Nat.succ_le_succ h.len),fun m hm=> ?_⟩;rw[zr,if_neg (fun e=>hf (by rw[<-e];exact hm))];exact h.nom m hm
abbrev Kept(a:Addr)(H H':Hp):Prop:=SameX a H H'
structure MCallee(P:Program)(w:World)(K:PySem.W.Frag)(mg:Str->Option Value)(base:Heap)(k:Nat)(C:Addr)(m:Str)(ps:List Str)(sp:Sp):Prop where
 ex: ∃f fd,FnOk P w K mg base CX0 k f fd ps sp/\Meth K C m f/\Binds K fd ps []
def zerosV(n:Nat):List V:=List.replicate n (V.int 0)
def spForget(C:Addr):Sp:=fun vs H Q _=>∃(a dx:Addr) (fs:List (Str×V)) (n:Nat),vs=[.ref a]/\H a=some (.ins C dx fs)/\fs.length<=900/\fs.lookup ("n":Str)=some (.int (n:Nat))/\n<1000/\
 ∀H' c,H c=none->Kept a H H'->H' a=some (.ins C dx (putF "counts" (.ref c) (putF "time" (.int 0) fs)))->H' c=some (.lst (zerosV n))->Q .non H'
def spTakeStates(K:PySem.W.Frag)(C:Addr):Sp:=fun vs H Q _=>∃(a dx b:Addr) (fs:List (Str×V)) (n:Nat) (xs:List V),vs=[.ref a,.ref b]/\H a=some (.ins C dx fs)/\FsOk fs 800/\fs.lookup ("n":Str)=some (.int (n:Nat))/\n<1000/\SqL K H b xs/\
 ∀H' c x,H c=none->H x=none->Kept a H H'->H' a=some (.ins C dx (putF "counts" (.ref c) (putF "time" (.int 0) (putF "states" (.ref x) fs))))->H' c=some (.lst (zerosV n))->H' x=some (.lst xs)->Q .non H'
def spTakeKind(C:Addr):Sp:=fun vs H Q _=>∃(a dx:Addr) (fs:List (Str×V)) (n:Nat) (k:V),vs=[.ref a,k]/\H a=some (.ins C dx fs)/\FsOk fs 800/\fs.lookup ("n":Str)=some (.int (n:Nat))/\n<1000/\
 ∀H' c,H c=none->Kept a H H'->H' a=some (.ins C dx (putF "counts" (.ref c) (putF "time" (.int 0) (putF "kind" k fs))))->H' c=some (.lst (zerosV n))->Q .non H'
theorem ZR{X:Cx}{k j:Nat}{C:Addr}{m:Str}{ps:List Str}{sp:Sp}{o e:Expr}{es:List Expr}{ta:TE}{t:TA}{apos pos:Pos}{pl:Sem Bool}(c:Cls X.K C)(M:MCallee X.prog X.w X.K X.mg X.base k C m ps sp)(hr:Room j X.A)(he:PE X o ta)(ha:PA X (e::es) t)(hkj:k<=j:=by decide)
  (hst:starEach (e::es) X.env=(false,eval e X.env)::starEach es X.env:=by rfl)(hpl:(backTo pos (starEach es X.env)).any (·.1)=false:=by rfl)
  (ht:eval (.Call (.Attribute o m apos) (e::es) [] pos) X.env=(do
   let ov <-eval o X.env
   standAt apos.atName
   let(f,first) <-holding [ov] (getMethod ov m pl)
   callWith pos f first (backTo pos (starEach (e::es) X.env)) (backToKw pos (keywordEach [] X.env))):=by rfl):PE X (.Call (.Attribute o m apos) (e::es) [] pos) (tMeth C m sp [] E0 ta t):=by
 obtain⟨f,fd,F,hm,hb⟩:=M.ex;exact pe_meth (pl:=pl) he c hm F (hr.mono hkj) hb .nil pass0 ha hst hpl ht
theorem YX{X:Cx}{k j:Nat}{C:Addr}{m:Str}{ps:List Str}{sp:Sp}{o:Expr}{ta:TE}{apos pos:Pos}{pl:Sem Bool}(c:Cls X.K C)(M:MCallee X.prog X.w X.K X.mg X.base k C m ps sp)(hr:Room j X.A)(he:PE X o ta)(hkj:k<=j:=by decide)
  (ht:eval (.Call (.Attribute o m apos) [] [] pos) X.env=(do
   let ov <-eval o X.env
   standAt apos.atName
   let(f,first) <-holding [ov] (getMethod ov m pl)
   callWith pos f first (backTo pos (starEach [] X.env)) (backToKw pos (keywordEach [] X.env))):=by rfl):PE X (.Call (.Attribute o m apos) [] [] pos) (tMeth C m sp [] E0 ta tNil):=by
 obtain⟨f,fd,F,hm,hb⟩:=M.ex;exact pe_meth0 (pl:=pl) he c hm F (hr.mono hkj) hb .nil pass0 ht
theorem scForget:FnScope ["self"] ["self"] (defScope sForget):=⟨rfl,rfl,rfl,by decide +kernel,rfl,by decide +kernel,by decide +kernel⟩
theorem rep0(n:Nat):(List.replicate n [V.int 0]).flatten=zerosV n:=by
 unfold zerosV;induction n with
 |zero=>rfl
 |succ n ih=>rw[List.replicate_succ,List.flatten_cons,ih,List.replicate_succ];rfl
theorem ok_forget{f C:Addr}{fd:FuncData}(F:Fun K "forget_runs" "Wave.forget_runs" sForget f fd)(T:WTxt K C):FnOk P w K mg base CX0 1 f fd ["self"] (spForget C):=by
 refine F.ok scForget (fun vs H Q E h=> ?_) (fun cdv A outer s H vs Q E hr h=> ?_)
 ·obtain⟨a,dx,fs,n,rfl,_⟩:=h;rfl
 ·obtain⟨a,dx,fs,n,rfl,ha,hl,hn,hn2,k⟩:=h;refine⟨_,zF (Zg (pv 0) zK rfl) (zG (Zg (pv 0) (zj op_rep (zT (zA zK zE)) (zU (pv 0) rfl)) rfl)),?_⟩;refine⟨_,rfl,a,C,dx,fs,rfl,ha,T.cl,T.nTime,by omega,?_⟩;refine⟨(by show 1<=sizeLine;decide),fun l hl2=> ?_⟩;have la:l≠a:=fun z=>by rw[z,zB] at hl2;cases hl2
  have ha2:(upd (upd H a (.ins C dx (putF "time" (.int 0) fs))) l (.lst [.int 0])) a=some (.ins C dx (putF "time" (.int 0) fs)):=by rw[zH la.symm,zB]
  have plen:=JM "time" (.int 0) fs;refine⟨_,rfl,a,C,dx,_,.int (n:Nat),rfl,ha2,T.cl,T.nN,by rw[zr,if_neg (by decide +kernel)];exact hn,l,_,_,rfl,rfl,zB,by omega,by omega,?_,fun c hc=> ?_⟩
  ·rw[Int.toNat_natCast];have:sizeLine=16777216:=sizeLine_eq;show 1 * n<=sizeLine;omega
  ·rw[Int.toNat_natCast,rep0];have ca:c≠a:=fun z=>by rw[z,ha2] at hc;cases hc
   have hc0:H c=none:=by
    rw[zH (fun z=>by rw[z,zB] at hc;cases hc),zH ca] at hc;exact hc
   have hl0:H l=none:=by rw[zH la] at hl2;exact hl2
   refine⟨_,rfl,a,C,dx,_,rfl,by rw[zH ca.symm];exact ha2,T.cl,T.nCounts,by omega,?_⟩;refine k _ c hc0 (fun b o n e=> ?_) zB (by rw[zH ca,zB]);rw[zH n,zH (zJ e hc0),zH (zJ e hl0),zH n];exact e
theorem scTakeKind:FnScope ["self","kind"] ["self","kind"] (defScope sTakeKind):=⟨rfl,rfl,rfl,by decide +kernel,rfl,by decide +kernel,by decide +kernel⟩
theorem ok_takeKind{f C:Addr}{fd:FuncData}(F:Fun K "take_kind" "Wave.take_kind" sTakeKind f fd)(T:WTxt K C)(M:MCallee P w K mg base 1 C "forget_runs" ["self"] (spForget C)):FnOk P w K mg base CX0 2 f fd ["self","kind"] (spTakeKind C):=by
 refine F.ok scTakeKind (fun vs H Q E h=> ?_) (fun cdv A outer s H vs Q E hr h=> ?_)
 ·obtain⟨a,dx,fs,n,k,rfl,_⟩:=h;rfl
 ·obtain⟨a,dx,fs,n,kd,rfl,ha,hf,hn,hn2,k⟩:=h;refine⟨_,zF (Zg (pv 0) (pv 1) rfl) (zG (zg (YX T.cl M hr (pv 0)))),?_⟩;have f1:=hf.put (f:="kind") kd (by decide +kernel);have h1:=hf.len;refine⟨_,rfl,_,rfl,a,C,dx,fs,rfl,ha,T.cl,T.nKind,by omega,?_⟩;refine⟨_,rfl,a,dx,_,rfl,zB,f1.nom _ (by decide +kernel),a,dx,_,n,rfl,zB,by have:=f1.len;omega,by rw[zr,if_neg (by decide +kernel)];exact hn,hn2,fun H' c hc kp e1 e2=> ?_⟩;have ca:c≠a:=fun z=>by rw[z,zB] at hc;cases hc
  rw[zH ca] at hc;exact k H' c hc (fun b o n e=>kp b o n (by rw[zH n];exact e)) e1 e2
theorem scTakeStates:FnScope ["self","states"] ["self","states"] (defScope sTakeStates):=⟨rfl,rfl,rfl,by decide +kernel,rfl,by decide +kernel,by decide +kernel⟩
theorem ok_takeStates{f C:Addr}{fd:FuncData}(F:Fun K "take_states" "Wave.take_states" sTakeStates f fd)(B:Bi mg)(T:WTxt K C)(M:MCallee P w K mg base 1 C "forget_runs" ["self"] (spForget C)):FnOk P w K mg base CX0 2 f fd ["self","states"] (spTakeStates K C):=by
 refine F.ok scTakeStates (fun vs H Q E h=> ?_) (fun cdv A outer s H vs Q E hr h=> ?_)
 ·obtain⟨a,dx,b,fs,n,xs,rfl,_⟩:=h;rfl
 ·obtain⟨a,dx,b,fs,n,xs,rfl,ha,hf,hn,hn2,hb,k⟩:=h;refine⟨_,zF (Zg (pv 0) (yq call_list_of rfl B.list boot_list (zA (pv 1) zE)) rfl) (zG (zg (YX T.cl M hr (pv 0)))),?_⟩;refine⟨_,rfl,b,xs,rfl,.inl hb,fun x hx=> ?_⟩;have xa:x≠a:=fun z=>by rw[z,ha] at hx;cases hx
  have f1:=hf.put (f:="states") (.ref x) (by decide +kernel);have h1:=hf.len;refine⟨_,rfl,a,C,dx,fs,rfl,by rw[zH xa.symm];exact ha,T.cl,T.nStates,by omega,?_⟩;refine⟨_,rfl,a,dx,_,rfl,zB,f1.nom _ (by decide +kernel),a,dx,_,n,rfl,zB,by have:=f1.len;omega,by rw[zr,if_neg (by decide +kernel)];exact hn,hn2,fun H' c hc kp e1 e2=> ?_⟩;have ca:c≠a:=fun z=>by rw[z,zB] at hc;cases hc
  rw[zH ca] at hc;have cx:c≠x:=fun z=>by rw[z,zB] at hc;cases hc
  rw[zH cx] at hc;exact k H' c x hc hx (fun b o n e=>kp b o n (by rw[zH n,zH (zJ e hx)];exact e)) e1 e2 (kp x _ xa (by rw[zH xa,zB]))
def graphF(fs:List (Str×V))(n:Nat)(ed nb x c:Addr):List (Str×V):=putF "counts" (.ref c) (putF "time" (.int 0) (putF "states" (.ref x) (putF "neighbours" (.ref nb) (putF "edges" (.ref ed) (putF "n" (.int (n:Nat)) fs)))))
def EdgesIn(n:Nat)(es:List (Int×Int)):Prop:=∀e,e∈es->(0<=e.1/\e.1<n)/\(0<=e.2/\e.2<n)/\e.1≠e.2
def spTakeGraph(C:Addr):Sp:=fun vs H Q _=>∃(a dx e:Addr) (fs:List (Str×V)) (n:Nat) (es:List (Int×Int)),vs=[.ref a,.int (n:Nat),.ref e]/\H a=some (.ins C dx fs)/\FsOk fs 700/\n<1000/\PairsT H e es/\es.length<1000/\EdgesIn n es/\
 ∀H' c x ed nb es',Kept a H H'->H' a=some (.ins C dx (graphF fs n ed nb x c))->PairsT H' ed es'->es'.Perm es->es'.Pairwise lexLe->RowsT H' nb (rowsI n es)->H' x=some (.lst (zerosV n))->H' c=some (.lst (zerosV n))->Q .non H'
def spTakeEdges(C:Addr):Sp:=fun vs H Q _=>∃(a dx e:Addr) (fs:List (Str×V)) (n:Nat) (es:List (Int×Int)),vs=[.ref a,.ref e]/\H a=some (.ins C dx fs)/\FsOk fs 750/\fs.lookup ("n":Str)=some (.int (n:Nat))/\n<1000/\PairsT H e es/\es.length<1000/\EdgesIn n es/\
 ∀H' ed nb es',Kept a H H'->H' a=some (.ins C dx (putF "neighbours" (.ref nb) (putF "edges" (.ref ed) fs)))->PairsT H' ed es'->es'.Perm es->es'.Pairwise lexLe->RowsT H' nb (rowsI n es)->Q .non H'
theorem PairsT.sx{H H':Hp}{a d:Addr}{es:List (Int×Int)}{C dx:Addr}{fs:List (Str×V)}(h:PairsT H a es)(ha:H d=some (.ins C dx fs))(s:SameX d H H'):PairsT H' a es:=by
 obtain⟨ps,h1,h2,h3⟩:=h;exact⟨ps,s _ _ (ZW h1 ha (by intro z;cases z)) h1,h2,fun i p r e1 e2=>s _ _ (ZW (h3 i p r e1 e2) ha (by intro z;cases z)) (h3 i p r e1 e2)⟩
theorem RowsT.sx{H H':Hp}{a d:Addr}{rows:List (List Int)}{C dx:Addr}{fs:List (Str×V)}(h:RowsT H a rows)(ha:H d=some (.ins C dx fs))(s:SameX d H H'):RowsT H' a rows:=by
 obtain⟨ps,h1,h2,h3⟩:=h;exact⟨ps,s _ _ (ZW h1 ha (by intro z;cases z)) h1,h2,fun i p r e1 e2=>s _ _ (ZW (h3 i p r e1 e2) ha (by intro z;cases z)) (h3 i p r e1 e2)⟩
theorem scTakeEdges:FnScope ["self","edges"] ["self","edges"] (defScope sTakeEdges):=⟨rfl,rfl,rfl,by decide +kernel,rfl,by decide +kernel,by decide +kernel⟩
theorem ok_takeEdges{f C:Addr}{fd:FuncData}(F:Fun K "take_edges" "Wave.take_edges" sTakeEdges f fd)(B:Bi mg)(T:WTxt K C)(CN:Callee P w K mg base 1 "neighbours_by" ["n","edges"] spNeighbours):
  FnOk P w K mg base CX0 2 f fd ["self","edges"] (spTakeEdges C):=by
 refine F.ok scTakeEdges (fun vs H Q E h=> ?_) (fun cdv A outer s H vs Q E hr h=> ?_)
 ·obtain⟨a,dx,e,fs,n,es,rfl,_⟩:=h;rfl
 ·obtain⟨a,dx,e,fs,n,es,rfl,ha,hf,hn0,hn,he,hl,hin,k⟩:=h;refine⟨_,zF (Zg (pv 0) (zX cr_sortedP rfl B.sorted boot_sorted (zA (pv 1) zE)) rfl)
   (zG (Zg (pv 0) (zP CN hr (zA (zU (pv 0) rfl) (zA (pv 1) zE))) rfl)),?_⟩
  have l0:=hf.len;obtain⟨ps,p1,p2,p3⟩:=id he;refine⟨_,rfl,e,ps,es,rfl,SqL.of p1,⟨p2,p3⟩,by omega,fun S ps' es' hS hps perm srt=> ?_⟩;have Sa:S≠a:=fun z=>by rw[z,ha] at hS;cases hS
  have f2:=hf.put (f:="edges") (.ref S) (by decide +kernel);have l2:=f2.len;refine⟨_,rfl,a,C,dx,_,rfl,by rw[zH Sa.symm];exact ha,T.cl,T.nEdges,by omega,?_⟩;generalize hH2:upd (upd H S (.lst (ps'.map V.ref))) a (.ins C dx (putF "edges" (.ref S) fs))=H2;have ha2:H2 a=some (.ins C dx (putF "edges" (.ref S) fs)):=by rw[<-hH2,zB]
  have k2:SameX a H H2:=fun b o nb eb=>by rw[<-hH2,zH nb,zH (zJ eb hS)];exact eb
  have hed:PairsT H2 S es':=⟨ps',by rw[<-hH2,zH Sa,zB],hps.1,fun i p r e1 e2=>k2 _ _ (ZW (hps.2 i p r e1 e2) ha (by intro z;cases z)) (hps.2 i p r e1 e2)⟩;refine⟨_,rfl,a,C,dx,_,_,rfl,ha2,T.cl,T.nN,by rw[zr,if_neg (by decide +kernel)];exact hn0,_,rfl,n,e,es,rfl,hn,he.sx ha k2,hl,hin,fun H3 nb hnb sm rows=> ?_⟩;have na:nb≠a:=fun z=>by rw[z,ha2] at hnb;cases hnb
  have ha3:=sm _ _ ha2;refine⟨_,rfl,a,C,dx,_,rfl,ha3,T.cl,T.nNear,by omega,?_⟩;have k4:SameX a H3 (upd H3 a (.ins C dx (putF "neighbours" (.ref nb) (putF "edges" (.ref S) fs)))):=SameX.updD _;exact k _ S nb es' (fun b o q1 q2=>k4 b o q1 (sm _ _ (k2 b o q1 q2))) zB (hed.sx ha2 fun b o q1 q2=>k4 b o q1 (sm _ _ q2)) perm srt (rows.sx ha3 k4)
theorem scTakeGraph:FnScope ["self","n","edges"] ["self","n","edges"] (defScope sTakeGraph):=⟨rfl,rfl,rfl,by decide +kernel,rfl,by decide +kernel,by decide +kernel⟩
theorem ok_takeGraph{f C:Addr}{fd:FuncData}(F:Fun K "take_graph" "Wave.take_graph" sTakeGraph f fd)(T:WTxt K C)(ME:MCallee P w K mg base 2 C "take_edges" ["self","edges"] (spTakeEdges C))(M:MCallee P w K mg base 2 C "take_states" ["self","states"] (spTakeStates K C)):
  FnOk P w K mg base CX0 3 f fd ["self","n","edges"] (spTakeGraph C):=by
 refine F.ok scTakeGraph (fun vs H Q E h=> ?_) (fun cdv A outer s H vs Q E hr h=> ?_)
 ·obtain⟨a,dx,e,fs,n,es,rfl,_⟩:=h;rfl
 ·obtain⟨a,dx,e,fs,n,es,rfl,ha,hf,hn,he,hl,hin,k⟩:=h;refine⟨_,zF (Zg (pv 0) (pv 1) rfl) (zF (zg (ZR T.cl ME hr (pv 0) (zA (pv 2) zE)))
   (zG (zg (ZR T.cl M hr (pv 0) (zA (zj op_rep (zT (zA zK zE)) (pv 1)) zE))))),?_⟩
  have f1:=hf.put (f:="n") (.int (n:Nat)) (by decide +kernel);have l0:=hf.len;have l1:=f1.len;refine⟨_,rfl,_,rfl,a,C,dx,fs,rfl,ha,T.cl,T.nN,by omega,?_⟩;generalize hH1:upd H a (.ins C dx (putF "n" (.int (n:Nat)) fs))=H1;have ha1:H1 a=some (.ins C dx (putF "n" (.int (n:Nat)) fs)):=by rw[<-hH1,zB]
  have k1:SameX a H H1:=by rw[<-hH1];exact SameX.updD _
  have he1:PairsT H1 e es:=he.sx ha k1;refine⟨_,rfl,a,dx,_,rfl,ha1,f1.nom _ (by decide +kernel),_,rfl,a,dx,e,_,n,es,rfl,ha1,⟨by omega,f1.nom⟩,by rw[zr,if_pos rfl],hn,he1,hl,hin,fun H4 S nb es' k24 ha4 hed perm srt rows=> ?_⟩;have f2:=f1.put (f:="edges") (.ref S) (by decide +kernel);have f3:=f2.put (f:="neighbours") (.ref nb) (by decide +kernel);have l3:=f3.len;refine⟨_,rfl,a,dx,_,rfl,ha4,f3.nom _ (by decide +kernel),(by show 1<=sizeLine;decide),fun l hl2=> ?_⟩;have la:l≠a:=fun z=>by rw[z,ha4] at hl2;cases hl2
  have sz:sizeLine=16777216:=sizeLine_eq;refine⟨_,rfl,l,_,_,rfl,rfl,zB,by omega,by omega,by rw[Int.toNat_natCast];show 1 * n<=sizeLine;omega,fun z hz=> ?_⟩;rw[Int.toNat_natCast,rep0];have zl:z≠l:=fun q=>by rw[q,zB] at hz;cases hz
  have hz4:H4 z=none:=by rw[zH zl] at hz;exact hz
  have s5:Same H4 (upd (upd H4 l (.lst [.int 0])) z (.lst (zerosV n))):=fun b o q=>by rw[zH (zJ q hz4),zH (zJ q hl2)];exact q
  refine⟨a,dx,z,_,n,zerosV n,rfl,s5 _ _ ha4,⟨by omega,f3.nom⟩,?_,hn,SqL.of zB,fun H' c x hc hx kp e1 e2 e3=> ?_⟩
  ·rw[zr,if_neg (by decide +kernel),zr,if_neg (by decide +kernel),zr,if_pos rfl]
  ·have kA:SameX a H4 H':=fun b o q1 q2=>kp b o q1 (s5 _ _ q2);exact k H' c x S nb es' (fun b o q1 q2=>kA b o q1 (k24 b o q1 (k1 b o q1 q2))) e1 (hed.sx ha4 kA) perm srt (rows.sx ha4 kA) e3 e2
end
end GW
namespace GW
open Vblcas
def eI(e:Nat×Nat):Int×Int:=((e.1:Int),(e.2:Int))
theorem mem_adjRow{es:List (Int×Int)}{v z:Int}:z∈adjRow es v↔ ∃e,e∈es/\((e.1=v/\e.2=z)∨(e.1≠v/\e.2=v/\e.1=z)):=by
 unfold adjRow;rw[List.mem_flatMap];constructor
 ·rintro⟨e,he,hz⟩;refine⟨e,he,?_⟩;by_cases q1:e.1=v
  ·rw[if_pos q1] at hz;exact .inl ⟨q1,(List.mem_singleton.mp hz).symm⟩
  ·rw[if_neg q1] at hz;by_cases q2:e.2=v
   ·rw[if_pos q2] at hz;exact .inr ⟨q1,q2,(List.mem_singleton.mp hz).symm⟩
   ·rw[if_neg q2] at hz;cases hz
 ·rintro⟨e,he,h|h⟩
  ·exact⟨e,he,by rw[if_pos h.1,h.2];exact List.mem_singleton.mpr rfl⟩
  ·exact⟨e,he,by rw[if_neg h.1,if_pos h.2.1,h.2.2];exact List.mem_singleton.mpr rfl⟩
theorem rowsNb{g:Graph}(ok:EOk g){es:List (Int×Int)}(hes: ∀e,e∈es↔ ∃d,d∈g.edges/\e=eI d):RowsNb (rowsI g.n es) g.near:=by
 refine⟨by unfold rowsI;rw[List.length_map,List.length_range,zf],fun v z=> ?_⟩;by_cases hv:v<g.n
 ·have e0:(rowsI g.n es).getD v []=adjRow es (v:Nat):=by
   unfold rowsI;rw[List.getD_eq_getElem?_getD,zR _ hv];rfl
  rw[e0,mem_adjRow];constructor
  ·rintro⟨e,he,h⟩;obtain⟨d,hd,rfl⟩:=(hes e).mp he;have hdl:=ok.lt d hd;rcases h with⟨h1,h2⟩|⟨h1,h2,h3⟩
   ·have h1:((d.1:Nat):Int)=(v:Nat):=h1;refine⟨d.2,h2.symm,ZM.mpr ⟨hv,hdl.2,?_⟩⟩;unfold Graph.adjacent;rw[Nat.min_eq_left (by omega),Nat.max_eq_right (by omega)];have:(v,d.2)=d:=Prod.ext (by show v=d.1;omega) rfl;rw[this];exact List.contains_iff_mem.mpr hd
   ·have h2:((d.2:Nat):Int)=(v:Nat):=h2;refine⟨d.1,h3.symm,ZM.mpr ⟨hv,by omega,?_⟩⟩;unfold Graph.adjacent;rw[Nat.min_eq_right (by omega),Nat.max_eq_left (by omega)];have:(d.1,v)=d:=Prod.ext rfl (by show v=d.2;omega);rw[this];exact List.contains_iff_mem.mpr hd
  ·rintro⟨u,rfl,hu⟩;obtain⟨_,hul,ha⟩:=ZM.mp hu;unfold Graph.adjacent at ha;have hm:=List.contains_iff_mem.mp ha;have hlt:=ok.lt _ hm;have hne:v≠u:=fun z=>by
    subst z;rw[Nat.min_self,Nat.max_self] at hlt;omega
   refine⟨eI (min v u,max v u),(hes _).mpr ⟨_,hm,rfl⟩,?_⟩;rcases Nat.lt_or_ge v u with q|q
   ·left
    rw[Nat.min_eq_left (by omega),Nat.max_eq_right (by omega)];exact⟨rfl,rfl⟩
   ·right
    rw[Nat.min_eq_right (by omega),Nat.max_eq_left (by omega)];refine⟨?_,rfl,rfl⟩;show((u:Nat):Int)≠(v:Nat);omega
 ·have e0:(rowsI g.n es).getD v []=[]:=by
   unfold rowsI;rw[List.getD_eq_getElem?_getD,List.getElem?_eq_none (by rw[List.length_map,List.length_range];omega)];rfl
  rw[e0,nb_out g hv];exact⟨fun q=>(by cases q),fun⟨u,_,q⟩=>(by cases q)⟩
end GW
namespace GW
open PySem PySem.Spec PyProof.Rows L2
def waveF(k n:Nat)(ed nb x:Addr)(t:Nat)(c:Addr):List (Str×V):=[("kind",.int (k:Nat)),("n",.int (n:Nat)),("edges",.ref ed),("neighbours",.ref nb),("states",.ref x),("time",.int (t:Nat)),("counts",.ref c)]
theorem Zx{f:Str}{v x:V}{r:List (Str×V)}:putF f v ((f,x)::r)=(f,v)::r:=by
 show(if f=f then(f,v)::r else _)=_;rw[if_pos rfl]
theorem Zk{f g:Str}{v x:V}{r:List (Str×V)}(h: ¬g=f):putF f v ((g,x)::r)=(g,x)::putF f v r:=by
 show(if g=f then(g,v)::r else _)=_;rw[if_neg h]
theorem jU(k n:Nat)(ed nb x:Addr)(t:Nat)(c:Addr)(n':Nat)(ed' nb' x' c':Addr):graphF (waveF k n ed nb x t c) n' ed' nb' x' c'=waveF k n' ed' nb' x' 0 c':=by
 unfold graphF waveF
 repeat (first|rw[Zx]|rw[Zk (by decide +kernel)])
 rfl
theorem graphF_new(k:Nat)(n':Nat)(ed' nb' x' c':Addr):graphF (putF "kind" (.int (k:Nat)) []) n' ed' nb' x' c'=waveF k n' ed' nb' x' 0 c':=by
 unfold graphF waveF;show putF "counts" _ (putF "time" _ (putF "states" _ (putF "neighbours" _ (putF "edges" _ (putF "n" _ [("kind",.int (k:Nat))])))))=_
 repeat (first|rw[Zx]|rw[Zk (by decide +kernel)]|rw[show ∀(f:Str) (v:V),putF f v []=[(f,v)] from fun _ _=>rfl])
 rfl
theorem JX(k n:Nat)(ed nb x:Addr)(t:Nat)(c:Addr)(k':Nat)(c':Addr):putF "counts" (.ref c') (putF "time" (.int 0) (putF "kind" (.int (k':Nat)) (waveF k n ed nb x t c)))=waveF k' n ed nb x 0 c':=by
 unfold waveF
 repeat (first|rw[Zx]|rw[Zk (by decide +kernel)])
 rfl
theorem YT(k n:Nat)(ed nb x:Addr)(t:Nat)(c:Addr)(x' c':Addr):putF "counts" (.ref c') (putF "time" (.int 0) (putF "states" (.ref x') (waveF k n ed nb x t c)))=waveF k n ed nb x' 0 c':=by
 unfold waveF
 repeat (first|rw[Zx]|rw[Zk (by decide +kernel)])
 rfl
theorem zm(k n:Nat)(ed nb x:Addr)(t:Nat)(c:Addr):FsOk (waveF k n ed nb x t c) 7:=by
 refine⟨Nat.le_refl _,fun m hm=> ?_⟩;have h:m="take_graph"∨m="take_edges"∨m="take_kind"∨m="take_states"∨m="forget_runs"∨m="run"∨m="turn"∨m="rename"∨m="twin":=by
  unfold meths at hm;simpa using hm
 rcases h with rfl|rfl|rfl|rfl|rfl|rfl|rfl|rfl|rfl<;>rfl
theorem wk(k n:Nat)(ed nb x:Addr)(t:Nat)(c:Addr):(waveF k n ed nb x t c).lookup ("kind":Str)=some (.int (k:Nat)):=rfl
theorem wn(k n:Nat)(ed nb x:Addr)(t:Nat)(c:Addr):(waveF k n ed nb x t c).lookup ("n":Str)=some (.int (n:Nat)):=rfl
theorem we(k n:Nat)(ed nb x:Addr)(t:Nat)(c:Addr):(waveF k n ed nb x t c).lookup ("edges":Str)=some (.ref ed):=rfl
theorem wnb(k n:Nat)(ed nb x:Addr)(t:Nat)(c:Addr):(waveF k n ed nb x t c).lookup ("neighbours":Str)=some (.ref nb):=rfl
theorem wx(k n:Nat)(ed nb x:Addr)(t:Nat)(c:Addr):(waveF k n ed nb x t c).lookup ("states":Str)=some (.ref x):=rfl
theorem wt(k n:Nat)(ed nb x:Addr)(t:Nat)(c:Addr):(waveF k n ed nb x t c).lookup ("time":Str)=some (.int (t:Nat)):=rfl
theorem wc(k n:Nat)(ed nb x:Addr)(t:Nat)(c:Addr):(waveF k n ed nb x t c).lookup ("counts":Str)=some (.ref c):=rfl
def WaveAt(C:Addr)(H:Hp)(a:Addr)(s:Vblcas.State):Prop:=∃(dx ed nb x c:Addr) (rows:List (List Int)),H a=some (.ins C dx (waveF s.kind s.graph.n ed nb x s.time c))/\PairsT H ed (s.graph.edges.map eI)/\RowsT H nb rows/\RowsNb rows s.graph.near/\(∀r,r∈rows->r.length<1000)/\
 H x=some (.lst ((natsI s.config).map V.int))/\H c=some (.lst ((natsI s.counts).map V.int))
theorem WaveAt.same{C:Addr}{H H':Hp}{a:Addr}{s:Vblcas.State}(h:WaveAt C H a s)(q:Same H H'):WaveAt C H' a s:=by
 obtain⟨dx,ed,nb,x,c,rows,h1,h2,h3,h4,h5,h6,h7⟩:=h;exact⟨dx,ed,nb,x,c,rows,q _ _ h1,h2.same q,h3.same q,h4,h5,q _ _ h6,q _ _ h7⟩
theorem jN{es:List (Int×Int)}{ds:List (Nat×Nat)}(hp:es.Perm (ds.map eI))(h1:es.Pairwise lexLe)(h2:ds.Pairwise lexLt2):es=ds.map eI:=by
 refine List.Perm.eq_of_pairwise (le:=fun a b=>lexLe a b) (fun a b _ _ q1 q2=> ?_) h1 ?_ hp
 ·unfold lexLe at q1 q2;exact Prod.ext (by omega) (by omega)
 ·rw[List.pairwise_map];refine h2.imp fun{a b} q=> ?_;unfold lexLt2 at q;unfold lexLe eI;simp only;omega
end GW
namespace GW
open Vblcas
theorem sum_nats(l:List Nat):(natsI l).sum=((l.sum:Nat):Int):=by
 induction l with
 |nil=>rfl
 |cons a l ih=>
  show((a:Nat):Int)+(natsI l).sum=_;rw[ih,List.sum_cons];omega
theorem goes_eq{g:Graph}{rows:List (List Int)}(hr:RowsNb rows g.near){k:Nat}(hk:k<=1){x:Config}(hx:x.length=g.n)(h3:St3 x){v:Nat}(hv:v<g.n):goesI (k:Nat) (rows.getD v []) (natsI x) (v:Nat)=goes g.near k x v:=by
 have nbv:g.near.getD v []=Nb g.near v:=rfl;have at_v:at0 (natsI x) ((v:Nat):Int)=((at_ x v:Nat):Int):=yF (by omega);have any_eq: ∀(s:Nat),((rows.getD v []).any fun o=>decide (at0 (natsI x) o=((s:Nat):Int)))=(Nb g.near v).any fun u=>at_ x u==s:=fun s=>by
  rw[Bool.eq_iff_iff,List.any_eq_true,List.any_eq_true];constructor
  ·rintro⟨z,hz,q⟩;obtain⟨u,rfl,hu⟩:=(hr.mem v z).mp hz;have hul:u<g.n:=(ZM.mp hu).2.1;rw[yF (by omega),decide_eq_true_eq] at q;exact⟨u,hu,by rw[beq_iff_eq];omega⟩
  ·rintro⟨u,hu,q⟩;have hul:u<g.n:=(ZM.mp hu).2.1;rw[beq_iff_eq] at q;refine⟨(u:Int),(hr.mem v _).mpr ⟨u,rfl,hu⟩,?_⟩;rw[yF (by omega),decide_eq_true_eq,q]
 have em:(((at_ x v:Nat):Int)+1) % 3=(((at_ x v+1) % 3:Nat):Int):=by omega
 have ha:=h3.at v;unfold goesI goes;rw[at_v,em,any_eq,nbv];have h01:k=0∨k=1:=by omega
 rcases h01 with rfl|rfl
 ·rw[if_pos rfl];show(decide (((0:Nat):Int)=1)&&_||_)=_;rw[show decide (((0:Nat):Int)=1)=false from rfl,Bool.false_and,Bool.false_or]
 ·rw[if_neg (by decide)];show(decide (((1:Nat):Int)=1)&&_||_)=_;rw[show decide (((1:Nat):Int)=1)=true from rfl,Bool.true_and];by_cases q:at_ x v=0
  ·rw[q];rfl
  ·have e1:decide (((at_ x v:Nat):Int)=0)=false:=decide_eq_false (by omega);have e2:(at_ x v != 0)=true:=by simpa using q
   rw[e1,e2];rfl
theorem steps_eq{g:Graph}{rows:List (List Int)}(hr:RowsNb rows g.near){k:Nat}(hk:k<=1){x:Config}(hx:x.length=g.n)(h3:St3 x):stepsI (k:Nat) rows (natsI x)=natsI (stepsN g.near k x):=by
 unfold stepsI stepsN natsI;rw[hr.len,List.map_map];refine List.map_congr_left fun v hv=> ?_;rw[List.mem_range,zf] at hv;have:=goes_eq hr hk hx h3 hv;unfold natsI at this;rw[this];show _=(((if goes g.near k x v=true then 1 else 0:Nat)):Int);split<;>rfl
end GW
namespace GW
open PySem PySem.Spec PyProof.Rows L2
def spInit(C:Addr):Sp:=fun vs H Q _=>∃(a dx:Addr),vs=[.ref a]/\H a=some (.ins C dx [])/\∀H',Kept a H H'->WaveAt C H' a Vblcas.start->Q .non H'
theorem yQ(n:Nat):zerosV n=(natsI (Vblcas.zeros n)).map V.int:=by
 unfold zerosV natsI Vblcas.zeros;rw[List.map_replicate,List.map_replicate];rfl
theorem JH{n:Nat}{es:List (Int×Int)}(h:es.length<1000): ∀r,r∈rowsI n es->r.length<1000:=fun r hr=>by
 unfold rowsI at hr;obtain⟨v,_,rfl⟩:=List.mem_map.mp hr;exact Nat.lt_of_le_of_lt (yO _ _) h
theorem YC{C:Addr}{H':Hp}{a dx ed nb x c:Addr}{n k:Nat}{es es':List (Int×Int)}{ds:List (Nat×Nat)}(ha:H' a=some (.ins C dx (waveF k n ed nb x 0 c)))(hed:PairsT H' ed es')(perm:es'.Perm es)(srt:es'.Pairwise lexLe)(hr:RowsT H' nb (rowsI n es))(hl:es.length<1000)
  (hx:H' x=some (.lst (zerosV n)))(hc:H' c=some (.lst (zerosV n)))(hds:(ds.map eI).Perm es)(sd:ds.Pairwise lexLt2)(ok:EOk {n:=n,edges:=ds}):WaveAt C H' a {graph:={n:=n,edges:=ds},kind:=k,config:=Vblcas.zeros n,counts:=Vblcas.zeros n,time:=0}:=by
 have e:es'=ds.map eI:=jN (perm.trans hds.symm) srt sd;rw[e] at hed;rw[yQ] at hx hc;refine⟨dx,ed,nb,x,c,_,ha,hed,hr,rowsNb (g:={n:=n,edges:=ds}) ok fun e=> ?_,JH hl,hx,hc⟩;rw[<-hds.mem_iff,List.mem_map];exact⟨fun⟨d,h1,h2⟩=>⟨d,h1,h2.symm⟩,fun⟨d,h1,h2⟩=>⟨d,h1,h2.symm⟩⟩
section
variable {P:Program}{w:World}{K:PySem.W.Frag}{mg:Str->Option Value}{base:Heap}
theorem scInit:FnScope ["self"] ["self"] (defScope sInit):=⟨rfl,rfl,rfl,by decide +kernel,rfl,by decide +kernel,by decide +kernel⟩
theorem ok_init{f C:Addr}{fd:FuncData}(F:Fun K "__init__" "Wave.__init__" sInit f fd)(T:WTxt K C)(hCh:IntG mg "CHASE" 0)(M:MCallee P w K mg base 3 C "take_graph" ["self","n","edges"] (spTakeGraph C)):FnOk P w K mg base CX0 4 f fd ["self"] (spInit C):=by
 refine F.ok scInit (fun vs H Q E h=> ?_) (fun cdv A outer s H vs Q E hr h=> ?_)
 ·obtain⟨a,dx,rfl,_⟩:=h;rfl
 ·obtain⟨a,dx,rfl,ha,k⟩:=h;refine⟨_,zF (Zg (pv 0) (zV hCh) rfl) (zG (zg (ZR T.cl M hr (pv 0) (zA zK (zA (zT (zA (YD (zA zK (zA zK zE))) (zA (YD (zA zK (zA zK zE))) (zA (YD (zA zK (zA zK zE))) zE)))) zE))))),?_⟩;refine⟨_,rfl,a,C,dx,[],rfl,ha,T.cl,T.nKind,by show 0<1000;decide,?_⟩;generalize hH1:upd H a (.ins C dx (putF "kind" (.int 0) []))=H1;have ha1:H1 a=some (.ins C dx (putF "kind" (.int 0) [])):=by rw[<-hH1,zB]
  have k1:SameX a H H1:=by rw[<-hH1];exact SameX.updD _
  refine⟨_,rfl,a,dx,_,rfl,ha1,(by rfl),?_⟩;refine⟨(by show 2<=sizeLine;decide),fun t1 h1=>⟨(by show 2<=sizeLine;decide),fun t2 h2=>⟨(by show 2<=sizeLine;decide),fun t3 h3=>⟨(by show 3<=sizeLine;decide),fun l h4=> ?_⟩⟩⟩⟩;have g1:Same H1 _:=Same.upd (.tup [.int 0,.int 1]) h1;have g2:Same _ _:=Same.upd (.tup [.int 0,.int 2]) h2;have g3:Same _ _:=Same.upd (.tup [.int 1,.int 2]) h3;have g4:Same _ _:=Same.upd (.lst [.ref t1,.ref t2,.ref t3]) h4;have g:Same H1 _:=((g1.trans g2).trans g3).trans g4;refine⟨a,dx,l,_,3,[(0,1),(0,2),(1,2)],rfl,g _ _ ha1,⟨by show 1<=700;decide,fun m hm=> ?_⟩,by decide,⟨[t1,t2,t3],zB,rfl,fun i p e e1 e2=> ?_⟩,by decide,fun e he=> ?_,fun H' c x ed nb es' kp q1 q2 q3 q4 q5 q6 q7=> ?_⟩
  ·rw[zr,if_neg (fun z=>by rw[z] at hm;exact absurd hm (by decide +kernel))];rfl
  ·match i,e1,e2 with
   |0,e1,e2=>
    obtain rfl:t1=p:=Option.some.inj e1;obtain rfl:((0:Int),(1:Int))=e:=Option.some.inj e2;exact g4 _ _ (g3 _ _ (g2 _ _ zB))
   |1,e1,e2=>
    obtain rfl:t2=p:=Option.some.inj e1;obtain rfl:((0:Int),(2:Int))=e:=Option.some.inj e2;exact g4 _ _ (g3 _ _ zB)
   |2,e1,e2=>
    obtain rfl:t3=p:=Option.some.inj e1;obtain rfl:((1:Int),(2:Int))=e:=Option.some.inj e2;exact g4 _ _ zB
   |i+3,e1,e2=>simp at e1
  ·simp at he;rcases he with rfl|rfl|rfl<;>decide
  ·rw[show putF "kind" (V.int 0) []=putF "kind" (V.int ((0:Nat):Int)) [] from rfl,graphF_new] at q1;refine k H' (fun b o n e=>kp b o n (g _ _ (k1 b o n e))) (YC (ds:=[(0,1),(0,2),(1,2)]) q1 q2 q3 q4 q5 (by decide) q6 q7 (List.Perm.refl _) ?_ ⟨fun e he=> ?_⟩)
   ·simp[lexLt2]
   ·simp at he;rcases he with rfl|rfl|rfl<;>decide
def ranS(s:Vblcas.State)(p:Vblcas.Config×List Nat):Vblcas.State:={s with config:=p.1,counts:=p.2}
def pAt(s:Vblcas.State)(i:Nat):Vblcas.Config×List Nat:=ST.iter (one s.graph.near s.kind) i (s.config,s.counts)
theorem StOk.p{s:Vblcas.State}(h:StOk s)(i:Nat):POk s.graph.near (pAt s i):=POk.iter i ⟨by rw[zf];exact h.xl,by rw[zf];exact h.cl,h.x3⟩
def spRun(C:Addr):Sp:=fun vs H Q _=>∃(a:Addr) (s:Vblcas.State) (t:Nat),vs=[.ref a,.int (t:Nat)]/\WaveAt C H a s/\StOk s/\t<=1000/\
 ∀H',Kept a H H'->WaveAt C H' a {ranS s (pAt s t) with time:=s.time+t}->Q (.int ((((pAt s t).2.sum:Nat):Int) - ((s.counts.sum:Nat):Int))) H'
theorem timeF_wave(k n:Nat)(ed nb x:Addr)(t:Nat)(c:Addr)(t':Nat):putF "time" (.int (t':Nat)) (waveF k n ed nb x t c)=waveF k n ed nb x t' c:=by
 unfold waveF
 repeat (first|rw[Zx]|rw[Zk (by decide +kernel)])
theorem yU(k n:Nat)(ed nb x:Addr)(t:Nat)(c:Addr)(x':Addr):putF "states" (.ref x') (waveF k n ed nb x t c)=waveF k n ed nb x' t c:=by
 unfold waveF
 repeat (first|rw[Zx]|rw[Zk (by decide +kernel)])
theorem jZ(k n:Nat)(ed nb x:Addr)(t:Nat)(c:Addr)(c':Addr):putF "counts" (.ref c') (waveF k n ed nb x t c)=waveF k n ed nb x t c':=by
 unfold waveF
 repeat (first|rw[Zx]|rw[Zk (by decide +kernel)])
theorem Za{l:List Nat}{i:Nat}{y:V}(h:((natsI l).map V.int)[i]? =some y): ∃z,l[i]? =some z/\y=.int (z:Nat):=by
 obtain⟨c,e1,e2⟩:=getElem?_mapV h;unfold natsI at e1;rw[List.getElem?_map] at e1;cases q:l[i]? with
 |none=>rw[q] at e1;cases e1
 |some z=>
  rw[q] at e1;exact⟨z,rfl,by rw[e2,<-Option.some.inj e1]⟩
theorem scRun:FnScope ["self","generations","went_on","generation","steps","state","step","count"] ["self","generations"] (defScope sRun):=⟨rfl,rfl,rfl,by decide +kernel,rfl,by decide +kernel,by decide +kernel⟩
theorem ok_run{f C:Addr}{fd:FuncData}(F:Fun K "run" "Wave.run" sRun f fd)(B:Bi mg)(T:WTxt K C)(CS:Callee P w K mg base 3 "steps_ahead" ["kind","neighbours","states"] (spSteps K))(CA:Callee P w K mg base 1 "state_after" ["state","steps"] spStateAfter):FnOk P w K mg base CX0 4 f fd ["self","generations"] (spRun C):=by
 refine F.ok scRun (fun vs H Q E h=> ?_) (fun cdv A outer s H vs Q E hr h=> ?_)
 ·obtain⟨a,s,t,rfl,_⟩:=h;rfl
 ·obtain⟨a,st,t,rfl,hw,ok,ht,k⟩:=h;refine'⟨_,zF (zQ (i:=2) scRun.nd rfl (Or.inl rfl) zK)
   (zF (ZV PassesOwn.never rfl (Zr rfl B.range (zA (pv 1) zE)) (ZQ (i:=3) scRun.nd rfl (Or.inl rfl))
    (zF (zQ (i:=4) scRun.nd rfl (Or.inl rfl) (zP CS hr (zA (zU (pv 0) rfl) (zA (zU (pv 0) rfl) (zA (zU (pv 0) rfl) zE)))))
    (zF (ZD (zc jR (zX (cr_sum rfl) rfl B.sum boot_sum (zA (pv 4) zE)) zK (nomark _)) (zG ps_break) zZ)
    (zF (Zg (pv 0) (Zd (own:=[("state",5),("step",6)]) rfl scRun.nd ?a1 ?a2 (fun _ _ _ _ _=> ?a3) (fun _ _ _ _ _=> ?a4) (fun _ _ _ _ _=> ?a5)) rfl)
    (zF (Zg (pv 0) (Zd (own:=[("count",7),("step",6)]) rfl scRun.nd ?b1 ?b2 (fun _ _ _ _ _=> ?b3) (fun _ _ _ _ _=> ?b4) (fun _ _ _ _ _=> ?b5)) rfl)
    (zG (ps_aug (i:=2) scRun.nd rfl (Or.inl rfl) (zX (cr_sum rfl) rfl B.sum boot_sum (zA (pv 4) zE)) ip_add)))))))
   (zF (ps_fldaug (pv 0) (pv 1) in_add)
   (zG (zM (pv 2))))),?rd⟩
  case a1=>exact Yw rfl B.zip (zA (zU (pv 0) rfl) (zA (pv 4) zE))
  case a2=>exact za (by show blkC ["self","generations","went_on","generation","steps","state","step","count"] (defScope sRun) _ _=true;decide +kernel)
  case a3=>exact pgt2 K 5 6 scRun.nd
  case a4=>exact zx
  case a5=>exact zP CA hr (zA (pv 5) (zA (pv 6) zE))
  case b1=>exact Yw rfl B.zip (zA (zU (pv 0) rfl) (zA (pv 4) zE))
  case b2=>exact za (by show blkC ["self","generations","went_on","generation","steps","state","step","count"] (defScope sRun) _ _=true;decide +kernel)
  case b3=>exact pgt2 K 7 6 scRun.nd
  case b4=>exact zx
  case b5=>exact zj ZJ (pv 7) (pv 6)
  have fin: ∀(v3 v4:Option V) (H':Hp),Kept a H H'->WaveAt C H' a (ranS st (pAt st t))->(tSeq (sFldAug K (tVar 0) (tVar 1) rAdd "time") (tRet (tVar 2))) {nx:=fun _ H'=>Q .non H',rt:=Q} [some (.ref a),some (.int (t:Nat)),some (.int ((((pAt st t).2.sum:Nat):Int) - ((st.counts.sum:Nat):Int))),v3,v4,none,none,none] H':=by
   intro v3 v4 H' kp hw';obtain⟨dx,ed,nb,x,c,rows,h1,h2,h3,h4,h5,h6,h7⟩:=hw';refine⟨_,rfl,a,C,dx,_,_,rfl,h1,T.cl,T.nTime,wt _ _ _ _ _ _ _,_,rfl,_,_,rfl,rfl,dx,_,h1,by show 7<1000;decide,_,rfl,?_⟩;refine k _ (fun b o n e=>by rw[zH n];exact kp b o n e) ⟨dx,ed,nb,x,c,rows,?_,?_,?_,h4,h5,?_,?_⟩
   ·rw[zB];show some (HO.ins C dx (putF "time" (.int (((ranS st (pAt st t)).time:Int)+(t:Int))) (waveF st.kind st.graph.n ed nb x (ranS st (pAt st t)).time c)))=some (HO.ins C dx (waveF st.kind st.graph.n ed nb x (st.time+t) c));rw[show(((ranS st (pAt st t)).time:Int)+(t:Int))=((st.time+t:Nat):Int) by show((st.time:Int)+(t:Int))=_;omega,timeF_wave]
   ·exact h2.sx h1 (SameX.updD _)
   ·exact h3.sx h1 (SameX.updD _)
   ·rw[zH (ZW h6 h1 (by intro z;cases z))];exact h6
   ·rw[zH (ZW h7 h1 (by intro z;cases z))];exact h7
  refine⟨_,rfl,_,rfl,by omega,by omega,?_⟩;rw[Int.toNat_natCast];refine yH (n:=t) (fun i σ H'=>∃v3 v4,σ=[some (.ref a),some (.int (t:Nat)),some (.int ((((pAt st i).2.sum:Nat):Int) - ((st.counts.sum:Nat):Int))),v3,v4,none,none,none]/\Kept a H H'/\WaveAt C H' a (ranS st (pAt st i)))
   ⟨none,none,?_,fun b o _ e=>e,hw⟩ ?_ ?_
  ·have e:(((pAt st 0).2.sum:Nat):Int) - ((st.counts.sum:Nat):Int)=0:=Int.sub_self _;rw[e];rfl
  ·rintro i σ H' hi ⟨v3,v4,rfl,kp,hw'⟩;have pk:=ok.p i;generalize hp:pAt st i=p at pk hw';obtain⟨dx,ed,nb,x,c,rows,h1,h2,h3,h4,h5,h6,h7⟩:=hw';have nl:st.graph.near.length=st.graph.n:=zf _;have xl:p.1.length=st.graph.n:=by rw[pk.xl,nl]
   have cl:p.2.length=st.graph.n:=by rw[pk.cl,nl]
   have rl:rows.length=st.graph.n:=by rw[h4.len];exact nl
   have n16:=ok.n16;have h6:H' x=some (.lst ((natsI p.1).map V.int)):=h6;have h7:H' c=some (.lst ((natsI p.2).map V.int)):=h7;have h1:H' a=some (.ins C dx (waveF st.kind st.graph.n ed nb x st.time c)):=h1;have hin: ∀r,r∈rows->InR r (natsI p.1).length:=fun r hr z hz=>by
    obtain⟨v,hv⟩:=List.mem_iff_getElem?.mp hr;have er:rows.getD v []=r:=by rw[List.getD_eq_getElem?_getD,hv];rfl
    rw[<-er] at hz;obtain⟨u,rfl,hu⟩:=(h4.mem v z).mp hz;have:=(ZM.mp hu).2.1;rw[zN,xl];have:u<st.graph.n:=this;omega
   have e3:=steps_eq (g:=st.graph) h4 ok.k xl pk.x3;have nx:pAt st (i+1)=one st.graph.near st.kind p:=by rw[<-hp];exact ST.zu _ _ _
   have sl:(stepsN st.graph.near st.kind p.1).length=st.graph.n:=by unfold stepsN;rw[List.length_map,List.length_range,nl]
   refine⟨_,rfl,a,C,dx,_,_,rfl,h1,T.cl,T.nKind,wk _ _ _ _ _ _ _,_,rfl,a,C,dx,_,_,rfl,h1,T.cl,T.nNear,wnb _ _ _ _ _ _ _,_,rfl,a,C,dx,_,_,rfl,h1,T.cl,T.nStates,wx _ _ _ _ _ _ _,_,nb,x,rows,natsI p.1,rfl,h3.rows,SqL.of h6,by rw[rl,zN,xl],small1000 (by omega),hin,fun H2 q hq s2 hq2=> ?_⟩;rw[e3] at hq2;refine⟨_,rfl,q,natsI (stepsN st.graph.near st.kind p.1),rfl,SqL.of hq2,rfl,_,rfl,?_⟩;rw[zy,sum_nats];refine ite2 (fun h0=> ?_) (fun h0=> ?_)
   ·
    have h0:(stepsN st.graph.near st.kind p.1).sum=0:=by
     have:=of_decide_eq_true h0;omega
    have e:pAt st t=p:=by
     have:=JZ pk h0 (t - i);rw[<-hp] at this ⊢;unfold pAt at this ⊢;rw[<-ST.ZX,show i+(t - i)=t by omega] at this;exact this
    have:=fin (some (.int ((0:Int)+(i:Nat)))) (some (.ref q)) H2 (fun b o n e=>s2 _ _ (kp b o n e)) (by rw[e];exact(show WaveAt C H' a (ranS st p) from⟨dx,ed,nb,x,c,rows,h1,h2,h3,h4,h5,h6,h7⟩).same s2);rw[e] at this;exact this
   ·have ha2:=s2 _ _ h1;have hx2:=s2 _ _ h6;have hc2:=s2 _ _ h7;refine⟨_,rfl,a,C,dx,_,_,rfl,ha2,T.cl,T.nStates,wx _ _ _ _ _ _ _,_,rfl,x,q,_,_,rfl,SqL.of hx2,SqL.of hq2,fun D hD=> ?_⟩;refine Yh (K:=K) (fun j out _=>out=((natsI (one st.graph.near st.kind p).1).take j).map V.int) RMono.pure hD (SqL.of hx2) (SqL.of hq2) rfl ?_ ?_
    ·intro j T0 y z H3 out hj hj2 ey ez hT s3 hd hl hR;obtain⟨y0,ey0,rfl⟩:=Za ey;obtain⟨z0,ez0,rfl⟩:=Za ez;rw[List.length_map,zN,xl] at hj;have s4:Same H3 (upd H3 T0 (.tup [.int (y0:Nat),.int (z0:Nat)])):=Same.upd _ hT;refine⟨T0,_,rfl,SqT.of zB,rfl,_,_,rfl,_,_,rfl,rfl,rfl,yesT ?_⟩;refine⟨_,rfl,_,rfl,_,_,rfl,?_⟩;refine LcI.put RMono.pure hD (small1000 (by omega)) s3 hd hl s4 ?_;have e1:=one_fst (k:=st.kind) pk (v:=j) (by rw[nl];exact hj);have e2:Vblcas.at_ p.1 j=y0:=by unfold Vblcas.at_;rw[List.getD_eq_getElem?_getD,ey0];rfl
     have e3:(stepsN st.graph.near st.kind p.1).getD j 0=z0:=by rw[List.getD_eq_getElem?_getD,ez0];rfl
     rw[e2,e3] at e1;rw[hR,zL (x:=((((y0+z0) % 3:Nat)):Int)),List.map_append]
     ·rw[show(((y0:Nat):Int)+((z0:Nat):Int)) % 3=(((y0+z0) % 3:Nat):Int) by omega];rfl
     ·unfold natsI;rw[List.getElem?_map,e1];rfl
    ·intro H3 out s3 hd hl hR;have ol:(one st.graph.near st.kind p).1.length=st.graph.n:=by rw[(pk.one (k:=st.kind)).xl,nl]
     rw[List.length_map,List.length_map,zN,zN,xl,sl,Nat.min_self,List.take_of_length_le (by rw[zN,ol];exact Nat.le_refl _)] at hR;rw[hR] at hd;have Da:D≠a:=fun z=>by rw[z,ha2] at hD;cases hD
     refine⟨_,rfl,a,C,dx,_,rfl,s3 _ _ ha2,T.cl,T.nStates,by show 7<1000;decide,?_⟩;rw[yU];generalize hH4:upd H3 a (.ins C dx (waveF st.kind st.graph.n ed nb D st.time c))=H4;have ha4:H4 a=some (.ins C dx (waveF st.kind st.graph.n ed nb D st.time c)):=by rw[<-hH4,zB]
     have k4:SameX a H3 H4:=by rw[<-hH4];exact SameX.updD _
     have ha3:=s3 _ _ ha2;have hc4:H4 c=some (.lst ((natsI p.2).map V.int)):=k4 _ _ (ZW (s3 _ _ hc2) ha3 (by intro z;cases z)) (s3 _ _ hc2);have hq4:H4 q=some (.lst ((natsI (stepsN st.graph.near st.kind p.1)).map V.int)):=k4 _ _ (ZW (s3 _ _ hq2) ha3 (by intro z;cases z)) (s3 _ _ hq2);have hD4:H4 D=some (.lst ((natsI (one st.graph.near st.kind p).1).map V.int)):=k4 _ _ Da hd;refine⟨_,rfl,a,C,dx,_,_,rfl,ha4,T.cl,T.nCounts,wc _ _ _ _ _ _ _,_,rfl,c,q,_,_,rfl,SqL.of hc4,SqL.of hq4,fun D2 hD2=> ?_⟩;refine Yh (K:=K) (fun j out _=>out=((natsI (one st.graph.near st.kind p).2).take j).map V.int) RMono.pure hD2 (SqL.of hc4) (SqL.of hq4) rfl ?_ ?_
     ·intro j T0 y z H5 out hj hj2 ey ez hT s5 hd5 hl5 hR5;obtain⟨y0,ey0,rfl⟩:=Za ey;obtain⟨z0,ez0,rfl⟩:=Za ez;rw[List.length_map,zN,cl] at hj;have s6:Same H5 (upd H5 T0 (.tup [.int (y0:Nat),.int (z0:Nat)])):=Same.upd _ hT;refine⟨T0,_,rfl,SqT.of zB,rfl,_,_,rfl,_,_,rfl,rfl,rfl,yesT ?_⟩;refine⟨_,rfl,_,rfl,_,_,rfl,rfl,?_⟩;refine LcI.put RMono.pure hD2 (small1000 (by omega)) s5 hd5 hl5 s6 ?_;have e1:=one_snd (k:=st.kind) (p:=p) (v:=j) (nb:=st.graph.near) (by rw[nl];exact hj);have e2:p.2.getD j 0=y0:=by rw[List.getD_eq_getElem?_getD,ey0];rfl
      have e3:(stepsN st.graph.near st.kind p.1).getD j 0=z0:=by rw[List.getD_eq_getElem?_getD,ez0];rfl
      rw[e2,e3] at e1;rw[hR5,zL (x:=(((y0+z0:Nat)):Int)),List.map_append]
      ·show _++[V.int (((y0:Nat):Int)+((z0:Nat):Int))]=_;rw[show(((y0:Nat):Int)+((z0:Nat):Int))=((y0+z0:Nat):Int) by omega];rfl
      ·unfold natsI;rw[List.getElem?_map,e1];rfl
     ·intro H5 out s5 hd5 hl5 hR5;have ol2:(one st.graph.near st.kind p).2.length=st.graph.n:=by rw[(pk.one (k:=st.kind)).cl,nl]
      rw[List.length_map,List.length_map,zN,zN,cl,sl,Nat.min_self,List.take_of_length_le (by rw[zN,ol2];exact Nat.le_refl _)] at hR5;rw[hR5] at hd5;have D2a:D2≠a:=fun z=>by rw[z,ha4] at hD2;cases hD2
      have ha5:=s5 _ _ ha4;refine⟨_,rfl,a,C,dx,_,rfl,ha5,T.cl,T.nCounts,by show 7<1000;decide,?_⟩;rw[jZ];have k6:SameX a H5 (upd H5 a (.ins C dx (waveF st.kind st.graph.n ed nb D st.time D2))):=SameX.updD _;have hq6:=k6 _ _ (ZW (s5 _ _ hq4) ha5 (by intro z;cases z)) (s5 _ _ hq4);refine⟨_,rfl,_,rfl,q,natsI (stepsN st.graph.near st.kind p.1),rfl,SqL.of hq6,_,_,rfl,rfl,?_⟩;have kA:SameX a H3 (upd H5 a (.ins C dx (waveF st.kind st.graph.n ed nb D st.time D2))):=fun b o n e=>k6 b o n (s5 _ _ (k4 b o n e));refine⟨some (.int ((0:Int)+(i:Nat))),some (.ref q),?_,fun b o n e=>kA b o n (s3 _ _ (s2 _ _ (kp b o n e))),?_⟩
      ·show[_,_,some (V.int ((((p.2.sum:Nat):Int) - ((st.counts.sum:Nat):Int))+(natsI (stepsN st.graph.near st.kind p.1)).sum)),_,_,_,_,_]=_;rw[nx,sum_nats,one_sum pk];rw[show(((p.2.sum:Nat):Int) - ((st.counts.sum:Nat):Int))+(((stepsN st.graph.near st.kind p.1).sum:Nat):Int)=(((p.2.sum+(stepsN st.graph.near st.kind p.1).sum:Nat)):Int) - ((st.counts.sum:Nat):Int) by omega]
      ·rw[nx];refine⟨dx,ed,nb,D,D2,rows,zB,?_,?_,h4,h5,?_,?_⟩
       ·exact((h2.same s2).same s3).sx ha3 kA
       ·exact((h3.same s2).same s3).sx ha3 kA
       ·exact kA _ _ Da hd
       ·exact k6 _ _ D2a hd5
  ·rintro σ H' ⟨v3,v4,rfl,kp,hw'⟩;exact fin v3 v4 H' kp hw'
abbrev sPlaced:Stmt:=top 78
structure Maker(P:Program)(w:World)(K:PySem.W.Frag)(mg:Str->Option Value)(base:Heap)(k:Nat)(C:Addr)(sp:Sp):Prop where
 ex: ∃f fd,FnOk P w K mg base CX0 k f fd ["self"] sp/\Mk K C f/\mg "Wave"=some (.ref C)/\Binds K fd ["self"] []
theorem pe_wave{X:Cx}{k j:Nat}{C:Addr}{sp:Sp}{p pos:Pos}(M:Maker X.prog X.w X.K X.mg X.base k C sp)(hr:Room j X.A)(hg:Gl X "Wave":=by rfl)(hkj:k+1<=j:=by decide):PE X (.Call (.Name "Wave" p) [] [] pos) (tMake C sp [] E0 tNil):=by
 obtain⟨f,fd,F,hm,hc,hb⟩:=M.ex;exact pe_make0 hm F (hr.mono hkj) hg hc hb .nil pass0
theorem vG{H H2:Hp}{x dx:Addr}{o1 o2:HO}(hx:H x=none)(hdx:H dx=none)(k:Kept x (upd (upd H dx o1) x o2) H2):Same H H2:=fun b o e=>k b o (zJ e hx) (by rw[zH (zJ e hx),zH (zJ e hdx)];exact e)
def freshS(s:Vblcas.State):Vblcas.State:={s with counts:=Vblcas.zeros s.graph.n,time:=0}
def spTwin(C:Addr):Sp:=fun vs H Q _=>∃(a:Addr) (s:Vblcas.State),vs=[.ref a]/\WaveAt C H a s/\StOk s/\∀H' r,H r=none->Same H H'->WaveAt C H' r (freshS s)->Q (.ref r) H'
def turnedS(s:Vblcas.State)(c:Nat):Vblcas.State:={s with config:=s.config.map fun a=>(a+c) % 3}
def spTurn(C:Addr):Sp:=fun vs H Q _=>∃(a:Addr) (s:Vblcas.State) (c:Nat),vs=[.ref a,.int (c:Nat)]/\WaveAt C H a s/\StOk s/\∀H',Kept a H H'->WaveAt C H' a (turnedS s c)->Q .non H'
def placedN(l vals:List Nat)(n:Nat):List Nat:=(List.range n).map fun u=>vals.getD (oldN l u) 0
def spPlaced(K:PySem.W.Frag):Sp:=fun vs H Q _=>∃(a b:Addr) (n:Nat) (l vals:List Nat),vs=[.ref a,.ref b]/\SqL K H a ((natsI l).map V.int)/\SqL K H b ((natsI vals).map V.int)/\NamesOk n l/\vals.length=n/\n<1000/\NewInts H Q (natsI (placedN l vals n))
def renamedS(s:Vblcas.State)(l:List Nat):Vblcas.State:={s with graph:={n:=s.graph.n,edges:=s.graph.edges.foldl (fun m e=>Vblcas.putPair (toE l e) m) []},config:=placedN l s.config s.graph.n,counts:=placedN l s.counts s.graph.n}
def spRename(K:PySem.W.Frag)(C:Addr):Sp:=fun vs H Q _=>∃(a b:Addr) (s:Vblcas.State) (l:List Nat),vs=[.ref a,.ref b]/\WaveAt C H a s/\StOk s/\SqL K H b ((natsI l).map V.int)/\NamesOk s.graph.n l/\∀H',Kept a H H'->WaveAt C H' a (renamedS s l)->Q .non H'
theorem edges_in{g:Vblcas.Graph}(ge:EOk g):EdgesIn g.n (g.edges.map eI):=fun e he=>by
 obtain⟨d,hd,rfl⟩:=List.mem_map.mp he;have:=ge.lt d hd;show(0<=((d.1:Nat):Int)/\((d.1:Nat):Int)<_)/\(0<=((d.2:Nat):Int)/\((d.2:Nat):Int)<_)/\((d.1:Nat):Int)≠((d.2:Nat):Int);omega
theorem eI_toE(l:List Nat)(e:Nat×Nat):eI (toE l e)=(mn ((l.getD e.1 0:Nat):Int) ((l.getD e.2 0:Nat):Int),mx ((l.getD e.1 0:Nat):Int) ((l.getD e.2 0:Nat):Int)):=by
 unfold eI toE mn mx;refine Prod.ext ?_ ?_
 ·simp only;split<;>omega
 ·simp only;split<;>omega
theorem scTwin:FnScope ["self","other"] ["self"] (defScope sTwin):=⟨rfl,rfl,rfl,by decide +kernel,rfl,by decide +kernel,by decide +kernel⟩
theorem ok_twin{f C:Addr}{fd:FuncData}(F:Fun K "twin" "Wave.twin" sTwin f fd)(T:WTxt K C)(W:Maker P w K mg base 4 C (spInit C))(MK:MCallee P w K mg base 2 C "take_kind" ["self","kind"] (spTakeKind C))(MG:MCallee P w K mg base 3 C "take_graph" ["self","n","edges"] (spTakeGraph C))(MS:MCallee P w K mg base 2 C "take_states" ["self","states"] (spTakeStates K C)):
  FnOk P w K mg base CX0 6 f fd ["self"] (spTwin C):=by
 refine F.ok scTwin (fun vs H Q E h=> ?_) (fun cdv A outer s H vs Q E hr h=> ?_)
 ·obtain⟨a,s,rfl,_⟩:=h;rfl
 ·obtain⟨a,st,rfl,hw,ok,k⟩:=h;refine⟨_,zF (zQ (i:=1) scTwin.nd rfl (Or.inl rfl) (pe_wave W hr))
   (zF (zg (ZR T.cl MK hr (pv 1) (zA (zU (pv 0) rfl) zE)))
   (zF (zg (ZR T.cl MG hr (pv 1) (zA (zU (pv 0) rfl) (zA (zU (pv 0) rfl) zE))))
   (zF (zg (ZR T.cl MS hr (pv 1) (zA (zU (pv 0) rfl) zE)))
   (zG (zM (pv 1)))))),?_⟩
  have n16:=ok.n16;have few:=ok.few;intro x dx0 hx hdx0 hne;refine⟨x,dx0,rfl,zB,fun H1 k1 hw1=>⟨rfl,?_⟩⟩;have s1:Same H H1:=vG hx hdx0 k1;obtain⟨dx,ed,nb,xx,cc,rows,h1,h2,h3,h4,h5,h6,h7⟩:=id hw;obtain⟨dx',ed',nb',xx',cc',rows',g1,_⟩:=id hw1;have xa:x≠a:=fun z=>by rw[z,h1] at hx;cases hx
  refine⟨_,rfl,x,dx',_,rfl,g1,(zm _ _ _ _ _ _ _).nom _ (by decide +kernel),_,rfl,a,C,dx,_,_,rfl,s1 _ _ h1,T.cl,T.nKind,wk _ _ _ _ _ _ _,x,dx',_,3,_,rfl,g1,⟨by show 7<=800;decide,(zm _ _ _ _ _ _ _).nom⟩,wn _ _ _ _ _ _ _,by decide,fun H2 c2 hc2 k2 q1 q2=> ?_⟩;have q1:H2 x=some (.ins C dx' (waveF st.kind 3 ed' nb' xx' 0 c2)):=by rw[q1,<-JX];rfl
  have s2:Kept x H1 H2:=k2;have k12:Kept x H H2:=fun b o n e=>k2 b o n (s1 _ _ e);have ha2:H2 a=some (.ins C dx (waveF st.kind st.graph.n ed nb xx st.time cc)):=k12 _ _ xa.symm h1;have h2':PairsT H2 ed (st.graph.edges.map eI):=(h2.same s1).sx g1 k2;refine⟨_,rfl,x,dx',_,rfl,q1,(zm _ _ _ _ _ _ _).nom _ (by decide +kernel),_,rfl,a,C,dx,_,_,rfl,ha2,T.cl,T.nN,wn _ _ _ _ _ _ _,_,rfl,a,C,dx,_,_,rfl,ha2,T.cl,T.nEdges,we _ _ _ _ _ _ _,x,dx',ed,_,st.graph.n,st.graph.edges.map eI,rfl,q1,⟨by show 7<=700;decide,(zm _ _ _ _ _ _ _).nom⟩,by omega,h2',by rw[List.length_map];omega,edges_in ok.e,fun H3 c3 x3 ed3 nb3 es3 k3 r1 r2 r3 r4 r5 r6 r7=> ?_⟩;rw[jU] at r1;have hw3:=YC (k:=st.kind) (ds:=st.graph.edges) r1 r2 r3 r4 r5 (by rw[List.length_map];omega) r6 r7 (List.Perm.refl _) ok.srt ok.e;have ha3:=k3 _ _ xa.symm ha2;have k13:Kept x H H3:=fun b o n e=>k3 b o n (k12 b o n e);have hx3:H3 xx=some (.lst ((natsI st.config).map V.int)):=k13 _ _ (zJ h6 hx) h6;refine⟨_,rfl,x,dx',_,rfl,r1,(zm _ _ _ _ _ _ _).nom _ (by decide +kernel),_,rfl,a,C,dx,_,_,rfl,ha3,T.cl,T.nStates,wx _ _ _ _ _ _ _,x,dx',xx,_,st.graph.n,_,rfl,r1,⟨by show 7<=800;decide,(zm _ _ _ _ _ _ _).nom⟩,wn _ _ _ _ _ _ _,by omega,SqL.of hx3,fun H4 c4 x4 hc4 hx4 k4 t1 t2 t3=> ?_⟩;rw[YT] at t1;have k14:Kept x H H4:=fun b o n e=>k4 b o n (k13 b o n e);refine⟨_,rfl,k H4 x hx (fun b o e=>k14 b o (zJ e hx) e) ?_⟩;obtain⟨dx5,ed5,nb5,xx5,cc5,rows5,u1,u2,u3,u4,u5,_,_⟩:=hw3;have eq5:HO.ins C dx5 (waveF st.kind st.graph.n ed5 nb5 xx5 0 cc5)=HO.ins C dx' (waveF st.kind st.graph.n ed3 nb3 x3 0 c3):=Option.some.inj (u1.symm.trans r1);have e1:ed5=ed3:=by
   injection eq5 with _ _ e
   unfold waveF at e;simp at e;exact e.1
  have e2:nb5=nb3:=by
   injection eq5 with _ _ e
   unfold waveF at e;simp at e;exact e.2.1
  subst e1 e2;refine⟨dx',ed5,nb5,x4,c4,rows5,t1,u2.sx r1 k4,u3.sx r1 k4,u4,u5,t3,?_⟩;show H4 c4=some (.lst ((natsI (Vblcas.zeros st.graph.n)).map V.int));rw[<-yQ];exact t2
theorem scTurn:FnScope ["self","steps","state"] ["self","steps"] (defScope sTurn):=⟨rfl,rfl,rfl,by decide +kernel,rfl,by decide +kernel,by decide +kernel⟩
theorem ok_turn{f C:Addr}{fd:FuncData}(F:Fun K "turn" "Wave.turn" sTurn f fd)(T:WTxt K C)(CA:Callee P w K mg base 1 "state_after" ["state","steps"] spStateAfter):FnOk P w K mg base CX0 2 f fd ["self","steps"] (spTurn C):=by
 refine F.ok scTurn (fun vs H Q E h=> ?_) (fun cdv A outer s H vs Q E hr h=> ?_)
 ·obtain⟨a,s,c,rfl,_⟩:=h;rfl
 ·obtain⟨a,st,c,rfl,hw,ok,k⟩:=h;refine'⟨_,zG (Zg (pv 0) (Zd (own:=[("state",2)]) rfl scTurn.nd ?a1 ?a2 (fun _ _ _ _ _=> ?a3) (fun _ _ _ _ _=> ?a4) (fun _ _ _ _ _=> ?a5)) rfl),?rd⟩
  case a1=>exact zq (zU (pv 0) rfl)
  case a2=>exact za (by show blkC ["self","steps","state"] (defScope sTurn) _ _=true;decide +kernel)
  case a3=>exact pgn 2 scTurn.nd
  case a4=>exact zx
  case a5=>exact zP CA hr (zA (pv 2) (zA (pv 1) zE))
  have n16:=ok.n16;have xl:=ok.xl;obtain⟨dx,ed,nb,x,cc,rows,h1,h2,h3,h4,h5,h6,h7⟩:=id hw;refine⟨_,rfl,a,C,dx,_,_,rfl,h1,T.cl,T.nStates,wx _ _ _ _ _ _ _,x,rfl,⟨_,SqL.of h6⟩,fun D hD=> ?_⟩;refine ZK (K:=K) (fun i out _=>out=((natsI (turnedS st c).config).take i).map V.int) RMono.pure hD (SqL.of h6) rfl ?_ ?_
  ·intro i y H' out hi ey s2 hd hl hR;obtain⟨y0,ey0,rfl⟩:=Za ey;rw[List.length_map,zN,xl] at hi;refine⟨rfl,yesT ?_⟩;refine⟨_,rfl,_,rfl,_,_,rfl,?_⟩;refine LcI.put RMono.pure hD (small1000 (by omega)) s2 hd hl (Same.refl _) ?_;rw[hR,zL (x:=((((y0+c) % 3:Nat)):Int)),List.map_append]
   ·rw[show(((y0:Nat):Int)+((c:Nat):Int)) % 3=(((y0+c) % 3:Nat):Int) by omega];rfl
   ·unfold natsI turnedS;rw[List.getElem?_map,List.getElem?_map,ey0];rfl
  ·intro H' out s2 hd hl hR;rw[List.length_map,zN,xl,List.take_of_length_le (by rw[zN];unfold turnedS;rw[List.length_map,xl];exact Nat.le_refl _)] at hR;rw[hR] at hd;have ha2:=s2 _ _ h1;have Da:D≠a:=fun z=>by rw[z,h1] at hD;cases hD
   refine⟨_,rfl,a,C,dx,_,rfl,ha2,T.cl,T.nStates,by show 7<1000;decide,?_⟩;rw[yU];have kp:Kept a H (upd H' a (.ins C dx (waveF st.kind st.graph.n ed nb D st.time cc))):=fun b o n e=>by rw[zH n];exact s2 _ _ e
   exact k _ kp ⟨dx,ed,nb,D,cc,rows,zB,h2.sx h1 kp,h3.sx h1 kp,h4,h5,by rw[zH Da];exact hd,kp _ _ (ZW h7 h1 (by intro z;cases z)) h7⟩
theorem scPlaced:FnScope ["names","values","placed","name","value"] ["names","values"] (defScope sPlaced):=⟨rfl,rfl,rfl,by decide +kernel,rfl,by decide +kernel,by decide +kernel⟩
theorem nats_set(l:List Nat)(i z:Nat):((natsI l).map V.int).set i (.int (z:Nat))=(natsI (l.set i z)).map V.int:=by
 rw[natsV,natsV,List.map_set];rfl
theorem ok_placed{f:Addr}{fd:FuncData}(F:Fun K "placed_by" "placed_by" sPlaced f fd)(B:Bi mg):FnOk P w K mg base CX0 1 f fd ["names","values"] (spPlaced K):=by
 refine F.ok scPlaced (fun vs H Q E h=> ?_) (fun cdv A outer s H vs Q E hr h=> ?_)
 ·obtain⟨a,b,n,l,vals,rfl,_⟩:=h;rfl
 ·obtain⟨a,b,n,l,vals,rfl,ha,hb,hN,hv,hn,k⟩:=h;have hl:=hN.len;refine'⟨_,zF (yE (i:=2) (own:=[("value",4)]) rfl scPlaced.nd rfl rfl (yo rfl rfl rfl rfl) ?lc1 ?lc2 (fun _ _ _ _ _=> ?lc3) (fun _ _ _ _ _=> ?lc4) (fun _ _ _ _ _=> ?lc5))
   (zF (ZV PassesOwn.never rfl (Yw rfl B.zip (zA (pv 0) (zA (pv 1) zE))) (pgt2 K 3 4 scPlaced.nd)
    (zG (ps_asg (pv 4) (pg_sub (pv 2) (pv 3) set_list))))
   (zG (zM (pv 2)))),?rd⟩
  case lc1=>exact zq (pv 1)
  case lc2=>exact za (by show blkC ["names","values","placed","name","value"] (defScope sPlaced) _ _=true;decide +kernel)
  case lc3=>exact pgn 4 scPlaced.nd
  case lc4=>exact zx
  case lc5=>exact zK
  refine⟨_,rfl,b,rfl,⟨_,hb⟩,fun D hD=> ?_⟩;refine ZK (K:=K) (fun i out _=>out=List.replicate i (V.int 0)) RMono.pure hD hb rfl ?_ ?_
  ·intro i x H' out hi ex s2 hd hl2 hR;rw[List.length_map,zN] at hi;refine⟨rfl,yesT ?_⟩;refine LcI.put RMono.pure hD (small1000 (by omega)) s2 hd hl2 (Same.refl _) ?_;rw[hR,List.replicate_succ']
  ·intro H1 out s1 hd hl2 hR;rw[hR,List.length_map,zN,hv] at hd;have hd:H1 D=some (.lst ((natsI (placedL l vals n 0)).map V.int)):=by
    rw[placedL_zero,<-yQ];exact hd
   refine⟨_,rfl,_,rfl,a,b,_,_,rfl,s1.seq ha,s1.seq hb,?_⟩;refine for_zipS (K:=K) (a:=a) (b:=b) (xs:=(natsI l).map V.int) (ys:=(natsI vals).map V.int) (fun i σ H'=>∃v3 v4,σ=[some (.ref a),some (.ref b),some (.ref D),v3,v4]/\H' D=some (.lst ((natsI (placedL l vals n i)).map V.int))/\SameX D H1 H')
    ⟨_,_,rfl,hd,fun b o _ e=>e⟩ (fun i σ H' ⟨_,_,_,_,sx⟩=>ha.sx hD fun b o n e=>sx b o n (s1 _ _ e)) (fun i σ H' ⟨_,_,_,_,sx⟩=>hb.sx hD fun b o n e=>sx b o n (s1 _ _ e)) (by rw[List.length_map,List.length_map,zN,zN,hl,hv]) ?_ ?_
   ·rintro i T x y σ H' hi ex ey hT ⟨v3,v4,rfl,hd',sx⟩;rw[List.length_map,zN,hl] at hi;obtain⟨x0,ex0,rfl⟩:=Za ex;obtain⟨y0,ey0,rfl⟩:=Za ey;have s3:Same H' (upd H' T (.tup [.int (x0:Nat),.int (y0:Nat)])):=Same.upd _ hT;have ex1:l.getD i 0=x0:=by rw[List.getD_eq_getElem?_getD,ex0];rfl
    have ey1:vals.getD i 0=y0:=by rw[List.getD_eq_getElem?_getD,ey0];rfl
    have hlt:=hN.lt hi;have pl:(placedL l vals n i).length=n:=by unfold placedL;rw[List.length_map,List.length_range]
    refine⟨T,_,rfl,SqT.of zB,rfl,_,_,rfl,_,_,rfl,rfl,?_⟩;refine⟨_,rfl,_,rfl,_,rfl,D,_,_,x0,rfl,rfl,s3 _ _ hd',ixN_nat (by rw[List.length_map,zN,pl,<-ex1];exact hlt),?_⟩;refine⟨_,_,rfl,?_,fun b o n e=>by rw[zH n];exact s3 _ _ (sx b o n e)⟩;rw[zB,nats_set,<-hN.placed hi,ex1,ey1]
   ·rintro σ H' ⟨v3,v4,rfl,hd',sx⟩;rw[List.length_map,zN,hl,hN.placed_all] at hd';exact⟨_,rfl,k H' D hD (fun b o e=>sx b o (zJ e hD) (s1 _ _ e)) hd'⟩
theorem scRename:FnScope ["self","names","a","b"] ["self","names"] (defScope sRename):=⟨rfl,rfl,rfl,by decide +kernel,rfl,by decide +kernel,by decide +kernel⟩
theorem edgesF_wave(k n:Nat)(ed nb x:Addr)(t:Nat)(c:Addr)(ed' nb':Addr):putF "neighbours" (.ref nb') (putF "edges" (.ref ed') (waveF k n ed nb x t c))=waveF k n ed' nb' x t c:=by
 unfold waveF
 repeat (first|rw[Zx]|rw[Zk (by decide +kernel)])
theorem ok_rename{f C:Addr}{fd:FuncData}(F:Fun K "rename" "Wave.rename" sRename f fd)(T:WTxt K C)(CE:Callee P w K mg base 1 "edge_between" ["a","b"] spEdge)(CP:Callee P w K mg base 1 "placed_by" ["names","values"] (spPlaced K))(ME:MCallee P w K mg base 2 C "take_edges" ["self","edges"] (spTakeEdges C)):
  FnOk P w K mg base CX0 3 f fd ["self","names"] (spRename K C):=by
 refine F.ok scRename (fun vs H Q E h=> ?_) (fun cdv A outer s H vs Q E hr h=> ?_)
 ·obtain⟨a,b,s,l,rfl,_⟩:=h;rfl
 ·obtain⟨a,b,st,l,rfl,hw,ok,hb,hN,k⟩:=h;refine'⟨_,zF (zg (ZR T.cl ME hr (pv 0) (zA (Zd (own:=[("a",2),("b",3)]) rfl scRename.nd ?a1 ?a2 (fun _ _ _ _ _=> ?a3) (fun _ _ _ _ _=> ?a4) (fun _ _ _ _ _=> ?a5)) zE)))
   (zF (Zg (pv 0) (zP CP hr (zA (pv 1) (zA (zU (pv 0) rfl) zE))) rfl)
   (zG (Zg (pv 0) (zP CP hr (zA (pv 1) (zA (zU (pv 0) rfl) zE))) rfl))),?rd⟩
  case a1=>exact zq (zU (pv 0) rfl)
  case a2=>exact za (by show blkC ["self","names","a","b"] (defScope sRename) _ _=true;decide +kernel)
  case a3=>exact pgt2 K 2 3 scRename.nd
  case a4=>exact zx
  case a5=>exact zP CE hr (zA (zW K (pv 1) (pv 2)) (zA (zW K (pv 1) (pv 3)) zE))
  have n16:=ok.n16;have few:=ok.few;have ll:=hN.len;obtain⟨dx,ed,nb,x,cc,rows,h1,h2,h3,h4,h5,h6,h7⟩:=id hw;obtain⟨ps,p1,p2,p3⟩:=id h2;rw[List.length_map] at p2;refine⟨_,rfl,a,dx,_,rfl,h1,(zm _ _ _ _ _ _ _).nom _ (by decide +kernel),_,rfl,a,C,dx,_,_,rfl,h1,T.cl,T.nEdges,we _ _ _ _ _ _ _,ed,rfl,⟨_,SqL.of p1⟩,fun D hD=> ?_⟩;refine ZK (K:=K) (RTup pI D fun i=>((st.graph.edges.map (toE l)).map eI).take i) RTup.mono hD (SqL.of p1) ⟨[],rfl,PsG.nil⟩ ?_ ?_
  ·rintro i y H' out hi ey s2 hd hl2 ⟨qs,rfl,hqs⟩;obtain⟨p,ep,rfl⟩:=getElem?_mapR ey;rw[List.length_map] at hi;obtain⟨e,ee⟩: ∃e,st.graph.edges[i]? =some e:=⟨_,List.getElem?_eq_getElem (by omega)⟩;have el:=ok.e.lt e (List.mem_of_getElem? ee);have htup:=p3 i p (eI e) ep (by rw[List.getElem?_map,ee];rfl);have at1: ∀v,v<st.graph.n->atI ((natsI l).map V.int) ((v:Nat):Int)=some (.int ((l.getD v 0:Nat):Int)):=fun v hv=>Zm (x:=l) (by omega);refine⟨p,_,rfl,SqT.of (s2 _ _ htup),rfl,_,_,rfl,_,_,rfl,rfl,rfl,yesT ?_⟩;refine⟨_,rfl,_,rfl,b,_,_,_,rfl,rfl,s2.seq hb,at1 e.1 (by omega),_,rfl,_,rfl,b,_,_,_,rfl,rfl,s2.seq hb,at1 e.2 (by omega),_,_,rfl,fun t ht=> ?_⟩;have tD:t≠D:=fun z=>by rw[z,hd] at ht;cases ht
   have s3:Same H' (upd H' t _):=Same.upd (.tup (pI (eI (toE l e)))) ht;rw[eI_toE] at s3;refine LcI.put RTup.mono hD (small1000 (by omega)) s2 hd hl2 s3 ⟨qs++[t],by rw[List.map_append];rfl,?_⟩;show PsG pI D _ _ (((st.graph.edges.map (toE l)).map eI).take (i+1));rw[zL (x:=eI (toE l e)) (by rw[List.getElem?_map,List.getElem?_map,ee];rfl)];refine hqs.snoc s3 tD ?_;rw[zB,eI_toE];rfl
  ·intro H1 out s1 hd hl2 hR;have t:TupsT pI H1 D (((st.graph.edges.map (toE l)).map eI).take (ps.map V.ref).length):=hR.tups hd;rw[List.length_map,p2,List.take_of_length_le (by rw[List.length_map,List.length_map];exact Nat.le_refl _)] at t;have ha1:=s1 _ _ h1;obtain⟨e1,e2,e3⟩:=hN.edges ok.e ok.srt;have ein:EdgesIn st.graph.n ((st.graph.edges.map (toE l)).map eI):=fun e he=>by
    obtain⟨d,hd,rfl⟩:=List.mem_map.mp he;obtain⟨d0,hd0,rfl⟩:=List.mem_map.mp hd;have z:=ok.e.lt d0 hd0;have:=hN.edge z.1 z.2;show(0<=(((toE l d0).1:Nat):Int)/\(((toE l d0).1:Nat):Int)<_)/\(0<=(((toE l d0).2:Nat):Int)/\(((toE l d0).2:Nat):Int)<_)/\(((toE l d0).1:Nat):Int)≠(((toE l d0).2:Nat):Int);omega
   refine⟨a,dx,D,_,st.graph.n,(st.graph.edges.map (toE l)).map eI,rfl,ha1,⟨by show 7<=750;decide,(zm _ _ _ _ _ _ _).nom⟩,wn _ _ _ _ _ _ _,by omega,t,by rw[List.length_map,List.length_map];omega,ein,fun H2 ed2 nb2 es2 k2 r1 r2 r3 r4 r5=> ?_⟩;rw[edgesF_wave] at r1;have es2e:es2=(st.graph.edges.foldl (fun m e=>Vblcas.putPair (toE l e) m) []).map eI:=jN (r3.trans (e1.map eI).symm) r4 e2;have k12:Kept a H H2:=fun b o n e=>k2 b o n (s1 _ _ e);have hb2:SqL K H2 b ((natsI l).map V.int):=by
    rcases hb with(z|⟨o,z⟩)|z
    ·exact .inl (.inl (k12 _ _ (ZW z h1 (by intro z;cases z)) z))
    ·exact .inl (.inr ⟨o,k12 _ _ (ZW z h1 (by intro z;cases z)) z⟩)
    ·exact .inr z
   have hx2:=k12 _ _ (ZW h6 h1 (by intro z;cases z)) h6;refine⟨_,rfl,_,rfl,a,C,dx,_,_,rfl,r1,T.cl,T.nStates,wx _ _ _ _ _ _ _,b,x,st.graph.n,l,st.config,rfl,hb2,SqL.of hx2,hN,ok.xl,by omega,fun H3 x3 hx3 s3 hx3v=> ?_⟩;have ha3:=s3 _ _ r1;have x3a:x3≠a:=fun z=>by rw[z,r1] at hx3;cases hx3
   refine⟨_,rfl,a,C,dx,_,rfl,ha3,T.cl,T.nStates,by show 7<1000;decide,?_⟩;rw[yU];generalize hH4:upd H3 a (.ins C dx (waveF st.kind st.graph.n ed2 nb2 x3 st.time cc))=H4;have ha4:H4 a=some (.ins C dx (waveF st.kind st.graph.n ed2 nb2 x3 st.time cc)):=by rw[<-hH4,zB]
   have k4:SameX a H3 H4:=by rw[<-hH4];exact SameX.updD _
   have k24:SameX a H2 H4:=fun b o n e=>k4 b o n (s3 _ _ e);have k14:Kept a H H4:=fun b o n e=>k24 b o n (k12 b o n e);have hb4:SqL K H4 b ((natsI l).map V.int):=by
    rcases hb with(z|⟨o,z⟩)|z
    ·exact .inl (.inl (k14 _ _ (ZW z h1 (by intro z;cases z)) z))
    ·exact .inl (.inr ⟨o,k14 _ _ (ZW z h1 (by intro z;cases z)) z⟩)
    ·exact .inr z
   have hc4:=k14 _ _ (ZW h7 h1 (by intro z;cases z)) h7;refine⟨_,rfl,_,rfl,a,C,dx,_,_,rfl,ha4,T.cl,T.nCounts,wc _ _ _ _ _ _ _,b,cc,st.graph.n,l,st.counts,rfl,hb4,SqL.of hc4,hN,ok.cl,by omega,fun H5 c5 hc5 s5 hc5v=> ?_⟩;have ha5:=s5 _ _ ha4;have c5a:c5≠a:=fun z=>by rw[z,ha4] at hc5;cases hc5
   refine⟨_,rfl,a,C,dx,_,rfl,ha5,T.cl,T.nCounts,by show 7<1000;decide,?_⟩;rw[jZ];have k6:SameX a H5 (upd H5 a (.ins C dx (waveF st.kind st.graph.n ed2 nb2 x3 st.time c5))):=SameX.updD _;have k26:SameX a H2 (upd H5 a (.ins C dx (waveF st.kind st.graph.n ed2 nb2 x3 st.time c5))):=fun b o n e=>k6 b o n (s5 _ _ (k24 b o n e));refine k _ (fun b o n e=>k26 b o n (k12 b o n e)) ⟨dx,ed2,nb2,x3,c5,_,zB,?_,r5.sx r1 k26,rowsNb (g:=(renamedS st l).graph) e3 fun e=> ?_,JH (by rw[List.length_map,List.length_map];omega),?_,?_⟩
   ·rw[es2e] at r2;exact r2.sx r1 k26
   ·show e∈(st.graph.edges.map (toE l)).map eI↔ ∃d,d∈st.graph.edges.foldl (fun m e=>Vblcas.putPair (toE l e) m) []/\e=eI d;rw[List.mem_map];exact⟨fun⟨d,q1,q2⟩=>⟨d,e1.mem_iff.mpr q1,q2.symm⟩,fun⟨d,q1,q2⟩=>⟨d,e1.mem_iff.mp q1,q2.symm⟩⟩
   ·exact k6 _ _ x3a (s5 _ _ (k4 _ _ x3a hx3v))
   ·exact k6 _ _ c5a hc5v
abbrev sATold:Stmt:=top 54
abbrev sAKind:Stmt:=top 55
abbrev sASet:Stmt:=top 56
abbrev sAConfig:Stmt:=top 57
abbrev sARun:Stmt:=top 58
abbrev sACounts:Stmt:=top 59
abbrev sATime:Stmt:=top 60
def spAnswer(K:PySem.W.Frag)(C:Addr)(k:Nat)(call:List Int->List Int->List (List Int)):Sp:=fun vs H Q _=>∃(a b c:Addr) (s:Vblcas.State) (ns row:List Int),vs=[.ref a,.ref b,.ref c]/\WaveAt C H a s/\StOk s/\SqL K H b (ns.map V.int)/\ns.length=k/\SqL K H c (row.map V.int)/\row.length<=300/\
 ∀(H':Hp) (r:Addr),Kept a H H'->WaveAt C H' a (Vblcas.step s (call ns row)).1->H r=none->H' r=some (.lst ((Vblcas.step s (call ns row)).2.map V.int))->Q (.ref r) H'
theorem Same.kept{H H':Hp}(h:Same H H')(a:Addr):Kept a H H':=fun b o _ e=>h b o e
theorem scAConfig:FnScope ["wave","numbers","row"] ["wave","numbers","row"] (defScope sAConfig):=⟨rfl,rfl,rfl,by decide +kernel,rfl,by decide +kernel,by decide +kernel⟩
theorem ok_aConfig{f C:Addr}{fd:FuncData}(F:Fun K "answer_config" "answer_config" sAConfig f fd)(T:WTxt K C):FnOk P w K mg base CX0 1 f fd ["wave","numbers","row"] (spAnswer K C 0 fun _ _=>[[4]]):=by
 refine F.ok scAConfig (fun vs H Q E h=> ?_) (fun cdv A outer s H vs Q E hr h=> ?_)
 ·obtain⟨a,b,c,s,ns,row,rfl,_⟩:=h;rfl
 ·obtain⟨a,b,c,st,ns,row,rfl,hw,ok,hb,hn,hc,hr2,k⟩:=h;refine⟨_,zG (zM (zj yN (zT (zA (zU (pv 0) rfl) zE)) (zU (pv 0) rfl))),?_⟩;obtain⟨dx,ed,nb,x,cc,rows,h1,h2,h3,h4,h5,h6,h7⟩:=id hw;refine⟨_,rfl,a,C,dx,_,_,rfl,h1,T.cl,T.nN,wn _ _ _ _ _ _ _,(by show 1<=sizeLine;decide),fun l hl=> ?_⟩;have g1:Same H (upd H l (.lst [.int (st.graph.n:Nat)])):=Same.upd _ hl;have sz:sizeLine=16777216:=sizeLine_eq;have n16:=ok.n16;have xl:=ok.xl;refine⟨_,rfl,a,C,dx,_,_,rfl,g1 _ _ h1,T.cl,T.nStates,wx _ _ _ _ _ _ _,l,x,_,_,rfl,rfl,zB,g1 _ _ h6,by rw[List.length_map,zN];show 1+_<=_;omega,fun r hr3=> ?_⟩;have g2:Same (upd H l (.lst [.int (st.graph.n:Nat)])) _:=Same.upd (.lst ([.int (st.graph.n:Nat)]++(natsI st.config).map V.int)) hr3;have g:=g1.trans g2;refine k _ r (Same.kept g a) (hw.same g) (g1.free hr3) ?_;rw[zB];show some (HO.lst _)=some (HO.lst (((st.config.length:Int)::Vblcas.ints st.config).map V.int));rw[xl];rfl
theorem scATime:FnScope ["wave","numbers","row"] ["wave","numbers","row"] (defScope sATime):=⟨rfl,rfl,rfl,by decide +kernel,rfl,by decide +kernel,by decide +kernel⟩
theorem ok_aTime{f C:Addr}{fd:FuncData}(F:Fun K "answer_time" "answer_time" sATime f fd)(T:WTxt K C):FnOk P w K mg base CX0 1 f fd ["wave","numbers","row"] (spAnswer K C 0 fun _ _=>[[7]]):=by
 refine F.ok scATime (fun vs H Q E h=> ?_) (fun cdv A outer s H vs Q E hr h=> ?_)
 ·obtain⟨a,b,c,s,ns,row,rfl,_⟩:=h;rfl
 ·obtain⟨a,b,c,st,ns,row,rfl,hw,ok,hb,hn,hc,hr2,k⟩:=h;refine⟨_,zG (zM (zT (zA (zU (pv 0) rfl) zE))),?_⟩;obtain⟨dx,ed,nb,x,cc,rows,h1,h2,h3,h4,h5,h6,h7⟩:=id hw;refine⟨_,rfl,a,C,dx,_,_,rfl,h1,T.cl,T.nTime,wt _ _ _ _ _ _ _,(by show 1<=sizeLine;decide),fun l hl=> ?_⟩;have g1:Same H (upd H l (.lst [.int (st.time:Nat)])):=Same.upd _ hl;exact k _ l (Same.kept g1 a) (hw.same g1) hl zB
theorem scAKind:FnScope ["wave","numbers","row"] ["wave","numbers","row"] (defScope sAKind):=⟨rfl,rfl,rfl,by decide +kernel,rfl,by decide +kernel,by decide +kernel⟩
theorem ok_aKind{f C:Addr}{fd:FuncData}(F:Fun K "answer_kind" "answer_kind" sAKind f fd)(T:WTxt K C)(hF:IntG mg "FIRE" 1)(hD:IntG mg "DONE" 0)(hO:IntG mg "OUT_OF_RANGE" (-1))(CB:Callee P w K mg base 1 "all_below" ["numbers","bound"] (spAllBelow K))(M:MCallee P w K mg base 2 C "take_kind" ["self","kind"] (spTakeKind C)):
  FnOk P w K mg base CX0 3 f fd ["wave","numbers","row"] (spAnswer K C 1 fun ns _=>[2::ns]):=by
 refine F.ok scAKind (fun vs H Q E h=> ?_) (fun cdv A outer s H vs Q E hr h=> ?_)
 ·obtain⟨a,b,c,s,ns,row,rfl,_⟩:=h;rfl
 ·obtain⟨a,b,c,st,ns,row,rfl,hw,ok,hb,hn,hc,hr2,k⟩:=h;refine⟨_,zF (ZD (ZP (ZL (zP CB hr (zA (pv 1) (zA (zj ZJ (zV hF) zK) zE))))) (zG (zM (zT (zA (zV hO) zE)))) zZ)
   (zF (zg (ZR T.cl M hr (pv 0) (zA (zW K (pv 1) zK) zE)))
   (zG (zM (zT (zA (zV hD) zE))))),?_⟩
  obtain⟨z,rfl⟩: ∃z,ns=[z]:=List.length_eq_one_iff.mp hn;obtain⟨dx,ed,nb,x,cc,rows,h1,h2,h3,h4,h5,h6,h7⟩:=id hw;have sz:sizeLine=16777216:=sizeLine_eq;have n16:=ok.n16;refine⟨_,rfl,_,_,rfl,rfl,b,2,[z],rfl,hb,by show 1<sizeLine;decide,fun H1 s1=> ?_⟩;have bz:belowI 2 [z]=(decide (0<=z)&&decide (z<2)):=by unfold belowI;simp
  refine⟨_,rfl,?_⟩;rw[bz];refine ite2 (fun h=> ?_) (fun h=> ?_)
  ·have hout:Vblcas.step st [[2,z]]=(st,[-1]):=by
    show(if Vblcas.inRange st (.kind z)=false then(st,[-1]) else Vblcas.act st (.kind z))=_;rw[if_pos];show(decide (0<=z)&&decide (z<=1))=false;have:(decide (0<=z)&&decide (z<2))=false:=by
     cases q:(decide (0<=z)&&decide (z<2)) with
     |false=>rfl
     |true=>rw[q] at h;cases h
    rw[<-this,show decide (z<=1)=decide (z<2) from decide_eq_decide.mpr (by omega)]
   refine⟨(by show 1<=sizeLine;decide),fun l hl=> ?_⟩;have g:Same H _:=s1.trans (Same.upd (.lst [.int (-1)]) hl);exact k _ l (Same.kept g a) (by rw[hout];exact hw.same g) (s1.free hl) (by rw[hout];exact zB)
  ·have hin:(decide (0<=z)&&decide (z<2))=true:=by
    cases q:(decide (0<=z)&&decide (z<2)) with
    |false=>rw[q] at h;exact absurd rfl h
    |true=>rfl
   obtain⟨z0,z2⟩:=Bool.and_eq_true_iff.mp hin;have z0:=of_decide_eq_true z0;have z2:=of_decide_eq_true z2;obtain⟨m,rfl⟩: ∃m:Nat,z=(m:Int):=⟨z.toNat,by omega⟩;have hout:Vblcas.step st [[2,(m:Int)]]=({st with kind:=m,counts:=Vblcas.zeros st.graph.n,time:=0},[0]):=by
    show(if Vblcas.inRange st (.kind m)=false then(st,[-1]) else Vblcas.act st (.kind m))=_;have:Vblcas.inRange st (.kind (m:Int))=true:=by
     show(decide (0<=(m:Int))&&decide ((m:Int)<=1))=true;rw[Bool.and_eq_true];exact⟨decide_eq_true (by omega),decide_eq_true (by omega)⟩
    rw[this];show Vblcas.act st (.kind m)=_;unfold Vblcas.act;rfl
   refine⟨_,rfl,a,dx,_,rfl,s1 _ _ h1,(zm _ _ _ _ _ _ _).nom _ (by decide +kernel),_,rfl,b,_,_,_,rfl,rfl,s1.seq hb,zb (by decide) (by show(0:Int)<1;decide),a,dx,_,st.graph.n,_,rfl,s1 _ _ h1,⟨by show 7<=800;decide,(zm _ _ _ _ _ _ _).nom⟩,wn _ _ _ _ _ _ _,by omega,fun H2 c2 hc2 kp q1 q2=> ?_⟩;refine⟨(by show 1<=sizeLine;decide),fun l hl=> ?_⟩;have g:Same H2 _:=Same.upd (.lst [.int 0]) hl;have q1:H2 a=some (.ins C dx (waveF m st.graph.n ed nb x 0 c2)):=by rw[q1,<-JX];rfl
   have kA:Kept a H (upd H2 l (.lst [.int 0])):=fun b o n e=>g _ _ (kp b o n (s1 _ _ e));refine k _ l kA ?_ ?_ (by rw[hout];exact zB)
   ·rw[hout];refine⟨dx,ed,nb,x,c2,rows,g _ _ q1,(h2.sx h1 kA),(h3.sx h1 kA),h4,h5,kA _ _ (ZW h6 h1 (by intro z;cases z)) h6,?_⟩;rw[<-yQ];exact g _ _ q2
   ·cases q:H l with
    |none=>rfl
    |some o=>
     by_cases z:l=a
     ·rw[z,q1] at hl;cases hl
     ·rw[kp l o z (s1 _ _ q)] at hl;cases hl
end
def DictK(K:PySem.W.Frag)(d:Addr)(kvs:List (Int×Value)):Prop:=∃o es ep,K.lookup d=some o/\o.ExactDict/\o.data=.dict es ep/\(∀(prog:Program) (w:World),KeysOf (intKind prog w) es/\Pairs (intKind prog w) es.toList kvs)/\(kvs.map (·.1)).Nodup
section
variable {X:Cx}{x:Str}{p pos:Pos}{i e fe:Expr}{es:List Expr}{ty tf:TE}{t:TA}
def tKGet(kvs:List (Int×Value))(ty:TE):TE:=fun σ H Q=>ty σ H fun y H1=>∃(n:Int) (u:Value) (v:V),y=.int n/\valueAt kvs n=some u/\RelV v u/\Q v H1
theorem pe_kget{d:Addr}{kvs:List (Int×Value)}(D:DictK X.K d kvs)(hg:Gl X x)(hm:X.mg x=some (.ref d))(hi:PE X i ty)(hs:NoSl i:=by exact fun _ _=>rfl)(hdb:(x==("__debug__":Str))=false:=by decide):PE X (.Subscript (.Name x p) i pos) (tKGet kvs ty):=by
 intro pins s σ H Q I h;obtain⟨o,es,ep,hl,hx,hd,hk,nd⟩:=D;have dof: ∀s2:Shared,X.K.In s2.heap->s2.heap.DictOf (intKind X.prog X.w) d kvs:=fun s2 k=>⟨o,es,ep,k d o hl,hx,hd,(hk X.prog X.w).1,(hk X.prog X.w).2,nd⟩;refine subD_of PySem.F.slot_dict_getitem.lookup hs (jn I hg hm ?_ hdb);refine thn (hi pins s σ H _ I h) fun iv s2 ⟨y,H2,I2,ry,n,u,v,ey,hv,rv,q⟩=> ?_;subst ey;obtain⟨tk,rfl⟩:=ry;have D2:=dof s2 I2.kIn;exact⟨D2.typeIs,wpAny_getItem_of (intKind_is _ _ _ _) D2.mapOf hv ⟨v,H2,I2.tok _,rv,q⟩⟩
def tCallV(X:Cx)(tf:TE)(t:TA):TE:=fun σ H Q=>tf σ H fun x H1=>∃(k:Nat) (f:Addr) (fd:FuncData) (ps:List Str) (sp:Sp),x=.ref f/\FnOk X.prog X.w X.K X.mg X.base CX0 k f fd ps sp/\Room k X.A/\PySem.W.keepIn X.K (.ref f)=true/\Binds X.K fd ps []/\t σ H1 fun vs H2=>sp vs H2 Q E0
theorem pe_callV(hx:X.xe=fun _ _=>False)(hf:PE X fe tf)(ha:PA X (e::es) t)(mt: ∀{σ:L2.St} {H:Hp} {Q Q':List V->Hp->Prop},(∀v H',Q v H'->Q' v H')->t σ H Q->t σ H Q')
  (hc:eval (.Call fe (e::es) [] pos) X.env=(do callWith pos (<-eval fe X.env) [] (backTo pos (starEach (e::es) X.env)) (backToKw pos (keywordEach [] X.env))):=by rfl)
  (he:starEach (e::es) X.env=(false,eval e X.env)::starEach es X.env:=by rfl)(hpl:(backTo pos (starEach es X.env)).any (·.1)=false:=by rfl):PE X (.Call fe (e::es) [] pos) (tCallV X tf t):=by
 intro pins s σ H Q I h;refine PyProof.Rows.Call_ (thn (hf pins s σ H _ I h) fun u s1 ⟨y,H1,I1,ry,k,f,fd,ps,sp,ey,F,hr,hk,hb,q⟩=> ?_) hc;subst ey;obtain rfl:u=Value.ref f:=ry;refine PySem.W.callWith_K (h₀:=X.base) I.ok.mod.kin hk (thn (ha pos pins s1 σ H1 _ I1 q) fun us s2 ⟨vs,H2,I2,r,q2⟩=>⟨I2.kIn,?_⟩) he hpl;exact run_fn (dvs:=[]) (E:=E0) F hr hb .nil pass0 I2 r (by rw[List.append_nil];exact q2)
end
theorem Yo{H H':Hp}{a l:Addr}{C dx:Addr}{fs:List (Str×V)}(kp:Kept a H H')(ha:H' a=some (.ins C dx fs))(h:H' l=none):H l=none:=by
 cases q:H l with
 |none=>rfl
 |some o=>
  by_cases z:l=a
  ·rw[z,ha] at h;cases h
  ·rw[kp l o z q] at h;cases h
theorem jk{row:List Int}{b:Nat}(h: ∀z,z∈row->0<=z/\z<(b:Int)):natsI (Vblcas.nats row)=row:=by
 unfold natsI Vblcas.nats;rw[List.map_map];have:row.map ((fun(n:Nat)=>(n:Int))∘Int.toNat)=row.map id:=List.map_congr_left fun z hz=>by
  show((z.toNat:Nat):Int)=z;have:=h z hz;omega
 rw[this,List.map_id]
theorem ZG{b:Int}{row:List Int}:belowI b row=true↔ ∀z,z∈row->0<=z/\z<b:=by
 unfold belowI;rw[List.all_eq_true];constructor
 ·intro h z hz;have:=h z hz;rw[Bool.and_eq_true,decide_eq_true_eq,decide_eq_true_eq] at this;exact this
 ·intro h z hz;rw[Bool.and_eq_true,decide_eq_true_eq,decide_eq_true_eq];exact h z hz
theorem ZC(n:Nat)(row:List Int):(row.all fun v=>Vblcas.within v 0 ((n:Int) - 1))=belowI n row:=by
 unfold belowI
 congr 1
 funext z
 show(decide (0<=z)&&decide (z<=(n:Int) - 1))=_;rw[show decide (z<=(n:Int) - 1)=decide (z<(n:Int)) from decide_eq_decide.mpr (by omega)]
section
variable {P:Program}{w:World}{K:PySem.W.Frag}{mg:Str->Option Value}{base:Heap}
theorem scACounts:FnScope ["wave","numbers","row"] ["wave","numbers","row"] (defScope sACounts):=⟨rfl,rfl,rfl,by decide +kernel,rfl,by decide +kernel,by decide +kernel⟩
theorem ok_aCounts{f C:Addr}{fd:FuncData}(F:Fun K "answer_counts" "answer_counts" sACounts f fd)(T:WTxt K C):FnOk P w K mg base CX0 1 f fd ["wave","numbers","row"] (spAnswer K C 0 fun _ _=>[[6]]):=by
 refine F.ok scACounts (fun vs H Q E h=> ?_) (fun cdv A outer s H vs Q E hr h=> ?_)
 ·obtain⟨a,b,c,s,ns,row,rfl,_⟩:=h;rfl
 ·obtain⟨a,b,c,st,ns,row,rfl,hw,ok,hb,hn,hc,hr2,k⟩:=h;refine⟨_,zG (zM (zj yN (zT (zA (zU (pv 0) rfl) zE)) (zU (pv 0) rfl))),?_⟩;obtain⟨dx,ed,nb,x,cc,rows,h1,h2,h3,h4,h5,h6,h7⟩:=id hw;refine⟨_,rfl,a,C,dx,_,_,rfl,h1,T.cl,T.nN,wn _ _ _ _ _ _ _,(by show 1<=sizeLine;decide),fun l hl=> ?_⟩;have g1:Same H (upd H l (.lst [.int (st.graph.n:Nat)])):=Same.upd _ hl;have sz:sizeLine=16777216:=sizeLine_eq;have n16:=ok.n16;have cl:=ok.cl;refine⟨_,rfl,a,C,dx,_,_,rfl,g1 _ _ h1,T.cl,T.nCounts,wc _ _ _ _ _ _ _,l,cc,_,_,rfl,rfl,zB,g1 _ _ h7,by rw[List.length_map,zN];show 1+_<=_;omega,fun r hr3=> ?_⟩;have g2:Same (upd H l (.lst [.int (st.graph.n:Nat)])) _:=Same.upd (.lst ([.int (st.graph.n:Nat)]++(natsI st.counts).map V.int)) hr3;have g:=g1.trans g2;refine k _ r (Same.kept g a) (hw.same g) (g1.free hr3) ?_;rw[zB];show some (HO.lst _)=some (HO.lst (((st.counts.length:Int)::Vblcas.ints st.counts).map V.int));rw[cl];rfl
theorem scASet:FnScope ["wave","numbers","row"] ["wave","numbers","row"] (defScope sASet):=⟨rfl,rfl,rfl,by decide +kernel,rfl,by decide +kernel,by decide +kernel⟩
theorem ok_aSet{f C:Addr}{fd:FuncData}(F:Fun K "answer_set" "answer_set" sASet f fd)(B:Bi mg)(T:WTxt K C)(hS:IntG mg "STATES" 3)(hD:IntG mg "DONE" 0)(hO:IntG mg "OUT_OF_RANGE" (-1))(CB:Callee P w K mg base 1 "all_below" ["numbers","bound"] (spAllBelow K))(M:MCallee P w K mg base 2 C "take_states" ["self","states"] (spTakeStates K C)):
  FnOk P w K mg base CX0 3 f fd ["wave","numbers","row"] (spAnswer K C 0 fun _ row=>[[3],row]):=by
 refine F.ok scASet (fun vs H Q E h=> ?_) (fun cdv A outer s H vs Q E hr h=> ?_)
 ·obtain⟨a,b,c,s,ns,row,rfl,_⟩:=h;rfl
 ·obtain⟨a,b,c,st,ns,row,rfl,hw,ok,hb,hn,hc,hr2,k⟩:=h;refine⟨_,zF (ZD (PW.pt (JL (zc yu (zX zY rfl B.len PySem.boot_len (zA (pv 2) zE)) (zU (pv 0) rfl) (nomark _)) (Yv (ZP (ZL (zP CB hr (zA (pv 2) (zA (zV hS) zE)))))))) (zG (zM (zT (zA (zV hO) zE)))) zZ)
   (zF (zg (ZR T.cl M hr (pv 0) (zA (pv 2) zE)))
   (zG (zM (zT (zA (zV hD) zE))))),?_⟩
  obtain⟨dx,ed,nb,x,cc,rows,h1,h2,h3,h4,h5,h6,h7⟩:=id hw;have sz:sizeLine=16777216:=sizeLine_eq;have n16:=ok.n16;have inr:Vblcas.inRange st (.set row)=(decide (row.length=st.graph.n)&&belowI 3 row):=by
   show(row.length==st.graph.n&&(decide (row.length<=16)&&row.all fun v=>Vblcas.within v 0 (((3:Nat):Int) - 1)))=_;rw[ZC];by_cases q:row.length=st.graph.n
   ·rw[decide_eq_true q,show(row.length==st.graph.n)=true by rw[q];exact beq_self_eq_true _,decide_eq_true (by omega),Bool.true_and,Bool.true_and,Bool.true_and];rfl
   ·rw[decide_eq_false q,show(row.length==st.graph.n)=false from beq_eq_false_iff_ne.mpr q,Bool.false_and,Bool.false_and]
  have out:(decide (row.length=st.graph.n)&&belowI 3 row)=false->Vblcas.step st [[3],row]=(st,[-1]):=fun q=>by
   show(if Vblcas.inRange st (.set row)=false then(st,[-1]) else Vblcas.act st (.set row))=_;rw[inr,if_pos q]
  have refuse: ∀H1,Same H H1->(decide (row.length=st.graph.n)&&belowI 3 row)=false->tRet (tLst (tCons (tC (.int (-1))) tNil)) {nx:=tSeq (tDrop (tMeth C "take_states" (spTakeStates K C) [] E0 (tVar 0) (tCons (tVar 2) tNil))) (tRet (tLst (tCons (tC (.int 0)) tNil))) {nx:=fun _ H'=>Q .non H',rt:=Q},rt:=Q} [some (.ref a),some (.ref b),some (.ref c)] H1:=fun H1 s1 q=>by
   refine⟨(by show 1<=sizeLine;decide),fun l hl=> ?_⟩;have g:Same H _:=s1.trans (Same.upd (.lst [.int (-1)]) hl);exact k _ l (Same.kept g a) (by rw[out q];exact hw.same g) (s1.free hl) (by rw[out q];exact zB)
  refine⟨_,rfl,c,_,rfl,.inl hc,_,rfl,a,C,dx,_,_,rfl,h1,T.cl,T.nN,wn _ _ _ _ _ _ _,rfl,_,rfl,?_⟩;rw[zy,List.length_map];refine ite2 (fun h=> ?_) (fun h=> ?_)
  ·refine iteT (refuse H (Same.refl H) ?_);have: ¬row.length=st.graph.n:=fun q=>by rw[q] at h;simp at h
   rw[decide_eq_false this,Bool.false_and]
  ·have hlen:row.length=st.graph.n:=by
    have:((row.length:Nat):Int)=(st.graph.n:Nat):=by simpa using h
    omega
   refine⟨_,rfl,c,3,row,rfl,hc,by omega,fun H1 s1=> ?_⟩;refine⟨_,rfl,ite2 (fun hq=> ?_) (fun hq=> ?_)⟩
   ·refine refuse H1 s1 ?_;rw[decide_eq_true hlen,Bool.true_and];cases q:belowI 3 row with
    |false=>rfl
    |true=>rw[q] at hq;cases hq
   ·have hb3:belowI 3 row=true:=by
     cases q:belowI 3 row with
     |false=>rw[q] at hq;exact absurd rfl hq
     |true=>rfl
    have hz:=ZG.mp hb3;have hout:Vblcas.step st [[3],row]=({st with config:=Vblcas.nats row,counts:=Vblcas.zeros st.graph.n,time:=0},[0]):=by
     show(if Vblcas.inRange st (.set row)=false then(st,[-1]) else Vblcas.act st (.set row))=_;rw[inr,hb3,decide_eq_true hlen];rfl
    refine⟨_,rfl,a,dx,_,rfl,s1 _ _ h1,(zm _ _ _ _ _ _ _).nom _ (by decide +kernel),_,rfl,a,dx,c,_,st.graph.n,row.map V.int,rfl,s1 _ _ h1,⟨by show 7<=800;decide,(zm _ _ _ _ _ _ _).nom⟩,wn _ _ _ _ _ _ _,by omega,s1.seq hc,fun H2 c2 x2 hc2 hx2 kp q1 q2 q3=> ?_⟩;refine⟨(by show 1<=sizeLine;decide),fun l hl=> ?_⟩;have g:Same H2 _:=Same.upd (.lst [.int 0]) hl;rw[YT] at q1;have kA:Kept a H (upd H2 l (.lst [.int 0])):=fun b o n e=>g _ _ (kp b o n (s1 _ _ e));refine k _ l kA ?_ (Yo (fun b o n e=>kp b o n (s1 _ _ e)) q1 hl) (by rw[hout];exact zB);rw[hout];refine⟨dx,ed,nb,x2,c2,rows,g _ _ q1,(h2.sx h1 kA),(h3.sx h1 kA),h4,h5,?_,?_⟩
    ·show(upd H2 l (.lst [.int 0])) x2=some (.lst ((natsI (Vblcas.nats row)).map V.int));rw[jk (b:=3) hz];exact g _ _ q3
    ·rw[<-yQ];exact g _ _ q2
theorem scARun:FnScope ["wave","numbers","row"] ["wave","numbers","row"] (defScope sARun):=⟨rfl,rfl,rfl,by decide +kernel,rfl,by decide +kernel,by decide +kernel⟩
theorem ok_aRun{f C:Addr}{fd:FuncData}(F:Fun K "answer_run" "answer_run" sARun f fd)(T:WTxt K C)(hM:IntG mg "MOST_GENERATIONS" 1000)(hO:IntG mg "OUT_OF_RANGE" (-1))(CB:Callee P w K mg base 1 "all_below" ["numbers","bound"] (spAllBelow K))(M:MCallee P w K mg base 4 C "run" ["self","generations"] (spRun C)):
  FnOk P w K mg base CX0 5 f fd ["wave","numbers","row"] (spAnswer K C 1 fun ns _=>[5::ns]):=by
 refine F.ok scARun (fun vs H Q E h=> ?_) (fun cdv A outer s H vs Q E hr h=> ?_)
 ·obtain⟨a,b,c,s,ns,row,rfl,_⟩:=h;rfl
 ·obtain⟨a,b,c,st,ns,row,rfl,hw,ok,hb,hn,hc,hr2,k⟩:=h;refine⟨_,zF (ZD (ZP (ZL (zP CB hr (zA (pv 1) (zA (zj ZJ (zV hM) zK) zE))))) (zG (zM (zT (zA (zV hO) zE)))) zZ)
   (zG (zM (zT (zA (ZR T.cl M hr (pv 0) (zA (zW K (pv 1) zK) zE)) zE)))),?_⟩
  obtain⟨z,rfl⟩: ∃z,ns=[z]:=List.length_eq_one_iff.mp hn;obtain⟨dx,ed,nb,x,cc,rows,h1,h2,h3,h4,h5,h6,h7⟩:=id hw;have sz:sizeLine=16777216:=sizeLine_eq;have inr:Vblcas.inRange st (.run z)=(decide (0<=z)&&decide (z<1001)):=by
   show(decide (0<=z)&&decide (z<=((Vblcas.MOST:Nat):Int)))=_;rw[show decide (z<=((Vblcas.MOST:Nat):Int))=decide (z<1001) from decide_eq_decide.mpr (by show z<=1000↔_;omega)]
  refine⟨_,rfl,_,_,rfl,rfl,b,1001,[z],rfl,hb,by show 1<sizeLine;decide,fun H1 s1=> ?_⟩;have bz:belowI 1001 [z]=(decide (0<=z)&&decide (z<1001)):=by unfold belowI;simp
  refine⟨_,rfl,?_⟩;rw[bz];refine ite2 (fun h=> ?_) (fun h=> ?_)
  ·have hno:(decide (0<=z)&&decide (z<1001))=false:=by
    cases q:(decide (0<=z)&&decide (z<1001)) with
    |false=>rfl
    |true=>rw[q] at h;cases h
   have hout:Vblcas.step st [[5,z]]=(st,[-1]):=by
    show(if Vblcas.inRange st (.run z)=false then(st,[-1]) else Vblcas.act st (.run z))=_;rw[inr,if_pos hno]
   refine⟨(by show 1<=sizeLine;decide),fun l hl=> ?_⟩;have g:Same H _:=s1.trans (Same.upd (.lst [.int (-1)]) hl);exact k _ l (Same.kept g a) (by rw[hout];exact hw.same g) (s1.free hl) (by rw[hout];exact zB)
  ·have hin:(decide (0<=z)&&decide (z<1001))=true:=by
    cases q:(decide (0<=z)&&decide (z<1001)) with
    |false=>rw[q] at h;exact absurd rfl h
    |true=>rfl
   obtain⟨z0,z2⟩:=Bool.and_eq_true_iff.mp hin;have z0:=of_decide_eq_true z0;have z2:=of_decide_eq_true z2;obtain⟨t,rfl⟩: ∃t:Nat,z=(t:Int):=⟨z.toNat,by omega⟩;have hout:Vblcas.step st [[5,(t:Int)]]=({ranS st (pAt st t) with time:=st.time+t},[(((pAt st t).2.sum:Nat):Int) - ((st.counts.sum:Nat):Int)]):=by
    show(if Vblcas.inRange st (.run (t:Int))=false then(st,[-1]) else Vblcas.act st (.run (t:Int)))=_;rw[inr,hin];show Vblcas.act st (.run (t:Int))=_;unfold Vblcas.act;simp only[Int.toNat_natCast,JG,foldl_sum];rfl
   refine⟨_,rfl,a,dx,_,rfl,s1 _ _ h1,(zm _ _ _ _ _ _ _).nom _ (by decide +kernel),_,rfl,b,_,_,_,rfl,rfl,s1.seq hb,zb (by decide) (by show(0:Int)<1;decide),a,st,t,rfl,hw.same s1,ok,by omega,fun H2 kp hw2=> ?_⟩;refine⟨(by show 1<=sizeLine;decide),fun l hl=> ?_⟩;have g:Same H2 _:=Same.upd (.lst [.int ((((pAt st t).2.sum:Nat):Int) - ((st.counts.sum:Nat):Int))]) hl;obtain⟨dx2,_,_,_,_,_,ha2,_⟩:=id hw2;exact k _ l (fun b o n e=>g _ _ (kp b o n (s1 _ _ e))) (by rw[hout];exact hw2.same g) (Yo (fun b o n e=>kp b o n (s1 _ _ e)) ha2 hl) (by rw[hout];exact zB)
abbrev sALean:Stmt:=top 61
abbrev sAWalk:Stmt:=top 62
theorem Yk{g:Vblcas.Graph}{rows:List (List Int)}(hr:RowsNb rows g.near){a b:Nat}(ha:a<g.n)(hb:b<g.n):(rows.getD ((a:Nat):Int).toNat []).contains ((b:Nat):Int)=g.adjacent a b:=by
 rw[Int.toNat_natCast,Bool.eq_iff_iff,List.contains_iff_mem,hr.mem];constructor
 ·rintro⟨u,e,hu⟩;obtain rfl:b=u:=by omega
  exact(ZM.mp hu).2.2
 ·exact fun h=>⟨b,rfl,ZM.mpr ⟨ha,hb,h⟩⟩
theorem walk_eq{g:Vblcas.Graph}{rows:List (List Int)}(hr:RowsNb rows g.near): ∀(cs:List Nat),(∀c,c∈cs->c<g.n)->isWalkI rows (natsI cs)=Vblcas.isWalk g cs
 |[],_=>rfl
 |[a],_=>rfl
 |a::b::l,h=>by
  have ih:=walk_eq hr (b::l) fun c hc=>h c (List.mem_cons_of_mem _ hc);show((rows.getD ((a:Nat):Int).toNat []).contains ((b:Nat):Int)&&isWalkI rows (natsI (b::l)))=(g.adjacent a b&&Vblcas.isWalk g (b::l));rw[ih,Yk hr (h a List.mem_cons_self) (h b (List.mem_cons_of_mem _ List.mem_cons_self))]
theorem scAWalk:FnScope ["wave","numbers","row"] ["wave","numbers","row"] (defScope sAWalk):=⟨rfl,rfl,rfl,by decide +kernel,rfl,by decide +kernel,by decide +kernel⟩
theorem ok_aWalk{f C:Addr}{fd:FuncData}(F:Fun K "answer_walk" "answer_walk" sAWalk f fd)(B:Bi mg)(T:WTxt K C)(hL:IntG mg "LONGEST_WALK" 256)(hD:IntG mg "DONE" 0)(hO:IntG mg "OUT_OF_RANGE" (-1))(hN:IntG mg "NOT_TOUCHING" (-5))(CB:Callee P w K mg base 1 "all_below" ["numbers","bound"] (spAllBelow K))(CW:Callee P w K mg base 1 "is_walk" ["neighbours","cells"] (spIsWalk K))(CS:Callee P w K mg base 3 "walk_sum" ["states","cells"] (spWalkSum K)):
  FnOk P w K mg base CX0 4 f fd ["wave","numbers","row"] (spAnswer K C 0 fun _ row=>[[9],row]):=by
 refine F.ok scAWalk (fun vs H Q E h=> ?_) (fun cdv A outer s H vs Q E hr h=> ?_)
 ·obtain⟨a,b,c,s,ns,row,rfl,_⟩:=h;rfl
 ·obtain⟨a,b,c,st,ns,row,rfl,hw,ok,hb,hn,hc,hr2,k⟩:=h;refine⟨_,zF (ZD (PW.pt (JL (ZP (JN jQ jQ zK (zX zY rfl B.len PySem.boot_len (zA (pv 2) zE)) (zV hL))) (Yv (ZP (ZL (zP CB hr (zA (pv 2) (zA (zU (pv 0) rfl) zE)))))))) (zG (zM (zT (zA (zV hO) zE)))) zZ)
   (zF (ZD (ZP (ZL (zP CW hr (zA (zU (pv 0) rfl) (zA (pv 2) zE))))) (zG (zM (zT (zA (zV hN) zE)))) zZ)
   (zG (zM (zT (zA (zV hD) (zA (zP CS hr (zA (zU (pv 0) rfl) (zA (pv 2) zE))) zE)))))),?_⟩
  obtain⟨dx,ed,nb,x,cc,rows,h1,h2,h3,h4,h5,h6,h7⟩:=id hw;have sz:sizeLine=16777216:=sizeLine_eq;have n16:=ok.n16;have rl:rows.length=st.graph.n:=by rw[h4.len];exact zf _
  have inr:Vblcas.inRange st (.walk row)=((decide (1<=row.length)&&decide (row.length<=256))&&belowI st.graph.n row):=by
   show((decide (row.length<=256)&&row.all fun v=>Vblcas.within v 0 ((st.graph.n:Int) - 1))&& !row.isEmpty)=_;rw[ZC];have:(!row.isEmpty)=decide (1<=row.length):=by
    cases row with
    |nil=>rfl
    |cons z l=>
     show true=_;exact(decide_eq_true (by rw[List.length_cons];omega)).symm
   rw[this];cases decide (row.length<=256)<;>cases decide (1<=row.length)<;>cases belowI st.graph.n row<;>rfl
  have out:((decide (1<=row.length)&&decide (row.length<=256))&&belowI st.graph.n row)=false->Vblcas.step st [[9],row]=(st,[-1]):=fun q=>by
   show(if Vblcas.inRange st (.walk row)=false then(st,[-1]) else Vblcas.act st (.walk row))=_;rw[inr,if_pos q]
  have refuse: ∀(D:Ends) H1,D.rt=Q->Same H H1->((decide (1<=row.length)&&decide (row.length<=256))&&belowI st.graph.n row)=false->tRet (tLst (tCons (tC (.int (-1))) tNil)) D [some (.ref a),some (.ref b),some (.ref c)] H1:=fun D H1 eD s1 q=>by
   refine⟨(by show 1<=sizeLine;decide),fun l hl=> ?_⟩;have g:Same H _:=s1.trans (Same.upd (.lst [.int (-1)]) hl);rw[eD];exact k _ l (Same.kept g a) (by rw[out q];exact hw.same g) (s1.free hl) (by rw[out q];exact zB)
  refine⟨_,rfl,c,_,rfl,.inl hc,1,_,rfl,rfl,_,rfl,?_⟩;rw[List.length_map];have dl:decide ((1:Int)<=((row.length:Nat):Int))=decide (1<=row.length):=decide_eq_decide.mpr (by omega);have dl2:decide (((row.length:Nat):Int)<=256)=decide (row.length<=256):=decide_eq_decide.mpr (by omega);rw[dl];refine ite2 (fun hA=> ?_) (fun hA=> ?_)
  ·refine⟨_,_,rfl,rfl,_,rfl,?_⟩;rw[dl2];refine ite2 (fun hB=> ?_) (fun hB=> ?_)
   ·refine iteT (refuse _ H rfl (Same.refl H) ?_);have:decide (row.length<=256)=false:=by
     cases q:decide (row.length<=256) with
     |false=>rfl
     |true=>rw[q] at hB;cases hB
    rw[this,Bool.and_false,Bool.false_and]
   ·have hB:decide (row.length<=256)=true:=by
     cases q:decide (row.length<=256) with
     |false=>rw[q] at hB;exact absurd rfl hB
     |true=>rfl
    refine⟨_,rfl,_,rfl,a,C,dx,_,_,rfl,h1,T.cl,T.nN,wn _ _ _ _ _ _ _,c,_,row,rfl,hc,by omega,fun H1 s1=> ?_⟩;refine⟨_,rfl,ite2 (fun hq=> ?_) (fun hq=> ?_)⟩
    ·refine refuse _ H1 rfl s1 ?_;have:belowI st.graph.n row=false:=by
      cases q:belowI (st.graph.n:Nat) row with
      |false=>rfl
      |true=>rw[q] at hq;cases hq
     rw[this,Bool.and_false]
    ·have hb3:belowI st.graph.n row=true:=by
      cases q:belowI (st.graph.n:Nat) row with
      |false=>rw[q] at hq;exact absurd rfl hq
      |true=>rfl
     have hz:=ZG.mp hb3;have en:=jk hz;have mem: ∀v,v∈Vblcas.nats row->v<st.graph.n:=fun v hv=>by
      unfold Vblcas.nats at hv;obtain⟨z,h,rfl⟩:=List.mem_map.mp hv;have:=hz z h;omega
     have act:Vblcas.step st [[9],row]=if Vblcas.isWalk st.graph (Vblcas.nats row)=false then(st,[-5]) else(st,[0,Vblcas.sumAlong st.config (Vblcas.nats row)]):=by
      show(if Vblcas.inRange st (.walk row)=false then(st,[-1]) else Vblcas.act st (.walk row))=_;rw[inr,hA,hB,hb3];rfl
     have we:isWalkI rows row=Vblcas.isWalk st.graph (Vblcas.nats row):=by
      have:=walk_eq h4 (Vblcas.nats row) mem;rw[en] at this;exact this
     refine⟨_,rfl,a,C,dx,_,_,rfl,s1 _ _ h1,T.cl,T.nNear,wnb _ _ _ _ _ _ _,_,rfl,nb,c,rows,row,rfl,(h3.same s1).rows,s1.seq hc,by omega,fun z hzz=>by rw[rl];exact hz z hzz,fun H2 s2=> ?_⟩;have s12:=s1.trans s2;refine⟨_,rfl,?_⟩;rw[we];refine ite2 (fun hw1=> ?_) (fun hw1=> ?_)
     ·have hf:Vblcas.isWalk st.graph (Vblcas.nats row)=false:=by
       cases q:Vblcas.isWalk st.graph (Vblcas.nats row) with
       |false=>rfl
       |true=>rw[q] at hw1;cases hw1
      rw[if_pos hf] at act;refine⟨(by show 1<=sizeLine;decide),fun l hl=> ?_⟩;have g:Same H _:=s12.trans (Same.upd (.lst [.int (-5)]) hl);exact k _ l (Same.kept g a) (by rw[act];exact hw.same g) (s12.free hl) (by rw[act];exact zB)
     ·have hf:Vblcas.isWalk st.graph (Vblcas.nats row)=true:=by
       cases q:Vblcas.isWalk st.graph (Vblcas.nats row) with
       |false=>rw[q] at hw1;exact absurd rfl hw1
       |true=>rfl
      rw[if_neg (by rw[hf];exact Bool.noConfusion)] at act;have xl:=ok.xl;have se:walkSumI (natsI st.config) row=Vblcas.sumAlong st.config (Vblcas.nats row):=by
       have:=sum_eq ok.x3 (Vblcas.nats row) fun v hv=>by rw[xl];exact mem v hv
       rw[en] at this;exact this
      refine⟨_,rfl,a,C,dx,_,_,rfl,s12 _ _ h1,T.cl,T.nStates,wx _ _ _ _ _ _ _,_,rfl,x,c,natsI st.config,row,rfl,SqL.of (s12 _ _ h6),s12.seq hc,by omega,fun z hzz=>by rw[zN,xl];exact hz z hzz,fun H3 s3=> ?_⟩;rw[se];have s13:=s12.trans s3;refine⟨(by show 2<=sizeLine;decide),fun l hl=> ?_⟩;have g:Same H _:=s13.trans (Same.upd (.lst [.int 0,.int (Vblcas.sumAlong st.config (Vblcas.nats row))]) hl);exact k _ l (Same.kept g a) (by rw[act];exact hw.same g) (s13.free hl) (by rw[act];exact zB)
  ·refine⟨_,rfl,iteT (iteT (refuse _ H rfl (Same.refl H) ?_))⟩;have:decide (1<=row.length)=false:=by
    cases q:decide (1<=row.length) with
    |false=>rfl
    |true=>exact absurd q hA
   rw[this,Bool.false_and,Bool.false_and]
abbrev sDepthsFrom:Stmt:=top 14
abbrev sCells:Stmt:=top 52
abbrev sABall:Stmt:=top 71
def spDepthsFrom:Sp:=fun vs H Q _=>∃(a:Addr) (v:Nat) (rows:List (List Int)) (nb:Vblcas.Near),vs=[.ref a,.int (v:Nat)]/\RowsT H a rows/\RowsNb rows nb/\NbOk nb/\nb.length<1000/\v<nb.length/\∀H' d ds,H d=none->Same H H'->H' d=some (.lst (ds.map dsV))->Dist nb v ds->Q (.ref d) H'
def cellsN(g:Vblcas.Graph)(v k:Nat):List Nat:=(List.range g.n).filter fun u=>(Vblcas.ball g.near v k).contains u
def spCells(C:Addr):Sp:=fun vs H Q _=>∃(a:Addr) (s:Vblcas.State) (v k:Nat),vs=[.ref a,.int (v:Nat),.int (k:Nat)]/\WaveAt C H a s/\StOk s/\v<s.graph.n/\NewInts H Q (natsI (cellsN s.graph v k))
theorem scDepthsFrom:FnScope ["neighbours","cell","depths","other"] ["neighbours","cell"] (defScope sDepthsFrom):=⟨rfl,rfl,rfl,by decide +kernel,rfl,by decide +kernel,by decide +kernel⟩
theorem ok_depthsFrom{f:Addr}{fd:FuncData}(F:Fun K "depths_from" "depths_from" sDepthsFrom f fd)(C:Callee P w K mg base 1 "write_depths" ["neighbours","start","depths"] (spWriteDepths K)):FnOk P w K mg base CX0 2 f fd ["neighbours","cell"] spDepthsFrom:=by
 refine F.ok scDepthsFrom (fun vs H Q E h=> ?_) (fun cdv A outer s H vs Q E hr h=> ?_)
 ·obtain⟨a,v,rows,nb,rfl,_⟩:=h;rfl
 ·obtain⟨a,v,rows,nb,rfl,hrows,hnb,ok,hsm,hv,k⟩:=h;refine'⟨_,zF (yE (i:=2) (own:=[("other",3)]) rfl scDepthsFrom.nd rfl rfl (yo rfl rfl rfl rfl) ?lc1 ?lc2 (fun _ _ _ _ _=> ?lc3) (fun _ _ _ _ _=> ?lc4) (fun _ _ _ _ _=> ?lc5))
   (zF (zg (zP C hr (zA (pv 0) (zA (pv 1) (zA (pv 2) zE)))))
   (zG (zM (pv 2)))),?rd⟩
  case lc1=>exact zq (pv 0)
  case lc2=>exact za (by show blkC ["neighbours","cell","depths","other"] (defScope sDepthsFrom) _ _=true;decide +kernel)
  case lc3=>exact pgn 3 scDepthsFrom.nd
  case lc4=>exact zx
  case lc5=>exact JP
  obtain⟨ps0,hp1,hp2,hp3⟩:=id hrows;have hlen:ps0.length=nb.length:=hp2.trans hnb.len;refine⟨_,rfl,a,rfl,⟨_,SqL.of hp1⟩,fun D hD=> ?_⟩;refine ZK (K:=K) (fun i out _=>out=List.replicate i V.non) RMono.pure hD (SqL.of hp1) rfl ?_ ?_
  ·intro i x H' out hi ex s2 hd hl hR;rw[List.length_map] at hi;refine⟨rfl,yesT ?_⟩;refine LcI.put RMono.pure hD (small1000 (by omega)) s2 hd hl (Same.refl _) ?_;rw[hR,List.replicate_succ']
  ·intro H1 out s1 hd hl hR;rw[hR,List.length_map,hlen] at hd;obtain⟨ps,hx⟩:=hrows.x (K:=K) hD;have hx1:=hx.same (s1.x D);have e0:List.replicate nb.length V.non=(List.replicate nb.length (none:Option Nat)).map dsV:=by rw[List.map_replicate];rfl
   rw[e0] at hd;have Pt:=DPart.start nb;have hn:Dd (List.replicate nb.length (none:Option Nat)) v=none:=by
    unfold Dd;rw[List.getD_eq_getElem?_getD,List.getElem?_replicate];split<;>rfl
   refine⟨_,rfl,_,rfl,_,rfl,a,D,v,ps,rows,nb,_,rfl,hx1,hnb,ok,hsm,hd,Pt.len,Pt.cl,hv,hn,fun H2 ds found place b hp hd2 sx=> ?_⟩;exact⟨_,rfl,k H2 D ds hD (fun b o e=>sx b o (zJ e hD) (s1 _ _ e)) hd2 (Dist.of ok hv b hp)⟩
theorem scCells:FnScope ["wave","start","most","depths","cell","depth"] ["wave","start","most"] (defScope sCells):=⟨rfl,rfl,rfl,by decide +kernel,rfl,by decide +kernel,by decide +kernel⟩
theorem ok_cells{f C:Addr}{fd:FuncData}(F:Fun K "cells_within" "cells_within" sCells f fd)(B:Bi mg)(T:WTxt K C)(CD:Callee P w K mg base 2 "depths_from" ["neighbours","cell"] spDepthsFrom):FnOk P w K mg base CX0 3 f fd ["wave","start","most"] (spCells C):=by
 refine F.ok scCells (fun vs H Q E h=> ?_) (fun cdv A outer s H vs Q E hr h=> ?_)
 ·obtain⟨a,s,v,k,rfl,_⟩:=h;rfl
 ·obtain⟨a,st,v,kk,rfl,hw,ok,hv,k⟩:=h;refine'⟨_,zF (zQ (i:=3) scCells.nd rfl (Or.inl rfl) (zP CD hr (zA (zU (pv 0) rfl) (zA (pv 1) zE))))
   (zG (zM (Zd (own:=[("cell",4),("depth",5)]) rfl scCells.nd ?lc1 ?lc2 (fun _ _ _ _ _=> ?lc3) (fun _ _ _ _ _=> ?lc4) (fun _ _ _ _ _=> ?lc5)))),?rd⟩
  case lc1=>exact ji rfl B.enumerate (zA (pv 3) zE)
  case lc2=>exact za (by show blkC ["wave","start","most","depths","cell","depth"] (defScope sCells) _ _=true;decide +kernel)
  case lc3=>exact pgt2 K 4 5 scCells.nd
  case lc4=>exact jh (PW.pt (pw_and (zc op_notN (pv 5) JP (nomark _)) (jf (zc jQ (pv 5) (pv 2) (nomark _)))))
  case lc5=>exact pv 4
  obtain⟨dx,ed,nb,x,cc,rows,h1,h2,h3,h4,h5,h6,h7⟩:=id hw;have n16:=ok.n16;have nl:st.graph.near.length=st.graph.n:=zf _;refine⟨_,rfl,a,C,dx,_,_,rfl,h1,T.cl,T.nNear,wnb _ _ _ _ _ _ _,_,rfl,nb,v,rows,st.graph.near,rfl,h3,h4,nbOk _,by omega,by omega,fun H1 d ds hd s1 hd1 B=> ?_⟩;have dl:ds.length=st.graph.n:=by rw[B.len,nl]
  refine⟨_,rfl,d,_,rfl,SqL.of hd1,fun D hD=> ?_⟩;refine lc_enumS (K:=K) (fun i out _=>out=(withinL ds i kk).map natV) RMono.pure hD (SqL.of hd1) rfl ?_ ?_
  ·intro i Tt y H' out hi ey hT s2 hdD hl hR;rw[List.length_map,dl] at hi;have e0:(ds.map dsV)[i]? =some (dsV (Dd ds i)):=by
    rw[List.getElem?_map,List.getElem?_eq_getElem (by omega)];unfold Dd;rw[List.getD_eq_getElem?_getD,List.getElem?_eq_getElem (by omega)];rfl
   rw[e0] at ey;obtain rfl:=Option.some.inj ey;have s3:Same H' (upd H' Tt (.tup [.int (i:Nat),dsV (Dd ds i)])):=Same.upd _ hT;refine⟨Tt,_,rfl,SqT.of zB,rfl,_,_,rfl,_,_,rfl,rfl,rfl,?_⟩;have nx:withinL ds (i+1) kk=withinL ds i kk++(if(match Dd ds i with|none=>false|some d=>decide (d<=kk))=true then[i] else[]):=by
    unfold withinL;rw[List.range_succ,List.filter_append,List.filter_cons];rfl
   have skip:(match Dd ds i with|none=>false|some d=>decide (d<=kk))=false->LcI H1 D (fun i out _=>out=(withinL ds i kk).map natV) (i+1) (upd H' Tt (.tup [.int (i:Nat),dsV (Dd ds i)])):=fun q=>by
    refine LcI.skip s2 hdD hl s3 ?_;rw[hR,nx,if_neg (by rw[q];exact Bool.false_ne_true),List.append_nil]
   refine⟨_,rfl,rfl,_,rfl,?_⟩;cases e:Dd ds i with
   |none=>
    rw[e] at skip;exact iteF' (by rw[decide_eq_true (show dsV none=V.non from rfl)];rfl) (iteF' rfl (skip rfl))
   |some dd=>
    rw[e] at skip nx;refine iteT' (by rw[decide_eq_false (show ¬dsV (some dd)=V.non from fun z=>by cases z)];rfl) ?_;refine⟨_,rfl,_,rfl,((dd:Nat):Int),((kk:Nat):Int),rfl,rfl,_,rfl,ite2 (fun hq=> ?_) (fun hq=> ?_)⟩
    ·have hq:dd<=kk:=by have:=of_decide_eq_true hq;omega
     refine⟨_,rfl,LcI.put RMono.pure hD (small1000 (by omega)) s2 hdD hl (by rw[e] at s3;exact s3) ?_⟩;rw[hR,nx,if_pos (decide_eq_true hq),List.map_append];rfl
    ·have hq: ¬dd<=kk:=fun z=>hq (decide_eq_true (by omega));exact skip (decide_eq_false hq)
  ·intro H' out s2 hdD hl hR;rw[List.length_map,dl,<-nl,B.cells (nbOk _) (by omega),<-natsV,nl] at hR;rw[hR] at hdD;exact k H' D (s1.free hD) (s1.trans s2) hdD
theorem scABall:FnScope ["wave","numbers","row","cells"] ["wave","numbers","row"] (defScope sABall):=⟨rfl,rfl,rfl,by decide +kernel,rfl,by decide +kernel,by decide +kernel⟩
theorem cutTo1(xs:List V):cutV xs none (some 1)=xs.take 1:=by
 unfold cutV;rw[show(1:Int)=((1:Nat):Int) from rfl,HT.YW,HT.JD];cases xs with
 |nil=>rfl
 |cons x r=>
  have:min 1 (x::r).length=1:=by simp
  rw[this];rfl
theorem below1(b z:Int):belowI b [z]=(decide (0<=z)&&decide (z<b)):=by unfold belowI;simp
theorem Jr{b1 b2 u v:Int}:(belowI b1 [u]&&belowI b2 [v])=true↔(0<=u/\u<b1)/\0<=v/\v<b2:=by
 rw[below1,below1,Bool.and_eq_true,Bool.and_eq_true,Bool.and_eq_true,decide_eq_true_eq,decide_eq_true_eq,decide_eq_true_eq,decide_eq_true_eq]
theorem ok_aBall{f C:Addr}{fd:FuncData}(F:Fun K "answer_ball" "answer_ball" sABall f fd)(B:Bi mg)(T:WTxt K C)(hW:IntG mg "WIDEST_BALL" 16)(hO:IntG mg "OUT_OF_RANGE" (-1))(CB:Callee P w K mg base 1 "all_below" ["numbers","bound"] (spAllBelow K))(CC:Callee P w K mg base 3 "cells_within" ["wave","start","most"] (spCells C)):
  FnOk P w K mg base CX0 4 f fd ["wave","numbers","row"] (spAnswer K C 2 fun ns _=>[18::ns]):=by
 refine F.ok scABall (fun vs H Q E h=> ?_) (fun cdv A outer s H vs Q E hr h=> ?_)
 ·obtain⟨a,b,c,s,ns,row,rfl,_⟩:=h;rfl
 ·obtain⟨a,b,c,st,ns,row,rfl,hw,ok,hb,hn,hc,hr2,k⟩:=h;refine⟨_,zF (ZD (PW.pt (JL (ZP (ZL (zP CB hr (zA (Zc Zi (pv 1) yL (ZZ zK)) (zA (zU (pv 0) rfl) zE))))) (Yv (ZP (ZL (zP CB hr (zA (Zc Zi (pv 1) (ZZ zK) yL) (zA (zj ZJ (zV hW) zK) zE)))))))) (zG (zM (zT (zA (zV hO) zE)))) zZ)
   (zF (zQ (i:=3) scABall.nd rfl (Or.inl rfl) (zP CC hr (zA (pv 0) (zA (zW K (pv 1) zK) (zA (zW K (pv 1) zK) zE)))))
   (zG (zM (zj yN (zT (zA (zX zY rfl B.len PySem.boot_len (zA (pv 3) zE)) zE)) (pv 3))))),?_⟩
  obtain⟨u,v,rfl⟩: ∃u v,ns=[u,v]:=by
   match ns,hn with
   |[u,v],_=>exact⟨u,v,rfl⟩
  obtain⟨dx,ed,nb,x,cc,rows,h1,h2,h3,h4,h5,h6,h7⟩:=id hw;have sz:sizeLine=16777216:=sizeLine_eq;have n16:=ok.n16;have inr:Vblcas.inRange st (.ball u v)=(belowI st.graph.n [u]&&belowI 17 [v]):=by
   show((decide (0<=u)&&decide (u<=(st.graph.n:Int) - 1))&&(decide (0<=v)&&decide (v<=16)))=_;rw[below1,below1,show decide (u<=(st.graph.n:Int) - 1)=decide (u<(st.graph.n:Int)) from decide_eq_decide.mpr (by omega),show decide (v<=16)=decide (v<17) from decide_eq_decide.mpr (by omega)]
  have refuse: ∀(D:Ends) H1,D.rt=Q->Same H H1->(belowI st.graph.n [u]&&belowI 17 [v])=false->tRet (tLst (tCons (tC (.int (-1))) tNil)) D [some (.ref a),some (.ref b),some (.ref c),none] H1:=fun D H1 eD s1 q=>by
   have out:Vblcas.step st [[18,u,v]]=(st,[-1]):=by
    show(if Vblcas.inRange st (.ball u v)=false then(st,[-1]) else Vblcas.act st (.ball u v))=_;rw[inr,if_pos q]
   refine⟨(by show 1<=sizeLine;decide),fun l hl=> ?_⟩;have g:Same H _:=s1.trans (Same.upd (.lst [.int (-1)]) hl);rw[eD];exact k _ l (Same.kept g a) (by rw[out];exact hw.same g) (s1.free hl) (by rw[out];exact zB)
  refine⟨_,rfl,_,rfl,b,_,rfl,hb,fun p hp=> ?_⟩;rw[cutTo1];have s1:Same H (upd H p (.lst (([u,v].map V.int).take 1))):=Same.upd _ hp;refine⟨_,rfl,a,C,dx,_,_,rfl,s1 _ _ h1,T.cl,T.nN,wn _ _ _ _ _ _ _,p,_,[u],rfl,SqL.of zB,by show 1<sizeLine;decide,fun H2 s2=> ?_⟩;have s12:=s1.trans s2;refine⟨_,rfl,ite2 (fun hq=> ?_) (fun hq=> ?_)⟩
  ·refine iteT (refuse _ H2 rfl s12 ?_);have:belowI st.graph.n [u]=false:=by
    cases q:belowI (st.graph.n:Nat) [u] with
    |false=>rfl
    |true=>rw[q] at hq;cases hq
   rw[this,Bool.false_and]
  ·have b1:belowI st.graph.n [u]=true:=by
    cases q:belowI (st.graph.n:Nat) [u] with
    |false=>rw[q] at hq;exact absurd rfl hq
    |true=>rfl
   refine⟨_,rfl,_,rfl,b,_,rfl,s12.seq hb,fun p2 hp2=> ?_⟩;rw[cut1];have s3:Same H2 (upd H2 p2 (.lst (([u,v].map V.int).drop 1))):=Same.upd _ hp2;have s13:=s12.trans s3;refine⟨_,_,rfl,rfl,p2,17,[v],rfl,SqL.of zB,by show 1<sizeLine;decide,fun H4 s4=> ?_⟩;have s14:=s13.trans s4;refine⟨_,rfl,ite2 (fun hq=> ?_) (fun hq=> ?_)⟩
   ·refine refuse _ H4 rfl s14 ?_;have:belowI 17 [v]=false:=by
     cases q:belowI 17 [v] with
     |false=>rfl
     |true=>rw[q] at hq;cases hq
    rw[this,Bool.and_false]
   ·have b2:belowI 17 [v]=true:=by
     cases q:belowI 17 [v] with
     |false=>rw[q] at hq;exact absurd rfl hq
     |true=>rfl
    have b12:(belowI st.graph.n [u]&&belowI 17 [v])=true:=by rw[b1,b2];rfl
    obtain⟨⟨u0,u1⟩,v0,v1⟩:=Jr.mp b12;obtain⟨m,rfl⟩: ∃m:Nat,u=(m:Int):=⟨u.toNat,by omega⟩;obtain⟨n,rfl⟩: ∃n:Nat,v=(n:Int):=⟨v.toNat,by omega⟩;have act:Vblcas.step st [[18,(m:Int),(n:Int)]]=(st,Vblcas.counted (cellsN st.graph m n)):=by
     show(if Vblcas.inRange st (.ball m n)=false then(st,[-1]) else Vblcas.act st (.ball m n))=_;rw[inr,b12];rfl
    refine⟨_,rfl,_,rfl,b,_,_,_,rfl,rfl,s14.seq hb,zb (by decide) (by show(0:Int)<2;decide),_,rfl,b,_,_,_,rfl,rfl,s14.seq hb,zb (by decide) (by show(1:Int)<2;decide),a,st,m,n,rfl,hw.same s14,ok,by omega,fun H5 r5 hr5 s5 hr5v=> ?_⟩;have s15:=s14.trans s5;have cl:(cellsN st.graph m n).length<=st.graph.n:=by
     unfold cellsN;have:=List.length_filter_le (fun u=>(Vblcas.ball st.graph.near m n).contains u) (List.range st.graph.n);rw[List.length_range] at this;exact this
    refine⟨_,rfl,r5,_,rfl,.inl (SqL.of hr5v),(by show 1<=sizeLine;decide),fun l hl=> ?_⟩;rw[List.length_map,zN];have s6:Same H5 (upd H5 l (.lst [.int ((cellsN st.graph m n).length:Nat)])):=Same.upd _ hl;refine⟨_,rfl,l,r5,_,_,rfl,rfl,zB,s6 _ _ hr5v,by rw[List.length_map,zN];show 1+_<=_;omega,fun r hr3=> ?_⟩;have s7:Same _ _:=Same.upd (.lst ([.int ((cellsN st.graph m n).length:Nat)]++(natsI (cellsN st.graph m n)).map V.int)) hr3;have s16:=s15.trans s6;have g:=s16.trans s7;exact k _ r (Same.kept g a) (by rw[act];exact hw.same g) (s16.free hr3) (by rw[act];exact zB)
theorem at0_par{nb:Vblcas.Near}{v:Nat}(h:v<nb.length):at0 (parI nb) (v:Nat)=(parN nb v:Nat):=by
 unfold at0 parI;rw[Int.toNat_natCast,List.getD_eq_getElem?_getD,zR _ h];rfl
theorem par_ne{nb:Vblcas.Near}{a b:Nat}(hab:a≠b):(!decide (((parN nb a:Nat):Int)=(b:Nat)))=(Vblcas.parentOf (Vblcas.forest nb) a != some b):=by
 unfold parN;cases q:Vblcas.parentOf (Vblcas.forest nb) a with
 |none=>
  have:decide (((a:Nat):Int)=(b:Nat))=false:=decide_eq_false (by omega);show(!decide (((a:Nat):Int)=(b:Nat)))=_;rw[this];rfl
 |some u=>
  show(!decide (((u:Nat):Int)=(b:Nat)))=(some u != some b);by_cases e:u=b
  ·subst e;rw[decide_eq_true rfl];simp
  ·rw[decide_eq_false (by omega)];simp[e]
theorem vR{g:Vblcas.Graph}(ok:EOk g):chordsI (parI g.near) (g.edges.map eI)=(Vblcas.chords g (Vblcas.forest g.near)).map eI:=by
 unfold chordsI Vblcas.chords;rw[List.filter_map]
 congr 1
 refine List.filter_congr fun e he=> ?_;have hl:=ok.lt e he;show(!decide (at0 (parI g.near) ((e.1:Nat):Int)=((e.2:Nat):Int))&& !decide (at0 (parI g.near) ((e.2:Nat):Int)=((e.1:Nat):Int)))=_;rw[at0_par (by rw[zf];omega),at0_par (by rw[zf];omega),par_ne (by omega),par_ne (by omega)]
theorem jc{nb:Vblcas.Near}{x:List Nat}{v:Nat}(h:v<nb.length):at0 (heightsI nb x) (v:Nat)=hS nb x v:=by
 unfold at0 heightsI;rw[Int.toNat_natCast,List.getD_eq_getElem?_getD,zR _ h];rfl
theorem Zq(nb:Vblcas.Near)(x:List Nat):(heightsI nb x).length=nb.length:=by unfold heightsI;rw[List.length_map,List.length_range]
theorem heights_eq{g:Vblcas.Graph}(x:List Nat):heightsI g.near x=Vblcas.heights (Vblcas.forest g.near) x:=by
 obtain⟨R,D,F⟩:=fcert (nbOk g);unfold heightsI Vblcas.heights;rw[F.len]
abbrev sWindings:Stmt:=top 24
abbrev sWindOf:Stmt:=top 50
abbrev sLives:Stmt:=top 51
abbrev sAHeights:Stmt:=top 63
abbrev sAWindings:Stmt:=top 64
abbrev sALives:Stmt:=top 66
abbrev sAParts:Stmt:=top 72
def wE(g:Vblcas.Graph)(x:List Nat)(e:Nat×Nat):Int×Int×Int:=((e.1:Int),(e.2:Int),Vblcas.winding (Vblcas.forest g.near) x e)
def windI(g:Vblcas.Graph)(x:List Nat):List (Int×Int×Int):=(Vblcas.chords g (Vblcas.forest g.near)).map (wE g x)
theorem chord_lt{g:Vblcas.Graph}(ge:EOk g){e:Nat×Nat}(h:e∈Vblcas.chords g (Vblcas.forest g.near)):e.1<e.2/\e.2<g.n:=by
 unfold Vblcas.chords at h;exact ge.lt e (List.mem_filter.mp h).1
theorem YK(g:Vblcas.Graph):(Vblcas.chords g (Vblcas.forest g.near)).length<=g.edges.length:=by
 unfold Vblcas.chords;exact List.length_filter_le _ _
def spWindings(K:PySem.W.Frag):Sp:=fun vs H Q _=>∃(e a x:Addr) (g:Vblcas.Graph) (rows:List (List Int)) (cfg:List Nat),vs=[.ref e,.ref a,.ref x]/\PairsT H e (g.edges.map eI)/\RowsT H a rows/\RowsNb rows g.near/\(∀r,r∈rows->r.length<1000)/\SqL K H x ((natsI cfg).map V.int)/\EOk g/\g.n<1000/\g.edges.length<1000/\cfg.length=g.n/\St3 cfg/\NewTups tI H Q (windI g cfg)
def spWindOf(C:Addr):Sp:=fun vs H Q _=>∃(a:Addr) (s:Vblcas.State),vs=[.ref a]/\WaveAt C H a s/\StOk s/\NewTups tI H Q (windI s.graph s.config)
def spLives(C:Addr):Sp:=fun vs H Q _=>∃(a:Addr) (s:Vblcas.State),vs=[.ref a]/\WaveAt C H a s/\StOk s/\∀H',Same H H'->Q (.bl (Vblcas.lives s.graph s.config)) H'
theorem lives_any(g:Vblcas.Graph)(x:List Nat):Vblcas.lives g x=(windI g x).any fun t=> !decide (t.2.2=0):=by
 unfold Vblcas.lives Vblcas.wound windI;rw[Option.isSome_map,List.any_map];rw[Bool.eq_iff_iff,List.find?_isSome,List.any_eq_true];constructor
 ·rintro⟨e,h1,h2⟩;have h2: ¬(wE g x e).2.2=0:=fun z=>by
   have:Vblcas.winding (Vblcas.forest g.near) x e=0:=z;simp[this] at h2
  exact⟨e,h1,by show(!decide ((wE g x e).2.2=0))=true;rw[decide_eq_false h2];rfl⟩
 ·rintro⟨e,h1,h2⟩;have h2: ¬(wE g x e).2.2=0:=fun z=>by
   have h2:(!decide ((wE g x e).2.2=0))=true:=h2;rw[decide_eq_true z] at h2;cases h2
  have h3: ¬Vblcas.winding (Vblcas.forest g.near) x e=0:=h2;exact⟨e,h1,by simp[h3]⟩
theorem scWindings:FnScope ["edges","neighbours","states","parents","heights","a","b"] ["edges","neighbours","states"] (defScope sWindings):=⟨rfl,rfl,rfl,by decide +kernel,rfl,by decide +kernel,by decide +kernel⟩
theorem ok_windings{f:Addr}{fd:FuncData}(F:Fun K "windings_by" "windings_by" sWindings f fd)(CP:Callee P w K mg base 3 "parents_by" ["neighbours"] spParentsBy)(CH:Callee P w K mg base 5 "heights_by" ["parents","states"] (spHeightsBy K))(CC:Callee P w K mg base 1 "chords_among" ["edges","parents"] (spChords K))(CW:Callee P w K mg base 3 "winding_of" ["a","b","heights","states"] (spWindingOf K)):
  FnOk P w K mg base CX0 6 f fd ["edges","neighbours","states"] (spWindings K):=by
 refine F.ok scWindings (fun vs H Q E h=> ?_) (fun cdv A outer s H vs Q E hr h=> ?_)
 ·obtain⟨e,a,x,g,rows,cfg,rfl,_⟩:=h;rfl
 ·obtain⟨ed,nb,x,g,rows,cfg,rfl,h2,h3,h4,h5,h6,ge,hn,hel,xl,x3,k⟩:=h;refine'⟨_,zF (zQ (i:=3) scWindings.nd rfl (Or.inl rfl) (zP CP hr (zA (pv 1) zE)))
   (zF (zQ (i:=4) scWindings.nd rfl (Or.inr rfl) (zP CH hr (zA (pv 3) (zA (pv 2) zE))))
   (zG (zM (Zd (own:=[("a",5),("b",6)]) rfl scWindings.nd ?lc1 ?lc2 (fun _ _ _ _ _=> ?lc3) (fun _ _ _ _ _=> ?lc4) (fun _ _ _ _ _=> ?lc5))))),?rd⟩
  case lc1=>exact zq (zP CC hr (zA (pv 0) (zA (pv 3) zE)))
  case lc2=>exact za (by show blkC ["edges","neighbours","states","parents","heights","a","b"] (defScope sWindings) _ _=true;decide +kernel)
  case lc3=>exact pgt2 K 5 6 scWindings.nd
  case lc4=>exact zx
  case lc5=>exact YD (zA (pv 5) (zA (pv 6) (zA (zP CW hr (zA (pv 5) (zA (pv 6) (zA (pv 4) (zA (pv 2) zE))))) zE)))
  have nl:g.near.length=g.n:=zf _;refine⟨_,rfl,nb,rows,g.near,rfl,h3,h4,nbOk _,by omega,h5,fun H1 pp hpp s1 hp1=> ?_⟩;refine⟨_,rfl,_,rfl,pp,x,g.near,cfg,rfl,SqL.of hp1,s1.seq h6,nbOk _,by omega,by rw[nl];exact xl,x3,fun H2 hh hhh s2 hh1=> ?_⟩;have s12:=s1.trans s2;refine⟨_,rfl,_,rfl,ed,pp,g.edges.map eI,parI g.near,rfl,h2.same s12,SqL.of (s2 _ _ hp1),by rw[List.length_map];exact hel,fun e he=> ?_,fun H3 q hq s3 hq1=> ?_⟩
  ·obtain⟨d,hd,rfl⟩:=List.mem_map.mp he;have:=ge.lt d hd;rw[JS,nl];show(0<=((d.1:Nat):Int)/\((d.1:Nat):Int)<_)/\0<=((d.2:Nat):Int)/\((d.2:Nat):Int)<_;omega
  rw[vR ge] at hq1;have s13:=s12.trans s3;have s23:=s2.trans s3;obtain⟨ps,p1,p2,p3⟩:=id hq1;rw[List.length_map] at p2;have few:=YK g;refine⟨q,rfl,⟨_,SqL.of p1⟩,fun D hD=> ?_⟩;refine ZK (K:=K) (RTup tI D fun i=>(windI g cfg).take i) RTup.mono hD (SqL.of p1) ⟨[],rfl,PsG.nil⟩ ?_ ?_
  ·rintro i y H' out hi ey sm hd hl2 ⟨qs,rfl,hqs⟩;obtain⟨p,ep,rfl⟩:=getElem?_mapR ey;rw[List.length_map] at hi;obtain⟨e,ee⟩: ∃e,(Vblcas.chords g (Vblcas.forest g.near))[i]? =some e:=⟨_,List.getElem?_eq_getElem (by omega)⟩;have el:=chord_lt ge (List.mem_of_getElem? ee);refine⟨p,_,rfl,SqT.of (sm _ _ (p3 i p (eI e) ep (by rw[List.getElem?_map,ee];rfl))),rfl,_,_,rfl,_,_,rfl,rfl,rfl,yesT ?_⟩;refine⟨_,rfl,_,rfl,_,rfl,_,rfl,_,rfl,_,rfl,hh,x,e.1,e.2,heightsI g.near cfg,cfg,rfl,SqL.of (sm _ _ (s3 _ _ hh1)),(s13.trans sm).seq h6,by rw[Zq,nl];omega,by rw[Zq,nl];omega,by rw[Zq,nl,xl],x3,?_⟩;rw[jc (by rw[nl];omega),jc (by rw[nl];omega)];have wd:(hS g.near cfg e.1+Vblcas.lean (Vblcas.at_ cfg e.1) (Vblcas.at_ cfg e.2) - hS g.near cfg e.2) / 3=Vblcas.winding (Vblcas.forest g.near) cfg e:=rfl;rw[wd];refine⟨(by show 3<=sizeLine;decide),fun t ht=> ?_⟩;have tD:t≠D:=fun z=>by rw[z,hd] at ht;cases ht
   have s4:Same H' (upd H' t (.tup (tI (wE g cfg e)))):=Same.upd _ ht;refine LcI.put RTup.mono hD (small1000 (by omega)) sm hd hl2 s4 ⟨qs++[t],by rw[List.map_append];rfl,?_⟩;show PsG tI D _ _ ((windI g cfg).take (i+1));rw[zL (x:=wE g cfg e) (by unfold windI;rw[List.getElem?_map,ee];rfl)];exact hqs.snoc s4 tD zB
  ·intro H' out sm hd hl2 hR;have t:TupsT tI H' D ((windI g cfg).take (ps.map V.ref).length):=hR.tups hd;rw[List.length_map,p2,List.take_of_length_le (by unfold windI;rw[List.length_map];exact Nat.le_refl _)] at t;exact k H' D (s13.free hD) (s13.trans sm) t
theorem scWindOf:FnScope ["wave"] ["wave"] (defScope sWindOf):=⟨rfl,rfl,rfl,by decide +kernel,rfl,by decide +kernel,by decide +kernel⟩
theorem ok_windOf{f C:Addr}{fd:FuncData}(F:Fun K "windings_of" "windings_of" sWindOf f fd)(T:WTxt K C)(CW:Callee P w K mg base 6 "windings_by" ["edges","neighbours","states"] (spWindings K)):FnOk P w K mg base CX0 7 f fd ["wave"] (spWindOf C):=by
 refine F.ok scWindOf (fun vs H Q E h=> ?_) (fun cdv A outer s H vs Q E hr h=> ?_)
 ·obtain⟨a,s,rfl,_⟩:=h;rfl
 ·obtain⟨a,st,rfl,hw,ok,k⟩:=h;refine⟨_,zG (zM (zP CW hr (zA (zU (pv 0) rfl) (zA (zU (pv 0) rfl) (zA (zU (pv 0) rfl) zE))))),?_⟩;obtain⟨dx,ed,nb,x,cc,rows,h1,h2,h3,h4,h5,h6,h7⟩:=id hw;have n16:=ok.n16;have few:=ok.few;exact⟨_,rfl,a,C,dx,_,_,rfl,h1,T.cl,T.nEdges,we _ _ _ _ _ _ _,_,rfl,a,C,dx,_,_,rfl,h1,T.cl,T.nNear,wnb _ _ _ _ _ _ _,_,rfl,a,C,dx,_,_,rfl,h1,T.cl,T.nStates,wx _ _ _ _ _ _ _,ed,nb,x,st.graph,rows,st.config,rfl,h2,h3,h4,h5,SqL.of h6,ok.e,by omega,by omega,ok.xl,ok.x3,k⟩
theorem scLives:FnScope ["wave","a","b","winding"] ["wave"] (defScope sLives):=⟨rfl,rfl,rfl,by decide +kernel,rfl,by decide +kernel,by decide +kernel⟩
theorem ok_lives{f C:Addr}{fd:FuncData}(F:Fun K "lives" "lives" sLives f fd)(B:Bi mg)(CW:Callee P w K mg base 7 "windings_of" ["wave"] (spWindOf C)):FnOk P w K mg base CX0 8 f fd ["wave"] (spLives C):=by
 refine F.ok scLives (fun vs H Q E h=> ?_) (fun cdv A outer s H vs Q E hr h=> ?_)
 ·obtain⟨a,s,rfl,_⟩:=h;rfl
 ·obtain⟨a,st,rfl,hw,ok,k⟩:=h;refine'⟨_,zG (zM (zX (cr_any rfl) rfl B.any boot_any (zA (Zd (own:=[("a",1),("b",2),("winding",3)]) rfl scLives.nd ?lc1 ?lc2 (fun _ _ _ _ _=> ?lc3) (fun _ _ _ _ _=> ?lc4) (fun _ _ _ _ _=> ?lc5)) zE))),?rd⟩
  case lc1=>exact zq (zP CW hr (zA (pv 0) zE))
  case lc2=>exact za (by show blkC ["wave","a","b","winding"] (defScope sLives) _ _=true;decide +kernel)
  case lc3=>exact pgt3 K 1 2 3 scLives.nd
  case lc4=>exact zx
  case lc5=>exact jj yu (pv 3) zK (nomark _)
  have few:=ok.few;have few2:=YK st.graph;refine⟨_,rfl,a,st,rfl,hw,ok,fun H1 q hq s1 hq1=> ?_⟩;obtain⟨ps,p1,p2,p3⟩:=id hq1;have wl:(windI st.graph st.config).length<=256:=by unfold windI;rw[List.length_map];omega
  refine⟨q,rfl,⟨_,SqL.of p1⟩,fun D hD=> ?_⟩;refine ZK (K:=K) (fun i out _=>out=(((windI st.graph st.config).map fun t=> !decide (t.2.2=0)).take i).map V.bl) RMono.pure hD (SqL.of p1) rfl ?_ ?_
  ·intro i y H' out hi ey s2 hd hl2 hR;obtain⟨p,ep,rfl⟩:=getElem?_mapR ey;rw[List.length_map] at hi;obtain⟨e,ee⟩: ∃e,(windI st.graph st.config)[i]? =some e:=⟨_,List.getElem?_eq_getElem (by omega)⟩;refine⟨p,_,rfl,SqT.of (s2 _ _ (p3 i p e ep ee)),rfl,_,_,rfl,_,_,rfl,_,_,rfl,rfl,rfl,yesT ?_⟩;refine⟨_,rfl,rfl,?_⟩;refine LcI.put RMono.pure hD (small1000 (by omega)) s2 hd hl2 (Same.refl _) ?_;rw[zy,hR,zL (x:= !decide (e.2.2=0)),List.map_append]
   ·rfl
   ·rw[List.getElem?_map,ee];rfl
  ·intro H' out s2 hd hl2 hR;rw[List.length_map,p2,List.take_of_length_le (by rw[List.length_map];exact Nat.le_refl _)] at hR;rw[hR] at hd;refine⟨D,(windI st.graph st.config).map fun t=> !decide (t.2.2=0),rfl,SqL.of hd,?_⟩;have e:((windI st.graph st.config).map fun t=> !decide (t.2.2=0)).any id=Vblcas.lives st.graph st.config:=by
    rw[lives_any,List.any_map];rfl
   rw[e];exact k H' (s1.trans s2)
theorem scALives:FnScope ["wave","numbers","row"] ["wave","numbers","row"] (defScope sALives):=⟨rfl,rfl,rfl,by decide +kernel,rfl,by decide +kernel,by decide +kernel⟩
theorem ok_aLives{f C:Addr}{fd:FuncData}(F:Fun K "answer_lives" "answer_lives" sALives f fd)(CL:Callee P w K mg base 8 "lives" ["wave"] (spLives C)):FnOk P w K mg base CX0 9 f fd ["wave","numbers","row"] (spAnswer K C 0 fun _ _=>[[13]]):=by
 refine F.ok scALives (fun vs H Q E h=> ?_) (fun cdv A outer s H vs Q E hr h=> ?_)
 ·obtain⟨a,b,c,s,ns,row,rfl,_⟩:=h;rfl
 ·obtain⟨a,b,c,st,ns,row,rfl,hw,ok,hb,hn,hc,hr2,k⟩:=h;refine⟨_,zG (zM (zT (zA (YZ (ZL (zP CL hr (zA (pv 0) zE))) zK zK) zE))),?_⟩;have act:Vblcas.step st [[13]]=(st,[if Vblcas.lives st.graph st.config=true then 1 else 0]):=rfl;refine⟨_,rfl,a,st,rfl,hw,ok,fun H1 s1=>⟨_,rfl,?_⟩⟩;have fin: ∀y:Int,(if Vblcas.lives st.graph st.config=true then 1 else 0)=y->1<=sizeLine/\∀p,H1 p=none->Q (.ref p) (upd H1 p (.lst [.int y])):=fun y ey=>by
   refine⟨(by decide),fun l hl=> ?_⟩;have g:Same H _:=s1.trans (Same.upd (.lst [.int y]) hl);rw[ey] at act;exact k _ l (Same.kept g a) (by rw[act];exact hw.same g) (s1.free hl) (by rw[act];exact zB)
  refine ite2 (fun h=>fin 1 (if_pos h)) (fun h=>fin 0 (if_neg h))
theorem scAHeights:FnScope ["wave","numbers","row","a","b","winding"] ["wave","numbers","row"] (defScope sAHeights):=⟨rfl,rfl,rfl,by decide +kernel,rfl,by decide +kernel,by decide +kernel⟩
theorem ok_aHeights{f C:Addr}{fd:FuncData}(F:Fun K "answer_heights" "answer_heights" sAHeights f fd)(T:WTxt K C)(CW:Callee P w K mg base 7 "windings_of" ["wave"] (spWindOf C))(CP:Callee P w K mg base 3 "parents_by" ["neighbours"] spParentsBy)(CH:Callee P w K mg base 5 "heights_by" ["parents","states"] (spHeightsBy K)):
  FnOk P w K mg base CX0 8 f fd ["wave","numbers","row"] (spAnswer K C 0 fun _ _=>[[10]]):=by
 refine F.ok scAHeights (fun vs H Q E h=> ?_) (fun cdv A outer s H vs Q E hr h=> ?_)
 ·obtain⟨a,b,c,s,ns,row,rfl,_⟩:=h;rfl
 ·obtain⟨a,b,c,st,ns,row,rfl,hw,ok,hb,hn,hc,hr2,k⟩:=h;refine⟨_,zF (ZV PassesOwn.never rfl (zq (zP CW hr (zA (pv 0) zE))) (pgt3 K 3 4 5 scAHeights.nd)
    (zG (ZD (zc yu (pv 5) zK (nomark _)) (zG (zM (zT (zA zK (zA (pv 3) (zA (pv 4) (zA (pv 5) zE))))))) zZ)))
   (zG (zM (zj yN (zT (zA zK zE)) (zP CH hr (zA (zP CP hr (zA (zU (pv 0) rfl) zE)) (zA (zU (pv 0) rfl) zE)))))),?_⟩
  obtain⟨dx,ed,nb,x,cc,rows,h1,h2,h3,h4,h5,h6,h7⟩:=id hw;have sz:sizeLine=16777216:=sizeLine_eq;have n16:=ok.n16;have nl:st.graph.near.length=st.graph.n:=zf _;have xl:=ok.xl;refine⟨_,rfl,a,st,rfl,hw,ok,fun H3 q hq s13 hq1=> ?_⟩;obtain⟨ps,p1,p2,p3⟩:=id hq1;generalize hcs:Vblcas.chords st.graph (Vblcas.forest st.graph.near)=cs;have wi:windI st.graph st.config=cs.map (wE st.graph st.config):=by unfold windI;rw[hcs]
  rw[wi] at p2 p3;rw[List.length_map] at p2;have act:Vblcas.step st [[10]]=match(cs.find? fun e=>Vblcas.winding (Vblcas.forest st.graph.near) st.config e != 0).map fun e=>(e,Vblcas.winding (Vblcas.forest st.graph.near) st.config e) with
   |some y=>(st,[0,(y.1.1:Int),(y.1.2:Int),y.2])
   |none=>(st,1::Vblcas.heights (Vblcas.forest st.graph.near) st.config):=by
   rw[<-hcs];rfl
  refine⟨q,rfl,⟨_,SqL.of p1⟩,?_⟩;refine Ze (K:=K) (a:=q) (xs:=ps.map V.ref) (fun i σ H'=>∃v5 v6 v7,σ=[some (.ref a),some (.ref b),some (.ref c),v5,v6,v7]/\H'=H3/\(cs.take i).find? (fun e=>Vblcas.winding (Vblcas.forest st.graph.near) st.config e != 0)=none)
   ⟨none,none,none,rfl,rfl,rfl⟩ (fun i σ H' _ ⟨_,_,_,_,sm,_⟩=>by rw[sm];exact SqL.of p1) ?_ ?_
  ·rintro i y σ H' hi ⟨v5,v6,v7,rfl,rfl,hno⟩;obtain⟨p,ep,rfl⟩:=getElem?_mapR hi;obtain⟨e,ee⟩: ∃e,cs[i]? =some e:=⟨_,List.getElem?_eq_getElem (by rw[<-p2];exact(List.getElem?_eq_some_iff.mp ep).1)⟩;refine⟨p,_,rfl,SqT.of (p3 i p (wE st.graph st.config e) ep (by rw[List.getElem?_map,ee];rfl)),rfl,_,_,rfl,_,_,rfl,_,_,rfl,rfl,?_⟩;refine⟨_,rfl,rfl,_,rfl,?_⟩;rw[zy];refine ite2 (fun hz=> ?_) (fun hz=> ?_)
   ·have hz:Vblcas.winding (Vblcas.forest st.graph.near) st.config e≠0:=fun z=>by
     have z:(wE st.graph st.config e).2.2=0:=z;rw[decide_eq_true z] at hz;cases hz
    have fd:cs.find? (fun e=>Vblcas.winding (Vblcas.forest st.graph.near) st.config e != 0)=some e:=by
     rw[<-List.take_append_drop i cs,List.find?_append,hno];have:cs.drop i=e::cs.drop (i+1):=by
      rw[List.drop_eq_getElem_cons (List.getElem?_eq_some_iff.mp ee).1,(List.getElem?_eq_some_iff.mp ee).2]
     rw[this,List.find?_cons_of_pos (by simpa using hz)];rfl
    rw[fd] at act;have act:Vblcas.step st [[10]]=(st,[0,(e.1:Int),(e.2:Int),Vblcas.winding (Vblcas.forest st.graph.near) st.config e]):=act;refine⟨_,rfl,_,rfl,_,rfl,(by show 4<=sizeLine;decide),fun l hl=> ?_⟩;have g:Same H _:=s13.trans (Same.upd (.lst [.int 0,.int (e.1:Nat),.int (e.2:Nat),.int (Vblcas.winding (Vblcas.forest st.graph.near) st.config e)]) hl);exact k _ l (Same.kept g a) (by rw[act];exact hw.same g) (s13.free hl) (by rw[act];exact zB)
   ·refine⟨_,_,_,rfl,rfl,?_⟩;have hz:Vblcas.winding (Vblcas.forest st.graph.near) st.config e=0:=by
     have hz:(wE st.graph st.config e).2.2=0:=Classical.byContradiction fun z=>hz (by rw[decide_eq_false z];rfl);exact hz
    rw[zL ee,List.find?_append,hno,List.find?_cons_of_neg (by simp[hz])];rfl
  ·rintro σ H' ⟨v5,v6,v7,rfl,rfl,hno⟩;rw[List.length_map,p2,List.take_length] at hno;rw[hno] at act;have act:Vblcas.step st [[10]]=(st,1::Vblcas.heights (Vblcas.forest st.graph.near) st.config):=act;refine⟨(by show 1<=sizeLine;decide),fun l hl=> ?_⟩;have g1:Same H' _:=Same.upd (.lst [.int 1]) hl;have s14:=s13.trans g1;refine⟨_,rfl,a,C,dx,_,_,rfl,s14 _ _ h1,T.cl,T.nNear,wnb _ _ _ _ _ _ _,nb,rows,st.graph.near,rfl,h3.same s14,h4,nbOk _,by omega,h5,fun H5 pp hpp s5 hp1=> ?_⟩;have s15:=s14.trans s5;refine⟨_,rfl,a,C,dx,_,_,rfl,s15 _ _ h1,T.cl,T.nStates,wx _ _ _ _ _ _ _,pp,x,st.graph.near,st.config,rfl,SqL.of hp1,SqL.of (s15 _ _ h6),nbOk _,by omega,by rw[nl];exact xl,ok.x3,fun H6 hh hhh s6 hh1=> ?_⟩;have s16:=s15.trans s6;refine⟨l,hh,_,_,rfl,rfl,s6 _ _ (s5 _ _ zB),hh1,by rw[List.length_map,Zq,nl];show 1+_<=_;omega,fun r hr3=> ?_⟩;have g2:Same _ _:=Same.upd (.lst ([.int 1]++(heightsI st.graph.near st.config).map V.int)) hr3;have g:Same H _:=s16.trans g2;refine k _ r (Same.kept g a) (by rw[act];exact hw.same g) (s16.free hr3) ?_;rw[act,zB,heights_eq];rfl
theorem scAWindings:FnScope ["wave","numbers","row","windings","told","a","b","winding"] ["wave","numbers","row"] (defScope sAWindings):=⟨rfl,rfl,rfl,by decide +kernel,rfl,by decide +kernel,by decide +kernel⟩
theorem ok_aWindings{f C:Addr}{fd:FuncData}(F:Fun K "answer_windings" "answer_windings" sAWindings f fd)(B:Bi mg)(CW:Callee P w K mg base 7 "windings_of" ["wave"] (spWindOf C)):FnOk P w K mg base CX0 8 f fd ["wave","numbers","row"] (spAnswer K C 0 fun _ _=>[[11]]):=by
 refine F.ok scAWindings (fun vs H Q E h=> ?_) (fun cdv A outer s H vs Q E hr h=> ?_)
 ·obtain⟨a,b,c,s,ns,row,rfl,_⟩:=h;rfl
 ·obtain⟨a,b,c,st,ns,row,rfl,hw,ok,hb,hn,hc,hr2,k⟩:=h;refine⟨_,zF (zQ (i:=3) scAWindings.nd rfl (Or.inl rfl) (zP CW hr (zA (pv 0) zE)))
   (zF (zQ (i:=4) scAWindings.nd rfl (Or.inl rfl) (zT (zA (zX zY rfl B.len PySem.boot_len (zA (pv 3) zE)) zE)))
   (zF (ZV PassesOwn.never rfl (zq (pv 3)) (pgt3 K 5 6 7 scAWindings.nd)
    (zG (zg (yP PySem.F.plainAttrs_list PySem.F.slot_list_extend PySem.F.type_list_extend Yy (pv 4) (zA (zT (zA (pv 5) (zA (pv 6) (zA (pv 7) zE)))) zE)))))
   (zG (zM (pv 4))))),?_⟩
  have sz:sizeLine=16777216:=sizeLine_eq;have few:=ok.few;have few2:=YK st.graph;refine⟨_,rfl,a,st,rfl,hw,ok,fun H3 q hq s13 hq1=> ?_⟩;obtain⟨ps,p1,p2,p3⟩:=id hq1;have wl:(windI st.graph st.config).length<=256:=by unfold windI;rw[List.length_map];omega
  have act:Vblcas.step st [[11]]=(st,((windI st.graph st.config).length:Int)::(windI st.graph st.config).flatMap fun t=>[t.1,t.2.1,t.2.2]):=by
   show(st,((Vblcas.chords st.graph (Vblcas.forest st.graph.near)).length:Int)::(Vblcas.chords st.graph (Vblcas.forest st.graph.near)).flatMap fun e=>[(e.1:Int),(e.2:Int),Vblcas.winding (Vblcas.forest st.graph.near) st.config e])=_;unfold windI;rw[List.length_map,List.flatMap_map];rfl
  refine⟨_,rfl,q,_,rfl,.inl (SqL.of p1),(by show 1<=sizeLine;decide),fun l hl=> ?_⟩;rw[List.length_map,p2];have g1:Same H3 (upd H3 l (.lst [.int ((windI st.graph st.config).length:Nat)])):=Same.upd _ hl;have s14:=s13.trans g1;have hlH:H l=none:=s13.free hl;refine⟨_,rfl,q,rfl,⟨_,SqL.of (g1 _ _ p1)⟩,?_⟩;refine Ze (K:=K) (a:=q) (xs:=ps.map V.ref) (fun i σ H'=>∃v5 v6 v7,σ=[some (.ref a),some (.ref b),some (.ref c),some (.ref q),some (.ref l),v5,v6,v7]/\Same H3 H'/\H' l=some (.lst ((((windI st.graph st.config).length:Int)::((windI st.graph st.config).take i).flatMap fun t=>[t.1,t.2.1,t.2.2]).map V.int)))
   ⟨none,none,none,rfl,g1,zB⟩ (fun i σ H' _ ⟨_,_,_,_,sm,_⟩=>SqL.of (sm _ _ p1)) ?_ ?_
  ·rintro i y σ H' hi ⟨v5,v6,v7,rfl,sm,hl'⟩;obtain⟨p,ep,rfl⟩:=getElem?_mapR hi;have il:=(List.getElem?_eq_some_iff.mp ep).1;obtain⟨e,ee⟩: ∃e,(windI st.graph st.config)[i]? =some e:=⟨_,List.getElem?_eq_getElem (by rw[<-p2];exact il)⟩;refine⟨p,_,rfl,SqT.of (sm _ _ (p3 i p e ep ee)),rfl,_,_,rfl,_,_,rfl,_,_,rfl,rfl,?_⟩;have flen: ∀es:List (Int×Int×Int),(es.flatMap fun t=>[t.1,t.2.1,t.2.2]).length=3 * es.length:=fun es=>by
    induction es with
    |nil=>rfl
    |cons e es ih=>rw[List.flatMap_cons,List.length_append,ih];show 3+3 * es.length=3 * (es.length+1);omega
   refine⟨_,rfl,.inl ⟨rfl,_,SqL.of hl'⟩,_,rfl,_,rfl,_,rfl,(by show 3<=sizeLine;decide),fun m hm=> ?_⟩;have ml:l≠m:=zJ hl' hm;refine⟨l,m,_,_,rfl,rfl,by rw[zH ml];exact hl',zB,?_,?_⟩
   ·rw[List.length_map,List.length_cons,flen,List.length_take];show _+3<=_;omega
   ·refine⟨_,_,_,rfl,fun b o e=> ?_,?_⟩
    ·have g:=sm b o e;rw[zH (zJ e hl),zH (zJ g hm)];exact g
    ·rw[zB,zL ee,List.flatMap_append];simp
  ·rintro σ H' ⟨v5,v6,v7,rfl,sm,hl'⟩;rw[List.length_map,p2,List.take_length] at hl';have s15:=s13.trans sm;exact⟨_,rfl,k H' l (Same.kept s15 a) (by rw[act];exact hw.same s15) hlH (by rw[act];exact hl')⟩
theorem scAParts:FnScope ["wave","numbers","row"] ["wave","numbers","row"] (defScope sAParts):=⟨rfl,rfl,rfl,by decide +kernel,rfl,by decide +kernel,by decide +kernel⟩
theorem ok_aParts{f C:Addr}{fd:FuncData}(F:Fun K "answer_parts" "answer_parts" sAParts f fd)(T:WTxt K C)(CP:Callee P w K mg base 3 "parents_by" ["neighbours"] spParentsBy)(CR:Callee P w K mg base 2 "roots_by" ["parents"] (spRootsBy K)):FnOk P w K mg base CX0 4 f fd ["wave","numbers","row"] (spAnswer K C 0 fun _ _=>[[19]]):=by
 refine F.ok scAParts (fun vs H Q E h=> ?_) (fun cdv A outer s H vs Q E hr h=> ?_)
 ·obtain⟨a,b,c,s,ns,row,rfl,_⟩:=h;rfl
 ·obtain⟨a,b,c,st,ns,row,rfl,hw,ok,hb,hn,hc,hr2,k⟩:=h;refine⟨_,zG (zM (zj yN (zT (zA (zU (pv 0) rfl) zE)) (zP CR hr (zA (zP CP hr (zA (zU (pv 0) rfl) zE)) zE)))),?_⟩;obtain⟨dx,ed,nb,x,cc,rows,h1,h2,h3,h4,h5,h6,h7⟩:=id hw;have sz:sizeLine=16777216:=sizeLine_eq;have n16:=ok.n16;have nl:st.graph.near.length=st.graph.n:=zf _;refine⟨_,rfl,a,C,dx,_,_,rfl,h1,T.cl,T.nN,wn _ _ _ _ _ _ _,(by show 1<=sizeLine;decide),fun l hl=> ?_⟩;have g1:Same H (upd H l (.lst [.int (st.graph.n:Nat)])):=Same.upd _ hl;refine⟨_,rfl,a,C,dx,_,_,rfl,g1 _ _ h1,T.cl,T.nNear,wnb _ _ _ _ _ _ _,nb,rows,st.graph.near,rfl,h3.same g1,h4,nbOk _,by omega,h5,fun H5 pp hpp s5 hp1=> ?_⟩;refine⟨pp,st.graph.near,rfl,SqL.of hp1,nbOk _,by omega,fun H6 rr hrr s6 hr1=> ?_⟩;have s16:=(g1.trans s5).trans s6;have rl:(rootsN st.graph.near).length=st.graph.n:=by unfold rootsN;rw[List.length_map,List.length_range,nl]
  refine⟨l,rr,_,_,rfl,rfl,s6 _ _ (s5 _ _ zB),hr1,by rw[List.length_map,zN,rl];show 1+_<=_;omega,fun r hr3=> ?_⟩;have g2:Same _ _:=Same.upd (.lst ([.int (st.graph.n:Nat)]++(natsI (rootsN st.graph.near)).map V.int)) hr3;have g:Same H _:=s16.trans g2;have act:Vblcas.step st [[19]]=(st,(st.graph.n:Int)::natsI (rootsN st.graph.near)):=by
   show(st,Vblcas.counted ((Vblcas.forest st.graph.near).map fun p=>p.root))=_;rw[roots_eq (nbOk st.graph)];show(st,(((rootsN st.graph.near).length:Nat):Int)::natsI (rootsN st.graph.near))=_;rw[rl]
  refine k _ r (Same.kept g a) (by rw[act];exact hw.same g) (s16.free hr3) ?_;rw[act,zB];rfl
abbrev sARing:Stmt:=top 65
theorem cutTo(xs:List V)(j:Nat):cutV xs none (some (j:Nat))=xs.take j:=by
 unfold cutV;rw[HT.YW,HT.JD,List.drop_zero,Nat.sub_zero];rcases Nat.le_total j xs.length with h|h
 ·rw[Nat.min_eq_left h]
 ·rw[Nat.min_eq_right h,List.take_of_length_le (Nat.le_refl _),List.take_of_length_le h]
theorem cutFromTo(xs:List V)(i j:Nat)(hi:i<=xs.length)(hj:j<=xs.length):cutV xs (some (i:Nat)) (some (j:Nat))=(xs.drop i).take (j - i):=by
 unfold cutV;rw[HT.YW,HT.YW,Nat.min_eq_left hi,Nat.min_eq_left hj]
theorem natsI_contains(l:List Nat)(z:Nat):(natsI l).contains ((z:Nat):Int)=l.contains z:=by
 rw[Bool.eq_iff_iff,List.contains_iff_mem,List.contains_iff_mem];unfold natsI;rw[List.mem_map];constructor
 ·rintro⟨y,h,e⟩;obtain rfl:y=z:=by omega
  exact h
 ·exact fun h=>⟨z,h,rfl⟩
theorem inV_nats(z:Nat)(l:List Nat):inV (natV z) ((natsI l).map V.int)=l.contains z:=by
 rw[<-natsI_contains];exact inV_ints _ _
theorem jF(l:List Nat):((natsI l).map V.int).all flatV=true:=vQ _
theorem eqV_nat(a b:Nat):eqV (natV a) (natV b)=decide (a=b):=by
 show(((a:Nat):Int)==((b:Nat):Int))=_;rw[Bool.eq_iff_iff,beq_iff_eq,decide_eq_true_eq];omega
theorem nats_at{l:List Nat}{i:Nat}:((natsI l).map V.int)[i]? =(l[i]?).map natV:=by rw[natsV,List.getElem?_map]
def spRing(K:PySem.W.Frag):Sp:=fun vs H Q _=>∃(t a:Addr) (u v:Nat) (nb:Vblcas.Near),vs=[.ref t,.ref a]/\H t=some (.tup [.int (u:Nat),.int (v:Nat)])/\SqL K H a ((parI nb).map V.int)/\NbOk nb/\nb.length<1000/\u<nb.length/\v<nb.length/\(∀R D,FCert nb R D->R u=R v)/\NewInts H Q (natsI (Vblcas.ringOf (Vblcas.forest nb) (u,v)))
theorem scRing:FnScope ["chord","parents","lesser_way","greater_way","meeting","up","down","cell"] ["chord","parents"] (defScope sRingOf):=⟨rfl,rfl,rfl,by decide +kernel,rfl,by decide +kernel,by decide +kernel⟩
theorem index_at{p r:List Nat}{m:Nat}(hm:m∉p):((natsI (p++m::r)).map V.int)[p.length]? =some (natV m)/\∀(i:Nat) (z:V),i<p.length->((natsI (p++m::r)).map V.int)[i]? =some z->eqV z (natV m)=false:=by
 constructor
 ·rw[nats_at,List.getElem?_append_right (Nat.le_refl _),Nat.sub_self];rfl
 ·intro i z hi h;rw[nats_at,List.getElem?_append_left hi,List.getElem?_eq_getElem hi] at h;obtain rfl:natV p[i]=z:=Option.some.inj h;rw[eqV_nat,decide_eq_false];intro e;exact hm (by rw[<-e];exact List.getElem_mem hi)
theorem ok_ring{f:Addr}{fd:FuncData}(F:Fun K "ring_of" "ring_of" sRingOf f fd)(B:Bi mg)(CU:Callee P w K mg base 1 "way_up" ["cell","parents"] (spWayUp K)):FnOk P w K mg base CX0 2 f fd ["chord","parents"] (spRing K):=by
 refine F.ok scRing (fun vs H Q E h=> ?_) (fun cdv A outer s H vs Q E hr h=> ?_)
 ·obtain⟨t,a,u,v,nb,rfl,_⟩:=h;rfl
 ·obtain⟨t,a,u,v,nb,rfl,ht,ha,ok,hsm,hu,hv,hsame,k⟩:=h;obtain⟨R,D,FC⟩:=fcert ok;obtain⟨pa,pb,r,m,M⟩:=FC.meet ok hu hv (hsame R D FC);have Wa:=FC.way ok _ u hu rfl;have Wb:=FC.way ok _ v hv rfl;have da:=FC.dlt ok hu;have db:=FC.dlt ok hv;have la:=Wa.len;have lb:=Wb.len;refine'⟨_,zF (zQ (i:=2) scRing.nd rfl (Or.inr rfl) (zP CU hr (zA (pe_ix (ixt K) (pv 0) zK (fun _ _=>rfl)) (zA (pv 1) zE))))
   (zF (zQ (i:=3) scRing.nd rfl (Or.inl rfl) (zP CU hr (zA (pe_ix (ixt K) (pv 0) zK (fun _ _=>rfl)) (zA (pv 1) zE))))
   (zF (zQ (i:=4) scRing.nd rfl (Or.inl rfl) (zW K (Zd (own:=[("cell",7)]) rfl scRing.nd ?lc1 ?lc2 (fun _ _ _ _ _=> ?lc3) (fun _ _ _ _ _=> ?lc4) (fun _ _ _ _ _=> ?lc5)) zK))
   (zF (zQ (i:=5) scRing.nd rfl (Or.inl rfl) (Zc Zi (pv 3) yL (ZZ (yP PySem.F.plainAttrs_list PySem.F.slot_list_index PySem.F.type_list_index mt_index (pv 3) (zA (pv 4) zE)))))
   (zF (zQ (i:=6) scRing.nd rfl (Or.inl rfl) (JQ rfl rfl B.list rfl B.reversed (zA (Zc Zi (pv 2) (ZZ zK) (ZZ (zj ZJ (yP PySem.F.plainAttrs_list PySem.F.slot_list_index PySem.F.type_list_index mt_index (pv 2) (zA (pv 4) zE)) zK))) zE)))
   (zG (zM (zj yN (zj yN (zT (zA (pe_ix (ixt K) (pv 0) zK (fun _ _=>rfl)) zE)) (pv 5)) (pv 6)))))))),?rd⟩
  case lc1=>exact zq (pv 3)
  case lc2=>exact za (by show blkC ["chord","parents","lesser_way","greater_way","meeting","up","down","cell"] (defScope sRingOf) _ _=true;decide +kernel)
  case lc3=>exact pgn 7 scRing.nd
  case lc4=>exact jh (zc (inl_ K) (pv 7) (pv 2) (by rfl))
  case lc5=>exact pv 7
  refine⟨_,rfl,t,_,_,_,rfl,rfl,SqT.of ht,Zf (j:=0) rfl,_,rfl,a,u,nb,rfl,ha,ok,hu,hsm,fun H1 A1 hA1 s1 hA=> ?_⟩;refine⟨_,rfl,t,_,_,_,rfl,rfl,SqT.of (s1 _ _ ht),Zf (j:=1) rfl,_,rfl,a,v,nb,rfl,s1.seq ha,ok,hv,hsm,fun H2 B1 hB1 s2 hB=> ?_⟩;have hA2:=s2 _ _ hA;have s12:=s1.trans s2;rw[M.ea] at hA2;rw[M.eb] at hB;have la':(pa++m::r).length<1000:=by rw[<-M.ea];omega
  have lb':(pb++m::r).length<1000:=by rw[<-M.eb];omega
  have sz:sizeLine=16777216:=sizeLine_eq;refine⟨_,rfl,B1,rfl,⟨_,SqL.of hB⟩,fun D0 hD=> ?_⟩;refine ZK (K:=K) (fun i out _=>out=(((pb++m::r).take i).filter fun z=>(pa++m::r).contains z).map natV) RMono.pure hD (SqL.of hB) rfl ?_ ?_
  ·intro i y H' out hi ey s3 hd hl2 hR;rw[List.length_map,zN] at hi;obtain⟨z,ez,rfl⟩:=Za ey;refine⟨rfl,?_⟩;refine⟨_,rfl,_,rfl,A1,_,rfl,.inl (SqL.of (s3 _ _ hA2)),rfl,jF _,_,rfl,?_⟩;rw[if_neg Bool.false_ne_true];show if inV (natV z) _=true then _ else _
   rw[inV_nats];refine ite2 (fun hq=> ?_) (fun hq=> ?_)
   ·refine⟨_,rfl,LcI.put RMono.pure hD (small1000 (by omega)) s3 hd hl2 (Same.refl _) ?_⟩;rw[hR,zL ez,List.filter_append,List.map_append,List.filter_cons,if_pos hq];rfl
   ·refine LcI.skip s3 hd hl2 (Same.refl _) ?_;rw[hR,zL ez,List.filter_append,List.map_append,List.filter_cons,if_neg hq];simp
  ·intro H3 out s3 hd hl2 hR;rw[List.length_map,zN,List.take_length] at hR;have ef:(pb++m::r).filter (fun z=>(pa++m::r).contains z)=m::r.filter (fun z=>(pa++m::r).contains z):=by
    rw[List.filter_append];have e1:pb.filter (fun z=>(pa++m::r).contains z)=[]:=List.filter_eq_nil_iff.mpr fun z hz=>by
     have:=M.nb z hz;rw[M.ea] at this;rw[List.contains_iff_mem];exact this
    rw[e1,List.nil_append,List.filter_cons,if_pos (by rw[List.contains_iff_mem];simp)]
   rw[ef] at hR;rw[hR] at hd;have s13:=s12.trans s3;refine⟨D0,_,_,natV m,rfl,rfl,SqL.of hd,Zf (j:=0) rfl,?_⟩;have hA3:=s3 _ _ hA2;have hB3:=s3 _ _ hB;obtain⟨i1,i2⟩:=index_at (p:=pb) (r:=r) M.mb;obtain⟨j1,j2⟩:=index_at (p:=pa) (r:=r) M.ma;refine⟨_,rfl,_,rfl,.inl ⟨rfl,_,SqL.of hB3⟩,_,rfl,B1,_,_,pb.length,_,rfl,rfl,SqL.of hB3,rfl,jF _,i1,by rw[eqV_nat];exact decide_eq_true rfl,i2,_,rfl,B1,_,rfl,SqL.of hB3,fun U hU=> ?_⟩;have eU:cutV ((natsI (pb++m::r)).map V.int) none (some ((pb.length:Nat):Int))=(natsI pb).map V.int:=by
    rw[cutTo,natsV,natsV,List.map_append,List.take_left' (by rw[List.length_map])]
   rw[eU];have s4:Same H3 (upd H3 U (.lst ((natsI pb).map V.int))):=Same.upd _ hU;have hA4:=s4 _ _ hA3;refine⟨_,rfl,_,rfl,_,rfl,.inl ⟨rfl,_,SqL.of hA4⟩,_,rfl,A1,_,_,pa.length,_,rfl,rfl,SqL.of hA4,rfl,jF _,j1,by rw[eqV_nat];exact decide_eq_true rfl,j2,_,_,rfl,rfl,_,rfl,A1,_,rfl,SqL.of hA4,fun S hS=> ?_⟩;have eS:cutV ((natsI (pa++m::r)).map V.int) (some 1) (some (((pa.length:Nat):Int)+1))=(natsI (((pa++[m]).drop 1))).map V.int:=by
    rw[show(((pa.length:Nat):Int)+1)=((pa.length+1:Nat):Int) by omega,show(1:Int)=((1:Nat):Int) from rfl,cutFromTo _ _ _ (by rw[List.length_map,zN,List.length_append,List.length_cons];omega) (by rw[List.length_map,zN,List.length_append,List.length_cons];omega)];rw[natsV,natsV,<-List.map_drop,<-List.map_take,Nat.add_sub_cancel]
    congr 1
    rw[show pa++m::r=(pa++[m])++r by simp,List.drop_append_of_le_length (by simp),List.take_left' (by simp)]
   rw[eS];have s5:Same (upd H3 U (.lst ((natsI pb).map V.int))) _:=Same.upd (.lst ((natsI ((pa++[m]).drop 1)).map V.int)) hS;refine⟨S,_,rfl,SqL.of zB,fun Dn hDn=> ?_⟩;have eR:((natsI ((pa++[m]).drop 1)).map V.int).reverse=(natsI ((pa++[m]).drop 1).reverse).map V.int:=by rw[natsV,natsV,List.map_reverse]
   rw[eR];have s6:Same _ _:=Same.upd (.lst ((natsI ((pa++[m]).drop 1).reverse).map V.int)) hDn;have s46:=(s4.trans s5).trans s6;have s16:=s13.trans s46;have hUf:=s6 _ _ (s5 _ _ (zB:(upd H3 U (.lst ((natsI pb).map V.int))) U=_));refine⟨_,rfl,t,_,_,_,rfl,rfl,SqT.of (s16 _ _ ht),Zf (j:=0) rfl,(by show 1<=sizeLine;decide),fun L hL=> ?_⟩;have s7:Same _ _:=Same.upd (.lst [.int (u:Nat)]) hL;have lpa:pa.length<1000:=by rw[List.length_append] at la';omega
   have lpb:pb.length<1000:=by rw[List.length_append] at lb';omega
   refine⟨_,rfl,L,U,_,_,rfl,rfl,zB,s7 _ _ hUf,by rw[List.length_map,zN];show 1+_<=_;omega,fun L2 hL2=> ?_⟩;have s8:Same _ _:=Same.upd (.lst ([.int (u:Nat)]++(natsI pb).map V.int)) hL2;have s18:=(s16.trans s7).trans s8;refine⟨_,rfl,L2,Dn,_,_,rfl,rfl,zB,s8 _ _ (s7 _ _ zB),?_,fun L3 hL3=> ?_⟩
   ·rw[List.length_append,List.length_map,List.length_map,zN,zN,List.length_reverse,List.length_drop,List.length_append];show 1+_+(_+1 - 1)<=_;omega
   ·have s9:Same _ _:=Same.upd (.lst (([.int (u:Nat)]++(natsI pb).map V.int)++(natsI ((pa++[m]).drop 1).reverse).map V.int)) hL3;refine k _ L3 (s18.free hL3) (s18.trans s9) ?_;rw[zB,M.ring FC]
    congr 2
    rw[natsV,natsV,natsV];unfold ringI;rw[List.map_append,List.map_append]
    congr 1
    cases pa with
    |nil=>rfl
    |cons z pa=>simp
abbrev sLeans:Stmt:=top 32
abbrev sExceed:Stmt:=top 33
abbrev sBest:Stmt:=top 34
abbrev sABest:Stmt:=top 68
def LeansT(H:Hp)(a:Addr)(lr:List (List (Int×Int))):Prop:=∃ps:List Addr,H a=some (.lst (ps.map V.ref))/\ps.length=lr.length/\∀(i:Nat) (p:Addr) (r:List (Int×Int)),ps[i]? =some p->lr[i]? =some r->TupsT pI H p r
theorem LeansT.same{H H':Hp}{a:Addr}{lr:List (List (Int×Int))}(h:LeansT H a lr)(s:Same H H'):LeansT H' a lr:=by
 obtain⟨ps,h1,h2,h3⟩:=h;exact⟨ps,s _ _ h1,h2,fun i p r e1 e2=>(h3 i p r e1 e2).same s⟩
theorem TupsT.sxl{α:Type}{f:α->List V}{H H':Hp}{q L:Addr}{r:List α}{xs:List V}(h:TupsT f H q r)(hq:q≠L)(hL:H L=some (.lst xs))(s:SameX L H H'):TupsT f H' q r:=by
 obtain⟨ps,h1,h2,h3⟩:=h;exact⟨ps,s _ _ hq h1,h2,fun i p e e1 e2=>s _ _ (ZW (h3 i p e e1 e2) hL (by intro z;cases z)) (h3 i p e e1 e2)⟩
def leanP(x:List Nat)(c:Nat)(o:Int):Int×Int:=(o,Vblcas.lean (Vblcas.at_ x c) (Vblcas.at_ x o.toNat))
def leansI(rows:List (List Int))(x:List Nat):List (List (Int×Int)):=(List.range rows.length).map fun c=>(rows.getD c []).map (leanP x c)
def spLeans(K:PySem.W.Frag):Sp:=fun vs H Q _=>∃(a b:Addr) (rows:List (List Int)) (nb:Vblcas.Near) (x:List Nat),vs=[.ref a,.ref b]/\RowsT H a rows/\RowsNb rows nb/\NbOk nb/\(∀r,r∈rows->r.length<1000)/\nb.length<1000/\SqL K H b ((natsI x).map V.int)/\x.length=nb.length/\St3 x/\∀H' p,H p=none->Same H H'->LeansT H' p (leansI rows x)->Q (.ref p) H'
def excI(t:Int)(r:List (Int×Int))(sm:List Int):Bool:=r.any fun q=>decide (t<q.2+at0 sm q.1)
def spExceed(K:PySem.W.Frag):Sp:=fun vs H Q _=>∃(t:Int) (a b:Addr) (r:List (Int×Int)) (sm:List Int),vs=[.int t,.ref a,.ref b]/\TupsT pI H a r/\SqL K H b (sm.map V.int)/\(∀q,q∈r->0<=q.1/\q.1<sm.length)/\Q (.bl (excI t r sm)) H
def spBest(K:PySem.W.Frag):Sp:=fun vs H Q _=>∃(L:Addr) (v t:Nat) (rows:List (List Int)) (nb:Vblcas.Near) (x:List Nat),vs=[.ref L,.int (v:Nat),.int (t:Nat)]/\LeansT H L (leansI rows x)/\RowsNb rows nb/\NbOk nb/\nb.length<1000/\x.length=nb.length/\St3 x/\v<nb.length/\t<=1000/\∀H',Same H H'->Q (.int (bt nb x t v)) H'
def intsD(l:List Int):PyData:=.list (l.map PyData.int)
theorem Zv{K:PySem.W.Frag}{H:Hp}: ∀l:List Int,DpAll K H (l.map V.int) (l.map PyData.int)
 |[]=>.nil
 |z::l=>.cons (.int z) (Zv l)
theorem jb: ∀l:List Int,PyData.canLayAll0 (l.map PyData.int)=true
 |[]=>rfl
 |z::l=>by
  show(PyData.canLay0 (.int z)&&PyData.canLayAll0 (l.map PyData.int))=true;rw[jb l];rfl
theorem YJ: ∀l:List Int,PyData.depthAll (l.map PyData.int)<=1
 |[]=>by show PyData.depthAll []<=1;unfold PyData.depthAll;omega
 |z::l=>by
  have:=YJ l;show PyData.depthAll (PyData.int z::l.map PyData.int)<=1;unfold PyData.depthAll;have e:PyData.depth (.int z)<=1:=by unfold PyData.depth;omega
  omega
theorem shaped_ints(l:List Int):SeqAt.shaped (intsD l)=true:=by
 unfold SeqAt.shaped intsD;rw[Bool.and_eq_true];refine⟨?_,decide_eq_true ?_⟩
 ·show PyData.canLay0 (.list (l.map PyData.int))=true;unfold PyData.canLay0;exact jb l
 ·have:=YJ l;show PyData.depth (.list (l.map PyData.int))<=64;unfold PyData.depth;omega
theorem yh: ∀l m:List Int,PyData.eqvAll (l.map PyData.int) (m.map PyData.int)=decide (l=m)
 |[],[]=>by rfl
 |[],z::m=>by rfl
 |z::l,[]=>by rfl
 |z::l,y::m=>by
  show PyData.eqvAll (PyData.int z::l.map PyData.int) (PyData.int y::m.map PyData.int)=_;unfold PyData.eqvAll;rw[yh l m];show((z==y)&&decide (l=m))=_;rw[Bool.eq_iff_iff,Bool.and_eq_true,beq_iff_eq,decide_eq_true_eq,decide_eq_true_eq,List.cons.injEq]
theorem eqv_ints(l m:List Int):PyData.eqv (intsD l) (intsD m)=decide (l=m):=by
 unfold intsD;unfold PyData.eqv;exact yh l m
theorem scLeans:FnScope ["neighbours","states","leans","cell","near","other"] ["neighbours","states"] (defScope sLeans):=⟨rfl,rfl,rfl,by decide +kernel,rfl,by decide +kernel,by decide +kernel⟩
theorem ok_leans{f:Addr}{fd:FuncData}(F:Fun K "leans_by" "leans_by" sLeans f fd)(B:Bi mg)(CL:Callee P w K mg base 2 "lean_between" ["a","b"] spLean):FnOk P w K mg base CX0 3 f fd ["neighbours","states"] (spLeans K):=by
 refine F.ok scLeans (fun vs H Q E h=> ?_) (fun cdv A outer s H vs Q E hr h=> ?_)
 ·obtain⟨a,b,rows,nb,x,rfl,_⟩:=h;rfl
 ·obtain⟨a,b,rows,nb,x,rfl,hrows,hnb,ok,hrl,hsm,hb,xl,x3,k⟩:=h;refine'⟨_,zF (zQ (i:=2) scLeans.nd rfl (Or.inl rfl) (zT zE))
   (zF (ZV PassesOwn.never rfl (ji rfl B.enumerate (zA (pv 0) zE)) (pgt2 K 3 4 scLeans.nd)
    (zG (zg (yP PySem.F.plainAttrs_list PySem.F.slot_list_append PySem.F.type_list_append Zh (pv 2) (zA (Zd (own:=[("other",5)]) rfl scLeans.nd ?lc1 ?lc2 (fun _ _ _ _ _=> ?lc3) (fun _ _ _ _ _=> ?lc4) (fun _ _ _ _ _=> ?lc5)) zE)))))
   (zG (zM (pv 2)))),?rd⟩
  case lc1=>exact zq (pv 4)
  case lc2=>exact za (by show blkC ["neighbours","states","leans","cell","near","other"] (defScope sLeans) _ _=true;decide +kernel)
  case lc3=>exact pgn 5 scLeans.nd
  case lc4=>exact zx
  case lc5=>exact YD (zA (pv 5) (zA (zP CL hr (zA (zW K (pv 1) (pv 3)) (zA (zW K (pv 1) (pv 5)) zE))) zE))
  refine⟨Nat.zero_le _,fun L hL=> ?_⟩;have s1:Same H (upd H L (.lst [])):=Same.upd _ hL;obtain⟨ps,hp1,hp2,hp3⟩:=id hrows;have aL:a≠L:=zJ hp1 hL;have hlen:ps.length=nb.length:=hp2.trans hnb.len;have rl:=hnb.len;refine⟨_,rfl,a,_,rfl,SqL.of (s1 _ _ hp1),?_⟩;refine vP (K:=K) (a:=a) (xs:=ps.map V.ref) (fun i σ H'=>∃v3 v4 qs,σ=[some (.ref a),some (.ref b),some (.ref L),v3,v4,none]/\H' L=some (.lst (qs.map V.ref))/\SameX L H H'/\qs.length=i/\∀(j:Nat) (q:Addr) (r:List (Int×Int)),qs[j]? =some q->(leansI rows x)[j]? =some r->q≠L/\TupsT pI H' q r)
   ⟨none,none,[],rfl,zB,SameX.updD _,rfl,fun j q r h=>by simp at h⟩ (fun i σ H' ⟨_,_,_,_,_,sx,_⟩=>SqL.of (sx _ _ aL hp1)) ?_ ?_
  ·rintro i T y σ H' hi ey hT ⟨v3,v4,qs,rfl,hL',sx,hql,hqs⟩;rw[List.length_map,hlen] at hi;obtain⟨p,ep,rfl⟩:=getElem?_mapR ey;have er:rows[i]? =some (rows.getD i []):=by
    rw[List.getD_eq_getElem?_getD,List.getElem?_eq_getElem (by omega)];rfl
   have hrow:=hp3 i p _ ep er;have pL:p≠L:=zJ hrow hL;have s3:Same H' (upd H' T (.tup [.int (i:Nat),.ref p])):=Same.upd _ hT;have hrow3:=s3 _ _ (sx _ _ pL hrow);have hb3:SqL K (upd H' T (.tup [.int (i:Nat),.ref p])) b ((natsI x).map V.int):=s3.seq (hb.sx hL sx);have hrl':=hrl _ (List.mem_of_getElem? er);refine⟨T,_,rfl,SqT.of zB,rfl,_,_,rfl,_,_,rfl,rfl,?_⟩;refine⟨_,rfl,.inl ⟨rfl,_,SqL.of (s3 _ _ hL')⟩,_,rfl,p,rfl,⟨_,SqL.of hrow3⟩,fun D hD=> ?_⟩;refine ZK (K:=K) (RTup pI D fun j=>((rows.getD i []).map (leanP x i)).take j) RTup.mono hD (SqL.of hrow3) ⟨[],rfl,PsG.nil⟩ ?_ ?_
   ·rintro j z H2 out hj ez s4 hd hl2 ⟨rs,rfl,hrs⟩;obtain⟨o,eo,rfl⟩:=getElem?_mapV ez;rw[List.length_map] at hj;obtain⟨u,rfl,hu⟩:=(hnb.mem i o).mp (List.mem_of_getElem? eo);have hul:u<nb.length:=ok.lt i u hu;refine⟨rfl,yesT ?_⟩;refine⟨_,rfl,_,rfl,_,rfl,b,_,_,_,rfl,rfl,s4.seq hb3,Zm (by omega),_,rfl,_,rfl,b,_,_,_,rfl,rfl,s4.seq hb3,Zm (by omega),_,_,rfl,?_⟩;rw[jm (x3.at i) (x3.at u)];refine⟨(by show 2<=sizeLine;decide),fun t ht=> ?_⟩;have tD:t≠D:=fun z=>by rw[z,hd] at ht;cases ht
    have s5:Same H2 (upd H2 t (.tup (pI (leanP x i ((u:Nat):Int))))):=Same.upd _ ht;refine LcI.put RTup.mono hD (small1000 (by omega)) s4 hd hl2 s5 ⟨rs++[t],by rw[List.map_append];rfl,?_⟩;show PsG pI D _ _ (((rows.getD i []).map (leanP x i)).take (j+1));rw[zL (x:=leanP x i ((u:Nat):Int)) (by rw[List.getElem?_map,eo];rfl)];exact hrs.snoc s5 tD zB
   ·intro H2 out s4 hd hl2 hR;have t:TupsT pI H2 D (((rows.getD i []).map (leanP x i)).take ((rows.getD i []).map V.int).length):=hR.tups hd;rw[List.length_map,List.take_of_length_le (by rw[List.length_map];exact Nat.le_refl _)] at t;have s34:=s3.trans s4;have hL2:=s34 _ _ hL';have DL:D≠L:=fun z=>by rw[z,s3 _ _ hL'] at hD;cases hD
    refine⟨L,_,_,rfl,rfl,hL2,by rw[List.length_map];exact small1000 (by omega),?_⟩;refine⟨_,_,qs++[D],rfl,by rw[zB,List.map_append];rfl,fun b o n e=>by rw[zH n];exact s34 _ _ (sx b o n e),by rw[List.length_append,hql];rfl,fun j q r g1 g2=> ?_⟩;have kp:SameX L H2 (upd H2 L (.lst (qs.map V.ref++[.ref D]))):=SameX.updD _;rcases Nat.lt_or_ge j qs.length with lt|ge
    ·rw[List.getElem?_append_left lt] at g1;obtain⟨z1,z2⟩:=hqs j q r g1 g2;exact⟨z1,(z2.same s34).sxl z1 hL2 kp⟩
    ·have hj:j=qs.length:=by
      have:=(List.getElem?_eq_some_iff.mp g1).1;rw[List.length_append] at this;have e1:([D]:List Addr).length=1:=rfl;omega
     subst hj;rw[List.getElem?_append_right (Nat.le_refl _),Nat.sub_self] at g1;obtain rfl:D=q:=Option.some.inj g1;rw[hql] at g2;unfold leansI at g2;rw[zR _ (by omega)] at g2;obtain rfl:=Option.some.inj g2;exact⟨DL,t.sxl DL hL2 kp⟩
  ·rintro σ H' ⟨v3,v4,qs,rfl,hL',sx,hql,hqs⟩;rw[List.length_map,hlen] at hql;refine⟨_,rfl,k H' L hL (fun b o e=>sx b o (zJ e hL) e) ⟨qs,hL',?_,fun i p r e1 e2=>(hqs i p r e1 e2).2⟩⟩;unfold leansI;rw[List.length_map,List.length_range,hql,rl]
theorem scExceed:FnScope ["total","near","sums","other","lean"] ["total","near","sums"] (defScope sExceed):=⟨rfl,rfl,rfl,by decide +kernel,rfl,by decide +kernel,by decide +kernel⟩
theorem ok_exceed{f:Addr}{fd:FuncData}(F:Fun K "can_exceed" "can_exceed" sExceed f fd):FnOk P w K mg base CX0 1 f fd ["total","near","sums"] (spExceed K):=by
 refine F.ok scExceed (fun vs H Q E h=> ?_) (fun cdv A outer s H vs Q E hr h=> ?_)
 ·obtain⟨t,a,b,r,sm,rfl,_⟩:=h;rfl
 ·obtain⟨t,a,b,r,sm,rfl,ha,hb,hin,k⟩:=h;refine⟨_,zF (ZV PassesOwn.never rfl (zq (pv 1)) (pgt2 K 3 4 scExceed.nd)
    (zG (ZD (zc op_gt (zj ZJ (pv 4) (zW K (pv 2) (pv 3))) (pv 0) (nomark _)) (zG (zM pe_bl)) zZ)))
   (zG (zM pe_bl)),?_⟩
  obtain⟨ps,p1,p2,p3⟩:=ha;refine⟨_,rfl,a,rfl,⟨_,SqL.of p1⟩,Ze (K:=K) (a:=a) (xs:=ps.map V.ref) (fun i σ H'=>∃v3 v4,σ=[some (.int t),some (.ref a),some (.ref b),v3,v4]/\H'=H/\excI t (r.take i) sm=false)
   ⟨none,none,rfl,rfl,rfl⟩ (fun i σ H' _ ⟨_,_,_,e,_⟩=>by rw[e];exact SqL.of p1) ?_ ?_⟩
  ·rintro i y σ H' hi ⟨v3,v4,rfl,rfl,hno⟩;obtain⟨p,ep,rfl⟩:=getElem?_mapR hi;obtain⟨q,eq⟩: ∃q,r[i]? =some q:=⟨_,List.getElem?_eq_getElem (by rw[<-p2];exact(List.getElem?_eq_some_iff.mp ep).1)⟩;have m:=hin q (List.mem_of_getElem? eq);refine⟨p,_,rfl,SqT.of (p3 i p q ep eq),rfl,_,_,rfl,_,_,rfl,rfl,?_⟩;refine⟨_,rfl,_,rfl,_,rfl,b,_,_,_,rfl,rfl,hb,zb m.1 m.2,_,_,rfl,rfl,_,rfl,_,_,rfl,rfl,_,rfl,ite2 (fun h=> ?_) (fun h=> ?_)⟩
   ·have e:excI t r sm=true:=List.any_eq_true.mpr ⟨q,List.mem_of_getElem? eq,h⟩;rw[e] at k;exact k
   ·refine⟨_,_,rfl,rfl,?_⟩;unfold excI at hno ⊢;rw[zL eq,List.any_append,hno,Bool.false_or,List.any_cons,List.any_nil,Bool.or_false];simpa using h
  ·rintro σ H' ⟨v3,v4,rfl,rfl,hno⟩;rw[List.length_map,p2,List.take_length] at hno;rw[hno] at k;exact k
theorem exc_eq{rows:List (List Int)}{nb:Vblcas.Near}(hr:RowsNb rows nb)(ok:NbOk nb){x:List Nat}{t v:Nat}:excI (bt nb x t v) ((rows.getD v []).map (leanP x v)) (Vblcas.bests nb x t)=exceeds nb x t v:=by
 unfold excI exceeds;rw[List.any_map,Bool.eq_iff_iff,List.any_eq_true,List.any_eq_true];constructor
 ·rintro⟨z,hz,h⟩;obtain⟨u,rfl,hu⟩:=(hr.mem v z).mp hz;refine⟨u,hu,?_⟩;have h:=of_decide_eq_true h;refine decide_eq_true ?_;have e:at0 (Vblcas.bests nb x t) ((u:Nat):Int)=bt nb x t u:=by unfold at0 bt;rw[Int.toNat_natCast]
  have e2:(leanP x v ((u:Nat):Int)).2=Vblcas.lean (Vblcas.at_ x v) (Vblcas.at_ x u):=by unfold leanP;rw[Int.toNat_natCast]
  rw[e2,show(leanP x v ((u:Nat):Int)).1=((u:Nat):Int) from rfl,e] at h;exact h
 ·rintro⟨u,hu,h⟩;refine⟨((u:Nat):Int),(hr.mem v _).mpr ⟨u,rfl,hu⟩,?_⟩;have h:=of_decide_eq_true h;refine decide_eq_true ?_;have e:at0 (Vblcas.bests nb x t) ((u:Nat):Int)=bt nb x t u:=by unfold at0 bt;rw[Int.toNat_natCast]
  have e2:(leanP x v ((u:Nat):Int)).2=Vblcas.lean (Vblcas.at_ x v) (Vblcas.at_ x u):=by unfold leanP;rw[Int.toNat_natCast]
  rw[e2,show(leanP x v ((u:Nat):Int)).1=((u:Nat):Int) from rfl,e];exact h
theorem jK{nb:Vblcas.Near}{x:List Nat}{t i:Nat}(h:i<nb.length):(Vblcas.bests nb x t)[i]? =some (bt nb x t i):=by
 unfold bt;rw[List.getD_eq_getElem?_getD,List.getElem?_eq_getElem (by rw[yJ];exact h)];rfl
theorem YG(rows:List (List Int))(x:List Nat):(leansI rows x).length=rows.length:=by unfold leansI;rw[List.length_map,List.length_range]
theorem scBest:FnScope ["leans","start","most","sums","steps","longer","near","total"] ["leans","start","most"] (defScope sBest):=⟨rfl,rfl,rfl,by decide +kernel,rfl,by decide +kernel,by decide +kernel⟩
theorem ok_best{f:Addr}{fd:FuncData}(F:Fun K "best_sum" "best_sum" sBest f fd)(B:Bi mg)(CE:Callee P w K mg base 1 "can_exceed" ["total","near","sums"] (spExceed K)):FnOk P w K mg base CX0 2 f fd ["leans","start","most"] (spBest K):=by
 refine F.ok scBest (fun vs H Q E h=> ?_) (fun cdv A outer s H vs Q E hr h=> ?_)
 ·obtain⟨L,v,t,rows,nb,x,rfl,_⟩:=h;rfl
 ·obtain⟨L,v,t,rows,nb,x,rfl,hL,hnb,ok,hsm,xl,x3,hv,ht,k⟩:=h;refine'⟨_,zF (zQ (i:=3) scBest.nd rfl (Or.inr rfl) (Zd (own:=[("near",6)]) rfl scBest.nd ?a1 ?a2 (fun _ _ _ _ _=> ?a3) (fun _ _ _ _ _=> ?a4) (fun _ _ _ _ _=> ?a5)))
   (zF (ZV PassesOwn.never rfl (Zr rfl B.range (zA (pv 2) zE)) (ZQ (i:=4) scBest.nd rfl (Or.inl rfl))
    (zF (yE (i:=5) (own:=[("total",7),("near",6)]) rfl scBest.nd rfl rfl (yo rfl rfl rfl rfl) ?b1 ?b2 (fun _ _ _ _ _=> ?b3) (fun _ _ _ _ _=> ?b4) (fun _ _ _ _ _=> ?b5))
    (zF (ZD (zc (op_eqD hr.units) (pv 5) (pv 3) (nomark _)) (zG ps_break) zZ)
    (zG (zQ (i:=3) scBest.nd rfl (Or.inr rfl) (pv 5))))))
   (zG (zM (zW K (pv 3) (pv 1))))),?rd⟩
  case a1=>exact zq (pv 0)
  case a2=>exact za (by show blkC ["leans","start","most","sums","steps","longer","near","total"] (defScope sBest) _ _=true;decide +kernel)
  case a3=>exact pgn 6 scBest.nd
  case a4=>exact zx
  case a5=>exact zK
  case b1=>exact Yw rfl B.zip (zA (pv 3) (zA (pv 0) zE))
  case b2=>exact za (by show blkC ["leans","start","most","sums","steps","longer","near","total"] (defScope sBest) _ _=true;decide +kernel)
  case b3=>exact pgt2 K 7 6 scBest.nd
  case b4=>exact zx
  case b5=>exact YZ (ZL (zP CE hr (zA (pv 7) (zA (pv 6) (zA (pv 3) zE))))) (zj ZJ (pv 7) zK) (pv 7)
  obtain⟨ps,p1,p2,p3⟩:=id hL;have rl:=hnb.len;have pl:ps.length=nb.length:=by rw[p2,YG,rl]
  have fin: ∀(S:Addr) (v4 v5:Option V) (H':Hp) (j:Nat),Same H H'->H' S=some (.lst ((Vblcas.bests nb x j).map V.int))->Vblcas.bests nb x j=Vblcas.bests nb x t->(tRet (tOp (rIxL K) (tVar 3) (tVar 1))) {nx:=fun _ H'=>Q .non H',rt:=Q} [some (.ref L),some (.int (v:Nat)),some (.int (t:Nat)),some (.ref S),v4,v5,none,none] H':=by
   intro S v4 v5 H' j sm hS e;refine⟨_,rfl,_,rfl,S,_,_,.int (bt nb x t v),rfl,rfl,SqL.of hS,Zf (j:=v) ?_,k H' sm⟩;rw[List.getElem?_map,e,jK hv];rfl
  refine⟨_,rfl,L,rfl,⟨_,SqL.of p1⟩,fun D hD=> ?_⟩;refine ZK (K:=K) (fun i out _=>out=List.replicate i (V.int 0)) RMono.pure hD (SqL.of p1) rfl ?_ ?_
  ·intro i y H' out hi ey s2 hd hl hR;rw[List.length_map] at hi;refine⟨rfl,yesT ?_⟩;refine LcI.put RMono.pure hD (small1000 (by omega)) s2 hd hl (Same.refl _) ?_;rw[hR,List.replicate_succ']
  ·intro H1 out s1 hd hl hR;rw[hR,List.length_map,pl] at hd;have hd:H1 D=some (.lst ((Vblcas.bests nb x 0).map V.int)):=by
    rw[hd];show _=some (HO.lst ((List.replicate nb.length (0:Int)).map V.int));rw[List.map_replicate]
   refine⟨_,rfl,_,rfl,by omega,by omega,?_⟩;rw[Int.toNat_natCast];refine yH (n:=t) (fun i σ H'=>∃S v4 v5,σ=[some (.ref L),some (.int (v:Nat)),some (.int (t:Nat)),some (.ref S),v4,v5,none,none]/\Same H H'/\H' S=some (.lst ((Vblcas.bests nb x i).map V.int)))
    ⟨D,none,none,rfl,s1,hd⟩ ?_ ?_
   ·rintro i σ H' hi ⟨S,v4,v5,rfl,sm,hS⟩;refine⟨_,rfl,_,rfl,S,L,_,_,rfl,SqL.of hS,SqL.of (sm _ _ p1),fun D2 hD2=> ?_⟩;refine Yh (K:=K) (fun j out _=>out=((Vblcas.bests nb x (i+1)).take j).map V.int) RMono.pure hD2 (SqL.of hS) (SqL.of (sm _ _ p1)) rfl ?_ ?_
    ·intro j T y z H2 out hj hj2 ey ez hT s3 hd2 hl2 hR2;rw[List.length_map,yJ] at hj;obtain⟨y0,ey0,rfl⟩:=getElem?_mapV ey;rw[jK hj] at ey0;obtain rfl:=Option.some.inj ey0;obtain⟨p,ep,rfl⟩:=getElem?_mapR ez;have er:(leansI rows x)[j]? =some ((rows.getD j []).map (leanP x j)):=by
      unfold leansI;rw[zR _ (by omega)]
     have s4:Same H2 (upd H2 T (.tup [.int (bt nb x i j),.ref p])):=Same.upd _ hT;have s24:=(sm.trans s3).trans s4;refine⟨T,_,rfl,SqT.of zB,rfl,_,_,rfl,_,_,rfl,rfl,rfl,yesT ?_⟩;refine⟨_,rfl,_,rfl,_,rfl,bt nb x i j,p,S,(rows.getD j []).map (leanP x j),Vblcas.bests nb x i,rfl,(p3 j p _ ep er).same s24,SqL.of ((s3.trans s4) _ _ hS),fun q hq=> ?_,_,rfl,?_⟩
     ·obtain⟨o,ho,rfl⟩:=List.mem_map.mp hq;obtain⟨u,rfl,hu⟩:=(hnb.mem j o).mp ho;have:=ok.lt j u hu;rw[yJ];show 0<=((u:Nat):Int)/\((u:Nat):Int)<_;omega
     ·rw[exc_eq hnb ok];have nx:=bt_next ok x3 (t:=i) hj;have put: ∀y:Int,bt nb x (i+1) j=y->∃acc,(upd H2 T (.tup [.int (bt nb x i j),.ref p])) D2=some (.lst acc)/\acc.length<sizeLine/\LcI H' D2 (fun j out _=>out=((Vblcas.bests nb x (i+1)).take j).map V.int) (j+1) (upd (upd H2 T (.tup [.int (bt nb x i j),.ref p])) D2 (.lst (acc++[.int y]))):=fun y ey=>by
       refine LcI.put RMono.pure hD2 (small1000 (by omega)) s3 hd2 hl2 s4 ?_;rw[hR2,zL (x:=y) (by rw[jK hj,ey]),List.map_append];rfl
      refine ite2 (fun hq=> ?_) (fun hq=> ?_)
      ·rw[if_pos hq] at nx;exact⟨_,rfl,_,_,rfl,rfl,put _ nx⟩
      ·rw[if_neg hq] at nx;exact⟨_,rfl,put _ nx⟩
    ·intro H2 out s3 hd2 hl2 hR2;rw[List.length_map,List.length_map,yJ,pl,Nat.min_self,List.take_of_length_le (by rw[yJ];exact Nat.le_refl _)] at hR2;rw[hR2] at hd2;have hS2:=s3 _ _ hS;have s23:=sm.trans s3;refine⟨_,rfl,_,rfl,intsD (Vblcas.bests nb x (i+1)),intsD (Vblcas.bests nb x i),.lst (SqL.of hd2) (Zv _),.lst (SqL.of hS2) (Zv _),shaped_ints _,shaped_ints _,_,rfl,?_⟩;rw[eqv_ints];refine ite2 (fun hq=> ?_) (fun hq=> ?_)
     ·have e:=of_decide_eq_true hq;refine fin S _ _ H2 i s23 hS2 ?_;have:=Jh e (t - i);rw[show i+(t - i)=t by omega] at this;exact this.symm
     ·exact⟨_,rfl,D2,_,_,rfl,s23,hd2⟩
   ·rintro σ H' ⟨S,v4,v5,rfl,sm,hS⟩;exact fin S v4 v5 H' t sm hS rfl
theorem scABest:FnScope ["wave","numbers","row"] ["wave","numbers","row"] (defScope sABest):=⟨rfl,rfl,rfl,by decide +kernel,rfl,by decide +kernel,by decide +kernel⟩
theorem ok_aBest{f C:Addr}{fd:FuncData}(F:Fun K "answer_best" "answer_best" sABest f fd)(T:WTxt K C)(hM:IntG mg "MOST_GENERATIONS" 1000)(hO:IntG mg "OUT_OF_RANGE" (-1))(CB:Callee P w K mg base 1 "all_below" ["numbers","bound"] (spAllBelow K))(CL:Callee P w K mg base 3 "leans_by" ["neighbours","states"] (spLeans K))(CS:Callee P w K mg base 2 "best_sum" ["leans","start","most"] (spBest K)):
  FnOk P w K mg base CX0 4 f fd ["wave","numbers","row"] (spAnswer K C 2 fun ns _=>[15::ns]):=by
 refine F.ok scABest (fun vs H Q E h=> ?_) (fun cdv A outer s H vs Q E hr h=> ?_)
 ·obtain⟨a,b,c,s,ns,row,rfl,_⟩:=h;rfl
 ·obtain⟨a,b,c,st,ns,row,rfl,hw,ok,hb,hn,hc,hr2,k⟩:=h;refine⟨_,zF (ZD (PW.pt (JL (ZP (ZL (zP CB hr (zA (Zc Zi (pv 1) yL (ZZ zK)) (zA (zU (pv 0) rfl) zE))))) (Yv (ZP (ZL (zP CB hr (zA (Zc Zi (pv 1) (ZZ zK) yL) (zA (zj ZJ (zV hM) zK) zE)))))))) (zG (zM (zT (zA (zV hO) zE)))) zZ)
   (zG (zM (zT (zA (zP CS hr (zA (zP CL hr (zA (zU (pv 0) rfl) (zA (zU (pv 0) rfl) zE))) (zA (zW K (pv 1) zK) (zA (zW K (pv 1) zK) zE)))) zE)))),?_⟩
  obtain⟨u,v,rfl⟩: ∃u v,ns=[u,v]:=by
   match ns,hn with
   |[u,v],_=>exact⟨u,v,rfl⟩
  obtain⟨dx,ed,nb,x,cc,rows,h1,h2,h3,h4,h5,h6,h7⟩:=id hw;have n16:=ok.n16;have nl:st.graph.near.length=st.graph.n:=zf _;have inr:Vblcas.inRange st (.best u v)=(belowI st.graph.n [u]&&belowI 1001 [v]):=by
   show((decide (0<=u)&&decide (u<=(st.graph.n:Int) - 1))&&(decide (0<=v)&&decide (v<=((Vblcas.MOST:Nat):Int))))=_;rw[below1,below1,show decide (u<=(st.graph.n:Int) - 1)=decide (u<(st.graph.n:Int)) from decide_eq_decide.mpr (by omega),show decide (v<=((Vblcas.MOST:Nat):Int))=decide (v<1001) from decide_eq_decide.mpr (by show v<=1000↔_;omega)]
  have refuse: ∀(D:Ends) H1,D.rt=Q->Same H H1->(belowI st.graph.n [u]&&belowI 1001 [v])=false->tRet (tLst (tCons (tC (.int (-1))) tNil)) D [some (.ref a),some (.ref b),some (.ref c)] H1:=fun D H1 eD s1 q=>by
   have out:Vblcas.step st [[15,u,v]]=(st,[-1]):=by
    show(if Vblcas.inRange st (.best u v)=false then(st,[-1]) else Vblcas.act st (.best u v))=_;rw[inr,if_pos q]
   refine⟨(by show 1<=sizeLine;decide),fun l hl=> ?_⟩;have g:Same H _:=s1.trans (Same.upd (.lst [.int (-1)]) hl);rw[eD];exact k _ l (Same.kept g a) (by rw[out];exact hw.same g) (s1.free hl) (by rw[out];exact zB)
  refine⟨_,rfl,_,rfl,b,_,rfl,hb,fun p hp=> ?_⟩;rw[cutTo1];have s1:Same H (upd H p (.lst (([u,v].map V.int).take 1))):=Same.upd _ hp;refine⟨_,rfl,a,C,dx,_,_,rfl,s1 _ _ h1,T.cl,T.nN,wn _ _ _ _ _ _ _,p,_,[u],rfl,SqL.of zB,by show 1<sizeLine;decide,fun H2 s2=> ?_⟩;have s12:=s1.trans s2;refine⟨_,rfl,ite2 (fun hq=> ?_) (fun hq=> ?_)⟩
  ·refine iteT (refuse _ H2 rfl s12 ?_);have:belowI st.graph.n [u]=false:=by
    cases q:belowI (st.graph.n:Nat) [u] with
    |false=>rfl
    |true=>rw[q] at hq;cases hq
   rw[this,Bool.false_and]
  ·have b1:belowI st.graph.n [u]=true:=by
    cases q:belowI (st.graph.n:Nat) [u] with
    |false=>rw[q] at hq;exact absurd rfl hq
    |true=>rfl
   refine⟨_,rfl,_,rfl,b,_,rfl,s12.seq hb,fun p2 hp2=> ?_⟩;rw[cut1];have s3:Same H2 (upd H2 p2 (.lst (([u,v].map V.int).drop 1))):=Same.upd _ hp2;have s13:=s12.trans s3;refine⟨_,_,rfl,rfl,p2,1001,[v],rfl,SqL.of zB,by show 1<sizeLine;decide,fun H4 s4=> ?_⟩;have s14:=s13.trans s4;refine⟨_,rfl,ite2 (fun hq=> ?_) (fun hq=> ?_)⟩
   ·refine refuse _ H4 rfl s14 ?_;have:belowI 1001 [v]=false:=by
     cases q:belowI 1001 [v] with
     |false=>rfl
     |true=>rw[q] at hq;cases hq
    rw[this,Bool.and_false]
   ·have b2:belowI 1001 [v]=true:=by
     cases q:belowI 1001 [v] with
     |false=>rw[q] at hq;exact absurd rfl hq
     |true=>rfl
    have b12:(belowI st.graph.n [u]&&belowI 1001 [v])=true:=by rw[b1,b2];rfl
    obtain⟨⟨u0,u1⟩,v0,v1⟩:=Jr.mp b12;obtain⟨m,rfl⟩: ∃m:Nat,u=(m:Int):=⟨u.toNat,by omega⟩;obtain⟨n,rfl⟩: ∃n:Nat,v=(n:Int):=⟨v.toNat,by omega⟩;have act:Vblcas.step st [[15,(m:Int),(n:Int)]]=(st,[bt st.graph.near st.config n m]):=by
     show(if Vblcas.inRange st (.best m n)=false then(st,[-1]) else Vblcas.act st (.best m n))=_;rw[inr,b12];rfl
    refine⟨_,rfl,a,C,dx,_,_,rfl,s14 _ _ h1,T.cl,T.nNear,wnb _ _ _ _ _ _ _,_,rfl,a,C,dx,_,_,rfl,s14 _ _ h1,T.cl,T.nStates,wx _ _ _ _ _ _ _,nb,x,rows,st.graph.near,st.config,rfl,h3.same s14,h4,nbOk _,h5,by omega,SqL.of (s14 _ _ h6),by rw[nl];exact ok.xl,ok.x3,fun H5 L hL s5 hLT=> ?_⟩;have s15:=s14.trans s5;refine⟨_,rfl,b,_,_,_,rfl,rfl,s15.seq hb,zb (by decide) (by show(0:Int)<2;decide),_,rfl,b,_,_,_,rfl,rfl,s15.seq hb,zb (by decide) (by show(1:Int)<2;decide),L,m,n,rows,st.graph.near,st.config,rfl,hLT,h4,nbOk _,by omega,by rw[nl];exact ok.xl,ok.x3,by omega,by omega,fun H6 s6=> ?_⟩;have s16:=s15.trans s6;refine⟨(by show 1<=sizeLine;decide),fun l hl=> ?_⟩;have g:Same H _:=s16.trans (Same.upd (.lst [.int (bt st.graph.near st.config n m)]) hl);exact k _ l (Same.kept g a) (by rw[act];exact hw.same g) (s16.free hl) (by rw[act];exact zB)
abbrev sATurn:Stmt:=top 73
abbrev sARename:Stmt:=top 74
theorem rename_range{s:Vblcas.State}(n16:s.graph.n<=16){row ns':List Int}(hp:ns'.Perm row)(hs:ns'.Pairwise (·<= ·)):(ns'=natsI (List.range s.graph.n))↔Vblcas.inRange s (.rename row)=true:=by
 have inr:Vblcas.inRange s (.rename row)=((row.length==s.graph.n)&&((decide (row.length<=16)&&belowI s.graph.n row)&&(List.range s.graph.n).all fun v=>(Vblcas.nats row).contains v)):=by
  show((row.length==s.graph.n)&&((decide (row.length<=16)&&row.all fun v=>Vblcas.within v 0 ((s.graph.n:Int) - 1))&&_))=_;rw[ZC]
 rw[inr];constructor
 ·intro e;subst e;have len:row.length=s.graph.n:=by rw[<-hp.length_eq,zN,List.length_range]
  rw[Bool.and_eq_true,Bool.and_eq_true,Bool.and_eq_true,beq_iff_eq,decide_eq_true_eq,ZG];refine⟨len,⟨by omega,fun z hz=> ?_⟩,List.all_eq_true.mpr fun v hv=> ?_⟩
  ·have:=hp.mem_iff.mpr hz;unfold natsI at this;obtain⟨u,hu,rfl⟩:=List.mem_map.mp this;have:=List.mem_range.mp hu;omega
  ·rw[List.contains_iff_mem];unfold Vblcas.nats;refine List.mem_map.mpr ⟨(v:Int),hp.mem_iff.mp ?_,Int.toNat_natCast v⟩;unfold natsI;exact List.mem_map.mpr ⟨v,hv,rfl⟩
 ·intro h;rw[Bool.and_eq_true,Bool.and_eq_true,Bool.and_eq_true,beq_iff_eq,decide_eq_true_eq,ZG] at h;obtain⟨len,⟨_,hz⟩,hall⟩:=h;have cov:=Zz (List.range s.graph.n) (Vblcas.nats row) List.nodup_range (fun z hz=>List.contains_iff_mem.mp (List.all_eq_true.mp hall z hz)) (by unfold Vblcas.nats;rw[List.length_map,List.length_range];omega);have e:=jk hz;have p2:ns'.Perm (natsI (List.range s.graph.n)):=by
   refine hp.trans ?_;rw[<-e];exact cov.map _
  refine List.Perm.eq_of_pairwise (le:=fun a b=>a<=b) (fun a b _ _ q1 q2=>by omega) hs ?_ p2;unfold natsI;rw[List.pairwise_map];exact List.pairwise_lt_range.imp fun{a b} q=>by omega
theorem scATurn:FnScope ["wave","numbers","row"] ["wave","numbers","row"] (defScope sATurn):=⟨rfl,rfl,rfl,by decide +kernel,rfl,by decide +kernel,by decide +kernel⟩
theorem ok_aTurn{f C:Addr}{fd:FuncData}(F:Fun K "answer_turn" "answer_turn" sATurn f fd)(T:WTxt K C)(hS3:IntG mg "STATES" 3)(hF:IntG mg "FIRE" 1)(hD:IntG mg "DONE" 0)(hO:IntG mg "OUT_OF_RANGE" (-1))(hN:IntG mg "NO_TURN" (-7))(CB:Callee P w K mg base 1 "all_below" ["numbers","bound"] (spAllBelow K))(M:MCallee P w K mg base 2 C "turn" ["self","steps"] (spTurn C)):
  FnOk P w K mg base CX0 3 f fd ["wave","numbers","row"] (spAnswer K C 1 fun ns _=>[20::ns]):=by
 refine F.ok scATurn (fun vs H Q E h=> ?_) (fun cdv A outer s H vs Q E hr h=> ?_)
 ·obtain⟨a,b,c,s,ns,row,rfl,_⟩:=h;rfl
 ·obtain⟨a,b,c,st,ns,row,rfl,hw,ok,hb,hn,hc,hr2,k⟩:=h;refine⟨_,zF (ZD (ZP (ZL (zP CB hr (zA (pv 1) (zA (zV hS3) zE))))) (zG (zM (zT (zA (zV hO) zE)))) zZ)
   (zF (ZD (zc jR (zU (pv 0) rfl) (zV hF) (nomark _)) (zG (zM (zT (zA (zV hN) zE)))) zZ)
   (zF (zg (ZR T.cl M hr (pv 0) (zA (zW K (pv 1) zK) zE)))
   (zG (zM (zT (zA (zV hD) zE)))))),?_⟩
  obtain⟨z,rfl⟩: ∃z,ns=[z]:=List.length_eq_one_iff.mp hn;obtain⟨dx,ed,nb,x,cc,rows,h1,h2,h3,h4,h5,h6,h7⟩:=id hw;have inr:Vblcas.inRange st (.turn z)=belowI 3 [z]:=by
   show(decide (0<=z)&&decide (z<=2))=_;rw[below1,show decide (z<=2)=decide (z<3) from decide_eq_decide.mpr (by omega)]
  refine⟨_,rfl,b,3,[z],rfl,hb,by show 1<sizeLine;decide,fun H1 s1=> ?_⟩;refine⟨_,rfl,ite2 (fun hq=> ?_) (fun hq=> ?_)⟩
  ·have q:belowI 3 [z]=false:=by
    cases q:belowI 3 [z] with
    |false=>rfl
    |true=>rw[q] at hq;cases hq
   have out:Vblcas.step st [[20,z]]=(st,[-1]):=by
    show(if Vblcas.inRange st (.turn z)=false then(st,[-1]) else Vblcas.act st (.turn z))=_;rw[inr,if_pos q]
   refine⟨(by show 1<=sizeLine;decide),fun l hl=> ?_⟩;have g:Same H _:=s1.trans (Same.upd (.lst [.int (-1)]) hl);exact k _ l (Same.kept g a) (by rw[out];exact hw.same g) (s1.free hl) (by rw[out];exact zB)
  ·have q:belowI 3 [z]=true:=by
    cases q:belowI 3 [z] with
    |false=>rw[q] at hq;exact absurd rfl hq
    |true=>rfl
   have hz:=ZG.mp q z List.mem_cons_self;obtain⟨m,rfl⟩: ∃m:Nat,z=(m:Int):=⟨z.toNat,by omega⟩;have act:Vblcas.step st [[20,(m:Int)]]=if st.kind=1 then(st,[-7]) else(turnedS st m,[0]):=by
    show(if Vblcas.inRange st (.turn m)=false then(st,[-1]) else Vblcas.act st (.turn m))=_;rw[inr,q];rfl
   refine⟨_,rfl,a,C,dx,_,_,rfl,s1 _ _ h1,T.cl,T.nKind,wk _ _ _ _ _ _ _,rfl,_,rfl,?_⟩;rw[zy];refine ite2 (fun hk=> ?_) (fun hk=> ?_)
   ·have hk:st.kind=1:=by have:=of_decide_eq_true hk;omega
    rw[if_pos hk] at act;refine⟨(by show 1<=sizeLine;decide),fun l hl=> ?_⟩;have g:Same H _:=s1.trans (Same.upd (.lst [.int (-7)]) hl);exact k _ l (Same.kept g a) (by rw[act];exact hw.same g) (s1.free hl) (by rw[act];exact zB)
   ·have hk: ¬st.kind=1:=fun z=>hk (decide_eq_true (by omega));rw[if_neg hk] at act;refine⟨_,rfl,a,dx,_,rfl,s1 _ _ h1,(zm _ _ _ _ _ _ _).nom _ (by decide +kernel),_,rfl,b,_,_,_,rfl,rfl,s1.seq hb,zb (by decide) (by show(0:Int)<1;decide),a,st,m,rfl,hw.same s1,ok,fun H2 kp hw2=> ?_⟩;refine⟨(by show 1<=sizeLine;decide),fun l hl=> ?_⟩;have g:Same H2 _:=Same.upd (.lst [.int 0]) hl;obtain⟨dx2,_,_,_,_,_,ha2,_⟩:=id hw2;exact k _ l (fun b o n e=>g _ _ (kp b o n (s1 _ _ e))) (by rw[act];exact hw2.same g) (Yo (fun b o n e=>kp b o n (s1 _ _ e)) ha2 hl) (by rw[act];exact zB)
theorem scARename:FnScope ["wave","numbers","row"] ["wave","numbers","row"] (defScope sARename):=⟨rfl,rfl,rfl,by decide +kernel,rfl,by decide +kernel,by decide +kernel⟩
theorem range_natV0(n:Nat):(List.range n).map natV0=(natsI (List.range n)).map V.int:=by rw[natsV];rfl
theorem ok_aRename{f C:Addr}{fd:FuncData}(F:Fun K "answer_rename" "answer_rename" sARename f fd)(B:Bi mg)(T:WTxt K C)(hD:IntG mg "DONE" 0)(hO:IntG mg "OUT_OF_RANGE" (-1))(M:MCallee P w K mg base 3 C "rename" ["self","names"] (spRename K C)):
  FnOk P w K mg base CX0 4 f fd ["wave","numbers","row"] (spAnswer K C 0 fun _ row=>[[21],row]):=by
 refine F.ok scARename (fun vs H Q E h=> ?_) (fun cdv A outer s H vs Q E hr h=> ?_)
 ·obtain⟨a,b,c,s,ns,row,rfl,_⟩:=h;rfl
 ·obtain⟨a,b,c,st,ns,row,rfl,hw,ok,hb,hn,hc,hr2,k⟩:=h;refine⟨_,zF (ZD (zc (op_neD hr.units) (zX cr_sortedI rfl B.sorted boot_sorted (zA (pv 2) zE)) (pe_listRange rfl rfl B.list rfl B.range (zA (zU (pv 0) rfl) zE)) (nomark _)) (zG (zM (zT (zA (zV hO) zE)))) zZ)
   (zF (zg (ZR T.cl M hr (pv 0) (zA (pv 2) zE)))
   (zG (zM (zT (zA (zV hD) zE))))),?_⟩
  obtain⟨dx,ed,nb,x,cc,rows,h1,h2,h3,h4,h5,h6,h7⟩:=id hw;have n16:=ok.n16;refine⟨_,rfl,c,row,rfl,hc,fun ns' p hp hs hpn=> ?_⟩;have s1:Same H (upd H p (.lst (ns'.map V.int))):=Same.upd _ hpn;refine⟨_,rfl,a,C,dx,_,_,rfl,s1 _ _ h1,T.cl,T.nN,wn _ _ _ _ _ _ _,st.graph.n,rfl,by omega,fun l hl=> ?_⟩;rw[range_natV0];have s2:Same (upd H p (.lst (ns'.map V.int))) _:=Same.upd (.lst ((natsI (List.range st.graph.n)).map V.int)) hl;have s12:=s1.trans s2;refine⟨intsD ns',intsD (natsI (List.range st.graph.n)),.lst (SqL.of (s2 _ _ zB)) (Zv _),.lst (SqL.of zB) (Zv _),shaped_ints _,shaped_ints _,_,rfl,?_⟩;rw[eqv_ints];have key:=rename_range (s:=st) n16 hp hs;refine ite2 (fun hq=> ?_) (fun hq=> ?_)
  ·have hne: ¬ns'=natsI (List.range st.graph.n):=fun z=>by rw[decide_eq_true z] at hq;cases hq
   have q:Vblcas.inRange st (.rename row)=false:=by
    cases q:Vblcas.inRange st (.rename row) with
    |false=>rfl
    |true=>exact absurd (key.mpr q) hne
   have out:Vblcas.step st [[21],row]=(st,[-1]):=by
    show(if Vblcas.inRange st (.rename row)=false then(st,[-1]) else Vblcas.act st (.rename row))=_;rw[if_pos q]
   refine⟨(by show 1<=sizeLine;decide),fun l3 hl3=> ?_⟩;have g:Same H _:=s12.trans (Same.upd (.lst [.int (-1)]) hl3);exact k _ l3 (Same.kept g a) (by rw[out];exact hw.same g) (s12.free hl3) (by rw[out];exact zB)
  ·have heq:ns'=natsI (List.range st.graph.n):=Classical.byContradiction fun z=>hq (by rw[decide_eq_false z];rfl);have q:=key.mp heq;have act:Vblcas.step st [[21],row]=(renamedS st (Vblcas.nats row),[0]):=by
    show(if Vblcas.inRange st (.rename row)=false then(st,[-1]) else Vblcas.act st (.rename row))=_;rw[q];rfl
   have hz: ∀z,z∈row->0<=z/\z<(st.graph.n:Int):=fun z hz=>by
    have:=hp.mem_iff.mpr hz;rw[heq] at this;unfold natsI at this;obtain⟨u,hu,rfl⟩:=List.mem_map.mp this;have:=List.mem_range.mp hu;omega
   have en:=jk hz;have nok:NamesOk st.graph.n (Vblcas.nats row):=by
    refine⟨?_⟩;have p2:(natsI (Vblcas.nats row)).Perm (natsI (List.range st.graph.n)):=by rw[en,<-heq];exact hp.symm
    have p3:=p2.map Int.toNat;unfold natsI at p3;rw[List.map_map,List.map_map] at p3;have id1: ∀l:List Nat,l.map (Int.toNat∘fun(n:Nat)=>(n:Int))=l:=fun l=>by
     have:(Int.toNat∘fun(n:Nat)=>(n:Int))=id:=by funext n;exact Int.toNat_natCast n
     rw[this,List.map_id]
    rw[id1,id1] at p3;exact p3
   refine⟨_,rfl,a,dx,_,rfl,s12 _ _ h1,(zm _ _ _ _ _ _ _).nom _ (by decide +kernel),_,rfl,a,c,st,Vblcas.nats row,rfl,hw.same s12,ok,by rw[en];exact s12.seq hc,nok,fun H2 kp hw2=> ?_⟩;refine⟨(by show 1<=sizeLine;decide),fun l3 hl3=> ?_⟩;have g:Same H2 _:=Same.upd (.lst [.int 0]) hl3;obtain⟨dx2,_,_,_,_,_,ha2,_⟩:=id hw2;exact k _ l3 (fun b o n e=>g _ _ (kp b o n (s12 _ _ e))) (by rw[act];exact hw2.same g) (Yo (fun b o n e=>kp b o n (s12 _ _ e)) ha2 hl3) (by rw[act];exact zB)
abbrev sAGraph:Stmt:=top 53
theorem pairs_eq: ∀(row:List Int),(∀z,z∈row->0<=z)->pairsI row=(Vblcas.pairsOf (Vblcas.nats row)).map eI
 |[],_=>rfl
 |[a],_=>rfl
 |a::b::l,h=>by
  have ih:=pairs_eq l fun z hz=>h z (List.mem_cons_of_mem _ (List.mem_cons_of_mem _ hz));have ha:=h a List.mem_cons_self;have hb:=h b (List.mem_cons_of_mem _ List.mem_cons_self);show(mn a b,mx a b)::pairsI l=eI (min a.toNat b.toNat,max a.toNat b.toNat)::(Vblcas.pairsOf (Vblcas.nats l)).map eI;rw[ih]
  congr 1
  unfold eI mn mx;refine Prod.ext ?_ ?_
  ·simp only;split<;>omega
  ·simp only;split<;>omega
theorem yd: ∀(l:List Nat) {n:Nat} {p:Nat×Nat},(∀z,z∈l->z<n)->p∈Vblcas.pairsOf l->p.1<=p.2/\p.2<n
 |[],n,p,_,hp=>by cases hp
 |[a],n,p,_,hp=>by cases hp
 |a::b::l,n,p,h,hp=>by
  have ha:=h a List.mem_cons_self;have hb:=h b (List.mem_cons_of_mem _ List.mem_cons_self);rcases List.mem_cons.mp (show p∈(min a b,max a b)::Vblcas.pairsOf l from hp) with e|e
  ·rw[e];simp only;omega
  ·exact yd l (fun z hz=>h z (List.mem_cons_of_mem _ (List.mem_cons_of_mem _ hz))) e
theorem jP: ∀(l:List Nat),l.length % 2=0->2 * (Vblcas.pairsOf l).length=l.length
 |[],_=>rfl
 |[a],h=>by rw[List.length_singleton] at h;omega
 |a::b::l,h=>by
  rw[List.length_cons,List.length_cons] at h;have ih:=jP l (by omega);show 2 * ((Vblcas.pairsOf l).length+1)=l.length+1+1;omega
theorem Zo: ∀(l:List (Nat×Nat)),Vblcas.unlike l=decide l.Nodup
 |[]=>rfl
 |p::l=>by
  unfold Vblcas.unlike;rw[Zo l];rw[Bool.eq_iff_iff,Bool.and_eq_true,Bool.not_eq_true',decide_eq_true_eq,decide_eq_true_eq,List.nodup_cons];constructor
  ·rintro⟨h1,h2⟩;refine⟨fun m=> ?_,h2⟩;rw[List.contains_iff_mem.mpr m] at h1;cases h1
  ·rintro⟨h1,h2⟩;refine⟨?_,h2⟩;cases q:l.contains p with
   |false=>rfl
   |true=>exact absurd (List.contains_iff_mem.mp q) h1
def allPairs:List (Nat×Nat):=(List.range 16).flatMap fun b=>(List.range b).map fun a=>(a,b)
theorem allPairs_len:allPairs.length=120:=by decide +kernel
theorem few_pairs{l:List (Nat×Nat)}(nd:l.Nodup)(h: ∀p,p∈l->p.1<p.2/\p.2<16):l.length<=120:=by
 have:=List.Nodup.length_le_of_subset nd (l₂:=allPairs) fun p hp=>by
  have:=h p hp;unfold allPairs;rw[List.mem_flatMap];exact⟨p.2,List.mem_range.mpr this.2,List.mem_map.mpr ⟨p.1,List.mem_range.mpr this.1,rfl⟩⟩
 rw[allPairs_len] at this;exact this
theorem eI_inj{a b:Nat×Nat}(h:eI a=eI b):a=b:=by
 have e1:=congrArg Prod.fst h;have e2:=congrArg Prod.snd h;unfold eI at e1 e2;simp only at e1 e2;exact Prod.ext (by omega) (by omega)
theorem proper_eq(ps:List (Nat×Nat)):(((ps.map eI).all fun e=> !decide (e.1=e.2))&&decide (ps.map eI).Nodup)=((ps.all fun p=>p.1 != p.2)&&Vblcas.unlike ps):=by
 rw[Zo,List.all_map]
 congr 1
 ·congr 1
  funext p
  show(!decide (((p.1:Nat):Int)=((p.2:Nat):Int)))=(p.1 != p.2);rw[Bool.eq_iff_iff,bne_iff_ne,Bool.not_eq_true',decide_eq_false_iff_not];omega
 ·rw[Bool.eq_iff_iff,decide_eq_true_eq,decide_eq_true_eq,List.nodup_iff_pairwise_ne,List.nodup_iff_pairwise_ne,List.pairwise_map];exact⟨fun h=>h.imp fun q e=>q (by rw[e]),fun h=>h.imp fun q e=>q (eI_inj e)⟩
theorem scAGraph:FnScope ["wave","numbers","row","n","edges"] ["wave","numbers","row"] (defScope sAGraph):=⟨rfl,rfl,rfl,by decide +kernel,rfl,by decide +kernel,by decide +kernel⟩
theorem ok_aGraph{f C:Addr}{fd:FuncData}(F:Fun K "answer_graph" "answer_graph" sAGraph f fd)(B:Bi mg)(T:WTxt K C)(hM:IntG mg "MOST_CELLS" 16)(hD:IntG mg "DONE" 0)(hO:IntG mg "OUT_OF_RANGE" (-1))(CB:Callee P w K mg base 1 "all_below" ["numbers","bound"] (spAllBelow K))(CT:Callee P w K mg base 2 "edges_told" ["numbers"] (spEdgesTold K))(CR:Callee P w K mg base 1 "are_proper" ["edges"] spProper)(MG:MCallee P w K mg base 3 C "take_graph" ["self","n","edges"] (spTakeGraph C)):
  FnOk P w K mg base CX0 4 f fd ["wave","numbers","row"] (spAnswer K C 1 fun ns row=>[0::ns,row]):=by
 refine F.ok scAGraph (fun vs H Q E h=> ?_) (fun cdv A outer s H vs Q E hr h=> ?_)
 ·obtain⟨a,b,c,s,ns,row,rfl,_⟩:=h;rfl
 ·obtain⟨a,b,c,st,ns,row,rfl,hw,ok,hb,hn,hc,hr2,k⟩:=h;refine⟨_,zF (zQ (i:=3) scAGraph.nd rfl (Or.inl rfl) (zW K (pv 1) zK))
   (zF (ZD (PW.pt (JL (ZP (JN jQ jQ zK (pv 3) (zV hM))) (JL (zc yu (zj op_mod (zX zY rfl B.len PySem.boot_len (zA (pv 2) zE)) zK) zK (nomark _)) (Yv (ZP (ZL (zP CB hr (zA (pv 2) (zA (pv 3) zE)))))))))
    (zG (zM (zT (zA (zV hO) zE)))) zZ)
   (zF (zQ (i:=4) scAGraph.nd rfl (Or.inl rfl) (zP CT hr (zA (pv 2) zE)))
   (zF (ZD (ZP (ZL (zP CR hr (zA (pv 4) zE)))) (zG (zM (zT (zA (zV hO) zE)))) zZ)
   (zF (zg (ZR T.cl MG hr (pv 0) (zA (pv 3) (zA (pv 4) zE))))
   (zG (zM (zT (zA (zV hD) zE)))))))),?_⟩
  obtain⟨z,rfl⟩: ∃z,ns=[z]:=List.length_eq_one_iff.mp hn;obtain⟨dx,ed,nb,x,cc,rows,h1,h2,h3,h4,h5,h6,h7⟩:=id hw;have sz:sizeLine=16777216:=sizeLine_eq;have inr:Vblcas.inRange st (.graph z row)=((decide (1<=z)&&decide (z<=16))&&((row.length % 2==0)&&((decide (row.length<=240)&&belowI z.toNat row)&&(((Vblcas.pairsOf (Vblcas.nats row)).all fun p=>p.1 != p.2)&&Vblcas.unlike (Vblcas.pairsOf (Vblcas.nats row)))))):=by
   show((decide (1<=z)&&decide (z<=16))&&((row.length % 2==0)&&((decide (row.length<=240)&&row.all fun v=>Vblcas.within v 0 ((z.toNat:Int) - 1))&&_)))=_;rw[ZC]
  have refuse: ∀(D:Ends) (v4:Option V) H1,D.rt=Q->Same H H1->Vblcas.inRange st (.graph z row)=false->tRet (tLst (tCons (tC (.int (-1))) tNil)) D [some (.ref a),some (.ref b),some (.ref c),some (.int z),v4] H1:=fun D v4 H1 eD s1 q=>by
   have out:Vblcas.step st [[0,z],row]=(st,[-1]):=by
    show(if Vblcas.inRange st (.graph z row)=false then(st,[-1]) else Vblcas.act st (.graph z row))=_;rw[if_pos q]
   refine⟨(by show 1<=sizeLine;decide),fun l hl=> ?_⟩;have g:Same H _:=s1.trans (Same.upd (.lst [.int (-1)]) hl);rw[eD];exact k _ l (Same.kept g a) (by rw[out];exact hw.same g) (s1.free hl) (by rw[out];exact zB)
  refine⟨_,rfl,b,_,_,_,rfl,rfl,hb,Zf (j:=0) rfl,?_⟩;refine⟨_,rfl,1,z,rfl,rfl,_,rfl,?_⟩;refine ite2 (fun hA=> ?_) (fun hA=> ?_)
  rotate_left
  ·have:decide (1<=z)=false:=by
    cases q:decide (1<=z) with
    |false=>rfl
    |true=>exact absurd q hA
   exact⟨_,rfl,iteT (iteT (refuse _ _ H rfl (Same.refl H) (by rw[inr,this,Bool.false_and,Bool.false_and])))⟩
  refine⟨_,_,rfl,rfl,_,rfl,?_⟩;refine ite2 (fun hB=> ?_) (fun hB=> ?_)
  ·refine iteT (refuse _ _ H rfl (Same.refl H) ?_);have:decide (z<=16)=false:=by
    cases q:decide (z<=16) with
    |false=>rfl
    |true=>rw[q] at hB;cases hB
   rw[inr,this,Bool.and_false,Bool.false_and]
  have hB:decide (z<=16)=true:=by
   cases q:decide (z<=16) with
   |false=>rw[q] at hB;exact absurd rfl hB
   |true=>rfl
  have z1:=of_decide_eq_true hA;have z2:=of_decide_eq_true hB;obtain⟨n,rfl⟩: ∃n:Nat,z=(n:Int):=⟨z.toNat,by omega⟩;rw[hA,hB,Int.toNat_natCast,Bool.true_and,Bool.true_and] at inr;refine⟨_,rfl,c,_,rfl,.inl hc,_,_,rfl,rfl,(by show(0:Int)<2;decide),rfl,_,rfl,?_⟩;rw[List.length_map,zy];refine ite2 (fun hE=> ?_) (fun hE=> ?_)
  ·refine iteT (refuse _ _ H rfl (Same.refl H) ?_);have: ¬((row.length:Nat):Int) % 2=0:=fun q=>by rw[decide_eq_true q] at hE;cases hE
   have e:(row.length % 2==0)=false:=by
    cases q:(row.length % 2==0) with
    |false=>rfl
    |true=>have:=beq_iff_eq.mp q;omega
   rw[inr,e,Bool.false_and]
  have hE:row.length % 2=0:=by
   have:((row.length:Nat):Int) % 2=0:=Classical.byContradiction fun q=>hE (by rw[decide_eq_false q];rfl);omega
  rw[beq_iff_eq.mpr hE,Bool.true_and] at inr;refine⟨_,rfl,_,rfl,c,_,row,rfl,hc,by omega,fun H1 s1=> ?_⟩;refine⟨_,rfl,ite2 (fun hq=> ?_) (fun hq=> ?_)⟩
  ·refine refuse _ _ H1 rfl s1 ?_;have:belowI n row=false:=by
    cases q:belowI (n:Nat) row with
    |false=>rfl
    |true=>rw[q] at hq;cases hq
   rw[inr,this,Bool.and_false,Bool.false_and]
  have hbl:belowI n row=true:=by
   cases q:belowI (n:Nat) row with
   |false=>rw[q] at hq;exact absurd rfl hq
   |true=>rfl
  have hz:=ZG.mp hbl;rw[hbl,Bool.and_true] at inr;generalize hps:Vblcas.pairsOf (Vblcas.nats row)=ps at inr;have pe:pairsI row=ps.map eI:=by rw[<-hps];exact pairs_eq row fun z hzz=>(hz z hzz).1
  have nlt: ∀v,v∈Vblcas.nats row->v<n:=fun v hv=>by
   unfold Vblcas.nats at hv;obtain⟨z,h,rfl⟩:=List.mem_map.mp hv;have:=hz z h;omega
  have pin: ∀p,p∈ps->p.1<=p.2/\p.2<n:=fun p hp=>yd _ nlt (by rw[hps];exact hp);have plen:2 * ps.length=row.length:=by
   have e:(Vblcas.nats row).length=row.length:=by unfold Vblcas.nats;rw[List.length_map]
   have:=jP (Vblcas.nats row) (by rw[e];exact hE);rw[hps,e] at this;exact this
  refine⟨_,rfl,c,row,ps.length,rfl,s1.seq hc,by omega,by omega,fun H2 e he s2 het=> ?_⟩;rw[pe] at het;have s12:=s1.trans s2;refine⟨_,rfl,e,ps.map eI,rfl,het,by rw[List.length_map];omega,fun H3 s3=> ?_⟩;have s13:=s12.trans s3;rw[proper_eq];refine⟨_,rfl,ite2 (fun hq2=> ?_) (fun hq2=> ?_)⟩
  ·refine refuse _ _ H3 rfl s13 ?_;have:((ps.all fun p=>p.1 != p.2)&&Vblcas.unlike ps)=false:=by
    cases q:((ps.all fun p=>p.1 != p.2)&&Vblcas.unlike ps) with
    |false=>rfl
    |true=>rw[q] at hq2;cases hq2
   rw[inr,this,Bool.and_false]
  ·have hpr:((ps.all fun p=>p.1 != p.2)&&Vblcas.unlike ps)=true:=by
    cases q:((ps.all fun p=>p.1 != p.2)&&Vblcas.unlike ps) with
    |false=>rw[q] at hq2;exact absurd rfl hq2
    |true=>rfl
   obtain⟨pr1,pr2⟩:=Bool.and_eq_true_iff.mp hpr;rw[Zo] at pr2;have nd:=of_decide_eq_true pr2;have plt: ∀p,p∈ps->p.1<p.2/\p.2<n:=fun p hp=>by
    have a1:=pin p hp;have a2:p.1≠p.2:=by simpa using List.all_eq_true.mp pr1 p hp
    omega
   have few:=few_pairs nd fun p hp=>by have:=plt p hp;omega
   have hin:Vblcas.inRange st (.graph n row)=true:=by rw[inr,hpr,decide_eq_true (by omega:row.length<=240)];rfl
   have act:Vblcas.step st [[0,(n:Int)],row]=({graph:={n:=n,edges:=ps.foldl (fun m p=>Vblcas.putPair p m) []},kind:=st.kind,config:=Vblcas.zeros n,counts:=Vblcas.zeros n,time:=0},[0]):=by
    show(if Vblcas.inRange st (.graph n row)=false then(st,[-1]) else Vblcas.act st (.graph n row))=_;rw[hin];show Vblcas.act st (.graph n row)=_;rw[<-hps];rfl
   obtain⟨q1,q2⟩:=putAll ps nd;have ein:EdgesIn n (ps.map eI):=fun e he=>by
    obtain⟨d,hd,rfl⟩:=List.mem_map.mp he;have:=plt d hd;show(0<=((d.1:Nat):Int)/\((d.1:Nat):Int)<_)/\(0<=((d.2:Nat):Int)/\((d.2:Nat):Int)<_)/\((d.1:Nat):Int)≠((d.2:Nat):Int);omega
   refine⟨_,rfl,a,dx,_,rfl,s13 _ _ h1,(zm _ _ _ _ _ _ _).nom _ (by decide +kernel),_,rfl,_,rfl,a,dx,e,_,n,ps.map eI,rfl,s13 _ _ h1,⟨by show 7<=700;decide,(zm _ _ _ _ _ _ _).nom⟩,by omega,het.same s3,by rw[List.length_map];omega,ein,fun H4 c4 x4 ed4 nb4 es4 k4 r1 r2 r3 r4 r5 r6 r7=> ?_⟩;rw[jU] at r1;have hw4:=YC (k:=st.kind) (ds:=ps.foldl (fun m p=>Vblcas.putPair p m) []) r1 r2 r3 r4 r5 (by rw[List.length_map];omega) r6 r7 (q1.map eI) q2 ⟨fun d hd=>plt d (q1.mem_iff.mp hd)⟩;refine⟨(by show 1<=sizeLine;decide),fun l hl=> ?_⟩;have g:Same H4 _:=Same.upd (.lst [.int 0]) hl;exact k _ l (fun b o n e=>g _ _ (k4 b o n (s13 _ _ e))) (by rw[act];exact hw4.same g) (Yo (fun b o n e=>k4 b o n (s13 _ _ e)) r1 hl) (by rw[act];exact zB)
end
end GW
namespace GW
open Vblcas
theorem names_of_range{s:State}{row:List Int}(h:inRange s (.rename row)=true):NamesOk s.graph.n (nats row):=by
 have inr:inRange s (.rename row)=((row.length==s.graph.n)&&((decide (row.length<=16)&&belowI s.graph.n row)&&(List.range s.graph.n).all fun v=>(nats row).contains v)):=by
  show((row.length==s.graph.n)&&((decide (row.length<=16)&&row.all fun v=>within v 0 ((s.graph.n:Int) - 1))&&_))=_;rw[ZC]
 rw[inr,Bool.and_eq_true,Bool.and_eq_true,beq_iff_eq] at h;exact⟨Zz (List.range s.graph.n) (nats row) List.nodup_range (fun z hz=>List.contains_iff_mem.mp (List.all_eq_true.mp h.2.2 z hz)) (by unfold nats;rw[List.length_map,List.length_range];omega)⟩
theorem StOk.graph{s:State}(ok:StOk s){z:Int}{row:List Int}(h:inRange s (.graph z row)=true):StOk (act s (.graph z row)).1:=by
 have inr:inRange s (.graph z row)=((decide (1<=z)&&decide (z<=16))&&((row.length % 2==0)&&((decide (row.length<=240)&&belowI z.toNat row)&&(((pairsOf (nats row)).all fun p=>p.1 != p.2)&&unlike (pairsOf (nats row)))))):=by
  show((decide (1<=z)&&decide (z<=16))&&((row.length % 2==0)&&((decide (row.length<=240)&&row.all fun v=>within v 0 ((z.toNat:Int) - 1))&&_)))=_;rw[ZC]
 rw[inr,Bool.and_eq_true,Bool.and_eq_true,Bool.and_eq_true,Bool.and_eq_true,Bool.and_eq_true,Bool.and_eq_true,decide_eq_true_eq,decide_eq_true_eq,Zo,decide_eq_true_eq] at h;obtain⟨⟨z1,z2⟩,_,⟨_,hb⟩,pr1,nd⟩:=h;have hz:=ZG.mp hb;have nlt: ∀v,v∈nats row->v<z.toNat:=fun v hv=>by
  unfold nats at hv;obtain⟨y,h,rfl⟩:=List.mem_map.mp hv;have:=hz y h;omega
 have plt: ∀p,p∈pairsOf (nats row)->p.1<p.2/\p.2<z.toNat:=fun p hp=>by
  have a1:=yd _ nlt hp;have a2:p.1≠p.2:=by simpa using List.all_eq_true.mp pr1 p hp
  omega
 obtain⟨q1,q2⟩:=putAll _ (of_decide_eq_true nd);refine⟨by show 1<=z.toNat;omega,by show z.toNat<=16;omega,⟨fun d hd=>plt d (q1.mem_iff.mp hd)⟩,q2,ok.k,by show(zeros z.toNat).length=_;unfold zeros;rw[List.length_replicate];rfl,fun y hy=> ?_,by show(zeros z.toNat).length=_;unfold zeros;rw[List.length_replicate];rfl⟩;have:y=0:=by
  have hy:y∈zeros z.toNat:=hy;unfold zeros at hy;exact(List.mem_replicate.mp hy).2
 rw[this];decide
theorem StOk.act{s:State}(ok:StOk s){d:Call}(h:inRange s d=true):StOk (act s d).1:=by
 cases d with
 |graph n l=>exact ok.graph h
 |told=>exact ok
 |kind f=>
  have h:(decide (0<=f)&&decide (f<=1))=true:=h;rw[Bool.and_eq_true,decide_eq_true_eq,decide_eq_true_eq] at h;exact⟨ok.n1,ok.n16,ok.e,ok.srt,by show f.toNat<=1;omega,ok.xl,ok.x3,by show(zeros s.graph.n).length=_;unfold zeros;rw[List.length_replicate];rfl⟩
 |set l=>
  have h:((l.length==s.graph.n)&&(decide (l.length<=16)&&l.all fun v=>within v 0 (((3:Nat):Int) - 1)))=true:=h;rw[ZC,Bool.and_eq_true,Bool.and_eq_true,beq_iff_eq] at h;have hz:=ZG.mp h.2.2;refine⟨ok.n1,ok.n16,ok.e,ok.srt,ok.k,by show(nats l).length=s.graph.n;unfold nats;rw[List.length_map];exact h.1,fun y hy=> ?_,by show(zeros s.graph.n).length=_;unfold zeros;rw[List.length_replicate];rfl⟩;have hy:y∈nats l:=hy;unfold nats at hy;obtain⟨z,hz2,rfl⟩:=List.mem_map.mp hy;have:=hz z hz2;omega
 |config=>exact ok
 |run t=>
  have nl:=zf s.graph;have p:POk s.graph.near (run s.graph.near s.kind t.toNat s.config s.counts):=by
   rw[JG];exact POk.iter _ ⟨by rw[nl];exact ok.xl,by rw[nl];exact ok.cl,ok.x3⟩
  exact⟨ok.n1,ok.n16,ok.e,ok.srt,ok.k,p.xl.trans nl,p.x3,p.cl.trans nl⟩
 |counts=>exact ok
 |time=>exact ok
 |lean a b=>
  show StOk (if s.graph.adjacent a.toNat b.toNat=false then(s,[-5]) else(s,[0,_])).1;split<;>exact ok
 |walk l=>
  show StOk (if isWalk s.graph (nats l)=false then(s,[-5]) else(s,[0,_])).1;split<;>exact ok
 |heights=>
  show StOk (match wound s.graph s.config with|some y=>(s,[0,(y.1.1:Int),(y.1.2:Int),y.2])|none=>(s,1::heights (forest s.graph.near) s.config)).1;split<;>exact ok
 |windings=>exact ok
 |ring a b=>
  show StOk (if(chords s.graph (forest s.graph.near)).contains (min a.toNat b.toNat,max a.toNat b.toNat)=false then(s,[-5]) else(s,counted _)).1;split<;>exact ok
 |lives=>exact ok
 |end_=>
  show StOk (if lives s.graph s.config=true then(s,[-6]) else match stillAt s.graph.near s.kind MOST 0 s.config with|none=>(s,[-6])|some t=>(s,(t:Int)::goesTillEnd (forest s.graph.near) s.kind s.config)).1;split
  ·exact ok
  ·split<;>exact ok
 |best v t=>exact ok
 |speed v=>exact ok
 |course n=>exact ok
 |ball v k=>exact ok
 |parts=>exact ok
 |turn c=>
  show StOk (if s.kind=1 then(s,[-7]) else({s with config:=s.config.map fun a=>(a+c.toNat) % 3},[0])).1;split
  ·exact ok
  ·refine⟨ok.n1,ok.n16,ok.e,ok.srt,ok.k,by show(s.config.map _).length=_;rw[List.length_map];exact ok.xl,fun y hy=> ?_,ok.cl⟩;obtain⟨z,_,rfl⟩:=List.mem_map.mp (show y∈s.config.map fun a=>(a+c.toNat) % 3 from hy);omega
 |rename l=>
  have hN:=names_of_range h;obtain⟨e1,e2,e3⟩:=hN.edges ok.e ok.srt;refine⟨ok.n1,ok.n16,e3,e2,ok.k,by show((List.range s.graph.n).map _).length=_;rw[List.length_map,List.length_range];rfl,fun y hy=> ?_,by show((List.range s.graph.n).map _).length=_;rw[List.length_map,List.length_range];rfl⟩;obtain⟨u,_,rfl⟩:=List.mem_map.mp (show y∈(List.range s.graph.n).map fun u=>at_ s.config (oldN (nats l) u) from hy);exact ok.x3.at _
theorem StOk.step{s:State}(ok:StOk s)(c:List (List Int)):StOk (step s c).1:=by
 unfold Vblcas.step;cases decode c with
 |none=>exact ok
 |some d=>
  show StOk (if inRange s d=false then(s,[-1]) else Vblcas.act s d).1;cases q:inRange s d with
  |false=>exact ok
  |true=>exact ok.act q
theorem StOk.start:StOk start:=by
 refine⟨by decide,by decide,⟨fun e he=> ?_⟩,?_,by decide,rfl,fun y hy=> ?_,rfl⟩
 ·have he:e∈[((0:Nat),(1:Nat)),(0,2),(1,2)]:=he;simp at he;rcases he with rfl|rfl|rfl<;>decide
 ·show List.Pairwise lexLt2 [((0:Nat),(1:Nat)),(0,2),(1,2)];simp[lexLt2]
 ·have hy:y∈[0,0,0]:=hy;simp at hy;rw[hy];decide
end GW
namespace GW
open PySem PySem.Spec PyProof.Rows L2
theorem whole_other{p:Int}(ps:List Int)(t:List (List Int))(h: ∀k:Nat,k<22->¬p=(k:Int)):PyVblcas.whole ((p::ps)::t)=(p::ps)::t:=by
 unfold PyVblcas.whole PyVblcas.whole.match_1;refine(dif_neg (h 0 (by decide))).trans ?_;refine(dif_neg (h 1 (by decide))).trans ?_;refine(dif_neg (h 2 (by decide))).trans ?_;refine(dif_neg (h 3 (by decide))).trans ?_;refine(dif_neg (h 4 (by decide))).trans ?_;refine(dif_neg (h 5 (by decide))).trans ?_;refine(dif_neg (h 6 (by decide))).trans ?_;refine(dif_neg (h 7 (by decide))).trans ?_;refine(dif_neg (h 8 (by decide))).trans ?_;refine(dif_neg (h 9 (by decide))).trans ?_;refine(dif_neg (h 10 (by decide))).trans ?_;refine(dif_neg (h 11 (by decide))).trans ?_;refine(dif_neg (h 12 (by decide))).trans ?_;refine(dif_neg (h 13 (by decide))).trans ?_;refine(dif_neg (h 14 (by decide))).trans ?_;refine(dif_neg (h 15 (by decide))).trans ?_;refine(dif_neg (h 16 (by decide))).trans ?_;refine(dif_neg (h 17 (by decide))).trans ?_;refine(dif_neg (h 18 (by decide))).trans ?_;refine(dif_neg (h 19 (by decide))).trans ?_;refine(dif_neg (h 20 (by decide))).trans ?_;refine(dif_neg (h 21 (by decide))).trans ?_;rfl
theorem whole_id(c:List (List Int)):PyVblcas.whole c=c:=by
 match c with
 |[]=>rfl
 |[]::_=>rfl
 |(p::ps)::t=>
  by_cases h: ∃k:Nat,k<22/\p=(k:Int)
  ·obtain⟨k,hk,rfl⟩:=h
   match k,hk with
   |0,_=>rcases ps with _|⟨x,_|⟨y,_|⟨z,ps⟩⟩⟩<;>rcases t with _|⟨r,_|⟨r2,t⟩⟩<;>rfl
   |1,_=>rcases ps with _|⟨x,_|⟨y,_|⟨z,ps⟩⟩⟩<;>rcases t with _|⟨r,_|⟨r2,t⟩⟩<;>rfl
   |2,_=>rcases ps with _|⟨x,_|⟨y,_|⟨z,ps⟩⟩⟩<;>rcases t with _|⟨r,_|⟨r2,t⟩⟩<;>rfl
   |3,_=>rcases ps with _|⟨x,_|⟨y,_|⟨z,ps⟩⟩⟩<;>rcases t with _|⟨r,_|⟨r2,t⟩⟩<;>rfl
   |4,_=>rcases ps with _|⟨x,_|⟨y,_|⟨z,ps⟩⟩⟩<;>rcases t with _|⟨r,_|⟨r2,t⟩⟩<;>rfl
   |5,_=>rcases ps with _|⟨x,_|⟨y,_|⟨z,ps⟩⟩⟩<;>rcases t with _|⟨r,_|⟨r2,t⟩⟩<;>rfl
   |6,_=>rcases ps with _|⟨x,_|⟨y,_|⟨z,ps⟩⟩⟩<;>rcases t with _|⟨r,_|⟨r2,t⟩⟩<;>rfl
   |7,_=>rcases ps with _|⟨x,_|⟨y,_|⟨z,ps⟩⟩⟩<;>rcases t with _|⟨r,_|⟨r2,t⟩⟩<;>rfl
   |8,_=>rcases ps with _|⟨x,_|⟨y,_|⟨z,ps⟩⟩⟩<;>rcases t with _|⟨r,_|⟨r2,t⟩⟩<;>rfl
   |9,_=>rcases ps with _|⟨x,_|⟨y,_|⟨z,ps⟩⟩⟩<;>rcases t with _|⟨r,_|⟨r2,t⟩⟩<;>rfl
   |10,_=>rcases ps with _|⟨x,_|⟨y,_|⟨z,ps⟩⟩⟩<;>rcases t with _|⟨r,_|⟨r2,t⟩⟩<;>rfl
   |11,_=>rcases ps with _|⟨x,_|⟨y,_|⟨z,ps⟩⟩⟩<;>rcases t with _|⟨r,_|⟨r2,t⟩⟩<;>rfl
   |12,_=>rcases ps with _|⟨x,_|⟨y,_|⟨z,ps⟩⟩⟩<;>rcases t with _|⟨r,_|⟨r2,t⟩⟩<;>rfl
   |13,_=>rcases ps with _|⟨x,_|⟨y,_|⟨z,ps⟩⟩⟩<;>rcases t with _|⟨r,_|⟨r2,t⟩⟩<;>rfl
   |14,_=>rcases ps with _|⟨x,_|⟨y,_|⟨z,ps⟩⟩⟩<;>rcases t with _|⟨r,_|⟨r2,t⟩⟩<;>rfl
   |15,_=>rcases ps with _|⟨x,_|⟨y,_|⟨z,ps⟩⟩⟩<;>rcases t with _|⟨r,_|⟨r2,t⟩⟩<;>rfl
   |16,_=>rcases ps with _|⟨x,_|⟨y,_|⟨z,ps⟩⟩⟩<;>rcases t with _|⟨r,_|⟨r2,t⟩⟩<;>rfl
   |17,_=>rcases ps with _|⟨x,_|⟨y,_|⟨z,ps⟩⟩⟩<;>rcases t with _|⟨r,_|⟨r2,t⟩⟩<;>rfl
   |18,_=>rcases ps with _|⟨x,_|⟨y,_|⟨z,ps⟩⟩⟩<;>rcases t with _|⟨r,_|⟨r2,t⟩⟩<;>rfl
   |19,_=>rcases ps with _|⟨x,_|⟨y,_|⟨z,ps⟩⟩⟩<;>rcases t with _|⟨r,_|⟨r2,t⟩⟩<;>rfl
   |20,_=>rcases ps with _|⟨x,_|⟨y,_|⟨z,ps⟩⟩⟩<;>rcases t with _|⟨r,_|⟨r2,t⟩⟩<;>rfl
   |21,_=>rcases ps with _|⟨x,_|⟨y,_|⟨z,ps⟩⟩⟩<;>rcases t with _|⟨r,_|⟨r2,t⟩⟩<;>rfl
   |k+22,hk=>omega
  ·exact whole_other ps t fun k hk e=>h ⟨k,hk,e⟩
theorem whole_map(cs:List (List (List Int))):cs.map PyVblcas.whole=cs:=by
 have:PyVblcas.whole=id:=funext whole_id;rw[this,List.map_id]
theorem jg(a b:List (List (List Int))):PyFlat.put (a++b)=PyFlat.put a++PyFlat.put b:=by
 induction a with
 |nil=>rfl
 |cons c a ih=>
  show PyFlat.put1 c++PyFlat.put (a++b)=(PyFlat.put1 c++PyFlat.put a)++PyFlat.put b;rw[ih,List.append_assoc]
theorem Js(a:List Int)(l:List (List Int)):PyFlat.told (a::l)=((a.length:Int)::a)++PyFlat.told l:=by
 unfold PyFlat.told;rw[List.flatMap_cons]
structure CallIs(c:List (List Int))(p:Int)(a:List Int)(xs:List (List Int)):Prop where
 eq:c=(p::a)::xs
 sh:PyVblcas.shape p=some (a.length,xs.length)
def withRow(p:Int):Bool:=decide (p=0)||(decide (p=3)||(decide (p=9)||decide (p=21)))
theorem yV{p:Int}{k r:Nat}(h:PyVblcas.shape p=some (k,r)):0<=p/\p<=21:=by
 refine Classical.byContradiction fun n=> ?_;have e:PyVblcas.shape p=none:=by
  unfold PyVblcas.shape
  repeat rw[if_neg (by omega)]
 rw[e] at h;cases h
theorem Jv{p:Int}{k r:Nat}(h:PyVblcas.shape p=some (k,r)):(r=0/\withRow p=false)∨(r=1/\withRow p=true):=by
 obtain⟨h0,h1⟩:=yV h;obtain⟨n,rfl⟩: ∃n:Nat,p=(n:Int):=⟨p.toNat,by omega⟩;have hn:n<=21:=by omega
 clear h0 h1
 match n,hn,h with
 |0,_,h=>cases h;exact .inr ⟨rfl,rfl⟩
 |1,_,h=>cases h;exact .inl ⟨rfl,rfl⟩
 |2,_,h=>cases h;exact .inl ⟨rfl,rfl⟩
 |3,_,h=>cases h;exact .inr ⟨rfl,rfl⟩
 |4,_,h=>cases h;exact .inl ⟨rfl,rfl⟩
 |5,_,h=>cases h;exact .inl ⟨rfl,rfl⟩
 |6,_,h=>cases h;exact .inl ⟨rfl,rfl⟩
 |7,_,h=>cases h;exact .inl ⟨rfl,rfl⟩
 |8,_,h=>cases h;exact .inl ⟨rfl,rfl⟩
 |9,_,h=>cases h;exact .inr ⟨rfl,rfl⟩
 |10,_,h=>cases h;exact .inl ⟨rfl,rfl⟩
 |11,_,h=>cases h;exact .inl ⟨rfl,rfl⟩
 |12,_,h=>cases h;exact .inl ⟨rfl,rfl⟩
 |13,_,h=>cases h;exact .inl ⟨rfl,rfl⟩
 |14,_,h=>cases h;exact .inl ⟨rfl,rfl⟩
 |15,_,h=>cases h;exact .inl ⟨rfl,rfl⟩
 |16,_,h=>cases h;exact .inl ⟨rfl,rfl⟩
 |17,_,h=>cases h;exact .inl ⟨rfl,rfl⟩
 |18,_,h=>cases h;exact .inl ⟨rfl,rfl⟩
 |19,_,h=>cases h;exact .inl ⟨rfl,rfl⟩
 |20,_,h=>cases h;exact .inl ⟨rfl,rfl⟩
 |21,_,h=>cases h;exact .inr ⟨rfl,rfl⟩
 |n+22,hn,_=>omega
theorem row_short{p:Int}{a x:List Int}{k:Nat}(hs:PyVblcas.shape p=some (k,1))(h:PyInside.call PyVblcas.bound ((p::a)::[x])=true):x.length<=300:=by
 have hw:withRow p=true:=by
  rcases Jv hs with⟨e,_⟩|⟨_,e⟩
  ·cases e
  ·exact e
 have h:(PyInside.each (PyVblcas.bound p).1 a&&PyInside.lists (PyVblcas.bound p).2 [x])=true:=h;have h:=(Bool.and_eq_true_iff.mp h).2;have key:PyInside.lists [((-9223372036854775808:Int),(9223372036854775807:Int),0,300)] [x]=true->x.length<=300:=fun h=>by
  have h:((decide (0<=x.length)&&decide (x.length<=300)&&x.all _)&&_)=true:=h;rw[Bool.and_eq_true,Bool.and_eq_true,Bool.and_eq_true,decide_eq_true_eq,decide_eq_true_eq] at h;exact h.1.1.2
 unfold withRow at hw;rw[Bool.or_eq_true,Bool.or_eq_true,Bool.or_eq_true,decide_eq_true_eq,decide_eq_true_eq,decide_eq_true_eq,decide_eq_true_eq] at hw;rcases hw with rfl|rfl|rfl|rfl<;>exact key h
structure Asked(ns:List Int)(cs:List (List (List Int))):Prop where
 put:ns=PyFlat.put cs
 ok: ∀c,c∈cs->PyFlat.okCall PyVblcas.shape c
 ins: ∀c,c∈cs->PyInside.call PyVblcas.bound c=true
 ans:PyVblcas.answers ns=PyFlat.told (PyFlat.played Vblcas.step Vblcas.start cs)
 short:(PyVblcas.answers ns).length<=10000000
theorem asked_of{ns:List Int}(h:PyVblcas.answers_asked ns=true): ∃cs,Asked ns cs:=by
 unfold PyVblcas.answers_asked at h;cases e:PyFlat.calls PyVblcas.shape ns.length ns with
 |none=>rw[e] at h;cases h
 |some cs=>
  rw[e] at h;have h:(!cs.isEmpty&&PyFlat.atMost 400 cs&&PyInside.calls PyVblcas.bound cs&&VblcasNeutral.asked (cs.map PyVblcas.whole)&&PyFlat.short 10000000 (PyVblcas.answers ns))=true:=h;rw[Bool.and_eq_true,Bool.and_eq_true,Bool.and_eq_true] at h;obtain⟨⟨⟨_,h3⟩,_⟩,h5⟩:=h;obtain⟨q1,q2⟩:=PyFlat.put_calls _ _ _ e;refine⟨cs,q1,q2,fun c hc=> ?_,?_,?_⟩
  ·unfold PyInside.calls at h3;exact List.all_eq_true.mp h3 c hc
  ·unfold PyVblcas.answers PyVblcas.calls;rw[e];show PyFlat.told (PyFlat.played VblcasNeutral.step VblcasNeutral.start (cs.map PyVblcas.whole))=_;rw[whole_map];rfl
  ·unfold PyFlat.short at h5;exact of_decide_eq_true h5
theorem ok_call{c:List (List Int)}(h:PyFlat.okCall PyVblcas.shape c): ∃p a xs,CallIs c p a xs:=by
 obtain⟨p,a,xs,e,hs⟩:=h;exact⟨p,a,xs,e,hs⟩
theorem cut_mid(l m r:List Int):cutV ((l++m++r).map V.int) (some ((l.length:Nat):Int)) (some ((l.length+m.length:Nat):Int))=m.map V.int:=by
 rw[cutFromTo _ _ _ (by rw[List.length_map,List.length_append,List.length_append];omega) (by rw[List.length_map,List.length_append,List.length_append];omega),<-List.map_drop,<-List.map_take]
 congr 1
 rw[List.append_assoc,List.drop_left,Nat.add_sub_cancel_left,List.take_left]
theorem at_mid(l r:List Int)(z:Int):atI ((l++z::r).map V.int) ((l.length:Nat):Int)=some (.int z):=by
 refine Zf (j:=l.length) ?_;rw[List.getElem?_map,List.getElem?_append_right (Nat.le_refl _),Nat.sub_self];rfl
abbrev sACall:Stmt:=top 76
abbrev sAnswers:Stmt:=top 83
abbrev aps:List Str:=["wave","numbers","row"]
def callOf(p:Int)(ns row:List Int)(r:Nat):List (List Int):=(p::ns)::(if r=0 then[] else[row])
structure ACallee(P:Program)(w:World)(K:PySem.W.Frag)(mg:Str->Option Value)(base:Heap)(C:Addr)(kvs:List (Int×Value))(p:Int)(k r:Nat):Prop where
 ex: ∃(f:Addr) (fd:FuncData) (m:Nat) (call:List Int->List Int->List (List Int)),valueAt kvs p=some (.ref f)/\m<=9/\FnOk P w K mg base CX0 m f fd aps (spAnswer K C k call)/\PySem.W.keepIn K (.ref f)=true/\Binds K fd aps []/\∀ns row,ns.length=k->call ns row=callOf p ns row r
def spCall(K:PySem.W.Frag)(C:Addr):Sp:=fun vs H Q _=>∃(a b c:Addr) (p:Int) (s:Vblcas.State) (ns row:List Int) (r:Nat),vs=[.ref a,.int p,.ref b,.ref c]/\WaveAt C H a s/\StOk s/\SqL K H b (ns.map V.int)/\SqL K H c (row.map V.int)/\row.length<=300/\PyVblcas.shape p=some (ns.length,r)/\
 ∀(H':Hp) (q:Addr),Kept a H H'->WaveAt C H' a (Vblcas.step s (callOf p ns row r)).1->H q=none->H' q=some (.lst ((Vblcas.step s (callOf p ns row r)).2.map V.int))->Q (.ref q) H'
section
variable {P:Program}{w:World}{K:PySem.W.Frag}{mg:Str->Option Value}{base:Heap}
theorem scACall:FnScope ["wave","number","numbers","row"] ["wave","number","numbers","row"] (defScope sACall):=⟨rfl,rfl,rfl,by decide +kernel,rfl,by decide +kernel,by decide +kernel⟩
theorem ok_aCall{f C d:Addr}{fd:FuncData}{kvs:List (Int×Value)}(F:Fun K "answer_call" "answer_call" sACall f fd)(D:DictK K d kvs)(hd:mg "ANSWERS"=some (.ref d))(CA: ∀p k r,PyVblcas.shape p=some (k,r)->ACallee P w K mg base C kvs p k r):FnOk P w K mg base CX0 10 f fd ["wave","number","numbers","row"] (spCall K C):=by
 refine F.ok scACall (fun vs H Q E h=> ?_) (fun cdv A outer s H vs Q E hr h=> ?_)
 ·obtain⟨a,b,c,p,st,ns,row,r,rfl,_⟩:=h;rfl
 ·obtain⟨a,b,c,p,st,ns,row,r,rfl,hw,ok,hb,hc,hr3,hsh,k⟩:=h;refine⟨_,zG (zM (pe_callV rfl (pe_kget D rfl hd (pv 1)) (zA (pv 0) (zA (pv 2) (zA (pv 3) zE))) ?_)),?_⟩
  ·rintro σ H0 Q0 Q1 hQ ⟨v1,e1,v2,e2,v3,e3,q⟩;exact⟨v1,e1,v2,e2,v3,e3,hQ _ _ q⟩
  obtain⟨f',fd',m,call,hv,hm,hF,hk,hbd,hcall⟩:=(CA p _ r hsh).ex;refine⟨_,rfl,p,.ref f',.ref f',rfl,hv,rfl,m,f',fd',aps,_,rfl,hF,hr.mono hm,hk,hbd,_,rfl,_,rfl,_,rfl,a,b,c,st,ns,row,rfl,hw,ok,hb,rfl,hc,hr3,fun H' q kp hw' hq hq'=> ?_⟩;rw[hcall ns row rfl] at hw' hq';exact k H' q kp hw' hq hq'
def rLenS(K:PySem.W.Frag):List V->Hp->VK->Prop:=fun xs H Q=>∃p ys,xs=[V.ref p]/\(SqL K H p ys∨SqT K H p ys)/\Q (V.int ((ys.length:Nat):Int)) H
def hide(H:Hp)(q:Addr):Hp:=fun b=>if b=q then none else H b
theorem hide_ne{H:Hp}{q b:Addr}(h:b≠q):hide H q b=H b:=by unfold hide;rw[if_neg h]
theorem hide_at{H:Hp}{q:Addr}:hide H q q=none:=by unfold hide;rw[if_pos rfl]
theorem vN{H:Hp}{q b:Addr}{o:HO}(h:hide H q b=some o):b≠q/\H b=some o:=by
 by_cases e:b=q
 ·rw[e,hide_at] at h;cases h
 ·rw[hide_ne e] at h;exact⟨e,h⟩
theorem hide_upd{H:Hp}{q:Addr}(o:HO):Same (hide H q) (upd H q o):=fun b u e=>by
 obtain⟨n,h⟩:=vN e;rw[zH n];exact h
theorem jD{H H':Hp}{q:Addr}(s: ∀b o,b≠q->H b=some o->H' b=some o):Same (hide H q) (hide H' q):=fun b u e=>by
 obtain⟨n,h⟩:=vN e;rw[hide_ne n];exact s b u n h
theorem WaveAt.hide{C:Addr}{H:Hp}{q x:Addr}{od:Obj}{u:HO}{s:Vblcas.State}(hq:H q=some (.frz od u))(h:WaveAt C H x s):WaveAt C (GW.hide H q) x s:=by
 obtain⟨dx,ed,nb,xx,cc,rows,h1,h2,h3,h4,h5,h6,h7⟩:=h;have cp: ∀b o,(∀o' u',o≠ .frz o' u')->H b=some o->GW.hide H q b=some o:=fun b o ne e=>by
  rw[hide_ne (fun z=>by rw[z,hq] at e;exact ne _ _ (Option.some.inj e).symm)];exact e
 refine⟨dx,ed,nb,xx,cc,rows,cp _ _ (fun _ _ z=>by cases z) h1,?_,?_,h4,h5,cp _ _ (fun _ _ z=>by cases z) h6,cp _ _ (fun _ _ z=>by cases z) h7⟩
 ·obtain⟨ps,z1,z2,z3⟩:=h2;exact⟨ps,cp _ _ (fun _ _ z=>by cases z) z1,z2,fun i p r e1 e2=>cp _ _ (fun _ _ z=>by cases z) (z3 i p r e1 e2)⟩
 ·obtain⟨ps,z1,z2,z3⟩:=h3;exact⟨ps,cp _ _ (fun _ _ z=>by cases z) z1,z2,fun i p r e1 e2=>cp _ _ (fun _ _ z=>by cases z) (z3 i p r e1 e2)⟩
theorem top_tail{C:Addr}{D:Ends}{a x q N R:Addr}{pl:Option V}{p beh:Int}{v8 v9:Option V}{H5:Hp}{st:Vblcas.State}{ns row out:List Int}{r:Nat}(hw:WaveAt C (hide H5 q) x st)(ok:StOk st)(hN:SqL K (hide H5 q) N (ns.map V.int))(hR:SqL K (hide H5 q) R (row.map V.int))(hrow:row.length<=300)(hsh:PyVblcas.shape p=some (ns.length,r))(hq:H5 q=some (.lst (out.map V.int)))(qx:q≠x)
  (hsz:(out++(((Vblcas.step st (callOf p ns row r)).2.length:Int)::(Vblcas.step st (callOf p ns row r)).2)).length<=10000000)
  (k: ∀(H6:Hp) (v9':V),(∀b o,b≠x->b≠q->H5 b=some o->H6 b=some o)->WaveAt C (hide H6 q) x (Vblcas.step st (callOf p ns row r)).1->H6 q=some (.lst ((out++(((Vblcas.step st (callOf p ns row r)).2.length:Int)::(Vblcas.step st (callOf p ns row r)).2)).map V.int))->D.nx [some (.ref a),some (.ref x),some (.ref q),some (.int beh),some (.int p),some (.int beh),some (.ref N),some (.ref R),v8,some v9'] H6):
  (tSeq (tAsg (tVar 5) (gName 3)) (tSeq (tLock (tAsg (tCall (spCall K C) [] E0 (tCons (tVar 1) (tCons (tVar 4) (tCons (tVar 6) (tCons (tVar 7) tNil))))) (gName 9))) (tSeq (tDrop (tBM K "list" rAppend (tVar 2) (tCons (tCB (rLenS K) (tCons (tVar 9) tNil)) tNil))) (tDrop (tBM K "list" rExtend (tVar 2) (tCons (tVar 9) tNil)))))) D [some (.ref a),some (.ref x),some (.ref q),pl,some (.int p),some (.int beh),some (.ref N),some (.ref R),v8,v9] H5:=by
 have sz:sizeLine=16777216:=sizeLine_eq;refine⟨_,rfl,?_⟩;refine⟨q,.lst (out.map V.int),hq,True.intro,fun od=> ?_⟩;have sL:=hide_upd (H:=H5) (q:=q) (.frz od (.lst (out.map V.int)));refine⟨_,rfl,_,rfl,_,rfl,_,rfl,x,N,R,p,st,ns,row,r,rfl,hw.same sL,ok,sL.seq hN,sL.seq hR,hrow,hsh,fun H6 ans kp hw6 hans hans6=> ?_⟩;generalize hst:Vblcas.step st (callOf p ns row r)=res at hsz k hw6 hans6;rw[List.length_append,List.length_cons] at hsz;have hqz:H6 q=some (.frz od (.lst (out.map V.int))):=kp _ _ qx zB;refine⟨hqz,?_⟩;have aq:ans≠q:=fun z=>by rw[z,zB] at hans;cases hans
 have hq6:(upd H6 q (.lst (out.map V.int))) q=some (.lst (out.map V.int)):=zB;refine⟨_,rfl,.inl ⟨rfl,_,SqL.of hq6⟩,_,rfl,ans,_,rfl,.inl (SqL.of (by rw[zH aq];exact hans6)),q,_,_,rfl,rfl,hq6,by rw[List.length_map];omega,?_⟩;rw[List.length_map];have hq7:(upd (upd H6 q (.lst (out.map V.int))) q (.lst (out.map V.int++[.int (res.2.length:Nat)]))) q=some (.lst (out.map V.int++[.int (res.2.length:Nat)])):=zB;refine⟨_,rfl,.inl ⟨rfl,_,SqL.of hq7⟩,_,rfl,q,ans,_,_,rfl,rfl,hq7,by rw[zH aq,zH aq];exact hans6,?_,?_⟩
 ·rw[List.length_append,List.length_map,List.length_map];show _+1+_<=_;omega
 ·refine k _ _ (fun b o n1 n2 e=>by rw[zH n2,zH n2,zH n2];exact kp b o n1 (by rw[zH n2];exact e)) ?_ ?_
  ·exact(hw6.hide hqz).same (jD fun b o n e=>by rw[zH n,zH n,zH n];exact e)
  ·rw[zB,List.map_append,List.append_assoc];rfl
def spTop(K:PySem.W.Frag):Sp:=fun vs H Q _=>∃(a:Addr) (ns:List Int),vs=[.ref a]/\SqL K H a (ns.map V.int)/\ns.length<=16000/\PyVblcas.answers_asked ns=true/\∀(H':Hp) (p:Addr),H' p=some (.lst ((PyVblcas.answers ns).map V.int))->Q (.ref p) H'
theorem scAnswers:FnScope ["calls","wave","answered","place","number","behind","numbers","row","begin","answer"] ["calls"] (defScope sAnswers):=⟨rfl,rfl,rfl,by decide +kernel,rfl,by decide +kernel,by decide +kernel⟩
theorem ok_answers{f C dH dW:Addr}{fd:FuncData}{kvs:List (Int×Value)}(F:Fun K "answers" "answers" sAnswers f fd)(B:Bi mg)(W:Maker P w K mg base 4 C (spInit C))(DH:DictK K dH kvs)(hH:mg "HOW_MANY"=some (.ref dH))(hHv: ∀p k r,PyVblcas.shape p=some (k,r)->∃t,valueAt kvs p=some (.int (k:Nat) t))
  (hW:mg "WITH_LIST"=some (.ref dW))(hWt: ∀H,SqT K H dW [.int 0,.int 3,.int 9,.int 21])(CA:Callee P w K mg base 10 "answer_call" ["wave","number","numbers","row"] (spCall K C)):FnOk P w K mg base CX0 11 f fd ["calls"] (spTop K):=by
 refine F.ok scAnswers (fun vs H Q E h=> ?_) (fun cdv A outer s H vs Q E hr h=> ?_)
 ·obtain⟨a,ns,rfl,_⟩:=h;rfl
 ·obtain⟨a,ns,rfl,ha,hlen,hask,k⟩:=h;obtain⟨cs,As⟩:=asked_of hask;refine⟨_,zF (zQ (i:=1) scAnswers.nd rfl (Or.inl rfl) (pe_wave W hr))
   (zF (zQ (i:=2) scAnswers.nd rfl (Or.inl rfl) (zT zE))
   (zF (zQ (i:=3) scAnswers.nd rfl (Or.inl rfl) zK)
   (zF (yX PassesOwn.never (zc op_lt (pv 3) (zX zY rfl B.len PySem.boot_len (zA (pv 0) zE)) (nomark _))
    (zF (zQ (i:=4) scAnswers.nd rfl (Or.inl rfl) (zW K (pv 0) (pv 3)))
    (zF (zQ (i:=5) scAnswers.nd rfl (Or.inl rfl) (zj ZJ (zj ZJ (pv 3) zK) (pe_kget DH rfl hH (pv 4))))
    (zF (zQ (i:=6) scAnswers.nd rfl (Or.inl rfl) (Zc Zi (pv 0) (ZZ (zj ZJ (pv 3) zK)) (ZZ (pv 5))))
    (zF (zQ (i:=7) scAnswers.nd rfl (Or.inl rfl) (zT zE))
    (zF (ZD (zc (inl_ K) (pv 4) (pe_glob (v:=.ref dW) rfl hW rfl) (by rfl))
     (zF (zQ (i:=8) scAnswers.nd rfl (Or.inl rfl) (zj ZJ (pv 5) zK))
     (zF (zQ (i:=5) scAnswers.nd rfl (Or.inl rfl) (zj ZJ (pv 8) (zW K (pv 0) (pv 5))))
     (zG (zQ (i:=7) scAnswers.nd rfl (Or.inl rfl) (Zc Zi (pv 0) (ZZ (pv 8)) (ZZ (pv 5))))))) zZ)
    (zF (zQ (i:=3) scAnswers.nd rfl (Or.inl rfl) (pv 5))
    (zF (ps_lock (zQ (i:=9) scAnswers.nd rfl (Or.inl rfl) (zP CA hr (zA (pv 1) (zA (pv 4) (zA (pv 6) (zA (pv 7) zE)))))))
    (zF (zg (yP PySem.F.plainAttrs_list PySem.F.slot_list_append PySem.F.type_list_append Zh (pv 2) (zA (zX zY rfl B.len PySem.boot_len (zA (pv 9) zE)) zE)))
    (zG (zg (yP PySem.F.plainAttrs_list PySem.F.slot_list_extend PySem.F.type_list_extend Yy (pv 2) (zA (pv 9) zE)))))))))))))
   (zG (zM (pv 2)))))),?_⟩
  have sz:sizeLine=16777216:=sizeLine_eq;intro x dx0 hx hdx0 hne;refine⟨x,dx0,rfl,zB,fun H1 k1 hw1=>⟨rfl,?_⟩⟩;have s1:Same H H1:=vG hx hdx0 k1;refine⟨Nat.zero_le _,fun q hq=> ?_⟩;have s2:Same H1 (upd H1 q (.lst [])):=Same.upd _ hq;have hqH:H q=none:=s1.free hq;have sH:Same H1 (hide (upd H1 q (.lst [])) q):=fun b o e=>by rw[hide_ne (zJ e hq),zH (zJ e hq)];exact e
  have qx:q≠x:=fun z=>by obtain⟨_,_,_,_,_,_,e,_⟩:=hw1;rw[z,e] at hq;cases hq
  refine⟨fun m σ H'=>∃(done rest:List (List (List Int))) (st:Vblcas.State) (out:List Int) (v4 v5 v6 v7 v8 v9:Option V),m=ns.length - (PyFlat.put done).length/\σ=[some (.ref a),some (.ref x),some (.ref q),some (.int ((PyFlat.put done).length:Nat)),v4,v5,v6,v7,v8,v9]/\cs=done++rest/\Same H H'/\WaveAt C (hide H' q) x st/\StOk st/\H' q=some (.lst (out.map V.int))/\PyVblcas.answers ns=out++PyFlat.told (PyFlat.played Vblcas.step st rest),
   ⟨_,[],cs,Vblcas.start,[],none,none,none,none,none,none,rfl,rfl,rfl,s1.trans s2,hw1.same sH,StOk.start,zB,As.ans⟩,?_⟩
  rintro m σ H' ⟨done,rest,st,out,v4,v5,v6,v7,v8,v9,rfl,rfl,hcs,sm,hw,ok,hq',hans⟩;have hns:ns=PyFlat.put done++PyFlat.put rest:=by rw[As.put,hcs,jg]
  refine⟨_,rfl,_,rfl,a,_,rfl,.inl (sm.seq ha),_,_,rfl,rfl,_,rfl,?_⟩;rw[List.length_map];cases rest with
  |nil=>
   have e:ns=PyFlat.put done:=by rw[hns];exact List.append_nil _
   rw[e];refine iteF' (decide_eq_false (by omega)) ?_;refine⟨_,rfl,k H' q ?_⟩;rw[hq',hans];show some (HO.lst (out.map V.int))=some (HO.lst ((out++[]).map V.int));rw[List.append_nil]
  |cons c rest=>
   have hcm:c∈cs:=by rw[hcs];simp
   obtain⟨p,as,xs,ec,hsh⟩:=ok_call (As.ok c hcm);subst ec;have hput:PyFlat.put (((p::as)::xs)::rest)=p::(as++(PyFlat.putRows xs++PyFlat.put rest)):=by
    show((p::as)++PyFlat.putRows xs)++PyFlat.put rest=_;rw[List.append_assoc];rfl
   rw[hput] at hns;have hnl:=congrArg List.length hns;rw[List.length_append,List.length_cons,List.length_append,List.length_append] at hnl;refine iteT' (decide_eq_true (by omega)) ?_;refine⟨fun σ' H''=>∃(st':Vblcas.State) (out':List Int) (v4 v5 v6 v7 v8 v9:Option V),σ'=[some (.ref a),some (.ref x),some (.ref q),some (.int ((PyFlat.put (done++[(p::as)::xs])).length:Nat)),v4,v5,v6,v7,v8,v9]/\Same H H''/\WaveAt C (hide H'' q) x st'/\StOk st'/\H'' q=some (.lst (out'.map V.int))/\PyVblcas.answers ns=out'++PyFlat.told (PyFlat.played Vblcas.step st' rest),
    fun σ' H'' ⟨st',out',w4,w5,w6,w7,w8,w9,e1,e2,e3,e4,e5,e6⟩=>⟨ns.length - (PyFlat.put (done++[(p::as)::xs])).length,?_,done++[(p::as)::xs],rest,st',out',w4,w5,w6,w7,w8,w9,rfl,e1,by rw[hcs,List.append_assoc];rfl,e2,e3,e4,e5,e6⟩,?_⟩
   ·rw[jg,List.length_append];have:1<=(PyFlat.put [(p::as)::xs]).length:=by
     show 1<=(((p::as)++PyFlat.putRows xs)++PyFlat.put []).length;rw[List.length_append,List.length_append,List.length_cons];omega
    omega
   have hsa:=sm.seq ha;obtain⟨t,hHv'⟩:=hHv p _ _ hsh;refine⟨_,rfl,_,rfl,a,_,_,.int p,rfl,rfl,hsa,by rw[hns];exact at_mid _ _ _,?_⟩;refine⟨_,rfl,_,_,rfl,rfl,_,rfl,p,_,.int ((as.length:Nat):Int),rfl,hHv',⟨t,rfl⟩,_,_,rfl,rfl,?_⟩;refine⟨_,rfl,_,rfl,_,_,rfl,rfl,_,rfl,_,rfl,_,rfl,a,_,rfl,hsa,fun N hN=> ?_⟩;have ens:ns=(PyFlat.put done++[p])++as++(PyFlat.putRows xs++PyFlat.put rest):=by rw[hns];simp
   have l1:(PyFlat.put done++[p]).length=(PyFlat.put done).length+1:=by rw[List.length_append];rfl
   have ecut:cutV (ns.map V.int) (some ((((PyFlat.put done).length:Nat):Int)+1)) (some ((((PyFlat.put done).length:Nat):Int)+1+((as.length:Nat):Int)))=as.map V.int:=by
    have:=cut_mid (PyFlat.put done++[p]) as (PyFlat.putRows xs++PyFlat.put rest);rw[<-ens,l1] at this;exact this
   rw[ecut];have s3:Same H' (upd H' N (.lst (as.map V.int))):=Same.upd _ hN;refine⟨Nat.zero_le _,fun R0 hR0=> ?_⟩;have s4:Same (upd H' N (.lst (as.map V.int))) (upd (upd H' N (.lst (as.map V.int))) R0 (.lst [])):=Same.upd _ hR0;have s34:=s3.trans s4;have Nq:N≠q:=fun z=>by rw[z,hq'] at hN;cases hN
   have R0q:R0≠q:=fun z=>by rw[z,s3 _ _ hq'] at hR0;cases hR0
   have sm4:=sm.trans s34;have hwin:inV (.int p) [.int 0,.int 3,.int 9,.int 21]=withRow p:=by
    unfold inV withRow;rw[List.any_cons,List.any_cons,List.any_cons,List.any_cons,List.any_nil,Bool.or_false];show(((0:Int)==p)||(((3:Int)==p)||(((9:Int)==p)||((21:Int)==p))))=_;have e: ∀z:Int,(z==p)=decide (p=z):=fun z=>by
     rw[Bool.eq_iff_iff,beq_iff_eq,decide_eq_true_eq];exact eq_comm
    rw[e,e,e,e]
   have sz2:(out++(((Vblcas.step st ((p::as)::xs)).2.length:Int)::(Vblcas.step st ((p::as)::xs)).2)).length<=10000000:=by
    have:=As.short;rw[hans] at this;show _<=_;rw[show PyFlat.played Vblcas.step st (((p::as)::xs)::rest)=(Vblcas.step st ((p::as)::xs)).2::PyFlat.played Vblcas.step (Vblcas.step st ((p::as)::xs)).1 rest from rfl,Js,<-List.append_assoc,List.length_append] at this;omega
   have fin: ∀(H5 H6:Hp) (v4 v5 v6 v7 v8 v9:Option V) (pl:V),Same H H5->H5 q=some (.lst (out.map V.int))->(∀b o,b≠x->b≠q->H5 b=some o->H6 b=some o)->WaveAt C (hide H6 q) x (Vblcas.step st ((p::as)::xs)).1->H6 q=some (.lst ((out++(((Vblcas.step st ((p::as)::xs)).2.length:Int)::(Vblcas.step st ((p::as)::xs)).2)).map V.int))->pl=.int ((PyFlat.put (done++[(p::as)::xs])).length:Nat)->
     ∃(st':Vblcas.State) (out':List Int) (w4 w5 w6 w7 w8 w9:Option V),[some (V.ref a),some (.ref x),some (.ref q),some pl,v4,v5,v6,v7,v8,v9]=[some (V.ref a),some (.ref x),some (.ref q),some (.int ((PyFlat.put (done++[(p::as)::xs])).length:Nat)),w4,w5,w6,w7,w8,w9]/\Same H H6/\WaveAt C (hide H6 q) x st'/\StOk st'/\H6 q=some (.lst (out'.map V.int))/\PyVblcas.answers ns=out'++PyFlat.told (PyFlat.played Vblcas.step st' rest):=by
    intro H5 H6 v4 v5 v6 v7 v8 v9 pl sm5 hq5 kp hw6 hq6 epl;refine⟨_,_,v4,v5,v6,v7,v8,v9,by rw[epl],fun b o e=>kp b o (zJ e hx) (zJ e hqH) (sm5 b o e),hw6,ok.step _,hq6,?_⟩;rw[hans,show PyFlat.played Vblcas.step st (((p::as)::xs)::rest)=(Vblcas.step st ((p::as)::xs)).2::PyFlat.played Vblcas.step (Vblcas.step st ((p::as)::xs)).1 rest from rfl,Js,List.append_assoc]
   refine⟨_,rfl,dW,_,rfl,.inr (hWt _),rfl,rfl,_,rfl,?_⟩;rw[if_neg Bool.false_ne_true,hwin];rcases Jv hsh with⟨hx0,hwr⟩|⟨hx1,hwr⟩
   ·obtain rfl:xs=[]:=List.eq_nil_of_length_eq_zero hx0;rw[hwr];refine iteF' rfl ?_;refine top_tail (row:=[]) (r:=0) (hw.same (jD fun b o _ e=>s34 b o e)) ok (SqL.of (by rw[hide_ne Nq];exact s4 _ _ zB)) (SqL.of (by rw[hide_ne R0q];exact zB)) (Nat.zero_le _) hsh (s34 _ _ hq') qx sz2 fun H6 v9' kp hw6 hq6=>fin _ H6 _ _ _ _ _ _ _ sm4 (s34 _ _ hq') kp hw6 hq6 ?_;rw[jg,List.length_append];show V.int ((((PyFlat.put done).length:Nat):Int)+1+((as.length:Nat):Int))=V.int (((PyFlat.put done).length+((p::as)++[]++[]).length:Nat):Int);rw[List.append_nil,List.append_nil,List.length_cons]
    congr 1
    omega
   ·obtain⟨row,rfl⟩: ∃row,xs=[row]:=List.length_eq_one_iff.mp hx1;rw[hwr];refine iteT' rfl ?_;have hrl:=row_short hsh (As.ins _ hcm);have hsa4:=sm4.seq ha;have ens2:ns=(PyFlat.put done++p::as)++((row.length:Nat):Int)::(row++PyFlat.put rest):=by
     rw[hns];show PyFlat.put done++p::(as++((((row.length:Nat):Int)::row++[])++PyFlat.put rest))=_;simp
    have l2:(PyFlat.put done++p::as).length=(PyFlat.put done).length+1+as.length:=by rw[List.length_append,List.length_cons];omega
    have eat:atI (ns.map V.int) ((((PyFlat.put done).length:Nat):Int)+1+((as.length:Nat):Int))=some (.int ((row.length:Nat):Int)):=by
     have:=at_mid (PyFlat.put done++p::as) (row++PyFlat.put rest) ((row.length:Nat):Int);rw[<-ens2,l2] at this;exact this
    have ecut2:cutV (ns.map V.int) (some ((((PyFlat.put done).length:Nat):Int)+1+((as.length:Nat):Int)+1)) (some ((((PyFlat.put done).length:Nat):Int)+1+((as.length:Nat):Int)+1+((row.length:Nat):Int)))=row.map V.int:=by
     have:=cut_mid ((PyFlat.put done++p::as)++[((row.length:Nat):Int)]) row (PyFlat.put rest);rw[show(PyFlat.put done++p::as)++[((row.length:Nat):Int)]++row++PyFlat.put rest=ns by rw[ens2];simp] at this;rw[show((PyFlat.put done++p::as)++[((row.length:Nat):Int)]).length=(PyFlat.put done).length+1+as.length+1 by rw[List.length_append,l2];rfl] at this;exact this
    refine⟨_,rfl,_,_,rfl,rfl,?_⟩;refine⟨_,rfl,_,rfl,_,rfl,a,_,_,_,rfl,rfl,hsa4,eat,_,_,rfl,rfl,?_⟩;refine⟨_,rfl,_,rfl,_,rfl,_,rfl,_,rfl,a,_,rfl,hsa4,fun R hR=> ?_⟩;rw[ecut2];have s5:Same _ _:=Same.upd (.lst (row.map V.int)) hR;have s35:=s34.trans s5;have Rq:R≠q:=fun z=>by rw[z,s34 _ _ hq'] at hR;cases hR
    refine top_tail (row:=row) (r:=1) (hw.same (jD fun b o _ e=>s35 b o e)) ok (SqL.of (by rw[hide_ne Nq];exact s5 _ _ (s4 _ _ zB))) (SqL.of (by rw[hide_ne Rq];exact zB)) hrl hsh (s35 _ _ hq') qx sz2 fun H6 v9' kp hw6 hq6=>fin _ H6 _ _ _ _ _ _ _ (sm4.trans s5) (s35 _ _ hq') kp hw6 hq6 ?_;rw[jg,List.length_append];show V.int ((((PyFlat.put done).length:Nat):Int)+1+((as.length:Nat):Int)+1+((row.length:Nat):Int))=V.int (((PyFlat.put done).length+((p::as)++((((row.length:Nat):Int)::row)++[])++[]).length:Nat):Int);rw[List.append_nil,List.append_nil,List.length_append,List.length_cons,List.length_cons]
    congr 1
    omega
def pairD(e:Int×Int):PyData:=.tuple [.int e.1,.int e.2]
theorem Ym: ∀l:List (Int×Int),PyData.canLayAll0 (l.map pairD)=true
 |[]=>rfl
 |z::l=>by
  show(PyData.canLay0 (pairD z)&&PyData.canLayAll0 (l.map pairD))=true;rw[Ym l];rfl
theorem Jf(e:Int×Int):(pairD e).depth<=2:=by
 have:=YJ [e.1,e.2];show PyData.depth (.tuple ([e.1,e.2].map PyData.int))<=2;unfold PyData.depth;omega
theorem jY: ∀l:List (Int×Int),PyData.depthAll (l.map pairD)<=2
 |[]=>by show PyData.depthAll []<=2;unfold PyData.depthAll;omega
 |z::l=>by
  have:=jY l;have:=Jf z;show PyData.depthAll (pairD z::l.map pairD)<=2;unfold PyData.depthAll;omega
theorem shaped_pairs(l:List (Int×Int)):SeqAt.shaped (.list (l.map pairD))=true:=by
 unfold SeqAt.shaped;rw[Bool.and_eq_true];refine⟨?_,decide_eq_true ?_⟩
 ·unfold PyData.canLay0;exact Ym l
 ·have:=jY l;unfold PyData.depth;omega
theorem shaped_pair(e:Int×Int):SeqAt.shaped (pairD e)=true:=by
 unfold SeqAt.shaped;rw[Bool.and_eq_true];exact⟨rfl,decide_eq_true (by have:=Jf e;omega)⟩
theorem eqv_pair(e f:Int×Int):PyData.eqv (pairD e) (pairD f)=decide (e=f):=by
 have h:=yh [e.1,e.2] [f.1,f.2];show PyData.eqv (.tuple ([e.1,e.2].map PyData.int)) (.tuple ([f.1,f.2].map PyData.int))=_;unfold PyData.eqv;rw[h];rw[Bool.eq_iff_iff,decide_eq_true_eq,decide_eq_true_eq,List.cons.injEq,List.cons.injEq];constructor
 ·rintro⟨h1,h2,_⟩;exact Prod.ext h1 h2
 ·rintro rfl;exact⟨rfl,rfl,rfl⟩
theorem any_pairs(l:List (Int×Int))(f:Int×Int):((l.map pairD).any fun z=>PyData.eqv z (pairD f))=l.contains f:=by
 rw[List.any_map,Bool.eq_iff_iff,List.any_eq_true,List.contains_iff_mem];constructor
 ·rintro⟨e,h1,h2⟩;have h2:PyData.eqv (pairD e) (pairD f)=true:=h2;rw[eqv_pair] at h2;rw[<-of_decide_eq_true h2];exact h1
 ·intro h;refine⟨f,h,?_⟩;show PyData.eqv (pairD f) (pairD f)=true;rw[eqv_pair];exact decide_eq_true rfl
theorem dp_pair{K:PySem.W.Frag}{H:Hp}{t:Addr}{e:Int×Int}(h:H t=some (.tup [.int e.1,.int e.2])):Dp K H (.ref t) (pairD e):=.tup (SqT.of h) (.cons (.int _) (.cons (.int _) .nil))
theorem jX{K:PySem.W.Frag}{H:Hp}: ∀(ps:List Addr) (es:List (Int×Int)),ps.length=es.length->(∀(i:Nat) (p:Addr) (e:Int×Int),ps[i]? =some p->es[i]? =some e->H p=some (.tup [.int e.1,.int e.2]))->DpAll K H (ps.map V.ref) (es.map pairD)
 |[],[],_,_=>.nil
 |[],e::es,h,_=>by cases h
 |p::ps,[],h,_=>by cases h
 |p::ps,e::es,h,g=>.cons (dp_pair (g 0 p e rfl rfl)) (jX ps es (by simpa using h) fun i q f e1 e2=>g (i+1) q f (by simpa using e1) (by simpa using e2))
theorem eI_min(u v:Nat):((mn (u:Nat) (v:Nat)),(mx (u:Nat) (v:Nat)))=eI (min u v,max u v):=by
 unfold eI mn mx;refine Prod.ext ?_ ?_
 ·simp only;split<;>omega
 ·simp only;split<;>omega
theorem eI_contains(cs:List (Nat×Nat))(e:Nat×Nat):(cs.map eI).contains (eI e)=cs.contains e:=by
 rw[Bool.eq_iff_iff,List.contains_iff_mem,List.contains_iff_mem,List.mem_map];constructor
 ·rintro⟨d,h1,h2⟩;have e1:=congrArg Prod.fst h2;have e2:=congrArg Prod.snd h2;unfold eI at e1 e2;simp only at e1 e2;have:d=e:=Prod.ext (by omega) (by omega);rw[<-this];exact h1
 ·exact fun h=>⟨e,h,rfl⟩
theorem ring_len{nb:Vblcas.Near}(ok:NbOk nb){u v:Nat}(hu:u<nb.length)(hv:v<nb.length)(hs: ∀R D,FCert nb R D->R u=R v):(Vblcas.ringOf (Vblcas.forest nb) (u,v)).length<=2 * nb.length+2:=by
 obtain⟨R,D,FC⟩:=fcert ok;obtain⟨pa,pb,r,m,M⟩:=FC.meet ok hu hv (hs R D FC);have la:=(FC.way ok _ u hu rfl).len;have lb:=(FC.way ok _ v hv rfl).len;have da:=FC.dlt ok hu;have db:=FC.dlt ok hv;rw[M.ea,List.length_append] at la;rw[M.eb,List.length_append] at lb;rw[M.ring FC];unfold ringI;rw[List.length_append,List.length_append];split
 ·show 1+pb.length+0<=_;omega
 ·have e:(m::(pa.drop 1).reverse).length=pa.length - 1+1:=by rw[List.length_cons,List.length_reverse,List.length_drop]
  rw[e];show 1+pb.length+_<=_;omega
theorem units65{A:Around}{k:Nat}(hr:Room k A):A.units+65<cLine:=by have:=hr.un;omega
theorem scARing:FnScope ["wave","numbers","row","edge","parents","cells"] ["wave","numbers","row"] (defScope sARing):=⟨rfl,rfl,rfl,by decide +kernel,rfl,by decide +kernel,by decide +kernel⟩
theorem ok_aRing{f C:Addr}{fd:FuncData}(F:Fun K "answer_ring" "answer_ring" sARing f fd)(B:Bi mg)(T:WTxt K C)(hO:IntG mg "OUT_OF_RANGE" (-1))(hN:IntG mg "NO_CHORD" (-5))(CB:Callee P w K mg base 1 "all_below" ["numbers","bound"] (spAllBelow K))(CE:Callee P w K mg base 1 "edge_between" ["a","b"] spEdge)(CP:Callee P w K mg base 3 "parents_by" ["neighbours"] spParentsBy)(CC:Callee P w K mg base 1 "chords_among" ["edges","parents"] (spChords K))(CR:Callee P w K mg base 2 "ring_of" ["chord","parents"] (spRing K)):
  FnOk P w K mg base CX0 4 f fd ["wave","numbers","row"] (spAnswer K C 2 fun ns _=>[12::ns]):=by
 refine F.ok scARing (fun vs H Q E h=> ?_) (fun cdv A outer s H vs Q E hr h=> ?_)
 ·obtain⟨a,b,c,s,ns,row,rfl,_⟩:=h;rfl
 ·obtain⟨a,b,c,st,ns,row,rfl,hw,ok,hb,hn,hc,hr2,k⟩:=h;refine⟨_,zF (ZD (ZP (ZL (zP CB hr (zA (pv 1) (zA (zU (pv 0) rfl) zE))))) (zG (zM (zT (zA (zV hO) zE)))) zZ)
   (zF (zQ (i:=3) scARing.nd rfl (Or.inl rfl) (zP CE hr (zA (zW K (pv 1) zK) (zA (zW K (pv 1) zK) zE))))
   (zF (zQ (i:=4) scARing.nd rfl (Or.inl rfl) (zP CP hr (zA (zU (pv 0) rfl) zE)))
   (zF (ZD (zc (op_notInD (units65 hr)) (pv 3) (zP CC hr (zA (zU (pv 0) rfl) (zA (pv 4) zE))) (by rfl)) (zG (zM (zT (zA (zV hN) zE)))) zZ)
   (zF (zQ (i:=5) scARing.nd rfl (Or.inl rfl) (zP CR hr (zA (pv 3) (zA (pv 4) zE))))
   (zG (zM (zj yN (zT (zA (zX zY rfl B.len PySem.boot_len (zA (pv 5) zE)) zE)) (pv 5)))))))),?_⟩
  obtain⟨u,v,rfl⟩: ∃u v,ns=[u,v]:=by
   match ns,hn with
   |[u,v],_=>exact⟨u,v,rfl⟩
  obtain⟨dx,ed,nb,x,cc,rows,h1,h2,h3,h4,h5,h6,h7⟩:=id hw;have sz:sizeLine=16777216:=sizeLine_eq;have n16:=ok.n16;have few:=ok.few;have nl:st.graph.near.length=st.graph.n:=zf _;have inr:Vblcas.inRange st (.ring u v)=belowI st.graph.n [u,v]:=by
   show(Vblcas.within u 0 ((st.graph.n:Int) - 1)&&Vblcas.within v 0 ((st.graph.n:Int) - 1))=_;rw[<-ZC];show _=(Vblcas.within u 0 ((st.graph.n:Int) - 1)&&(Vblcas.within v 0 ((st.graph.n:Int) - 1)&&true));rw[Bool.and_true]
  refine⟨_,rfl,_,rfl,a,C,dx,_,_,rfl,h1,T.cl,T.nN,wn _ _ _ _ _ _ _,b,_,[u,v],rfl,hb,by show 2<sizeLine;decide,fun H1 s1=> ?_⟩;refine⟨_,rfl,ite2 (fun hq=> ?_) (fun hq=> ?_)⟩
  ·have hf:belowI st.graph.n [u,v]=false:=by
    cases q:belowI (st.graph.n:Nat) [u,v] with
    |false=>rfl
    |true=>rw[q] at hq;cases hq
   have act:Vblcas.step st [[12,u,v]]=(st,[-1]):=by
    show(if Vblcas.inRange st (.ring u v)=false then(st,[-1]) else Vblcas.act st (.ring u v))=_;rw[inr,if_pos hf]
   refine⟨(by show 1<=sizeLine;decide),fun l hl=> ?_⟩;have g:Same H _:=s1.trans (Same.upd (.lst [.int (-1)]) hl);exact k _ l (Same.kept g a) (by rw[act];exact hw.same g) (s1.free hl) (by rw[act];exact zB)
  ·have hb3:belowI st.graph.n [u,v]=true:=by
    cases q:belowI (st.graph.n:Nat) [u,v] with
    |false=>rw[q] at hq;exact absurd rfl hq
    |true=>rfl
   have hz:=ZG.mp hb3;have hu:=hz u List.mem_cons_self;have hv:=hz v (List.mem_cons_of_mem _ List.mem_cons_self);obtain⟨m,rfl⟩: ∃m:Nat,u=(m:Int):=⟨u.toNat,by omega⟩;obtain⟨n,rfl⟩: ∃n:Nat,v=(n:Int):=⟨v.toNat,by omega⟩;have act:Vblcas.step st [[12,(m:Int),(n:Int)]]=if(Vblcas.chords st.graph (Vblcas.forest st.graph.near)).contains (min m n,max m n)=false then(st,[-5]) else(st,Vblcas.counted (Vblcas.ringOf (Vblcas.forest st.graph.near) (min m n,max m n))):=by
    show(if Vblcas.inRange st (.ring m n)=false then(st,[-1]) else Vblcas.act st (.ring m n))=_;rw[inr,hb3];rfl
   refine⟨_,rfl,b,_,_,_,rfl,rfl,s1.seq hb,zb (by decide) (by show(0:Int)<2;decide),_,rfl,b,_,_,_,rfl,rfl,s1.seq hb,zb (by decide) (by show(1:Int)<2;decide),_,_,rfl,fun t ht=> ?_⟩;have et:HO.tup [.int (mn (at0 [(m:Int),(n:Int)] 0) (at0 [(m:Int),(n:Int)] 1)),.int (mx (at0 [(m:Int),(n:Int)] 0) (at0 [(m:Int),(n:Int)] 1))]=HO.tup [.int (eI (min m n,max m n)).1,.int (eI (min m n,max m n)).2]:=by rw[<-eI_min];rfl
   rw[et];have s2:Same H1 (upd H1 t (.tup [.int (eI (min m n,max m n)).1,.int (eI (min m n,max m n)).2])):=Same.upd _ ht;have s12:=s1.trans s2;have ht2:(upd H1 t (.tup [.int (eI (min m n,max m n)).1,.int (eI (min m n,max m n)).2])) t=some (.tup [.int (eI (min m n,max m n)).1,.int (eI (min m n,max m n)).2]):=zB;refine⟨_,rfl,a,C,dx,_,_,rfl,s12 _ _ h1,T.cl,T.nNear,wnb _ _ _ _ _ _ _,nb,rows,st.graph.near,rfl,h3.same s12,h4,nbOk _,by omega,h5,fun H3 pp hpp s3 hp1=> ?_⟩;have s13:=s12.trans s3;refine⟨_,rfl,_,rfl,a,C,dx,_,_,rfl,s13 _ _ h1,T.cl,T.nEdges,we _ _ _ _ _ _ _,_,rfl,ed,pp,st.graph.edges.map eI,parI st.graph.near,rfl,h2.same s13,SqL.of hp1,by rw[List.length_map];omega,fun e he=> ?_,fun H4 q hq s4 hq1=> ?_⟩
   ·obtain⟨d,hd,rfl⟩:=List.mem_map.mp he;have:=ok.e.lt d hd;rw[JS,nl];show(0<=((d.1:Nat):Int)/\((d.1:Nat):Int)<_)/\0<=((d.2:Nat):Int)/\((d.2:Nat):Int)<_;omega
   rw[vR ok.e] at hq1;obtain⟨ps,p1,p2,p3⟩:=id hq1;have s14:=s13.trans s4;have ht4:=s4 _ _ (s3 _ _ ht2);refine⟨pairD (eI (min m n,max m n)),_,dp_pair ht4,.lst (SqL.of p1) (jX ps _ p2 p3),shaped_pairs _,shaped_pair _,_,rfl,?_⟩;rw[any_pairs,eI_contains];refine ite2 (fun hq2=> ?_) (fun hq2=> ?_)
   ·have hf:(Vblcas.chords st.graph (Vblcas.forest st.graph.near)).contains (min m n,max m n)=false:=by
     cases z:(Vblcas.chords st.graph (Vblcas.forest st.graph.near)).contains (min m n,max m n) with
     |false=>rfl
     |true=>rw[z] at hq2;cases hq2
    rw[if_pos hf] at act;refine⟨(by show 1<=sizeLine;decide),fun l hl=> ?_⟩;have g:Same H _:=s14.trans (Same.upd (.lst [.int (-5)]) hl);exact k _ l (Same.kept g a) (by rw[act];exact hw.same g) (s14.free hl) (by rw[act];exact zB)
   ·have hf:(Vblcas.chords st.graph (Vblcas.forest st.graph.near)).contains (min m n,max m n)=true:=by
     cases z:(Vblcas.chords st.graph (Vblcas.forest st.graph.near)).contains (min m n,max m n) with
     |false=>rw[z] at hq2;exact absurd rfl hq2
     |true=>rfl
    rw[if_neg (by rw[hf];exact Bool.noConfusion)] at act;have hch:=List.contains_iff_mem.mp hf;have hlt:=chord_lt ok.e hch;have hed:(min m n,max m n)∈st.graph.edges:=by
     unfold Vblcas.chords at hch;exact(List.mem_filter.mp hch).1
    have hadj:max m n∈Nb st.graph.near (min m n):=by
     refine ZM.mpr ⟨by simp only at hlt;omega,hlt.2,?_⟩;unfold Vblcas.Graph.adjacent;rw[List.contains_iff_mem,show min (min m n) (max m n)=min m n by omega,show max (min m n) (max m n)=max m n by omega];exact hed
    have same: ∀R D,FCert st.graph.near R D->R (min m n)=R (max m n):=fun R D FC=>(FC.c.redge _ _ hadj).symm;have ul:min m n<st.graph.near.length:=by rw[nl];simp only at hlt;omega
    have vl:max m n<st.graph.near.length:=by rw[nl];exact hlt.2
    have rlen:=ring_len (nbOk st.graph) ul vl same;refine⟨_,rfl,_,rfl,t,pp,min m n,max m n,st.graph.near,rfl,ht4,SqL.of (s4 _ _ hp1),nbOk _,by omega,ul,vl,same,fun H5 r5 hr5 s5 hr5v=> ?_⟩;have s15:=s14.trans s5;generalize hrg:Vblcas.ringOf (Vblcas.forest st.graph.near) (min m n,max m n)=rg at act rlen hr5v;refine⟨_,rfl,r5,_,rfl,.inl (SqL.of hr5v),(by show 1<=sizeLine;decide),fun l hl=> ?_⟩;rw[List.length_map,zN];have s6:Same H5 (upd H5 l (.lst [.int (rg.length:Nat)])):=Same.upd _ hl;refine⟨_,rfl,l,r5,_,_,rfl,rfl,zB,s6 _ _ hr5v,by rw[List.length_map,zN];show 1+_<=_;omega,fun r hr3=> ?_⟩;have s7:Same _ _:=Same.upd (.lst ([.int (rg.length:Nat)]++(natsI rg).map V.int)) hr3;have s16:=s15.trans s6;have g:=s16.trans s7;exact k _ r (Same.kept g a) (by rw[act];exact hw.same g) (s16.free hr3) (by rw[act];exact zB)
abbrev sStepOn:Stmt:=top 35
abbrev sGcd:Stmt:=top 36
abbrev sSpeed:Stmt:=top 37
abbrev sASpeed:Stmt:=top 69
def pV(p:Nat×Int):Key×V:=(Sum.inl ((p.1:Nat):Int),V.int p.2)
def alV(al:AL):List (Key×V):=al.map pV
theorem key_ne{a b:Nat}(h: ¬a=b): ¬(Sum.inl ((a:Nat):Int):Key)=Sum.inl ((b:Nat):Int):=fun e=>h (by have:=Sum.inl.inj e;omega)
theorem YS(u:Nat): ∀al:AL,valV (alV al) (Sum.inl ((u:Nat):Int))=(lookA al u).map V.int
 |[]=>rfl
 |p::al=>by
  show valV (pV p::alV al) _=_;unfold lookA;by_cases e:p.1=u
  ·rw[YM (by unfold pV;rw[e]),if_pos e];rfl
  ·rw[YQ (key_ne e),if_neg e];exact YS u al
theorem putK_al(al:AL)(u:Nat)(z:Int):putK (alV al) (Sum.inl ((u:Nat):Int)) (.int z)=alV (putA al u z):=by
 unfold putK putA;rw[jx,YS,Jj,Option.isSome_map];split
 ·unfold alV;rw[List.map_map,List.map_map];refine List.map_congr_left fun p _=> ?_;show(if(pV p).1=Sum.inl ((u:Nat):Int) then((pV p).1,V.int z) else pV p)=pV (if p.1=u then(p.1,z) else p);by_cases e:p.1=u
  ·rw[if_pos e,if_pos (by unfold pV;rw[e])];rfl
  ·rw[if_neg e,if_neg (show ¬(pV p).1=Sum.inl ((u:Nat):Int) from key_ne e)]
 ·unfold alV;rw[List.map_append];rfl
theorem once_len{n:Nat}{al:AL}(o:OnceA al)(h: ∀p,p∈al->p.1<n):al.length<=n:=by
 have:=pigeon o fun z hz=>by
  obtain⟨p,hp,rfl⟩:=List.mem_map.mp hz;exact h p hp
 rw[List.length_map] at this;exact this
def Seqs(H H':Hp):Prop:=∀b o,((∃xs,o=HO.lst xs)∨∃xs,o=HO.tup xs)->H b=some o->H' b=some o
theorem LeansT.cp{H H':Hp}{a:Addr}{lr:List (List (Int×Int))}(h:LeansT H a lr)(s:Seqs H H'):LeansT H' a lr:=by
 obtain⟨ps,h1,h2,h3⟩:=h;refine⟨ps,s _ _ (.inl ⟨_,rfl⟩) h1,h2,fun i p r e1 e2=> ?_⟩;obtain⟨qs,g1,g2,g3⟩:=h3 i p r e1 e2;exact⟨qs,s _ _ (.inl ⟨_,rfl⟩) g1,g2,fun j q e f1 f2=>s _ _ (.inr ⟨_,rfl⟩) (g3 j q e f1 f2)⟩
def rowsN(rows:List (List Int))(x:List Nat)(c:Nat):List (Nat×Int):=(rows.getD c []).map fun o=>(o.toNat,(leanP x c o).2)
theorem leansOk{rows:List (List Int)}{nb:Vblcas.Near}(hr:RowsNb rows nb)(x:List Nat):LeansOk nb x (rowsN rows x):=by
 refine⟨fun w hw q=> ?_⟩;unfold rowsN;rw[List.mem_map];constructor
 ·rintro⟨o,ho,rfl⟩;obtain⟨u,rfl,hu⟩:=(hr.mem w o).mp ho;refine⟨by show(((u:Nat):Int)).toNat∈_;rw[Int.toNat_natCast];exact hu,rfl⟩
 ·rintro⟨h1,h2⟩;refine⟨((q.1:Nat):Int),(hr.mem w _).mpr ⟨q.1,rfl,h1⟩,?_⟩;refine Prod.ext (Int.toNat_natCast _) ?_;rw[h2];show Vblcas.lean (Vblcas.at_ x w) (Vblcas.at_ x (((q.1:Nat):Int)).toNat)=_;rw[Int.toNat_natCast]
def spStepOn:Sp:=fun vs H Q _=>∃(L S:Addr) (al:AL) (rows:List (List Int)) (nb:Vblcas.Near) (x:List Nat),vs=[.ref L,.ref S]/\LeansT H L (leansI rows x)/\H S=some (.dK (alV al))/\RowsNb rows nb/\NbOk nb/\nb.length<1000/\OnceA al/\(∀p,p∈al->p.1<nb.length)/\
 ∀H' D al',H D=none->Same H H'->H' D=some (.dK (alV al'))->StepIs nb (rowsN rows x) al al'->Q (.ref D) H'
def spGcd:Sp:=fun vs H Q _=>∃(a b:Nat),vs=[.int (a:Nat),.int (b:Nat)]/\Q (.int (Nat.gcd a b:Nat)) H
theorem scStepOn:FnScope ["leans","sums","longer","cell","other","lean"] ["leans","sums"] (defScope sStepOn):=⟨rfl,rfl,rfl,by decide +kernel,rfl,by decide +kernel,by decide +kernel⟩
theorem ok_stepOn{f:Addr}{fd:FuncData}(F:Fun K "sums_a_step_on" "sums_a_step_on" sStepOn f fd):FnOk P w K mg base CX0 1 f fd ["leans","sums"] spStepOn:=by
 refine F.ok scStepOn (fun vs H Q E h=> ?_) (fun cdv A outer s H vs Q E hr h=> ?_)
 ·obtain⟨L,S,al,rows,nb,x,rfl,_⟩:=h;rfl
 ·obtain⟨L,S,al,rows,nb,x,rfl,hL,hS,hnb,ok,hsm,once,hlt,k⟩:=h;have hu:=vM hr;refine⟨_,zF (zQ (i:=2) scStepOn.nd rfl (Or.inl rfl) pe_dnewK)
   (zF (ps_lock (ZV PassesOwn.never rfl (pi_keys (pv 1)) (ZQ (i:=3) scStepOn.nd rfl (Or.inl rfl))
    (zG (ZV PassesOwn.never rfl (zq (zW K (pv 0) (pv 3))) (pgt2 K 4 5 scStepOn.nd)
     (zG (ZD (PW.pt (JL (pt_cmp (pc_dnotin hu (pv 4) (pv 2))) (Yv (zc op_gt (zj ZJ (yM hu (pv 1) (pv 3) (fun _ _=>rfl)) (pv 5)) (yM hu (pv 2) (pv 4) (fun _ _=>rfl)) (nomark _)))))
      (zG (ps_dput hu (pv 2) (pv 4) (zj ZJ (yM hu (pv 1) (pv 3) (fun _ _=>rfl)) (pv 5)) rfl)) zZ))))))
   (zG (zM (pv 2)))),?_⟩
  have sz:sizeLine=16777216:=sizeLine_eq;have lal:=once_len once hlt;intro D hD;have SD:S≠D:=zJ hS hD;have hS1:(upd H D (.dK [])) S=some (.dK (alV al)):=by rw[zH SD];exact hS
  refine⟨S,.dK (alV al),hS1,True.intro,fun od=> ?_⟩;generalize hH2:upd (upd H D (.dK [])) S (.frz od (.dK (alV al)))=H2;have hS2:H2 S=some (.frz od (.dK (alV al))):=by rw[<-hH2,zB]
  have hD2:H2 D=some (.dK (alV [])):=by rw[<-hH2,zH SD.symm,zB];rfl
  have keep: ∀b o,b≠S->H b=some o->H2 b=some o:=fun b o n e=>by rw[<-hH2,zH n,zH (zJ e hD)];exact e
  have sq2:Seqs H H2:=fun b o ho e=>keep b o (fun z=>by rw[z,hS] at e;rcases ho with⟨_,h⟩|⟨_,h⟩<;>rw[h] at e<;>cases e) e;obtain⟨ps,p1,p2,p3⟩:=hL.cp sq2;have rl:=hnb.len;have pl:ps.length=nb.length:=by rw[p2,YG,rl]
  refine⟨_,rfl,S,od,rfl,.inl ⟨alV al,hS2,?_⟩⟩;refine for_gen (n:=al.length) (fun i σ H'=>∃v3 v4 v5 bl,σ=[some (.ref L),some (.ref S),some (.ref D),v3,v4,v5]/\SameX D H2 H'/\H' D=some (.dK (alV bl))/\OnceA bl/\(∀p,p∈bl->p.1<nb.length)/\∀u,u<nb.length->IsMaxL (candL (rowsN rows x) (al.take i) u) (lookA bl u))
   ⟨none,none,none,[],rfl,fun b o _ e=>e,hD2,List.nodup_nil,fun p hp=>by(cases hp),fun u _=>rfl⟩ (fun i σ H' hi ⟨_,_,_,_,_,sx,_⟩=>⟨sx _ _ SD hS2,by unfold alV;rw[List.length_map];exact hi⟩) (fun σ H' ⟨_,_,_,_,_,sx,_⟩=>⟨sx _ _ SD hS2,by unfold alV;rw[List.length_map];exact Nat.le_refl _⟩) ?_ ?_
  ·rintro i y σ H' H'' hi ⟨v3,v4,v5,bl,rfl,sx,hbl,obl,blt,mx⟩ ⟨rfl,kk,vv,ekv,rfl⟩;obtain⟨⟨c,sc⟩,ep⟩: ∃p,al[i]? =some p:=⟨_,List.getElem?_eq_getElem hi⟩;have ekv':(alV al)[i]? =some (pV (c,sc)):=by unfold alV;rw[List.getElem?_map,ep];rfl
   rw[ekv'] at ekv;obtain⟨rfl,rfl⟩:Sum.inl ((c:Nat):Int)=kk/\V.int sc=vv:=Prod.mk.inj (Option.some.inj ekv);have hc:=hlt _ (List.mem_of_getElem? ep);have hlook:=once.look (List.mem_of_getElem? ep);obtain⟨p,epp⟩: ∃p,ps[c]? =some p:=⟨_,List.getElem?_eq_getElem (by omega)⟩;have er:(leansI rows x)[c]? =some ((rows.getD c []).map (leanP x c)):=by
    unfold leansI;rw[zR _ (by omega)]
   have tups:=p3 c p _ epp er;obtain⟨ts,t1,t2,t3⟩:=id tups;have LD:L≠D:=ZW p1 hD2 (by intro z;cases z);have pD:p≠D:=ZW t1 hD2 (by intro z;cases z);rw[List.length_map] at t2;refine⟨_,rfl,_,rfl,L,_,_,.ref p,rfl,rfl,SqL.of (sx _ _ LD p1),Zf (j:=c) (by rw[List.getElem?_map,epp];rfl),p,rfl,⟨_,SqL.of (sx _ _ pD t1)⟩,?_⟩;refine Ze (K:=K) (a:=p) (xs:=ts.map V.ref) (fun j σ H'=>∃v4 v5 bl,σ=[some (.ref L),some (.ref S),some (.ref D),some (.int ((c:Nat):Int)),v4,v5]/\SameX D H2 H'/\H' D=some (.dK (alV bl))/\OnceA bl/\(∀p,p∈bl->p.1<nb.length)/\∀u,u<nb.length->IsMaxL (candL (rowsN rows x) (al.take i) u++cand1 ((rowsN rows x c).take j) sc u) (lookA bl u))
    ⟨_,_,bl,rfl,sx,hbl,obl,blt,fun u hul=>by show IsMaxL (_++[]) _;rw[List.append_nil];exact mx u hul⟩ (fun j σ H' _ ⟨_,_,_,_,sx,_⟩=>SqL.of (sx _ _ pD t1)) ?_ ?_
   ·rintro j y σ H3 hj ⟨v4,v5,bl,rfl,sx,hbl,obl,blt,mx⟩;obtain⟨t,et,rfl⟩:=getElem?_mapR hj;have jl:=(List.getElem?_eq_some_iff.mp et).1;obtain⟨o,eo⟩: ∃o,(rows.getD c [])[j]? =some o:=⟨_,List.getElem?_eq_getElem (by omega)⟩;obtain⟨u,rfl,hun⟩:=(hnb.mem c o).mp (List.mem_of_getElem? eo);have hul:=ok.lt c u hun;have ht:=t3 j t (leanP x c ((u:Nat):Int)) et (by rw[List.getElem?_map,eo];rfl);have tD:t≠D:=ZW ht hD2 (by intro z;cases z);generalize hln:(leanP x c ((u:Nat):Int)).2=ln;have ht:H2 t=some (.tup [.int ((u:Nat):Int),.int ln]):=by rw[<-hln];exact ht
    have eq1:(rowsN rows x c)[j]? =some (u,ln):=by
     unfold rowsN;rw[List.getElem?_map,eo];show some ((((u:Nat):Int)).toNat,(leanP x c ((u:Nat):Int)).2)=_;rw[Int.toNat_natCast,hln]
    have gS:DGet H3 S (.int ((c:Nat):Int)) (some (.int sc)):=by
     have:=YS c al;rw[hlook] at this;exact .inl ⟨_,Sum.inl ((c:Nat):Int),.inr ⟨od,sx _ _ SD hS2⟩,rfl,this.symm⟩
    have gD:DGet H3 D (.int ((u:Nat):Int)) ((lookA bl u).map V.int):=by
     have:=DGet.k (k:=Sum.inl ((u:Nat):Int)) hbl;rw[YS] at this;exact this
    have lbl:=once_len obl blt;have nx: ∀v,cand1 ((rowsN rows x c).take (j+1)) sc v=cand1 ((rowsN rows x c).take j) sc v++(if u=v then[sc+ln] else[]):=fun v=>by rw[zL eq1,cand1_snoc]
    have put:(∀m,lookA bl u=some m->m<sc+ln)->∃v4 v5 bl',[some (V.ref L),some (V.ref S),some (V.ref D),some (V.int ((c:Nat):Int)),some (V.int ((u:Nat):Int)),some (V.int ln)]=[some (V.ref L),some (.ref S),some (.ref D),some (.int ((c:Nat):Int)),v4,v5]/\SameX D H2 (upd H3 D (.dK (putK (alV bl) (Sum.inl ((u:Nat):Int)) (.int (sc+ln)))))/\(upd H3 D (.dK (putK (alV bl) (Sum.inl ((u:Nat):Int)) (.int (sc+ln))))) D=some (.dK (alV bl'))/\OnceA bl'/\(∀p,p∈bl'->p.1<nb.length)/\∀v,v<nb.length->IsMaxL (candL (rowsN rows x) (al.take i) v++cand1 ((rowsN rows x c).take (j+1)) sc v) (lookA bl' v):=by
     intro hm;refine⟨_,_,putA bl u (sc+ln),rfl,fun b o n e=>by rw[zH n];exact sx b o n e,by rw[zB,putK_al],obl.put u _,fun q hq=> ?_,fun v hv=> ?_⟩
     ·have:=mem_keys_put (List.mem_map.mpr ⟨q,hq,rfl⟩);rcases this with z|z
      ·rw[z];exact hul
      ·obtain⟨q',hq',e⟩:=List.mem_map.mp z;rw[<-e];exact blt q' hq'
     ·rw[nx,look_put];have m0:=mx v hv;by_cases e:v=u
      ·subst e;rw[if_pos rfl,if_pos rfl,<-List.append_assoc];cases q:lookA bl v with
       |none=>rw[q] at m0;exact m0.new _
       |some m=>rw[q] at m0;exact m0.more (hm m q)
      ·rw[if_neg e,if_neg (fun z=>e z.symm),List.append_nil];exact m0
    have stay:(∃m,lookA bl u=some m/\¬m<sc+ln)->∃v4 v5 bl',[some (V.ref L),some (V.ref S),some (V.ref D),some (V.int ((c:Nat):Int)),some (V.int ((u:Nat):Int)),some (V.int ln)]=[some (V.ref L),some (.ref S),some (.ref D),some (.int ((c:Nat):Int)),v4,v5]/\SameX D H2 H3/\H3 D=some (.dK (alV bl'))/\OnceA bl'/\(∀p,p∈bl'->p.1<nb.length)/\∀v,v<nb.length->IsMaxL (candL (rowsN rows x) (al.take i) v++cand1 ((rowsN rows x c).take (j+1)) sc v) (lookA bl' v):=by
     rintro⟨m,hm1,hm2⟩;refine⟨_,_,bl,rfl,sx,hbl,obl,blt,fun v hv=> ?_⟩;rw[nx];have m0:=mx v hv;by_cases e:u=v
     ·subst e;rw[if_pos rfl,<-List.append_assoc,hm1];rw[hm1] at m0;exact m0.less hm2
     ·rw[if_neg e,List.append_nil];exact m0
    have hlen:(alV bl).length<sizeLine:=by unfold alV;rw[List.length_map];omega
    refine⟨t,_,rfl,SqT.of (sx _ _ tD ht),rfl,_,_,rfl,_,_,rfl,rfl,?_⟩;refine⟨_,rfl,_,rfl,D,_,rfl,gD,_,rfl,?_⟩;cases q:lookA bl u with
    |none=>
     refine iteT' rfl (iteT ?_);refine⟨_,rfl,_,rfl,S,_,rfl,gS,_,rfl,_,_,rfl,rfl,_,rfl,_,rfl,D,_,rfl,DPut.k (k:=Sum.inl ((u:Nat):Int)) hbl hlen,put fun m hm=> ?_⟩;rw[q] at hm;cases hm
    |some m=>
     rw[q] at gD;refine iteF' rfl ?_;refine⟨_,rfl,_,rfl,S,_,rfl,gS,_,rfl,_,_,rfl,rfl,_,rfl,_,rfl,D,_,rfl,gD,_,_,rfl,rfl,_,rfl,ite2 (fun hq=> ?_) (fun hq=> ?_)⟩
     ·refine⟨_,rfl,_,rfl,S,_,rfl,gS,_,rfl,_,_,rfl,rfl,_,rfl,_,rfl,D,_,rfl,DPut.k (k:=Sum.inl ((u:Nat):Int)) hbl hlen,put fun m' hm=> ?_⟩;rw[q] at hm;obtain rfl:=Option.some.inj hm;exact of_decide_eq_true hq
     ·exact stay ⟨m,q,fun z=>hq (decide_eq_true z)⟩
   ·rintro σ H3 ⟨v4,v5,bl,rfl,sx,hbl,obl,blt,mx⟩;refine⟨_,_,_,bl,rfl,sx,hbl,obl,blt,fun u hul=> ?_⟩;have m0:=mx u hul;have e0:(rowsN rows x c).take (ts.map V.ref).length=rowsN rows x c:=List.take_of_length_le (by unfold rowsN;rw[List.length_map,List.length_map];omega);rw[e0] at m0;rw[zL ep,candL_snoc];exact m0
  ·rintro σ H' ⟨v3,v4,v5,bl,rfl,sx,hbl,obl,blt,mx⟩;rw[List.take_length] at mx;refine⟨sx _ _ SD hS2,_,rfl,k _ D bl hD (fun b o e=> ?_) (by rw[zH SD.symm];exact hbl) ⟨obl,blt,mx⟩⟩;by_cases z:b=S
   ·rw[z,zB,<-e,z,hS]
   ·rw[zH z];exact sx _ _ (zJ e hD) (keep b o z e)
theorem scGcd:FnScope ["a","b","rest"] ["a","b"] (defScope sGcd):=⟨rfl,rfl,rfl,by decide +kernel,rfl,by decide +kernel,by decide +kernel⟩
theorem ok_gcd{f:Addr}{fd:FuncData}(F:Fun K "common_divisor" "common_divisor" sGcd f fd):FnOk P w K mg base CX0 1 f fd ["a","b"] spGcd:=by
 refine F.ok scGcd (fun vs H Q E h=> ?_) (fun cdv A outer s H vs Q E hr h=> ?_)
 ·obtain⟨a,b,rfl,_⟩:=h;rfl
 ·obtain⟨a,b,rfl,k⟩:=h;refine⟨_,zF (yX PassesOwn.never (zc yu (pv 1) zK (nomark _))
    (zF (zQ (i:=2) scGcd.nd rfl (Or.inl rfl) (zj op_mod (pv 0) (pv 1)))
    (zF (zQ (i:=0) scGcd.nd rfl (Or.inl rfl) (pv 1))
    (zG (zQ (i:=1) scGcd.nd rfl (Or.inl rfl) (pv 2))))))
   (zG (zM (pv 0))),?_⟩
  refine⟨fun m σ H'=>∃(a' b':Nat) (v:Option V),m=b'/\σ=[some (.int (a':Nat)),some (.int (b':Nat)),v]/\H'=H/\Nat.gcd a' b'=Nat.gcd a b,⟨_,a,b,none,rfl,rfl,rfl,rfl⟩,?_⟩;rintro m σ H' ⟨a',b',v,em,rfl,rfl,e⟩;refine⟨_,rfl,rfl,_,rfl,?_⟩;rw[zy];by_cases hb:b'=0
  ·subst hb;refine iteF' rfl ⟨_,rfl,?_⟩;rw[Nat.gcd_zero_right] at e;rw[e];exact k
  ·refine iteT' (by rw[decide_eq_false (by omega)];rfl) ?_;refine⟨fun σ' H''=>σ'=[some (.int (b':Nat)),some (.int ((a' % b':Nat):Int)),some (.int ((a' % b':Nat):Int))]/\H''=H',fun σ' H'' ⟨e1,e2⟩=>⟨a' % b',by rw[em];exact Nat.mod_lt _ (by omega),b',a' % b',_,rfl,e1,e2,?_⟩,?_⟩
   ·rw[<-e,Nat.gcd_comm a' b',Nat.gcd_rec b' a',Nat.gcd_comm]
   ·refine⟨_,rfl,_,rfl,_,_,rfl,rfl,by show(0:Int)<((b':Nat):Int);omega,?_⟩;exact⟨_,rfl,_,rfl,rfl,rfl⟩
def b0L(nb:Vblcas.Near)(u:Nat):List (Option Int):=(List.range nb.length).map fun w=>if w=u then some 0 else none
def bestOf(nb:Vblcas.Near)(x:List Nat)(best:Int×Int)(u:Nat):Int×Int:=Vblcas.closedBest nb x u nb.length 0 (b0L nb u) best
def speedF(nb:Vblcas.Near)(x:List Nat)(cs:List Nat):Int×Int:=Vblcas.lowest (cs.foldl (bestOf nb x) (0,1))
theorem closed_succ(nb:Vblcas.Near)(x:List Nat)(v k len:Nat)(b:List (Option Int))(best:Int×Int):Vblcas.closedBest nb x v (k+1) len b best=Vblcas.closedBest nb x v k (len+1) (Vblcas.longer nb x b) (match(Vblcas.longer nb x b).getD v none with|none=>best|some s=>Vblcas.greater best (s,((len+1:Nat):Int))):=rfl
theorem closed_zero(nb:Vblcas.Near)(x:List Nat)(v len:Nat)(b:List (Option Int))(best:Int×Int):Vblcas.closedBest nb x v 0 len b best=best:=rfl
def spSpeed(K:PySem.W.Frag):Sp:=fun vs H Q _=>∃(L A:Addr) (cs:List Nat) (rows:List (List Int)) (nb:Vblcas.Near) (x:List Nat),vs=[.ref L,.ref A]/\LeansT H L (leansI rows x)/\SqL K H A ((natsI cs).map V.int)/\(∀c,c∈cs->c<nb.length)/\RowsNb rows nb/\NbOk nb/\1<=nb.length/\nb.length<1000/\NewInts H Q [(speedF nb x cs).1,(speedF nb x cs).2]
theorem scSpeed:FnScope ["leans","cells","total","steps","start","sums","length","divisor"] ["leans","cells"] (defScope sSpeed):=⟨rfl,rfl,rfl,by decide +kernel,rfl,by decide +kernel,by decide +kernel⟩
theorem ok_speed{f:Addr}{fd:FuncData}(F:Fun K "speed_among" "speed_among" sSpeed f fd)(B:Bi mg)(CS:Callee P w K mg base 1 "sums_a_step_on" ["leans","sums"] spStepOn)(CG:Callee P w K mg base 1 "common_divisor" ["a","b"] spGcd):FnOk P w K mg base CX0 2 f fd ["leans","cells"] (spSpeed K):=by
 refine F.ok scSpeed (fun vs H Q E h=> ?_) (fun cdv A outer s H vs Q E hr h=> ?_)
 ·obtain⟨L,Cs,cs,rows,nb,x,rfl,_⟩:=h;rfl
 ·obtain⟨L,Cs,cs,rows,nb,x,rfl,hL,hC,hcs,hnb,ok,hn1,hsm,k⟩:=h;have hu:=vM hr;refine⟨_,zF (zQ (i:=2) scSpeed.nd rfl (Or.inl rfl) zK)
   (zF (zQ (i:=3) scSpeed.nd rfl (Or.inl rfl) zK)
   (zF (ZV PassesOwn.never rfl (zq (pv 1)) (ZQ (i:=4) scSpeed.nd rfl (Or.inl rfl))
    (zF (zQ (i:=5) scSpeed.nd rfl (Or.inl rfl) (pe_disp (pps_cons (pv 4) zK pps_nil) rfl rfl (by simp) (by show 1<=15;decide)))
    (zG (ZV PassesOwn.never rfl (Jz rfl B.range (zA zK (zA (zj ZJ (zX zY rfl B.len PySem.boot_len (zA (pv 0) zE)) zK) zE))) (ZQ (i:=6) scSpeed.nd rfl (Or.inl rfl))
     (zF (zQ (i:=5) scSpeed.nd rfl (Or.inl rfl) (zP CS hr (zA (pv 0) (zA (pv 5) zE))))
     (zG (ZD (PW.pt (pw_and (pt_cmp (pc_din hu (pv 4) (pv 5))) (jf (zc op_gt (zj op_mul (yM hu (pv 5) (pv 4) (fun _ _=>rfl)) (pv 3)) (zj op_mul (pv 2) (pv 6)) (nomark _)))))
      (zF (zQ (i:=2) scSpeed.nd rfl (Or.inl rfl) (yM hu (pv 5) (pv 4) (fun _ _=>rfl))) (zG (zQ (i:=3) scSpeed.nd rfl (Or.inl rfl) (pv 6)))) zZ)))))))
   (zF (zQ (i:=7) scSpeed.nd rfl (Or.inl rfl) (zP CG hr (zA (pv 2) (zA (pv 3) zE))))
   (zG (zM (zT (zA (zj op_fdiv (pv 2) (pv 7)) (zA (zj op_fdiv (pv 3) (pv 7)) zE)))))))),?_⟩
  obtain⟨ps,p1,p2,p3⟩:=id hL;have rl:=hnb.len;have pl:ps.length=nb.length:=by rw[p2,YG,rl]
  refine⟨_,rfl,Cs,rfl,⟨_,hC⟩,?_⟩;refine Ze (K:=K) (a:=Cs) (xs:=(natsI cs).map V.int) (fun i σ H'=>∃(fr:Int×Int) (v4 v5 v6:Option V),σ=[some (.ref L),some (.ref Cs),some (.int fr.1),some (.int fr.2),v4,v5,v6,none]/\Same H H'/\FracOk nb.length fr/\(cs.take i).foldl (bestOf nb x) (0,1)=fr)
   ⟨(0,1),none,none,none,rfl,Same.refl H,⟨by decide,by decide,by show(1:Int)<=_;omega⟩,rfl⟩ (fun i σ H' _ ⟨_,_,_,_,_,sm,_⟩=>sm.seq hC) ?_ ?_
  ·rintro i y σ H' hi ⟨fr,v4,v5,v6,rfl,sm,fok,hfr⟩;obtain⟨u,eu,rfl⟩:=Za hi;have hul:=hcs u (List.mem_of_getElem? eu);intro S hS;have q1:Same H' (upd H' S (.dK [])):=Same.upd _ hS;refine⟨_,rfl,zB,[(Sum.inl ((u:Nat):Int),V.int 0)],rfl,by show 1<=15;decide,?_⟩;have eS:mergeK [] [((Sum.inl ((u:Nat):Int):Key),V.int 0)]=alV [(u,0)]:=rfl;rw[eS];have q2:Same H' (upd (upd H' S (.dK [])) S (.dK (alV [(u,0)]))):=fun b o e=>by rw[zH (zJ e hS),zH (zJ e hS)];exact e
   have sm1:=sm.trans q2;refine⟨_,rfl,L,_,rfl,.inl (SqL.of (sm1 _ _ p1)),_,_,rfl,rfl,1,((nb.length:Nat):Int)+1,by rw[List.length_map,pl],⟨by omega,by omega,by omega,by omega⟩,?_⟩;rw[show(((nb.length:Nat):Int)+1 - 1).toNat=nb.length by omega];refine yH (lo:=1) (n:=nb.length) (fun j σ H2=>∃(S2:Addr) (al:AL) (b:List (Option Int)) (f2:Int×Int) (v6:Option V),σ=[some (.ref L),some (.ref Cs),some (.int f2.1),some (.int f2.2),some (.int ((u:Nat):Int)),some (.ref S2),v6,none]/\Same H H2/\H2 S2=some (.dK (alV al))/\SumsRel nb al b/\FracOk nb.length f2/\bestOf nb x fr u=Vblcas.closedBest nb x u (nb.length - j) j b f2)
    ⟨S,[(u,0)],b0L nb u,fr,_,rfl,sm1,zB,SumsRel.start hul,fok,rfl⟩ ?_ ?_
   ·rintro j σ H2 hj ⟨S2,al,b,f2,v6,rfl,sm2,hS2,rel,fok2,hcl⟩;refine⟨_,rfl,_,rfl,L,S2,al,rows,nb,x,rfl,hL.same sm2,hS2,hnb,ok,hsm,rel.once,rel.lt,fun H3 D al' hD s3 hD3 st=> ?_⟩;have rel':=st.rel ok (leansOk hnb x) rel;have sm3:=sm2.trans s3;have hrec:=closed_succ nb x u (nb.length - (j+1)) j b f2;rw[show nb.length - (j+1)+1=nb.length - j by omega] at hrec;rw[hrec,<-rel'.eq u hul] at hcl;have gD:DGet H3 D (.int ((u:Nat):Int)) ((lookA al' u).map V.int):=by
     have:=DGet.k (k:=Sum.inl ((u:Nat):Int)) hD3;rw[YS] at this;exact this
    refine⟨_,rfl,_,rfl,D,_,rfl,gD,_,rfl,?_⟩;cases q:lookA al' u with
    |none=>
     rw[q] at hcl;exact iteF' rfl (iteF' rfl ⟨D,al',_,f2,_,rfl,sm3,hD3,rel',fok2,hcl⟩)
    |some z=>
     rw[q] at hcl gD;have hcl:bestOf nb x fr u=Vblcas.closedBest nb x u (nb.length - (j+1)) (j+1) (Vblcas.longer nb x b) (Vblcas.greater f2 (z,((j+1:Nat):Int))):=hcl;refine iteT' rfl ?_;have fp:=fok2.pos;have fl:=fok2.le;refine⟨_,rfl,_,rfl,D,_,rfl,gD,_,rfl,_,_,rfl,rfl,.inr ⟨by omega,by omega⟩,_,rfl,_,rfl,_,_,rfl,rfl,.inr ⟨by omega,by omega⟩,_,_,rfl,rfl,_,rfl,?_⟩;have e1:((1:Int)+(j:Nat))=((j+1:Nat):Int):=by omega
     rw[e1];have fok3:=fok2.greater (s:=z) (len:=j+1) (by omega) (by omega);refine ite2 (fun hq=> ?_) (fun hq=> ?_)
     ·have hq:=of_decide_eq_true hq;have eg:Vblcas.greater f2 (z,((j+1:Nat):Int))=(z,((j+1:Nat):Int)):=by unfold Vblcas.greater;rw[if_pos hq]
      rw[eg] at hcl fok3;refine⟨_,rfl,_,rfl,D,_,rfl,gD,_,rfl,?_⟩;exact⟨D,al',_,(z,((j+1:Nat):Int)),_,rfl,sm3,hD3,rel',fok3,hcl⟩
     ·have hq: ¬f2.1 * ((j+1:Nat):Int)<z * f2.2:=fun q=>hq (decide_eq_true q);have eg:Vblcas.greater f2 (z,((j+1:Nat):Int))=f2:=by unfold Vblcas.greater;rw[if_neg hq]
      rw[eg] at hcl;exact⟨D,al',_,f2,_,rfl,sm3,hD3,rel',fok2,hcl⟩
   ·rintro σ H2 ⟨S2,al,b,f2,v6,rfl,sm2,hS2,rel,fok2,hcl⟩;rw[Nat.sub_self,closed_zero] at hcl;refine⟨f2,_,_,_,rfl,sm2,fok2,?_⟩;rw[zL eu,List.foldl_append,hfr];exact hcl
  ·rintro σ H' ⟨fr,v4,v5,v6,rfl,sm,fok,hfr⟩;rw[List.length_map,zN,List.take_length] at hfr;have f0:=fok.nn;have f1:=fok.pos;have f2:=fok.le;obtain⟨tt,ett⟩: ∃t:Nat,fr.1=(t:Int):=⟨fr.1.toNat,by omega⟩;obtain⟨ss,ess⟩: ∃t:Nat,fr.2=(t:Int):=⟨fr.2.toNat,by omega⟩;obtain⟨l1,l2,l3⟩:=lowest_pos f0 f1 (d:=((Nat.gcd tt ss:Nat):Int)) (by rw[ett,ess,Int.natAbs_natCast,Int.natAbs_natCast]);refine⟨_,rfl,_,rfl,tt,ss,by rw[ett,ess];rfl,?_⟩;refine⟨_,rfl,_,rfl,_,_,rfl,rfl,⟨l2,by omega⟩,_,rfl,_,rfl,_,_,rfl,rfl,⟨l2,by omega⟩,(by show 2<=sizeLine;decide),fun l hl=> ?_⟩;have g:Same H _:=sm.trans (Same.upd (.lst [.int (fr.1 / ((Nat.gcd tt ss:Nat):Int)),.int (fr.2 / ((Nat.gcd tt ss:Nat):Int))]) hl);refine k _ l (sm.free hl) g ?_;rw[zB];unfold speedF;rw[hfr,l1];rfl
theorem scASpeed:FnScope ["wave","numbers","row"] ["wave","numbers","row"] (defScope sASpeed):=⟨rfl,rfl,rfl,by decide +kernel,rfl,by decide +kernel,by decide +kernel⟩
theorem ok_aSpeed{f C:Addr}{fd:FuncData}(F:Fun K "answer_speed" "answer_speed" sASpeed f fd)(T:WTxt K C)(hO:IntG mg "OUT_OF_RANGE" (-1))(CB:Callee P w K mg base 1 "all_below" ["numbers","bound"] (spAllBelow K))(CL:Callee P w K mg base 3 "leans_by" ["neighbours","states"] (spLeans K))(CC:Callee P w K mg base 3 "cells_within" ["wave","start","most"] (spCells C))(CS:Callee P w K mg base 2 "speed_among" ["leans","cells"] (spSpeed K)):
  FnOk P w K mg base CX0 4 f fd ["wave","numbers","row"] (spAnswer K C 1 fun ns _=>[16::ns]):=by
 refine F.ok scASpeed (fun vs H Q E h=> ?_) (fun cdv A outer s H vs Q E hr h=> ?_)
 ·obtain⟨a,b,c,s,ns,row,rfl,_⟩:=h;rfl
 ·obtain⟨a,b,c,st,ns,row,rfl,hw,ok,hb,hn,hc,hr2,k⟩:=h;refine⟨_,zF (ZD (ZP (ZL (zP CB hr (zA (pv 1) (zA (zU (pv 0) rfl) zE))))) (zG (zM (zT (zA (zV hO) zE)))) zZ)
   (zG (zM (zP CS hr (zA (zP CL hr (zA (zU (pv 0) rfl) (zA (zU (pv 0) rfl) zE))) (zA (zP CC hr (zA (pv 0) (zA (zW K (pv 1) zK) (zA (zU (pv 0) rfl) zE)))) zE))))),?_⟩
  obtain⟨z,rfl⟩: ∃z,ns=[z]:=List.length_eq_one_iff.mp hn;obtain⟨dx,ed,nb,x,cc,rows,h1,h2,h3,h4,h5,h6,h7⟩:=id hw;have n16:=ok.n16;have n1:=ok.n1;have nl:st.graph.near.length=st.graph.n:=zf _;have inr:Vblcas.inRange st (.speed z)=belowI st.graph.n [z]:=by
   show(decide (0<=z)&&decide (z<=(st.graph.n:Int) - 1))=_;rw[below1,show decide (z<=(st.graph.n:Int) - 1)=decide (z<(st.graph.n:Int)) from decide_eq_decide.mpr (by omega)]
  refine⟨_,rfl,_,rfl,a,C,dx,_,_,rfl,h1,T.cl,T.nN,wn _ _ _ _ _ _ _,b,_,[z],rfl,hb,by show 1<sizeLine;decide,fun H1 s1=> ?_⟩;refine⟨_,rfl,ite2 (fun hq=> ?_) (fun hq=> ?_)⟩
  ·have q:belowI st.graph.n [z]=false:=by
    cases q:belowI (st.graph.n:Nat) [z] with
    |false=>rfl
    |true=>rw[q] at hq;cases hq
   have out:Vblcas.step st [[16,z]]=(st,[-1]):=by
    show(if Vblcas.inRange st (.speed z)=false then(st,[-1]) else Vblcas.act st (.speed z))=_;rw[inr,if_pos q]
   refine⟨(by show 1<=sizeLine;decide),fun l hl=> ?_⟩;have g:Same H _:=s1.trans (Same.upd (.lst [.int (-1)]) hl);exact k _ l (Same.kept g a) (by rw[out];exact hw.same g) (s1.free hl) (by rw[out];exact zB)
  ·have q:belowI st.graph.n [z]=true:=by
    cases q:belowI (st.graph.n:Nat) [z] with
    |false=>rw[q] at hq;exact absurd rfl hq
    |true=>rfl
   have hz:=ZG.mp q z List.mem_cons_self;obtain⟨m,rfl⟩: ∃m:Nat,z=(m:Int):=⟨z.toNat,by omega⟩;have ecells:cellsN st.graph m st.graph.n=Vblcas.ball st.graph.near m st.graph.near.length:=by
    unfold cellsN;rw[nl];obtain⟨j,hj⟩: ∃j,st.graph.n=j+1:=⟨st.graph.n - 1,by omega⟩;have:=ball_range (nb:=st.graph.near) (v:=m) j;rw[nl,<-hj] at this;exact this.symm
   have act:Vblcas.step st [[16,(m:Int)]]=(st,[(speedF st.graph.near st.config (cellsN st.graph m st.graph.n)).1,(speedF st.graph.near st.config (cellsN st.graph m st.graph.n)).2]):=by
    show(if Vblcas.inRange st (.speed m)=false then(st,[-1]) else Vblcas.act st (.speed m))=_;rw[inr,q,ecells];rfl
   refine⟨_,rfl,a,C,dx,_,_,rfl,s1 _ _ h1,T.cl,T.nNear,wnb _ _ _ _ _ _ _,_,rfl,a,C,dx,_,_,rfl,s1 _ _ h1,T.cl,T.nStates,wx _ _ _ _ _ _ _,nb,x,rows,st.graph.near,st.config,rfl,h3.same s1,h4,nbOk _,h5,by omega,SqL.of (s1 _ _ h6),by rw[nl];exact ok.xl,ok.x3,fun H2 L hL s2 hLT=> ?_⟩;have s12:=s1.trans s2;refine⟨_,rfl,_,rfl,b,_,_,_,rfl,rfl,s12.seq hb,zb (by decide) (by show(0:Int)<1;decide),_,rfl,a,C,dx,_,_,rfl,s12 _ _ h1,T.cl,T.nN,wn _ _ _ _ _ _ _,a,st,m,st.graph.n,rfl,hw.same s12,ok,by omega,fun H3 R3 hR3 s3 hR3v=> ?_⟩;have s13:=s12.trans s3;refine⟨L,R3,cellsN st.graph m st.graph.n,rows,st.graph.near,st.config,rfl,hLT.same s3,SqL.of hR3v,fun cI hcI=> ?_,h4,nbOk _,by omega,by omega,fun H4 r hr4 s4 hr4v=> ?_⟩
   ·unfold cellsN at hcI;rw[nl];exact List.mem_range.mp (List.mem_filter.mp hcI).1
   ·have g:=s13.trans s4;exact k _ r (Same.kept g a) (by rw[act];exact hw.same g) (s13.free hr4) (by rw[act];exact hr4v)
abbrev sEnd:Stmt:=top 1
abbrev sAEnd:Stmt:=top 67
def tAt(s:Vblcas.State)(i:Nat):Vblcas.State:={ranS (freshS s) (pAt (freshS s) i) with time:=i}
theorem StOk.fresh{s:Vblcas.State}(ok:StOk s):StOk (freshS s):=⟨ok.n1,ok.n16,ok.e,ok.srt,ok.k,ok.xl,ok.x3,by unfold freshS Vblcas.zeros;rw[List.length_replicate]⟩
theorem StOk.tAt{s:Vblcas.State}(ok:StOk s)(i:Nat):StOk (tAt s i):=by
 have p:=ok.fresh.p i;have nl:(freshS s).graph.near.length=s.graph.n:=zf _;exact⟨ok.n1,ok.n16,ok.e,ok.srt,ok.k,(p.xl.trans nl:(pAt (freshS s) i).1.length=s.graph.n),p.x3,(p.cl.trans nl:(pAt (freshS s) i).2.length=s.graph.n)⟩
theorem pAt_tAt(s:Vblcas.State)(i:Nat):pAt (tAt s i) 1=pAt (freshS s) (i+1):=by
 have e:pAt (freshS s) (i+1)=one s.graph.near s.kind (pAt (freshS s) i):=ST.zu _ _ _;rw[e];rfl
theorem ran_tAt(s:Vblcas.State)(i:Nat):{ranS (tAt s i) (pAt (tAt s i) 1) with time:=(tAt s i).time+1}=tAt s (i+1):=by
 rw[pAt_tAt];rfl
theorem went_tAt{s:Vblcas.State}(ok:StOk s)(i:Nat):(((pAt (tAt s i) 1).2.sum:Nat):Int) - (((tAt s i).counts.sum:Nat):Int)=(((stepsN s.graph.near s.kind (pAt (freshS s) i).1).sum:Nat):Int):=by
 rw[pAt_tAt];have e:pAt (freshS s) (i+1)=one s.graph.near s.kind (pAt (freshS s) i):=ST.zu _ _ _;have e2:(one s.graph.near s.kind (pAt (freshS s) i)).2.sum=(pAt (freshS s) i).2.sum+(stepsN s.graph.near s.kind (pAt (freshS s) i).1).sum:=one_sum (nb:=s.graph.near) (ok.fresh.p i);rw[e,e2];show((((pAt (freshS s) i).2.sum+_:Nat)):Int) - (((pAt (freshS s) i).2.sum:Nat):Int)=_;omega
def spEnd(C:Addr):Sp:=fun vs H Q _=>∃(a:Addr) (s:Vblcas.State) (t:Nat),vs=[.ref a]/\WaveAt C H a s/\StOk s/\t<1000/\(stepsN s.graph.near s.kind (pAt (freshS s) t).1).sum=0/\(∀j,j<t->¬(stepsN s.graph.near s.kind (pAt (freshS s) j).1).sum=0)/\
 NewInts H Q ((t:Int)::natsI (pAt (freshS s) t).2)
theorem scEnd:FnScope ["wave","trial"] ["wave"] (defScope sEnd):=⟨rfl,rfl,rfl,by decide +kernel,rfl,by decide +kernel,by decide +kernel⟩
theorem ok_end{f C:Addr}{fd:FuncData}(F:Fun K "end_of" "end_of" sEnd f fd)(T:WTxt K C)(MT:MCallee P w K mg base 6 C "twin" ["self"] (spTwin C))(MR:MCallee P w K mg base 4 C "run" ["self","generations"] (spRun C)):FnOk P w K mg base CX0 7 f fd ["wave"] (spEnd C):=by
 refine F.ok scEnd (fun vs H Q E h=> ?_) (fun cdv A outer s H vs Q E hr h=> ?_)
 ·obtain⟨a,s,t,rfl,_⟩:=h;rfl
 ·obtain⟨a,st,t,rfl,hw,ok,ht,h0,hj,k⟩:=h;refine⟨_,zF (zQ (i:=1) scEnd.nd rfl (Or.inl rfl) (YX T.cl MT hr (pv 0)))
   (zF (yX PassesOwn.never (zc op_gt (ZR T.cl MR hr (pv 1) (zA zK zE)) zK (nomark _)) (zG ps_continue))
   (zG (zM (zj yN (zT (zA (zj op_sub (zU (pv 1) rfl) zK) zE)) (zU (pv 1) rfl))))),?_⟩
  obtain⟨dx,ed,nb,x,cc,rows,h1,h2,h3,h4,h5,h6,h7⟩:=id hw;have n16:=ok.n16;have nl:(freshS st).graph.near.length=st.graph.n:=zf _;refine⟨_,rfl,a,dx,_,rfl,h1,(zm _ _ _ _ _ _ _).nom _ (by decide +kernel),a,st,rfl,hw,ok,fun H1 r hr1 s1 hw1=> ?_⟩;refine⟨fun m σ H'=>∃i,m=t+1 - i/\i<=t/\σ=[some (.ref a),some (.ref r)]/\Same H H'/\WaveAt C H' r (tAt st i),⟨_,0,rfl,Nat.zero_le _,rfl,s1,hw1⟩,?_⟩;rintro m σ H' ⟨i,rfl,hi,rfl,sm,hwi⟩;obtain⟨dx2,ed2,nb2,x2,cc2,rows2,g1,_⟩:=id hwi;refine⟨_,rfl,r,dx2,_,rfl,g1,(zm _ _ _ _ _ _ _).nom _ (by decide +kernel),r,tAt st i,1,rfl,hwi,ok.tAt i,by decide,fun H2 kp hw2=> ?_⟩;rw[ran_tAt] at hw2;rw[went_tAt ok];have sm2:Same H H2:=fun b o e=>kp b o (zJ e hr1) (sm b o e);refine⟨_,_,rfl,rfl,_,rfl,ite2 (fun hq=> ?_) (fun hq=> ?_)⟩
  ·have hq:0<(stepsN st.graph.near st.kind (pAt (freshS st) i).1).sum:=by have:=of_decide_eq_true hq;omega
   have hit:i<t:=by
    rcases(by omega:i<t∨i=t) with z|z
    ·exact z
    ·rw[z,h0] at hq;omega
   exact⟨fun σ' H''=>σ'=[some (.ref a),some (.ref r)]/\Same H H''/\WaveAt C H'' r (tAt st (i+1)),fun σ' H'' ⟨e1,e2,e3⟩=>⟨t+1 - (i+1),by omega,i+1,rfl,by omega,e1,e2,e3⟩,rfl,sm2,hw2⟩
  ·have hq:(stepsN st.graph.near st.kind (pAt (freshS st) i).1).sum=0:=by
    have: ¬(0:Int)<(((stepsN st.graph.near st.kind (pAt (freshS st) i).1).sum:Nat):Int):=fun z=>hq (decide_eq_true z);omega
   have hit:i=t:=by
    rcases(by omega:i<t∨i=t) with z|z
    ·exact absurd hq (hj i z)
    ·exact z
   subst hit;have pe:pAt (freshS st) (i+1)=pAt (freshS st) i:=by
    have e:pAt (freshS st) (i+1)=one st.graph.near st.kind (pAt (freshS st) i):=ST.zu _ _ _;rw[e];exact vD (ok.fresh.p i) hq
   obtain⟨dx3,ed3,nb3,x3,cc3,rows3,u1,u2,u3,u4,u5,u6,u7⟩:=id hw2;have cl:=(ok.fresh.p i).cl;refine⟨_,rfl,r,C,dx3,_,_,rfl,u1,T.cl,T.nTime,wt _ _ _ _ _ _ _,_,_,rfl,rfl,(by show 1<=sizeLine;decide),fun l hl=> ?_⟩;have g:Same H2 _:=Same.upd (.lst [.int (((tAt st (i+1)).time:Nat) - 1)]) hl;have sz:sizeLine=16777216:=sizeLine_eq;have u7':H2 cc3=some (.lst ((natsI (pAt (freshS st) i).2).map V.int)):=by rw[u7];show some (HO.lst ((natsI (pAt (freshS st) (i+1)).2).map V.int))=_;rw[pe]
   refine⟨_,rfl,r,C,dx3,_,_,rfl,g _ _ u1,T.cl,T.nCounts,wc _ _ _ _ _ _ _,l,cc3,_,_,rfl,rfl,zB,g _ _ u7',by rw[List.length_map,zN,cl,nl];show 1+_<=_;omega,fun q hq2=> ?_⟩;have g2:Same _ _:=Same.upd (.lst ([.int (((tAt st (i+1)).time:Nat) - 1)]++(natsI (pAt (freshS st) i).2).map V.int)) hq2;have sA:=sm2.trans g;refine k _ q (sA.free hq2) (sA.trans g2) ?_;rw[zB];show some (HO.lst (V.int (((i+1:Nat):Int) - 1)::(natsI (pAt (freshS st) i).2).map V.int))=some (HO.lst (V.int (i:Nat)::(natsI (pAt (freshS st) i).2).map V.int));rw[show(((i+1:Nat):Int) - 1)=((i:Nat):Int) by omega]
theorem scAEnd:FnScope ["wave","numbers","row"] ["wave","numbers","row"] (defScope sAEnd):=⟨rfl,rfl,rfl,by decide +kernel,rfl,by decide +kernel,by decide +kernel⟩
theorem ok_aEnd{f C:Addr}{fd:FuncData}(F:Fun K "answer_end" "answer_end" sAEnd f fd)(hE:IntG mg "NO_END" (-6))(CL:Callee P w K mg base 8 "lives" ["wave"] (spLives C))(CE:Callee P w K mg base 7 "end_of" ["wave"] (spEnd C)):FnOk P w K mg base CX0 9 f fd ["wave","numbers","row"] (spAnswer K C 0 fun _ _=>[[14]]):=by
 refine F.ok scAEnd (fun vs H Q E h=> ?_) (fun cdv A outer s H vs Q E hr h=> ?_)
 ·obtain⟨a,b,c,s,ns,row,rfl,_⟩:=h;rfl
 ·obtain⟨a,b,c,st,ns,row,rfl,hw,ok,hb,hn,hc,hr2,k⟩:=h;refine⟨_,zF (ZD (ZL (zP CL hr (zA (pv 0) zE))) (zG (zM (zT (zA (zV hE) zE)))) zZ)
   (zG (zM (zP CE hr (zA (pv 0) zE)))),?_⟩
  have act:Vblcas.step st [[14]]=if Vblcas.lives st.graph st.config=true then(st,[-6]) else match Vblcas.stillAt st.graph.near st.kind Vblcas.MOST 0 st.config with
   |none=>(st,[-6])
   |some t=>(st,(t:Int)::Vblcas.goesTillEnd (Vblcas.forest st.graph.near) st.kind st.config):=rfl
  refine⟨_,rfl,a,st,rfl,hw,ok,fun H1 s1=>⟨_,rfl,ite2 (fun hq=> ?_) (fun hq=> ?_)⟩⟩
  ·rw[if_pos hq] at act;refine⟨(by show 1<=sizeLine;decide),fun l hl=> ?_⟩;have g:Same H _:=s1.trans (Same.upd (.lst [.int (-6)]) hl);exact k _ l (Same.kept g a) (by rw[act];exact hw.same g) (s1.free hl) (by rw[act];exact zB)
  ·rw[if_neg hq] at act;have hl:Vblcas.lives st.graph st.config=false:=by
    cases z:Vblcas.lives st.graph st.config with
    |false=>rfl
    |true=>exact absurd z hq
   obtain⟨t,t1,t2,t3,t4,t5⟩:=end_math ok.e ok.n16 ok.k ok.xl ok.x3 hl;rw[t2] at act;have act:Vblcas.step st [[14]]=(st,(t:Int)::Vblcas.goesTillEnd (Vblcas.forest st.graph.near) st.kind st.config):=act;rw[t5] at act;refine⟨_,rfl,a,st,t,rfl,hw.same s1,ok,t1,t3,t4,fun H2 r hr3 s2 hr4=> ?_⟩;have g:=s1.trans s2;exact k _ r (Same.kept g a) (by rw[act];exact hw.same g) (s1.free hr3) (by rw[act];exact hr4)
abbrev sCourse:Stmt:=top 2
abbrev sACourse:Stmt:=top 70
def keyN(x:List Nat):List Key:=(natsI x).map Sum.inl
theorem keyN_V(x:List Nat):(keyN x).map kV=(natsI x).map V.int:=by
 unfold keyN;rw[List.map_map];rfl
theorem keyN_inj: ∀{x y:List Nat},keyN x=keyN y->x=y
 |[],[],_=>rfl
 |[],b::y,h=>by cases h
 |a::x,[],h=>by cases h
 |a::x,b::y,h=>by
  have h:=List.cons.inj (show Sum.inl ((a:Nat):Int)::keyN x=Sum.inl ((b:Nat):Int)::keyN y from h);have e1:((a:Nat):Int)=((b:Nat):Int):=Sum.inl.inj h.1;rw[keyN_inj h.2,show a=b by omega]
def seenL(nb:Vblcas.Near)(k:Nat)(x:List Nat)(n:Nat):List (List Key×V):=(List.range n).map fun i=>(keyN (xAt nb k x i),V.int (i:Nat))
theorem JC(nb:Vblcas.Near)(k:Nat)(x:List Nat)(n:Nat):seenL nb k x (n+1)=seenL nb k x n++[(keyN (xAt nb k x n),V.int (n:Nat))]:=by
 unfold seenL;rw[List.range_succ,List.map_append];rfl
theorem Jx{nb:Vblcas.Near}{k:Nat}{x:List Nat}{n:Nat}{y:List Nat}(h: ∀j,j<n->xAt nb k x j≠y):valV (seenL nb k x n) (keyN y)=none:=by
 unfold valV seenL;rw[Option.map_eq_none_iff,List.find?_eq_none];intro p hp;obtain⟨i,hi,rfl⟩:=List.mem_map.mp hp;intro q;exact h i (List.mem_range.mp hi) (keyN_inj (of_decide_eq_true q))
theorem Jw{nb:Vblcas.Near}{k:Nat}{x:List Nat}: ∀{n j:Nat} {y:List Nat},Apart nb k x n->j<n->xAt nb k x j=y->valV (seenL nb k x n) (keyN y)=some (.int (j:Nat))
 |0,j,y,_,h,_=>by omega
 |n+1,j,y,A,h,e=>by
  have A':Apart nb k x n:=fun a b h1 h2=>A a b h1 (by omega);unfold valV;rw[JC,List.find?_append];by_cases q:j<n
  ·have ih:=Jw A' q e;unfold valV at ih;obtain⟨p,hp,hp2⟩:=Option.map_eq_some_iff.mp ih;rw[hp];exact congrArg some hp2
  ·obtain rfl:j=n:=by omega
   have ih:=Jx (nb:=nb) (k:=k) (x:=x) (n:=j) (y:=y) fun i hi z=>A i j hi (by omega) (by rw[z,e]);unfold valV at ih;rw[Option.map_eq_none_iff] at ih;rw[ih];rw[List.find?_cons_of_pos (by exact decide_eq_true (by rw[e]))];rfl
theorem putK_new{κ:Type}[DecidableEq κ]{kvs:List (κ×V)}{k:κ}{v:V}(h:valV kvs k=none):putK kvs k v=kvs++[(k,v)]:=by
 unfold putK;rw[if_neg];intro q;obtain⟨p,hp,e⟩:=List.any_eq_true.mp q;unfold valV at h;rw[Option.map_eq_none_iff,List.find?_eq_none] at h;exact h p hp e
theorem tAt_config(s:Vblcas.State)(i:Nat):(tAt s i).config=xAt s.graph.near s.kind s.config i:=iter_xAt i
def courseI(s:Vblcas.State)(most:Nat):List Int:=match Vblcas.course s.graph.near s.kind most s.config [] with
 |none=>[0]
 |some y=>[1,(y.1:Int),(y.2:Int)]
def spCourse(C:Addr):Sp:=fun vs H Q _=>∃(a:Addr) (s:Vblcas.State) (most:Nat),vs=[.ref a,.int (most:Nat)]/\WaveAt C H a s/\StOk s/\1<=most/\most<=1000/\NewInts H Q (courseI s most)
theorem scCourse:FnScope ["wave","most","trial","seen","generation","states"] ["wave","most"] (defScope sCourse):=⟨rfl,rfl,rfl,by decide +kernel,rfl,by decide +kernel,by decide +kernel⟩
theorem ok_course{f C:Addr}{fd:FuncData}(F:Fun K "course_of" "course_of" sCourse f fd)(B:Bi mg)(T:WTxt K C)(MT:MCallee P w K mg base 6 C "twin" ["self"] (spTwin C))(MR:MCallee P w K mg base 4 C "run" ["self","generations"] (spRun C)):FnOk P w K mg base CX0 7 f fd ["wave","most"] (spCourse C):=by
 refine F.ok scCourse (fun vs H Q E h=> ?_) (fun cdv A outer s H vs Q E hr h=> ?_)
 ·obtain⟨a,s,most,rfl,_⟩:=h;rfl
 ·obtain⟨a,st,most,rfl,hw,ok,hm1,hm2,k⟩:=h;refine⟨_,zF (zQ (i:=2) scCourse.nd rfl (Or.inl rfl) (YX T.cl MT hr (pv 0)))
   (zF (zQ (i:=3) scCourse.nd rfl (Or.inl rfl) (pe_disp1 hr.units0 (yq yz rfl B.tuple boot_tuple (zA (zU (pv 2) rfl) zE)) zK))
   (zF (ZV PassesOwn.never rfl (Jz rfl B.range (zA zK (zA (zj ZJ (pv 1) zK) zE))) (ZQ (i:=4) scCourse.nd rfl (Or.inl rfl))
    (zF (zg (ZR T.cl MR hr (pv 2) (zA zK zE)))
    (zF (zQ (i:=5) scCourse.nd rfl (Or.inl rfl) (yq yz rfl B.tuple boot_tuple (zA (zU (pv 2) rfl) zE)))
    (zF (ZD (pt_cmp (pc_din (vM hr) (pv 5) (pv 3))) (zG (zM (zT (zA zK (zA (yM (vM hr) (pv 3) (pv 5) (fun _ _=>rfl)) (zA (zj op_sub (pv 4) (yM (vM hr) (pv 3) (pv 5) (fun _ _=>rfl))) zE)))))) zZ)
    (zG (ps_dput (vM hr) (pv 3) (pv 5) (pv 4) rfl))))))
   (zG (zM (zT (zA zK zE)))))),?_⟩
  obtain⟨dx,ed,nb,x,cc,rows,h1,h2,h3,h4,h5,h6,h7⟩:=id hw;have n16:=ok.n16;have sz:sizeLine=16777216:=sizeLine_eq;refine⟨_,rfl,a,dx,_,rfl,h1,(zm _ _ _ _ _ _ _).nom _ (by decide +kernel),a,st,rfl,hw,ok,fun H1 r hr1 s1 hw1=> ?_⟩;intro S hS;obtain⟨dx1,ed1,nb1,x1,cc1,rows1,g1,_,_,_,_,g6,_⟩:=id hw1;have q1:Same H1 (upd H1 S (.dT [])):=Same.upd _ hS;refine⟨_,rfl,r,C,dx1,_,_,rfl,q1 _ _ g1,T.cl,T.nStates,wx _ _ _ _ _ _ _,x1,_,rfl,.inl ⟨SqL.of (q1 _ _ g6),fun l hl=> ?_⟩⟩;have lS:l≠S:=fun z=>by rw[z,zB] at hl;cases hl
  have q2:Same (upd H1 S (.dT [])) (upd (upd H1 S (.dT [])) l (.tup ((natsI (freshS st).config).map V.int))):=Same.upd _ hl;refine⟨l,keyN st.config,rfl,by rw[zB,keyN_V];rfl,by rw[zH lS.symm,zB],?_⟩;have hSH:H S=none:=s1.free hS;have hSr:S≠r:=fun z=>by rw[z,g1] at hS;cases hS
  have q3:Same H1 (upd (upd (upd H1 S (.dT [])) l (.tup ((natsI (freshS st).config).map V.int))) S (.dT [(keyN st.config,V.int 0)])):=fun b o e=>by
   rw[zH (zJ e hS)];exact q2 _ _ (q1 _ _ e)
  refine⟨_,rfl,_,_,rfl,rfl,1,((most:Nat):Int)+1,rfl,⟨by omega,by omega,by omega,by omega⟩,?_⟩;rw[show(((most:Nat):Int)+1 - 1).toNat=most by omega];refine yH (lo:=1) (n:=most) (fun i σ H'=>∃v4 v5,σ=[some (.ref a),some (.int (most:Nat)),some (.ref r),some (.ref S),v4,v5]/\Same H H'/\WaveAt C H' r (tAt st i)/\H' S=some (.dT (seenL st.graph.near st.kind st.config (i+1)))/\Apart st.graph.near st.kind st.config (i+1)/\Vblcas.course st.graph.near st.kind most st.config []=Vblcas.course st.graph.near st.kind (most - i) (xAt st.graph.near st.kind st.config i) (pastL st.graph.near st.kind st.config i))
   ⟨none,none,rfl,s1.trans q3,hw1.same q3,zB,fun i j h1 h2=>by omega,rfl⟩ ?_ ?_
  ·rintro i σ H' hi ⟨v4,v5,rfl,sm,hwi,hSv,Ap,hco⟩;obtain⟨dx2,ed2,nb2,x2,cc2,rows2,e1,_⟩:=id hwi;refine⟨_,rfl,r,dx2,_,rfl,e1,(zm _ _ _ _ _ _ _).nom _ (by decide +kernel),r,tAt st i,1,rfl,hwi,ok.tAt i,by decide,fun H2 kp hw2=> ?_⟩;rw[ran_tAt] at hw2;have sm2:Same H H2:=fun b o e=>kp b o (zJ e hr1) (sm b o e);have hS2:H2 S=some (.dT (seenL st.graph.near st.kind st.config (i+1))):=kp _ _ hSr hSv;obtain⟨dx3,ed3,nb3,x3,cc3,rows3,u1,u2,u3,u4,u5,u6,u7⟩:=id hw2;refine⟨_,rfl,r,C,dx3,_,_,rfl,u1,T.cl,T.nStates,wx _ _ _ _ _ _ _,x3,_,rfl,.inl ⟨SqL.of u6,fun l2 hl2=> ?_⟩⟩;rw[tAt_config];have q4:Same H2 (upd H2 l2 (.tup ((natsI (xAt st.graph.near st.kind st.config (i+1))).map V.int))):=Same.upd _ hl2;have hkey:(upd H2 l2 (.tup ((natsI (xAt st.graph.near st.kind st.config (i+1))).map V.int))) l2=some (.tup ((keyN (xAt st.graph.near st.kind st.config (i+1))).map kV)):=by rw[zB,keyN_V]
   have hS3:=q4 _ _ hS2;have sm3:=sm2.trans q4;have apj: ∀j,j<i->xAt st.graph.near st.kind st.config j≠xAt st.graph.near st.kind st.config i:=fun j hj=>Ap j i hj (by omega);have hco2:Vblcas.course st.graph.near st.kind most st.config []=Vblcas.course st.graph.near st.kind (most - (i+1)) (xAt st.graph.near st.kind st.config (i+1)) (pastL st.graph.near st.kind st.config (i+1)):=by
    rw[hco,show most - i=(most - (i+1))+1 by omega];exact course_go apj
   have gt:=DGet.t hS3 hkey;refine⟨_,rfl,_,rfl,S,_,rfl,gt,_,rfl,?_⟩;by_cases hit: ∃j,j<i+1/\xAt st.graph.near st.kind st.config j=xAt st.graph.near st.kind st.config (i+1)
   ·obtain⟨j,hj,ej⟩:=hit;have hv:=Jw Ap hj ej;rw[hv] at gt ⊢;refine iteT' rfl ?_;refine⟨_,rfl,_,rfl,S,_,rfl,gt,_,rfl,_,rfl,_,rfl,S,_,rfl,gt,_,_,rfl,rfl,(by show 3<=sizeLine;decide),fun l3 hl3=> ?_⟩;have g:Same H _:=sm3.trans (Same.upd (.lst [.int 1,.int (j:Nat),.int ((1:Int)+(i:Nat) - (j:Nat))]) hl3);refine k _ l3 (sm3.free hl3) g ?_;rw[zB];unfold courseI;rw[hco2,course_hit Ap hj ej];show some (HO.lst [.int 1,.int (j:Nat),.int ((1:Int)+(i:Nat) - (j:Nat))])=some (HO.lst [.int 1,.int (j:Nat),.int ((i+1 - j:Nat):Int)]);rw[show((1:Int)+(i:Nat) - (j:Nat))=((i+1 - j:Nat):Int) by omega]
   ·have hno: ∀j,j<i+1->xAt st.graph.near st.kind st.config j≠xAt st.graph.near st.kind st.config (i+1):=fun j hj e=>hit ⟨j,hj,e⟩;have hv:=Jx hno;rw[hv];refine iteF' rfl ?_;refine⟨_,rfl,_,rfl,_,rfl,S,_,rfl,DPut.t hS3 hkey (by unfold seenL;rw[List.length_map,List.length_range];omega),?_⟩;rw[putK_new hv];refine⟨_,_,rfl,fun b o e=>by rw[zH (zJ e hSH)];exact sm3 b o e,?_,?_,Ap.next hno,hco2⟩
    ·obtain hw3:=hw2.same q4;obtain⟨dx4,ed4,nb4,x4,cc4,rows4,w1,w2,w3,w4,w5,w6,w7⟩:=hw3;have nS: ∀b o,(upd H2 l2 (.tup ((natsI (xAt st.graph.near st.kind st.config (i+1))).map V.int))) b=some o->(∀kvs,o≠ .dT kvs)->b≠S:=fun b o e ne z=>by
      rw[z,hS3] at e;exact ne _ (Option.some.inj e).symm
     have cp: ∀b o,(∀kvs,o≠ .dT kvs)->(upd H2 l2 (.tup ((natsI (xAt st.graph.near st.kind st.config (i+1))).map V.int))) b=some o->(upd (upd H2 l2 (.tup ((natsI (xAt st.graph.near st.kind st.config (i+1))).map V.int))) S (.dT (seenL st.graph.near st.kind st.config (i+1)++[(keyN (xAt st.graph.near st.kind st.config (i+1)),V.int (1+(i:Nat)))]))) b=some o:=fun b o ne e=>by rw[zH (nS b o e ne)];exact e
     refine⟨dx4,ed4,nb4,x4,cc4,rows4,cp _ _ (fun _ z=>by cases z) w1,?_,?_,w4,w5,cp _ _ (fun _ z=>by cases z) w6,cp _ _ (fun _ z=>by cases z) w7⟩
     ·obtain⟨ps,z1,z2,z3⟩:=w2;exact⟨ps,cp _ _ (fun _ z=>by cases z) z1,z2,fun i p r e1 e2=>cp _ _ (fun _ z=>by cases z) (z3 i p r e1 e2)⟩
     ·obtain⟨ps,z1,z2,z3⟩:=w3;exact⟨ps,cp _ _ (fun _ z=>by cases z) z1,z2,fun i p r e1 e2=>cp _ _ (fun _ z=>by cases z) (z3 i p r e1 e2)⟩
    ·rw[zB,JC st.graph.near st.kind st.config (i+1)];rw[show((1:Int)+(i:Nat))=((i+1:Nat):Int) by omega]
  ·rintro σ H' ⟨v4,v5,rfl,sm,hwi,hSv,Ap,hco⟩;refine⟨(by show 1<=sizeLine;decide),fun l hl=> ?_⟩;have g:Same H _:=sm.trans (Same.upd (.lst [.int 0]) hl);refine k _ l (sm.free hl) g ?_;rw[zB];unfold courseI;rw[hco,Nat.sub_self,course_out fun j hj=>Ap j most hj (by omega)];rfl
theorem scACourse:FnScope ["wave","numbers","row"] ["wave","numbers","row"] (defScope sACourse):=⟨rfl,rfl,rfl,by decide +kernel,rfl,by decide +kernel,by decide +kernel⟩
theorem ok_aCourse{f C:Addr}{fd:FuncData}(F:Fun K "answer_course" "answer_course" sACourse f fd)(hM:IntG mg "MOST_GENERATIONS" 1000)(hO:IntG mg "OUT_OF_RANGE" (-1))(CC:Callee P w K mg base 7 "course_of" ["wave","most"] (spCourse C)):FnOk P w K mg base CX0 8 f fd ["wave","numbers","row"] (spAnswer K C 1 fun ns _=>[17::ns]):=by
 refine F.ok scACourse (fun vs H Q E h=> ?_) (fun cdv A outer s H vs Q E hr h=> ?_)
 ·obtain⟨a,b,c,s,ns,row,rfl,_⟩:=h;rfl
 ·obtain⟨a,b,c,st,ns,row,rfl,hw,ok,hb,hn,hc,hr2,k⟩:=h;refine⟨_,zF (ZD (ZP (JN jQ jQ zK (zW K (pv 1) zK) (zV hM))) (zG (zM (zT (zA (zV hO) zE)))) zZ)
   (zG (zM (zP CC hr (zA (pv 0) (zA (zW K (pv 1) zK) zE))))),?_⟩
  obtain⟨z,rfl⟩: ∃z,ns=[z]:=List.length_eq_one_iff.mp hn;have inr:Vblcas.inRange st (.course z)=(decide (1<=z)&&decide (z<=1000)):=rfl;have refuse: ∀(D:Ends),D.rt=Q->(decide (1<=z)&&decide (z<=1000))=false->tRet (tLst (tCons (tC (.int (-1))) tNil)) D [some (.ref a),some (.ref b),some (.ref c)] H:=fun D eD q=>by
   have out:Vblcas.step st [[17,z]]=(st,[-1]):=by
    show(if Vblcas.inRange st (.course z)=false then(st,[-1]) else Vblcas.act st (.course z))=_;rw[inr,if_pos q]
   refine⟨(by show 1<=sizeLine;decide),fun l hl=> ?_⟩;have g:Same H _:=Same.upd (.lst [.int (-1)]) hl;rw[eD];exact k _ l (Same.kept g a) (by rw[out];exact hw.same g) hl (by rw[out];exact zB)
  have az:atI ([z].map V.int) 0=some (.int z):=Zf (j:=0) rfl;refine⟨_,rfl,b,_,_,_,rfl,rfl,hb,az,1,z,rfl,rfl,_,rfl,?_⟩;refine ite2 (fun hA=> ?_) (fun hA=> ?_)
  ·refine⟨_,_,rfl,rfl,_,rfl,?_⟩;refine ite2 (fun hB=> ?_) (fun hB=> ?_)
   ·have:decide (z<=1000)=false:=by
     cases q:decide (z<=1000) with
     |false=>rfl
     |true=>rw[q] at hB;cases hB
    exact refuse _ rfl (by rw[this,Bool.and_false])
   ·have hB:decide (z<=1000)=true:=by
     cases q:decide (z<=1000) with
     |false=>rw[q] at hB;exact absurd rfl hB
     |true=>rfl
    have z1:=of_decide_eq_true hA;have z2:=of_decide_eq_true hB;obtain⟨m,rfl⟩: ∃m:Nat,z=(m:Int):=⟨z.toNat,by omega⟩;have act:Vblcas.step st [[17,(m:Int)]]=(st,courseI st m):=by
     show(if Vblcas.inRange st (.course m)=false then(st,[-1]) else Vblcas.act st (.course m))=_;rw[inr,hA,hB];rfl
    refine⟨_,rfl,_,rfl,b,_,_,_,rfl,rfl,hb,az,a,st,m,rfl,hw,ok,by omega,by omega,fun H2 r hr3 s2 hr4=> ?_⟩;exact k _ r (Same.kept s2 a) (by rw[act];exact hw.same s2) hr3 (by rw[act];exact hr4)
  ·have:decide (1<=z)=false:=by
    cases q:decide (1<=z) with
    |false=>rfl
    |true=>exact absurd q hA
   exact⟨_,rfl,iteT (refuse _ rfl (by rw[this,Bool.false_and]))⟩
theorem scALean:FnScope ["wave","numbers","row"] ["wave","numbers","row"] (defScope sALean):=⟨rfl,rfl,rfl,by decide +kernel,rfl,by decide +kernel,by decide +kernel⟩
theorem ok_aLean{f C:Addr}{fd:FuncData}(F:Fun K "answer_lean" "answer_lean" sALean f fd)(T:WTxt K C)(hD:IntG mg "DONE" 0)(hO:IntG mg "OUT_OF_RANGE" (-1))(hN:IntG mg "NOT_TOUCHING" (-5))(CB:Callee P w K mg base 1 "all_below" ["numbers","bound"] (spAllBelow K))(CW:Callee P w K mg base 1 "is_walk" ["neighbours","cells"] (spIsWalk K))(CL:Callee P w K mg base 2 "lean_between" ["a","b"] spLean):
  FnOk P w K mg base CX0 3 f fd ["wave","numbers","row"] (spAnswer K C 2 fun ns _=>[8::ns]):=by
 refine F.ok scALean (fun vs H Q E h=> ?_) (fun cdv A outer s H vs Q E hr h=> ?_)
 ·obtain⟨a,b,c,s,ns,row,rfl,_⟩:=h;rfl
 ·obtain⟨a,b,c,st,ns,row,rfl,hw,ok,hb,hn,hc,hr2,k⟩:=h;refine⟨_,zF (ZD (ZP (ZL (zP CB hr (zA (pv 1) (zA (zU (pv 0) rfl) zE))))) (zG (zM (zT (zA (zV hO) zE)))) zZ)
   (zF (ZD (ZP (ZL (zP CW hr (zA (zU (pv 0) rfl) (zA (pv 1) zE))))) (zG (zM (zT (zA (zV hN) zE)))) zZ)
   (zG (zM (zT (zA (zV hD) (zA (zP CL hr (zA (zW K (zU (pv 0) rfl) (zW K (pv 1) zK)) (zA (zW K (zU (pv 0) rfl) (zW K (pv 1) zK)) zE))) zE)))))),?_⟩
  obtain⟨u,v,rfl⟩: ∃u v,ns=[u,v]:=by
   match ns,hn with
   |[u,v],_=>exact⟨u,v,rfl⟩
  obtain⟨dx,ed,nb,x,cc,rows,h1,h2,h3,h4,h5,h6,h7⟩:=id hw;have sz:sizeLine=16777216:=sizeLine_eq;have n16:=ok.n16;have xl:=ok.xl;have rl:rows.length=st.graph.n:=by rw[h4.len];exact zf _
  have inr:Vblcas.inRange st (.lean u v)=belowI st.graph.n [u,v]:=by
   show(Vblcas.within u 0 ((st.graph.n:Int) - 1)&&Vblcas.within v 0 ((st.graph.n:Int) - 1))=_;rw[<-ZC];show _=(Vblcas.within u 0 ((st.graph.n:Int) - 1)&&(Vblcas.within v 0 ((st.graph.n:Int) - 1)&&true));rw[Bool.and_true]
  refine⟨_,rfl,_,rfl,a,C,dx,_,_,rfl,h1,T.cl,T.nN,wn _ _ _ _ _ _ _,b,_,[u,v],rfl,hb,by show 2<sizeLine;decide,fun H1 s1=> ?_⟩;refine⟨_,rfl,ite2 (fun hq=> ?_) (fun hq=> ?_)⟩
  ·have hf:belowI st.graph.n [u,v]=false:=by
    cases q:belowI (st.graph.n:Nat) [u,v] with
    |false=>rfl
    |true=>rw[q] at hq;cases hq
   have act:Vblcas.step st [[8,u,v]]=(st,[-1]):=by
    show(if Vblcas.inRange st (.lean u v)=false then(st,[-1]) else Vblcas.act st (.lean u v))=_;rw[inr,if_pos hf]
   refine⟨(by show 1<=sizeLine;decide),fun l hl=> ?_⟩;have g:Same H _:=s1.trans (Same.upd (.lst [.int (-1)]) hl);exact k _ l (Same.kept g a) (by rw[act];exact hw.same g) (s1.free hl) (by rw[act];exact zB)
  ·have hb3:belowI st.graph.n [u,v]=true:=by
    cases q:belowI (st.graph.n:Nat) [u,v] with
    |false=>rw[q] at hq;exact absurd rfl hq
    |true=>rfl
   have hz:=ZG.mp hb3;have hu:=hz u List.mem_cons_self;have hv:=hz v (List.mem_cons_of_mem _ List.mem_cons_self);obtain⟨m,rfl⟩: ∃m:Nat,u=(m:Int):=⟨u.toNat,by omega⟩;obtain⟨n,rfl⟩: ∃n:Nat,v=(n:Int):=⟨v.toNat,by omega⟩;have act:Vblcas.step st [[8,(m:Int),(n:Int)]]=if st.graph.adjacent m n=false then(st,[-5]) else(st,[0,Vblcas.lean (Vblcas.at_ st.config m) (Vblcas.at_ st.config n)]):=by
    show(if Vblcas.inRange st (.lean m n)=false then(st,[-1]) else Vblcas.act st (.lean m n))=_;rw[inr,hb3];rfl
   have we:isWalkI rows [(m:Int),(n:Int)]=st.graph.adjacent m n:=by
    show((rows.getD ((m:Nat):Int).toNat []).contains ((n:Nat):Int)&&true)=_;rw[Bool.and_true,Yk h4 (by omega) (by omega)]
   refine⟨_,rfl,a,C,dx,_,_,rfl,s1 _ _ h1,T.cl,T.nNear,wnb _ _ _ _ _ _ _,_,rfl,nb,b,rows,_,rfl,(h3.same s1).rows,s1.seq hb,by show 2<sizeLine;decide,fun z hzz=>by rw[rl];exact hz z hzz,fun H2 s2=> ?_⟩;have s12:=s1.trans s2;refine⟨_,rfl,?_⟩;rw[we];refine ite2 (fun hw1=> ?_) (fun hw1=> ?_)
   ·have hf:st.graph.adjacent m n=false:=by
     cases q:st.graph.adjacent m n with
     |false=>rfl
     |true=>rw[q] at hw1;cases hw1
    rw[if_pos hf] at act;refine⟨(by show 1<=sizeLine;decide),fun l hl=> ?_⟩;have g:Same H _:=s12.trans (Same.upd (.lst [.int (-5)]) hl);exact k _ l (Same.kept g a) (by rw[act];exact hw.same g) (s12.free hl) (by rw[act];exact zB)
   ·have hf:st.graph.adjacent m n=true:=by
     cases q:st.graph.adjacent m n with
     |false=>rw[q] at hw1;exact absurd rfl hw1
     |true=>rfl
    rw[if_neg (by rw[hf];exact Bool.noConfusion)] at act;refine⟨_,rfl,a,C,dx,_,_,rfl,s12 _ _ h1,T.cl,T.nStates,wx _ _ _ _ _ _ _,_,rfl,b,_,_,_,rfl,rfl,s12.seq hb,zb (by decide) (by show(0:Int)<2;decide),x,_,_,_,rfl,rfl,SqL.of (s12 _ _ h6),Zm (by show m<_;omega),_,rfl,a,C,dx,_,_,rfl,s12 _ _ h1,T.cl,T.nStates,wx _ _ _ _ _ _ _,_,rfl,b,_,_,_,rfl,rfl,s12.seq hb,zb (by decide) (by show(1:Int)<2;decide),x,_,_,_,rfl,rfl,SqL.of (s12 _ _ h6),Zm (by show n<_;omega),_,_,rfl,?_⟩;rw[jm (ok.x3.at m) (ok.x3.at n)];refine⟨(by show 2<=sizeLine;decide),fun l hl=> ?_⟩;have g:Same H _:=s12.trans (Same.upd (.lst [.int 0,.int (Vblcas.lean (Vblcas.at_ st.config m) (Vblcas.at_ st.config n))]) hl);exact k _ l (Same.kept g a) (by rw[act];exact hw.same g) (s12.free hl) (by rw[act];exact zB)
theorem scATold:FnScope ["wave","numbers","row","told","a","b"] ["wave","numbers","row"] (defScope sATold):=⟨rfl,rfl,rfl,by decide +kernel,rfl,by decide +kernel,by decide +kernel⟩
theorem ok_aTold{f C:Addr}{fd:FuncData}(F:Fun K "answer_told" "answer_told" sATold f fd)(B:Bi mg)(T:WTxt K C):FnOk P w K mg base CX0 1 f fd ["wave","numbers","row"] (spAnswer K C 0 fun _ _=>[[1]]):=by
 refine F.ok scATold (fun vs H Q E h=> ?_) (fun cdv A outer s H vs Q E hr h=> ?_)
 ·obtain⟨a,b,c,s,ns,row,rfl,_⟩:=h;rfl
 ·obtain⟨a,b,c,st,ns,row,rfl,hw,ok,hb,hn,hc,hr2,k⟩:=h;refine⟨_,zF (zQ (i:=3) scATold.nd rfl (Or.inl rfl) (zT (zA (zU (pv 0) rfl) (zA (zX zY rfl B.len PySem.boot_len (zA (zU (pv 0) rfl) zE)) zE))))
   (zF (ZV PassesOwn.never rfl (zq (zU (pv 0) rfl)) (pgt2 K 4 5 scATold.nd)
    (zG (zg (yP PySem.F.plainAttrs_list PySem.F.slot_list_extend PySem.F.type_list_extend Yy (pv 3) (zA (zT (zA (pv 4) (zA (pv 5) zE))) zE)))))
   (zG (zM (pv 3)))),?_⟩
  obtain⟨dx,ed,nb,x,cc,rows,h1,h2,h3,h4,h5,h6,h7⟩:=id hw;have sz:sizeLine=16777216:=sizeLine_eq;have few:=ok.few;obtain⟨ps,p1,p2,p3⟩:=id h2;rw[List.length_map] at p2;have act:Vblcas.step st [[1]]=(st,(st.graph.n:Int)::(st.graph.edges.length:Int)::st.graph.edges.flatMap fun e=>[(e.1:Int),(e.2:Int)]):=rfl;refine⟨_,rfl,a,C,dx,_,_,rfl,h1,T.cl,T.nN,wn _ _ _ _ _ _ _,_,rfl,a,C,dx,_,_,rfl,h1,T.cl,T.nEdges,we _ _ _ _ _ _ _,ed,_,rfl,.inl (SqL.of p1),(by show 2<=sizeLine;decide),fun l hl=> ?_⟩;rw[List.length_map,p2];have g1:Same H (upd H l (.lst [.int (st.graph.n:Nat),.int (st.graph.edges.length:Nat)])):=Same.upd _ hl;refine⟨_,rfl,a,C,dx,_,_,rfl,g1 _ _ h1,T.cl,T.nEdges,we _ _ _ _ _ _ _,ed,rfl,⟨_,SqL.of (g1 _ _ p1)⟩,?_⟩;refine Ze (K:=K) (a:=ed) (xs:=ps.map V.ref) (fun i σ H'=>∃v4 v5,σ=[some (.ref a),some (.ref b),some (.ref c),some (.ref l),v4,v5]/\Same H H'/\H' l=some (.lst (((st.graph.n:Int)::(st.graph.edges.length:Int)::(st.graph.edges.take i).flatMap fun e=>[(e.1:Int),(e.2:Int)]).map V.int)))
   ⟨none,none,rfl,g1,zB⟩ (fun i σ H' _ ⟨_,_,_,sm,_⟩=>SqL.of (sm _ _ p1)) ?_ ?_
  ·rintro i y σ H' hi ⟨v4,v5,rfl,sm,hl'⟩;obtain⟨p,ep,rfl⟩:=getElem?_mapR hi;have il:=(List.getElem?_eq_some_iff.mp ep).1;obtain⟨e,ee⟩: ∃e,st.graph.edges[i]? =some e:=⟨_,List.getElem?_eq_getElem (by rw[<-p2];exact il)⟩;refine⟨p,_,rfl,SqT.of (sm _ _ (p3 i p (eI e) ep (by rw[List.getElem?_map,ee];rfl))),rfl,_,_,rfl,_,_,rfl,rfl,?_⟩;have flen: ∀es:List (Nat×Nat),(es.flatMap fun e=>[(e.1:Int),(e.2:Int)]).length=2 * es.length:=fun es=>by
    induction es with
    |nil=>rfl
    |cons e es ih=>rw[List.flatMap_cons,List.length_append,ih];show 2+2 * es.length=2 * (es.length+1);omega
   refine⟨_,rfl,.inl ⟨rfl,_,SqL.of hl'⟩,_,rfl,_,rfl,(by show 2<=sizeLine;decide),fun m hm=> ?_⟩;have ml:l≠m:=zJ hl' hm;refine⟨l,m,_,_,rfl,rfl,by rw[zH ml];exact hl',zB,?_,?_⟩
   ·rw[List.length_map,List.length_cons,List.length_cons,flen,List.length_take];show _+2<=_;omega
   ·refine⟨_,_,rfl,fun b o e=> ?_,?_⟩
    ·have g:=sm b o e;have hlH:H l=none:=hl;rw[zH (zJ e hlH),zH (zJ g hm)];exact g
    ·rw[zB,zL ee,List.flatMap_append];simp[eI]
  ·rintro σ H' ⟨v4,v5,rfl,sm,hl'⟩;rw[List.length_map,p2,List.take_length] at hl';exact⟨_,rfl,k H' l (Same.kept sm a) (hw.same sm) hl hl'⟩
end
end GW
section
namespace L2
open PySem PySem.Spec PyProof.Rows
open PySem.W (WData Codec OpenSpec Well WellAll ReadsW ReadsAllW)
mutual
inductive Dw(K:PySem.W.Frag)(H:Hp):V->WData->Prop
 |non:Dw K H .non .none
 |bl (b:Bool):Dw K H (.bl b) (.bool b)
 |int (i:Int):Dw K H (.int i) (.int i)
 |str (x:Str):Dw K H (.str x) (.str x)
 |byt (b:Array UInt8):Dw K H (.byt b) (.bytes b.toList)
 |lst {a:Addr} {xs:List V} {ds:List WData}:SqL K H a xs->DwAll K H xs ds->Dw K H (.ref a) (.list ds)
 |tup {a:Addr} {xs:List V} {ds:List WData}:SqT K H a xs->DwAll K H xs ds->Dw K H (.ref a) (.tuple ds)
inductive DwAll(K:PySem.W.Frag)(H:Hp):List V->List WData->Prop
 |nil:DwAll K H [] []
 |cons {v:V} {vs:List V} {d:WData} {ds:List WData}:Dw K H v d->DwAll K H vs ds->DwAll K H (v::vs) (d::ds)
end
theorem dw_ints{K:PySem.W.Frag}{H:Hp}: ∀ns:List Int,DwAll K H (ns.map V.int) (ns.map WData.int)
 |[]=>.nil
 |n::r=>.cons (.int n) (dw_ints r)
theorem ints_dw{K:PySem.W.Frag}{H:Hp}: ∀(ns:List Int) (xs:List V),DwAll K H xs (ns.map WData.int)->xs=ns.map V.int
 |[],xs,h=>by
  cases h;rfl
 |n::r,xs,h=>by
  cases h with
  |cons h1 h2=>
   cases h1;rw[ints_dw r _ h2]<;>rfl
section
variable {P:Program}{w:World}{K:PySem.W.Frag}{H:Hp}{h:Heap}{R:PySem.W.WRecords}{cl:Str->Option Addr}
theorem sqL_at{a:Addr}{xs:List V}(hok:HOk P w H h)(KX:K.In h)(q:SqL K H a xs): ∃(its:List Value) (o:Obj) (n:Nat),Vals xs its/\h.get? a=some o/\o.cls=.type "list"/\o.data=.seq its.toArray n:=by
 rcases q with q|⟨o,its,n,e,hc,_,hd,_,hv⟩
 ·obtain⟨_,its,n,hv,e⟩:=(show ObjOk P w H h a (.lst xs) from q.ok hok);exact⟨its,_,n,hv,e,rfl,rfl⟩
 ·exact⟨its.toList,o,n,hv,KX _ _ e,hc,by simp[hd]⟩
theorem sqT_at{a:Addr}{xs:List V}(hok:HOk P w H h)(KX:K.In h)(q:SqT K H a xs): ∃(its:List Value) (o:Obj) (n:Nat),Vals xs its/\h.get? a=some o/\o.cls=.type "tuple"/\o.data=.seq its.toArray n:=by
 rcases q with q|⟨o,its,n,e,hc,hd,_,hv⟩
 ·obtain⟨_,its,hv,o,e,hc,n,hd⟩:=(show ObjOk P w H h a (.tup xs) from q.ok hok);exact⟨its,o,n,hv,e,hc,hd⟩
 ·exact⟨its.toList,o,n,hv,KX _ _ e,hc,by simp[hd]⟩
mutual
theorem Dw.reads(hok:HOk P w H h)(KX:K.In h): ∀(d:WData) (v:V) (u:Value),Dw K H v d->RelV v u->∃as,ReadsW R cl h u d as
 |.none,_,_,x,r=>by
  cases x;cases r;exact⟨_,ReadsW.none⟩
 |.bool b,_,_,x,r=>by
  cases x;cases r;exact⟨_,ReadsW.bool b⟩
 |.int i,_,_,x,r=>by
  cases x;obtain⟨t,rfl⟩:=r;exact⟨_,ReadsW.int i t⟩
 |.str s,_,_,x,r=>by
  cases x;obtain⟨t,rfl⟩:=r;exact⟨_,ReadsW.str s t⟩
 |.bytes b,_,_,x,r=>by
  cases x;obtain⟨t,rfl⟩:=r;exact⟨_,ReadsW.bytes _ t⟩
 |.list ds,_,_,x,r=>by
  cases x with
  |lst hs ha=>
   cases r;obtain⟨its,o,n,rv,ho,hc,hd⟩:=sqL_at hok KX hs;obtain⟨as,hr⟩:=Dw.readsAll hok KX ds _ its ha rv;exact⟨_,ReadsW.list ho hc hd hr⟩
 |.tuple ds,_,_,x,r=>by
  cases x with
  |tup hs ha=>
   cases r;obtain⟨its,o,n,rv,ho,hc,hd⟩:=sqT_at hok KX hs;obtain⟨as,hr⟩:=Dw.readsAll hok KX ds _ its ha rv;exact⟨_,ReadsW.tuple ho hc hd hr⟩
 |.float _,_,_,x,_=>by cases x
 |.dict _,_,_,x,_=>by cases x
 |.bytearray _,_,_,x,_=>by cases x
 |.set _,_,_,x,_=>by cases x
 |.frozenset _,_,_,x,_=>by cases x
 |.obj _ _,_,_,x,_=>by cases x
theorem Dw.readsAll(hok:HOk P w H h)(KX:K.In h): ∀(ds:List WData) (vs:List V) (us:List Value),DwAll K H vs ds->Vals vs us->∃as,ReadsAllW R cl h us ds as
 |[],_,_,x,r=>by
  cases x;cases r;exact⟨_,ReadsAllW.nil⟩
 |d::ds,_,_,x,r=>by
  cases x with
  |cons h1 h2=>
   cases r with
   |cons r1 r2=>
    obtain⟨as,q1⟩:=Dw.reads hok KX d _ _ h1 r1;obtain⟨bs,q2⟩:=Dw.readsAll hok KX ds _ _ h2 r2;exact⟨_,ReadsAllW.cons q1 q2⟩
end
end
mutual
def plW:WData->Bool
 |.none=>true
 |.bool _=>true
 |.int _=>true
 |.str _=>true
 |.bytes _=>true
 |.list xs=>plWs xs
 |.tuple xs=>plWs xs
 |_=>false
def plWs:List WData->Bool
 |[]=>true
 |x::r=>plW x&&plWs r
end
theorem plWs_map{α:Type}{f:α->WData}(h: ∀a,plW (f a)=true): ∀l:List α,plWs (l.map f)=true
 |[]=>rfl
 |x::r=>by
  show(plW (f x)&&plWs (r.map f))=true;rw[h x,plWs_map h r]<;>rfl
theorem yZ: ∀(c:Codec) (a:c.denote),plW (c.enc a)=true
 |.unit,_=>rfl
 |.bool,_=>rfl
 |.int _ _,_=>rfl
 |.nat _ _,_=>rfl
 |.u8,_=>rfl
 |.bytes _ _,_=>rfl
 |.text _ _ _ _,_=>rfl
 |.list _ _ c,a=>plWs_map (fun x=>yZ c x) a
 |.pair c d,a=>by
  show(plW (c.enc a.1)&&(plW (d.enc a.2)&&true))=true;rw[yZ c a.1,yZ d a.2]<;>rfl
 |.triple c d e,a=>by
  show(plW (c.enc a.1)&&(plW (d.enc a.2.1)&&(plW (e.enc a.2.2)&&true)))=true;rw[yZ c a.1,yZ d a.2.1,yZ e a.2.2]<;>rfl
 |.option c,none=>rfl
 |.option c,some x=>yZ c x
theorem Jy: ∀(cs:List Codec) (a:Codec.denoteAll cs),plWs (Codec.encAll cs a)=true
 |[],_=>rfl
 |c::cs,a=>by
  show(plW (c.enc a.1)&&plWs (Codec.encAll cs a.2))=true;rw[yZ c a.1,Jy cs a.2]<;>rfl
theorem YB: ∀{xs:List WData} {d:WData},d∈xs->d.weight<=WData.weightAll xs
 |[],d,h=>absurd h (by simp)
 |x::r,d,h=>by
  show d.weight<=x.weight+1+WData.weightAll r;rcases List.mem_cons.mp h with e|m
  ·rw[e];omega
  ·have z:=YB m;omega
def toV:Value->V
 |.none=>.non
 |.bool b=>.bl b
 |.int i _=>.int i
 |.str x _=>.str x
 |.bytes b _=>.byt b
 |.ref a=>.ref a
 |_=>.non
def OkU(A:List Addr):Value->Prop
 |.none=>True
 |.bool _=>True
 |.int _ _=>True
 |.str _ _=>True
 |.bytes _ _=>True
 |.ref a=>a∈A
 |_=>False
theorem OkU.mono{A B:List Addr}(h: ∀a∈A,a∈B): ∀{u:Value},OkU A u->OkU B u:=fun{u} x=>by
 cases u with
 |ref a=>exact h a x
 |none=>trivial
 |bool b=>trivial
 |int i t=>trivial
 |str s t=>trivial
 |bytes b t=>trivial
 |_=>exact False.elim x
theorem relV_toV{A:List Addr}{u:Value}(x:OkU A u):RelV (toV u) u:=by
 cases u with
 |ref a=>rfl
 |none=>rfl
 |bool b=>rfl
 |int i t=>exact⟨t,rfl⟩
 |str s t=>exact⟨t,rfl⟩
 |bytes b t=>exact⟨t,rfl⟩
 |_=>exact False.elim x
theorem yC{A:List Addr}: ∀{vs:List Value},(∀u∈vs,OkU A u)->Vals (vs.map toV) vs
 |[],_=>.nil
 |u::r,h=>.cons (relV_toV (h u (List.mem_cons_self ..))) (yC fun x hx=>h x (List.mem_cons_of_mem _ hx))
def ArgOb(h:Heap)(A:List Addr)(a:Addr):Prop:=∃vs:List Value,vs.length<=sizeLine/\(∀u∈vs,OkU A u)/\
 (h.get? a=some {cls:=.type "list",data:=.seq vs.toArray}∨h.get? a=some {cls:=.type "tuple",data:=.seq vs.toArray})
theorem ArgOb.mono{h:Heap}{A B:List Addr}{a:Addr}(k: ∀a∈A,a∈B)(x:ArgOb h A a):ArgOb h B a:=by
 obtain⟨vs,h1,h2,h3⟩:=x;exact⟨vs,h1,fun u hu=>(h2 u hu).mono k,h3⟩
theorem Zw{P:Params}{h:Heap}: ∀{vs:List Value} {ds:List WData},WellAll P h vs ds->vs.length=ds.length
 |_,_,.nil=>rfl
 |_,_,.cons _ b=>by
  show _+1=_+1;rw[Zw b]
theorem Jo{P:Params}{h:Heap}{v:Value}{ds:List WData}(x:Well P h v (.list ds)): ∃(a:Addr) (vs:List Value),v=.ref a/\h.get? a=some {cls:=.type "list",data:=.seq vs.toArray}/\WellAll P h vs ds:=by
 cases x with
 |list ho hall=>exact⟨_,_,rfl,ho,hall⟩
theorem jw{P:Params}{h:Heap}{v:Value}{ds:List WData}(x:Well P h v (.tuple ds)): ∃(a:Addr) (vs:List Value),v=.ref a/\h.get? a=some {cls:=.type "tuple",data:=.seq vs.toArray}/\WellAll P h vs ds:=by
 cases x with
 |tuple ho hall=>exact⟨_,_,rfl,ho,hall⟩
theorem Jp{P:Params}{h:Heap}{us:List Value}{d:WData}{ds:List WData}(x:WellAll P h us (d::ds)): ∃(v:Value) (vs:List Value),us=v::vs/\Well P h v d/\WellAll P h vs ds:=by
 cases x with
 |cons a b=>exact⟨_,_,rfl,a,b⟩
theorem line_of{n:Nat}(h:n<=1048576):n<=sizeLine:=Nat.le_trans h (by decide)
section
variable {P:Params}{h:Heap}
mutual
theorem area_one: ∀(d:WData) (v:Value),Well P h v d->plW d=true->d.weight<=1048576->∃A:List Addr,OkU A v/\∀a∈A,ArgOb h A a
 |.none,_,x,_,_=>by
  cases x;exact⟨[],trivial,fun a m=>absurd m (by simp)⟩
 |.bool b,_,x,_,_=>by
  cases x;exact⟨[],trivial,fun a m=>absurd m (by simp)⟩
 |.int i,_,x,_,_=>by
  cases x;exact⟨[],trivial,fun a m=>absurd m (by simp)⟩
 |.str s,_,x,_,_=>by
  cases x;exact⟨[],trivial,fun a m=>absurd m (by simp)⟩
 |.bytes b,_,x,_,_=>by
  cases x;exact⟨[],trivial,fun a m=>absurd m (by simp)⟩
 |.list ds,_,x,p,z=>by
  obtain⟨a,vs,rfl,ho,hall⟩:=Jo x;have z2:WData.weightAll ds<=1048576:=z;obtain⟨A,h1,h2⟩:=Yq ds _ hall p fun d hd=>Nat.le_trans (YB hd) z2;have k: ∀b∈A,b∈a::A:=fun b hb=>List.mem_cons_of_mem _ hb;refine⟨a::A,List.mem_cons_self ..,fun b hb=> ?_⟩;rcases List.mem_cons.mp hb with e|m
  ·rw[e];exact⟨vs,line_of (by rw[Zw hall];exact Nat.le_trans (PySem.W.length_le_weightAllW ds) z2),fun u hu=>(h1 u hu).mono k,.inl ho⟩
  ·exact(h2 b m).mono k
 |.tuple ds,_,x,p,z=>by
  obtain⟨a,vs,rfl,ho,hall⟩:=jw x;have z2:WData.weightAll ds<=1048576:=z;obtain⟨A,h1,h2⟩:=Yq ds _ hall p fun d hd=>Nat.le_trans (YB hd) z2;have k: ∀b∈A,b∈a::A:=fun b hb=>List.mem_cons_of_mem _ hb;refine⟨a::A,List.mem_cons_self ..,fun b hb=> ?_⟩;rcases List.mem_cons.mp hb with e|m
  ·rw[e];exact⟨vs,line_of (by rw[Zw hall];exact Nat.le_trans (PySem.W.length_le_weightAllW ds) z2),fun u hu=>(h1 u hu).mono k,.inr ho⟩
  ·exact(h2 b m).mono k
 |.float _,_,_,p,_=>Bool.noConfusion (show false=true from p)
 |.dict _,_,_,p,_=>Bool.noConfusion (show false=true from p)
 |.bytearray _,_,_,p,_=>Bool.noConfusion (show false=true from p)
 |.set _,_,_,p,_=>Bool.noConfusion (show false=true from p)
 |.frozenset _,_,_,p,_=>Bool.noConfusion (show false=true from p)
 |.obj _ _,_,_,p,_=>Bool.noConfusion (show false=true from p)
theorem Yq: ∀(ds:List WData) (vs:List Value),WellAll P h vs ds->plWs ds=true->(∀d∈ds,d.weight<=1048576)->∃A:List Addr,(∀u∈vs,OkU A u)/\∀a∈A,ArgOb h A a
 |[],_,x,_,_=>by
  cases x;exact⟨[],fun u m=>absurd m (by simp),fun a m=>absurd m (by simp)⟩
 |d::ds,_,x,p,z=>by
  obtain⟨v,vs,rfl,x1,x2⟩:=Jp x;have q:plW d=true/\plWs ds=true:=Bool.and_eq_true_iff.mp p;obtain⟨A,a1,a2⟩:=area_one d v x1 q.1 (z d (List.mem_cons_self ..));obtain⟨B,b1,b2⟩:=Yq ds vs x2 q.2 fun e he=>z e (List.mem_cons_of_mem _ he);have kA: ∀b∈A,b∈A++B:=fun b hb=>List.mem_append.mpr (.inl hb);have kB: ∀b∈B,b∈A++B:=fun b hb=>List.mem_append.mpr (.inr hb);refine⟨A++B,fun u hu=> ?_,fun b hb=> ?_⟩
  ·rcases List.mem_cons.mp hu with e|m
   ·rw[e];exact a1.mono kA
   ·exact(b1 u m).mono kB
  ·rcases List.mem_append.mp hb with m|m
   ·exact(a2 b m).mono kA
   ·exact(b2 b m).mono kB
end
end
def hoOf(o:Obj):Option HO:=match o.data with
 |.seq vs _=>if(o.cls==Value.type "list")=true then some (.frz o (.lst (vs.toList.map toV))) else some (.frz o (.tup (vs.toList.map toV)))
 |_=>none
def argH(K:PySem.W.Frag)(h:Heap)(A:List Addr):Hp:=fun b=>if b∈A then(if(K.lookup b).isNone=true then(h.get? b).bind hoOf else none) else none
def OnlyF(H:Hp):Prop:=∀b,H b=none∨∃o u,H b=some (.frz o u)
theorem hoOf_lst(vs:List Value):hoOf {cls:=.type "list",data:=.seq vs.toArray}=some (.frz {cls:=.type "list",data:=.seq vs.toArray} (.lst (vs.map toV))):=by
 show(if(Value.type "list"==Value.type "list")=true then some (HO.frz {cls:=.type "list",data:=.seq vs.toArray} (.lst (vs.toArray.toList.map toV))) else some (HO.frz {cls:=.type "list",data:=.seq vs.toArray} (.tup (vs.toArray.toList.map toV))))=_;rw[if_pos (beq_self_eq_true _)]
theorem hoOf_tup(vs:List Value):hoOf {cls:=.type "tuple",data:=.seq vs.toArray}=some (.frz {cls:=.type "tuple",data:=.seq vs.toArray} (.tup (vs.map toV))):=by
 show(if(Value.type "tuple"==Value.type "list")=true then some (HO.frz {cls:=.type "tuple",data:=.seq vs.toArray} (.lst (vs.toArray.toList.map toV))) else some (HO.frz {cls:=.type "tuple",data:=.seq vs.toArray} (.tup (vs.toArray.toList.map toV))))=_;rw[if_neg (by decide)]
section
variable {P:Program}{w:World}{K:PySem.W.Frag}{h:Heap}{A:List Addr}
theorem jt{b:Addr}{o:Obj}(hb:b∈A)(hk:K.lookup b=none)(e:h.get? b=some o):argH K h A b=hoOf o:=by
 unfold argH;rw[if_pos hb,hk,if_pos (show(none:Option Obj).isNone=true from rfl),e]<;>rfl
theorem of_argH{b:Addr}{u:HO}(q:argH K h A b=some u):b∈A/\K.lookup b=none:=by
 unfold argH at q;by_cases hb:b∈A
 ·rw[if_pos hb] at q;cases hk:K.lookup b with
  |none=>exact⟨hb,rfl⟩
  |some o=>
   rw[hk,if_neg (by simp)] at q;cases q
 ·rw[if_neg hb] at q;cases q
theorem jr(ar: ∀a∈A,ArgOb h A a){b:Addr}{u:HO}(q:argH K h A b=some u):K.lookup b=none/\∃vs:List Value,vs.length<=sizeLine/\(∀u∈vs,OkU A u)/\
  ((h.get? b=some {cls:=.type "list",data:=.seq vs.toArray}/\u=.frz {cls:=.type "list",data:=.seq vs.toArray} (.lst (vs.map toV)))∨
   (h.get? b=some {cls:=.type "tuple",data:=.seq vs.toArray}/\u=.frz {cls:=.type "tuple",data:=.seq vs.toArray} (.tup (vs.map toV)))):=by
 obtain⟨hb,hk⟩:=of_argH q;obtain⟨vs,h1,h2,h3⟩:=ar b hb;refine⟨hk,vs,h1,h2,?_⟩;rcases h3 with e|e
 ·rw[jt hb hk e,hoOf_lst] at q;exact .inl ⟨e,(Option.some.inj q).symm⟩
 ·rw[jt hb hk e,hoOf_tup] at q;exact .inr ⟨e,(Option.some.inj q).symm⟩
theorem argH_only(ar: ∀a∈A,ArgOb h A a):OnlyF (argH K h A):=fun b=>by
 cases q:argH K h A b with
 |none=>exact .inl rfl
 |some u=>
  obtain⟨_,vs,_,_,⟨_,e⟩|⟨_,e⟩⟩:=jr ar q
  ·exact .inr ⟨_,_,by rw[e]⟩
  ·exact .inr ⟨_,_,by rw[e]⟩
theorem argH_ok(ar: ∀a∈A,ArgOb h A a):HOk P w (argH K h A) h:=fun b u q=>by
 obtain⟨_,vs,h1,h2,⟨e,rfl⟩|⟨e,rfl⟩⟩:=jr ar q
 ·exact⟨e,by rw[List.length_map];exact h1,vs,_,yC h2,e⟩
 ·exact⟨e,by rw[List.length_map];exact h1,vs,yC h2,_,e,rfl,_,rfl⟩
theorem je{c c':Value}{vs us:List Value}(e:(some {cls:=c,data:=.seq vs.toArray}:Option Obj)=some {cls:=c',data:=.seq us.toArray}):c=c'/\vs=us:=by
 have e1:=Option.some.inj e;have e2:c=c':=congrArg Obj.cls e1;have e3:Data.seq vs.toArray=Data.seq us.toArray:=congrArg Obj.data e1;injection e3 with e4
 refine⟨e2,?_⟩;have e5:=congrArg Array.toList e4;simpa using e5
theorem argL(KX:K.In h)(ar: ∀a∈A,ArgOb h A a){a:Addr}{vs:List Value}(ha:a∈A)(e:h.get? a=some {cls:=.type "list",data:=.seq vs.toArray}):(∀u∈vs,OkU A u)/\SqL K (argH K h A) a (vs.map toV):=by
 obtain⟨us,h1,h2,h3⟩:=ar a ha;have hu:us=vs:=by
  rcases h3 with q|q
  ·rw[e] at q;exact(je q).2.symm
  ·rw[e] at q;exact absurd (Value.type.inj (je q).1) (by decide)
 subst hu;refine⟨h2,?_⟩;cases hk:K.lookup a with
 |none=>exact .inl (.inr ⟨_,by rw[jt ha hk e,hoOf_lst]⟩)
 |some o=>
  have e2:=KX a o hk;rw[e] at e2;obtain rfl:=Option.some.inj e2;exact .inr ⟨_,us.toArray,_,hk,rfl,rfl,rfl,by rw[List.size_toArray];exact h1,by simpa using yC h2⟩
theorem argT(KX:K.In h)(ar: ∀a∈A,ArgOb h A a){a:Addr}{vs:List Value}(ha:a∈A)(e:h.get? a=some {cls:=.type "tuple",data:=.seq vs.toArray}):(∀u∈vs,OkU A u)/\SqT K (argH K h A) a (vs.map toV):=by
 obtain⟨us,h1,h2,h3⟩:=ar a ha;have hu:us=vs:=by
  rcases h3 with q|q
  ·rw[e] at q;exact absurd (Value.type.inj (je q).1) (by decide)
  ·rw[e] at q;exact(je q).2.symm
 subst hu;refine⟨h2,?_⟩;cases hk:K.lookup a with
 |none=>exact .inl (.inr ⟨_,by rw[jt ha hk e,hoOf_tup]⟩)
 |some o=>
  have e2:=KX a o hk;rw[e] at e2;obtain rfl:=Option.some.inj e2;exact .inr ⟨_,us.toArray,_,hk,rfl,rfl,by rw[List.size_toArray];exact h1,by simpa using yC h2⟩
mutual
theorem dw_one{Pm:Params}(KX:K.In h)(ar: ∀a∈A,ArgOb h A a): ∀(d:WData) (v:Value),Well Pm h v d->plW d=true->OkU A v->Dw K (argH K h A) (toV v) d
 |.none,_,x,_,_=>by
  cases x;exact .non
 |.bool b,_,x,_,_=>by
  cases x;exact .bl b
 |.int i,_,x,_,_=>by
  cases x;exact .int i
 |.str s,_,x,_,_=>by
  cases x;exact .str s
 |.bytes b,_,x,_,_=>by
  cases x;have z:=Dw.byt (K:=K) (H:=argH K h A) b.toArray;exact z
 |.list ds,_,x,p,hu=>by
  obtain⟨a,vs,rfl,ho,hall⟩:=Jo x;obtain⟨h2,hs⟩:=argL KX ar hu ho;exact .lst hs (dw_all KX ar ds _ hall p h2)
 |.tuple ds,_,x,p,hu=>by
  obtain⟨a,vs,rfl,ho,hall⟩:=jw x;obtain⟨h2,hs⟩:=argT KX ar hu ho;exact .tup hs (dw_all KX ar ds _ hall p h2)
 |.float _,_,_,p,_=>Bool.noConfusion (show false=true from p)
 |.dict _,_,_,p,_=>Bool.noConfusion (show false=true from p)
 |.bytearray _,_,_,p,_=>Bool.noConfusion (show false=true from p)
 |.set _,_,_,p,_=>Bool.noConfusion (show false=true from p)
 |.frozenset _,_,_,p,_=>Bool.noConfusion (show false=true from p)
 |.obj _ _,_,_,p,_=>Bool.noConfusion (show false=true from p)
theorem dw_all{Pm:Params}(KX:K.In h)(ar: ∀a∈A,ArgOb h A a): ∀(ds:List WData) (vs:List Value),WellAll Pm h vs ds->plWs ds=true->(∀u∈vs,OkU A u)->DwAll K (argH K h A) (vs.map toV) ds
 |[],_,x,_,_=>by
  cases x;exact .nil
 |d::ds,_,x,p,hu=>by
  obtain⟨v,vs,rfl,x1,x2⟩:=Jp x;have q:plW d=true/\plWs ds=true:=Bool.and_eq_true_iff.mp p;exact .cons (dw_one KX ar d v x1 q.1 (hu _ (List.mem_cons_self ..))) (dw_all KX ar ds vs x2 q.2 fun u m=>hu u (List.mem_cons_of_mem _ m))
end
end
theorem spec_call{P:Program}{w:World}{K:PySem.W.Frag}{mg mb:Str->Option Value}{CX:CXT}{k:Nat}{fa:Addr}{fd:FuncData}{ps:List Str}{sp:Sp}{s₁:Shared}{vals:List Value}{ds:List WData}{R:PySem.W.WRecords}{cl:Str->Option Addr}{d0:WData}
  (KX:K.In s₁.heap)(hns:s₁.heap.Ns mainGlobals mg)(hb:s₁.heap.Ns builtinsNs mb)(hbb: ∀x:Str,x≠"__name__"->mb x=bootBuiltins x)(hlim:s₁.heap.NoLimit)(hg:s₁.gens=#[])
  (hwl:WellAll w.params s₁.heap vals ds)(hpl:plWs ds=true)(hwt: ∀d∈ds,d.weight<=1048576)(hr:Room k callerA)
  (F: ∀base:Heap,K.In base->base.Ns mainGlobals mg->FnOk P w K mg base CX k fa fd ps sp)(hbind: ∀(s:Shared) (us:List Value),us.length=ps.length->BindsTo s fd ⟨us,[]⟩ (ps.zip us))(hlen:ds.length=ps.length)
  (hsp: ∀(H:Hp) (xs:List V),OnlyF H->DwAll K H xs ds->sp xs H (fun v H'=>Dw K H' v d0) fun _ _ _=>False)
  (hCX: ∀H e s',CX [] H s₁ (fun _ _ _=>False) e s'->False):
  codeAny (model P w) callerA (.call (.ref fa) ⟨vals,[]⟩) (fun r s'=>∃u as,r=.ok (.ret u)/\ReadsW R cl s'.heap u d0 as/\OldK s₁.heap s'.heap/\s'.os=s₁.os/\AllBare s'.gens) s₁:=by
 obtain⟨A,ho,ar⟩:=Yq ds vals hwl hpl hwt;have hO:OnlyF (argH K s₁.heap A):=argH_only ar;have hok:HOk P w (argH K s₁.heap A) s₁.heap:=argH_ok ar;have hS:=dw_all KX ar ds vals hwl hpl ho;have hV:=yC ho;have hK: ∀b u,argH K s₁.heap A b=some u->K.lookup b=none:=fun b u q=>(jr ar q).1;have noA: ∀{b:Addr} {o:Obj} {es:Array DictEntry} {ep:Nat},s₁.heap.get? b=some o->o.data=.dict es ep->argH K s₁.heap A b=none:=fun{b o es ep} e d=>by
  cases q:argH K s₁.heap A b with
  |none=>rfl
  |some u=>
   obtain⟨_,vs,_,_,⟨e2,_⟩|⟨e2,_⟩⟩:=jr ar q
   ·rw[e2] at e;cases e;have d':Data.seq vs.toArray _=Data.dict es ep:=d;cases d'
   ·rw[e2] at e;cases e;have d':Data.seq vs.toArray _=Data.dict es ep:=d;cases d'
 generalize argH K s₁.heap A=H at hO hok hS hK noA;have base_of: ∀{b:Addr} {o:Obj},s₁.heap.get? b=some o->H b=none->(hidT s₁.heap H).get? b=some o:=fun e n=>hidT_get e n;have nsK: ∀{b:Addr} {m:Str->Option Value},s₁.heap.Ns b m->(hidT s₁.heap H).Ns b m:=fun{b m} ⟨o,es,ep,e,d,r⟩=>⟨o,es,ep,base_of e (noA e d),d,r⟩;have nK: ∀b o,K.lookup b=some o->H b=none:=fun b o e=>by
  cases q:H b with
  |none=>rfl
  |some u=>
   rw[hK b u q] at e;cases e
 have hKb:K.In (hidT s₁.heap H):=fun b o e=>base_of (KX b o e) (nK b o e);have hM:Mod K mg (hidT s₁.heap H):=⟨hKb,nsK hns,⟨mb,nsK hb,hbb⟩,let⟨mc,h1,h2⟩:=hlim;⟨mc,nsK h1,h2⟩⟩;have e0:Env0 P w K mg (hidT s₁.heap H) callerA [] s₁ H:=⟨rfl,hM,fun b o e=>of_hidT e,Nat.le_of_eq (hidT_size _ _),trivial,fun b hb=>absurd (show b∈([]:List Addr) from hb) (by simp),hok,.of_eq hg⟩;have hl:vals.length=ps.length:=by rw[Zw hwl];exact hlen
 refine codeAny_mono ((F _ hKb (nsK hns)).run callerA [] s₁ H ⟨vals,[]⟩ vals (vals.map toV) _ _ hr e0 (hbind s₁ vals hl) hV (hsp H _ hO hS)) fun r s' x=> ?_;cases r with
 |error e=>exact(hCX H e s' x).elim
 |ok fl=>
  cases fl with
  |next=>exact False.elim x
  |brk=>exact False.elim x
  |cont=>exact False.elim x
  |ret u=>
   obtain⟨v,H',os,bare,un,hok',r',q⟩:=x;have kept: ∀b o,s₁.heap.get? b=some o->s'.heap.get? b=some o:=fun b o e=>by
    cases q2:H b with
    |none=>exact un.keep b o e q2 (by intro z;exact absurd (show b∈([]:List Addr) from z) (by simp)) (by simp)
    |some u2=>
     rcases hO b with z|⟨ob,u3,z⟩
     ·rw[q2] at z;cases z
     ·have z2:=un.frzs b ob _ z;obtain⟨e1,_⟩:=hok b _ z;obtain⟨e2,_⟩:=hok' b _ z2;rw[e] at e1;cases e1;exact e2
   have KX':K.In s'.heap:=fun b o e=>kept b o (KX b o e);obtain⟨as,hrd⟩:=Dw.reads (R:=R) (cl:=cl) hok' KX' d0 v u q r';exact⟨u,as,rfl,hrd,OldK.of_keep kept,os,bare⟩
theorem layable_weight{ds:List WData}(h:WData.layableAll ds=true): ∀d∈ds,d.weight<=1048576:=fun d hd=>
 (PySem.W.layableW_iff.mp (List.all_eq_true.mp h d hd)).2.2
theorem Je: ∀(cs:List Codec) (a:Codec.denoteAll cs),(Codec.encAll cs a).length=cs.length
 |[],_=>rfl
 |c::cs,a=>by
  show(Codec.encAll cs a.2).length+1=cs.length+1;rw[Je cs a.2]
theorem walk_spec{r:OpenSpec}{k:Nat}{q:Program}{loose:List Str}{XP:(Str->Option Value)->Heap->Prop}{YP:World->Heap->Prop}{d:DefRec}{K:Params->PySem.W.Frag}{CX:World->CXT}{ps:List Str}{sp:World->Sp}
  (hwell:r.wellSaid=true)(hdf:d.params.defaults=[])(hlen:r.args.length=ps.length)(hr:Room k callerA)
  (hY: ∀(w:World) (h:Heap),YP w h->(K w.params).In h)
  (F: ∀(w:World) (mg:Str->Option Value) (fa:Addr) (h:Heap),YP w h->(K w.params).In h->h.Ns mainGlobals mg->mg d.name=some (.ref fa)->
   ∃fd:FuncData,(∀(s:Shared) (us:List Value),us.length=ps.length->BindsTo s fd ⟨us,[]⟩ (ps.zip us))/\
    ∀base:Heap,(K w.params).In base->base.Ns mainGlobals mg->FnOk r.prog w (K w.params) mg base (CX w) k fa fd ps (sp w))
  (hsp: ∀(w:World) (H:Hp) (xs:List V) (a:Codec.denoteAll r.args),OnlyF H->Codec.withinAll r.args a=true->Codec.app r.args r.asked a=true->DwAll (K w.params) H xs (Codec.encAll r.args a)->
   sp w xs H (fun v H'=>Dw (K w.params) H' v (r.ret.enc (Codec.app r.args r.f a))) fun _ _ _=>False)
  (hCX: ∀(w:World) (H:Hp) (s:Shared) (e:Value) (s':Shared),CX w [] H s (fun _ _ _=>False) e s'->False):
  PySem.W.WalkOS q loose XP YP r d [] (fun f vs=>PySem.call f vs):=by
 intro w s_0 s₁ mg mb G Y fa o pm cd doc dV kV ho hd hcd hD hmg hg args vals as hpre hlay hrd hwl hlo;obtain⟨a,e1,e2⟩:=PySem.W.os_pre_some hpre;obtain⟨e3,hwi⟩:=Codec.encAll_of_decAll r.args args a e1;subst e3;have KX:=hY w _ Y;obtain⟨fd,hb,hF⟩:=F w mg fa _ Y KX G.T.g hmg;refine PySem.W.enter_call (codeAny_mono (spec_call (R:=[]) (cl:=classAt s_0.heap) (d0:=r.ret.enc (Codec.app r.args r.f a)) KX G.T.g G.T.b G.T.builtins G.T.nolimit hg hwl (Jy _ _) (layable_weight hlay) hr hF hb (by rw[Je];exact hlen)
  (fun H xs hO hS=>hsp w H xs a hO hwi e2 hS) fun H e s'=>hCX w H s₁ e s') fun r' s' hq=> ?_)
 obtain⟨u,as',rfl,h1,h2,h3,h4⟩:=hq;exact⟨.inl ⟨u,_,as',rfl,fun _=>rfl,h1,(OpenSpec.post_iff hwell hwi _ _).mpr rfl,fun z=>Bool.noConfusion (show false=true from z)⟩,h2,h3,h4⟩
theorem walk_specK{r:OpenSpec}{k:Nat}{q:Program}{loose:List Str}{XP:(Str->Option Value)->Heap->Prop}{YP:World->Heap->Prop}{d:DefRec}{K:Params->PySem.W.Frag}{CX:CXT}{ps:List Str}{sp:PySem.W.Frag->Sp}
  (hwell:r.wellSaid=true)(hdf:d.params.defaults=[])(hlen:r.args.length=ps.length)(hr:Room k callerA)
  (hY: ∀(w:World) (h:Heap),YP w h->(K w.params).In h)
  (F: ∀(w:World) (mg:Str->Option Value) (fa:Addr) (h:Heap),YP w h->(K w.params).In h->h.Ns mainGlobals mg->mg d.name=some (.ref fa)->
   ∃fd:FuncData,(∀(s:Shared) (us:List Value),us.length=ps.length->BindsTo s fd ⟨us,[]⟩ (ps.zip us))/\
    ∀base:Heap,(K w.params).In base->base.Ns mainGlobals mg->FnOk r.prog w (K w.params) mg base CX k fa fd ps (sp (K w.params)))
  (hsp: ∀(K:PySem.W.Frag) (H:Hp) (xs:List V) (a:Codec.denoteAll r.args),OnlyF H->Codec.withinAll r.args a=true->Codec.app r.args r.asked a=true->DwAll K H xs (Codec.encAll r.args a)->
   sp K xs H (fun v H'=>Dw K H' v (r.ret.enc (Codec.app r.args r.f a))) fun _ _ _=>False)
  (hCX: ∀(H:Hp) (s:Shared) (e:Value) (s':Shared),CX [] H s (fun _ _ _=>False) e s'->False):
  PySem.W.WalkOS q loose XP YP r d [] (fun f vs=>PySem.call f vs):=
 walk_spec (K:=K) (CX:=fun _=>CX) (sp:=fun w=>sp (K w.params)) hwell hdf hlen hr hY F (fun w H xs a h1 h2 h3 h4=>hsp (K w.params) H xs a h1 h2 h3 h4) fun _ H s e s'=>hCX H s e s'
end L2
end
namespace GW
open PySem PySem.Spec PyProof.Rows L2
open PySem.W (Codec)
structure FnAt(K:PySem.W.Frag)(x:Str)(st:Stmt)(f:Addr):Prop where
 ns:PySem.W.nsIn K mainGlobals x=some (some (.ref f))
 fn: ∃fd,Fun K x x st f fd
theorem zO{K:PySem.W.Frag}{x:Str}{st:Stmt}{f:Addr}{oc:Value}{od an:Option Addr}{osl:Array (Option Value)}{kV doc pm cdv ct:Value}(a:PySem.W.nsIn K mainGlobals x=some (some (.ref f)))
  (l:K.lookup f=some ⟨oc,od,.func (PySem.W.fnOf x x (defArgs st) (defBody st) (defScope st) .none kV doc pm an cdv ct),osl⟩)(c:PySem.W.codeIn K cdv x=true)(k:PySem.W.keepIn K (.ref f)=true):FnAt K x st f:=⟨a,_,fun_mk l c k⟩
structure MeAt(K:PySem.W.Frag)(C:Addr)(x qual:Str)(st:Stmt)(f:Addr):Prop where
 me:Meth K C x f
 fn: ∃fd,Fun K x qual st f fd
theorem Zj{K:PySem.W.Frag}{C:Addr}{x qual:Str}{st:Stmt}{f:Addr}{oc:Value}{od an:Option Addr}{osl:Array (Option Value)}{kV doc pm cdv ct:Value}(a:PySem.W.findIn K (.ref C) x=some (some (.ref f)))(i:PySem.W.isFn K (.ref f)=true)
  (l:K.lookup f=some ⟨oc,od,.func (PySem.W.fnOf x qual (defArgs st) (defBody st) (defScope st) .none kV doc pm an cdv ct),osl⟩)(c:PySem.W.codeIn K cdv qual=true)(k:PySem.W.keepIn K (.ref f)=true):MeAt K C x qual st f:=⟨⟨a,i,k⟩,_,fun_mk l c k⟩
@[elab_as_elim] theorem l1{p:List Value->Prop}(us:List Value)(h:us.length=1)(k: ∀a,p [a]):p us:=by
 obtain⟨a,rfl⟩:=List.length_eq_one_iff.mp h;exact k a
@[elab_as_elim] theorem l2{p:List Value->Prop}(us:List Value)(h:us.length=2)(k: ∀a b,p [a,b]):p us:=by
 cases us with
 |nil=>cases h
 |cons a us=>exact l1 (p:=fun us=>p (a::us)) us (Nat.succ.inj h) fun b=>k a b
@[elab_as_elim] theorem l3{p:List Value->Prop}(us:List Value)(h:us.length=3)(k: ∀a b c,p [a,b,c]):p us:=by
 cases us with
 |nil=>cases h
 |cons a us=>exact l2 (p:=fun us=>p (a::us)) us (Nat.succ.inj h) fun b c=>k a b c
@[elab_as_elim] theorem l4{p:List Value->Prop}(us:List Value)(h:us.length=4)(k: ∀a b c d,p [a,b,c,d]):p us:=by
 cases us with
 |nil=>cases h
 |cons a us=>exact l3 (p:=fun us=>p (a::us)) us (Nat.succ.inj h) fun b c d=>k a b c d
section
variable {P:Program}{w:World}{K:PySem.W.Frag}{mg:Str->Option Value}{base h:Heap}
theorem FnAt.cal{x:Str}{st:Stmt}{f:Addr}{k:Nat}{ps:List Str}{sp:Sp}(X:K.In h)(G:h.Ns mainGlobals mg)(F:FnAt K x st f)(ok: ∀fd,Fun K x x st f fd->FnOk P w K mg base CX0 k f fd ps sp)
  (b: ∀(kV doc pm:Value) (an:Option Addr) (cdv ct:Value) (us:List Value),us.length=ps.length->bindArgs (PySem.W.fnOf x x (defArgs st) (defBody st) (defScope st) .none kV doc pm an cdv ct) ⟨us,[]⟩=pure (ps.zip us)):Callee P w K mg base k x ps sp:=by
 obtain⟨fd,Fu⟩:=F.fn;exact⟨f,fd,ok fd Fu,PySem.W.mg_of X G F.ns,Fu.kp,Fu.binds b⟩
theorem MeAt.cal{C:Addr}{x qual:Str}{st:Stmt}{f:Addr}{k:Nat}{ps:List Str}{sp:Sp}(F:MeAt K C x qual st f)(ok: ∀fd,Fun K x qual st f fd->FnOk P w K mg base CX0 k f fd ps sp)
  (b: ∀(kV doc pm:Value) (an:Option Addr) (cdv ct:Value) (us:List Value),us.length=ps.length->bindArgs (PySem.W.fnOf x qual (defArgs st) (defBody st) (defScope st) .none kV doc pm an cdv ct) ⟨us,[]⟩=pure (ps.zip us)):MCallee P w K mg base k C x ps sp:=by
 obtain⟨fd,Fu⟩:=F.fn;exact⟨f,fd,ok fd Fu,F.me,Fu.binds b⟩
theorem FnAt.acal{C:Addr}{x:Str}{st:Stmt}{f:Addr}{kvs:List (Int×Value)}{p:Int}{k r m:Nat}{call:List Int->List Int->List (List Int)}(F:FnAt K x st f)(hv:valueAt kvs p=some (.ref f))(hm:m<=9)(ok: ∀fd,Fun K x x st f fd->FnOk P w K mg base CX0 m f fd aps (spAnswer K C k call))
  (b: ∀(kV doc pm:Value) (an:Option Addr) (cdv ct:Value) (us:List Value),us.length=aps.length->bindArgs (PySem.W.fnOf x x (defArgs st) (defBody st) (defScope st) .none kV doc pm an cdv ct) ⟨us,[]⟩=pure (aps.zip us))(hc: ∀ns row,ns.length=k->call ns row=callOf p ns row r):ACallee P w K mg base C kvs p k r:=by
 obtain⟨fd,Fu⟩:=F.fn;exact⟨f,fd,m,call,hv,hm,ok fd Fu,Fu.kp,Fu.binds b,hc⟩
theorem Zb{x:Str}{i:Int}{t:Tok}(X:K.In h)(G:h.Ns mainGlobals mg)(e:PySem.W.nsIn K mainGlobals x=some (some (.int i t))):IntG mg x i:=⟨t,PySem.W.mg_of X G e⟩
end
def ents:List DictEntry->Option (List (Int×Value))
 |[]=>some []
 |e::es=>match e.key with
  |.int i _=>if e.hash=hashInt i then(ents es).map fun l=>(i,e.val)::l else none
  |_=>none
theorem Jd(prog:Program)(w:World): ∀(es:List DictEntry) (kvs:List (Int×Value)),ents es=some kvs->(∀e,e∈es->∃k,(intKind prog w).is k e.key=true/\e.hash=(intKind prog w).hash k)/\Pairs (intKind prog w) es kvs
 |[],kvs,h=>by
  cases h;exact⟨fun e he=>(by cases he),.nil⟩
 |e::es,kvs,h=>by
  obtain⟨eh,ek,ev⟩:=e;cases ek with
  |int i t=>
   have h:(if eh=hashInt i then(ents es).map fun l=>(i,ev)::l else none)=some kvs:=h;by_cases q:eh=hashInt i
   ·rw[if_pos q] at h;obtain⟨l,hl,rfl⟩:=Option.map_eq_some_iff.mp h;obtain⟨h1,h2⟩:=Jd prog w es l hl;refine⟨fun e he=> ?_,Pairs.cons (knd:=intKind prog w) (e:=⟨eh,.int i t,ev⟩) (kv:=(i,ev)) (intKind_is prog w i t) rfl h2⟩;rcases List.mem_cons.mp he with z|z
    ·rw[z];exact⟨i,intKind_is _ _ _ _,q⟩
    ·exact h1 e z
   ·rw[if_neg q] at h;cases h
  |_=>cases h
theorem dictK_of{K:PySem.W.Frag}{d:Addr}{es:Array DictEntry}{ep:Nat}{kvs:List (Int×Value)}(l:K.lookup d=some ⟨.type "dict",none,.dict es ep,#[]⟩)(e:ents es.toList=some kvs)(nd:(kvs.map (·.1)).Nodup):DictK K d kvs:=by
 refine⟨_,es,ep,l,⟨rfl,rfl,rfl⟩,rfl,fun prog w=> ?_,nd⟩;obtain⟨h1,h2⟩:=Jd prog w es.toList kvs e;exact⟨fun x hx=>h1 x (Array.mem_toList_iff.mpr hx),h2⟩
def intOf:Value->Option Int
 |.int i _=>some i
 |_=>none
theorem Zu{v:Value}{i:Int}(h:intOf v=some i): ∃t,v=.int i t:=by
 cases v with
 |int j t=>exact⟨t,by rw[show j=i from Option.some.inj h]⟩
 |_=>cases h
def howL:List (Option Int):=[some 1,some 0,some 1,some 0,some 0,some 1,some 0,some 0,some 2,some 0,some 0,some 0,some 2,some 0,some 0,some 2,some 1,some 1,some 2,some 0,some 1,some 0]
theorem how_of{kvs:List (Int×Value)}(h:(List.range 22).map (fun n=>(valueAt kvs ((n:Nat):Int)).bind intOf)=howL): ∀p k r,PyVblcas.shape p=some (k,r)->∃t,valueAt kvs p=some (.int ((k:Nat):Int) t):=by
 intro p k r hs;obtain⟨h0,h1⟩:=yV hs;obtain⟨n,rfl⟩: ∃n:Nat,p=(n:Int):=⟨p.toNat,by omega⟩;have hn:n<22:=by omega
 have e:howL[n]? =some ((valueAt kvs ((n:Nat):Int)).bind intOf):=by rw[<-h,zR _ hn]
 have e2:howL[n]? =some (some ((k:Nat):Int)):=by
  clear h e h0 h1
  match n,hn,hs with
  |0,_,hs=>cases hs;rfl
  |1,_,hs=>cases hs;rfl
  |2,_,hs=>cases hs;rfl
  |3,_,hs=>cases hs;rfl
  |4,_,hs=>cases hs;rfl
  |5,_,hs=>cases hs;rfl
  |6,_,hs=>cases hs;rfl
  |7,_,hs=>cases hs;rfl
  |8,_,hs=>cases hs;rfl
  |9,_,hs=>cases hs;rfl
  |10,_,hs=>cases hs;rfl
  |11,_,hs=>cases hs;rfl
  |12,_,hs=>cases hs;rfl
  |13,_,hs=>cases hs;rfl
  |14,_,hs=>cases hs;rfl
  |15,_,hs=>cases hs;rfl
  |16,_,hs=>cases hs;rfl
  |17,_,hs=>cases hs;rfl
  |18,_,hs=>cases hs;rfl
  |19,_,hs=>cases hs;rfl
  |20,_,hs=>cases hs;rfl
  |21,_,hs=>cases hs;rfl
  |n+22,hn,_=>omega
 rw[e2] at e;have e:=Option.some.inj e;cases q:valueAt kvs ((n:Nat):Int) with
 |none=>rw[q] at e;cases e
 |some v=>
  rw[q] at e;obtain⟨t,rfl⟩:=Zu (v:=v) e.symm;exact⟨t,rfl⟩
theorem all_mk{P:Program}{w:World}{K:PySem.W.Frag}{h:Heap}{mg:Str->Option Value}{fa C fI fC fT dA dH dW:Addr}{f_state_after f_lean_between f_walk_sum f_goes_on f_steps_ahead f_all_below f_is_walk f_write_depths f_depths_by f_parents_by f_way_up f_height_of f_roots_by f_winding_of f_heights_by f_chords_among f_edge_between f_edges_told f_are_proper f_neighbours_by f_placed_by f_windings_by f_windings_of f_lives f_depths_from f_cells_within f_ring_of f_leans_by f_can_exceed f_best_sum f_sums_a_step_on f_common_divisor f_speed_among f_end_of f_course_of a_0 a_1 a_2 a_3 a_4 a_5 a_6 a_7 a_8 a_9 a_10 a_11 a_12 a_13 a_14 a_15 a_16 a_17 a_18 a_19 a_20 a_21 m_adr_forget_runs m_adr_take_kind m_adr_take_states m_adr_take_edges m_adr_take_graph m_adr_run m_adr_turn m_adr_rename m_adr_twin:Addr}{esA esH:Array DictEntry}{epA epH:Nat}{kvsH:List (Int×Value)}{wits:Array Value}{wn:Nat}{wdict:Option Addr}{wsl:Array (Option Value)}
  {t_STATES t_CHASE t_FIRE t_DONE t_OUT_OF_RANGE t_NOT_TOUCHING t_NO_CHORD t_NO_END t_NO_TURN t_MOST_CELLS t_MOST_GENERATIONS t_LONGEST_WALK t_WIDEST_BALL:Tok}
  (X:K.In h)(G:h.Ns mainGlobals mg)(hfa:mg "answers"=some (.ref fa))(aC:PySem.W.nsIn K mainGlobals "Wave"=some (some (.ref C)))
  (F_state_after:FnAt K "state_after" sStateAfter f_state_after)
  (F_lean_between:FnAt K "lean_between" sLean f_lean_between)
  (F_walk_sum:FnAt K "walk_sum" sWalkSum f_walk_sum)
  (F_goes_on:FnAt K "goes_on" sGoes f_goes_on)
  (F_steps_ahead:FnAt K "steps_ahead" sSteps f_steps_ahead)
  (F_all_below:FnAt K "all_below" sAllBelow f_all_below)
  (F_is_walk:FnAt K "is_walk" sIsWalk f_is_walk)
  (F_write_depths:FnAt K "write_depths" sWriteDepths f_write_depths)
  (F_depths_by:FnAt K "depths_by" sDepthsBy f_depths_by)
  (F_parents_by:FnAt K "parents_by" sParentsBy f_parents_by)
  (F_way_up:FnAt K "way_up" sWayUp f_way_up)
  (F_height_of:FnAt K "height_of" sHeightOf f_height_of)
  (F_roots_by:FnAt K "roots_by" sRootsBy f_roots_by)
  (F_winding_of:FnAt K "winding_of" sWindingOf f_winding_of)
  (F_heights_by:FnAt K "heights_by" sHeightsBy f_heights_by)
  (F_chords_among:FnAt K "chords_among" sChords f_chords_among)
  (F_edge_between:FnAt K "edge_between" sEdge f_edge_between)
  (F_edges_told:FnAt K "edges_told" sEdgesTold f_edges_told)
  (F_are_proper:FnAt K "are_proper" sProper f_are_proper)
  (F_neighbours_by:FnAt K "neighbours_by" sNeighbours f_neighbours_by)
  (F_placed_by:FnAt K "placed_by" sPlaced f_placed_by)
  (F_windings_by:FnAt K "windings_by" sWindings f_windings_by)
  (F_windings_of:FnAt K "windings_of" sWindOf f_windings_of)
  (F_lives:FnAt K "lives" sLives f_lives)
  (F_depths_from:FnAt K "depths_from" sDepthsFrom f_depths_from)
  (F_cells_within:FnAt K "cells_within" sCells f_cells_within)
  (F_ring_of:FnAt K "ring_of" sRingOf f_ring_of)
  (F_leans_by:FnAt K "leans_by" sLeans f_leans_by)
  (F_can_exceed:FnAt K "can_exceed" sExceed f_can_exceed)
  (F_best_sum:FnAt K "best_sum" sBest f_best_sum)
  (F_sums_a_step_on:FnAt K "sums_a_step_on" sStepOn f_sums_a_step_on)
  (F_common_divisor:FnAt K "common_divisor" sGcd f_common_divisor)
  (F_speed_among:FnAt K "speed_among" sSpeed f_speed_among)
  (F_end_of:FnAt K "end_of" sEnd f_end_of)
  (F_course_of:FnAt K "course_of" sCourse f_course_of)
  (A_0:FnAt K "answer_graph" sAGraph a_0)
  (A_1:FnAt K "answer_told" sATold a_1)
  (A_2:FnAt K "answer_kind" sAKind a_2)
  (A_3:FnAt K "answer_set" sASet a_3)
  (A_4:FnAt K "answer_config" sAConfig a_4)
  (A_5:FnAt K "answer_run" sARun a_5)
  (A_6:FnAt K "answer_counts" sACounts a_6)
  (A_7:FnAt K "answer_time" sATime a_7)
  (A_8:FnAt K "answer_lean" sALean a_8)
  (A_9:FnAt K "answer_walk" sAWalk a_9)
  (A_10:FnAt K "answer_heights" sAHeights a_10)
  (A_11:FnAt K "answer_windings" sAWindings a_11)
  (A_12:FnAt K "answer_ring" sARing a_12)
  (A_13:FnAt K "answer_lives" sALives a_13)
  (A_14:FnAt K "answer_end" sAEnd a_14)
  (A_15:FnAt K "answer_best" sABest a_15)
  (A_16:FnAt K "answer_speed" sASpeed a_16)
  (A_17:FnAt K "answer_course" sACourse a_17)
  (A_18:FnAt K "answer_ball" sABall a_18)
  (A_19:FnAt K "answer_parts" sAParts a_19)
  (A_20:FnAt K "answer_turn" sATurn a_20)
  (A_21:FnAt K "answer_rename" sARename a_21)
  (F_call:FnAt K "answer_call" sACall fC)(F_top:FnAt K "answers" sAnswers fT)
  (M_init:MeAt K C "__init__" "Wave.__init__" sInit fI)
  (M_forget_runs:MeAt K C "forget_runs" "Wave.forget_runs" sForget m_adr_forget_runs)
  (M_take_kind:MeAt K C "take_kind" "Wave.take_kind" sTakeKind m_adr_take_kind)
  (M_take_states:MeAt K C "take_states" "Wave.take_states" sTakeStates m_adr_take_states)
  (M_take_edges:MeAt K C "take_edges" "Wave.take_edges" sTakeEdges m_adr_take_edges)
  (M_take_graph:MeAt K C "take_graph" "Wave.take_graph" sTakeGraph m_adr_take_graph)
  (M_run:MeAt K C "run" "Wave.run" sRun m_adr_run)
  (M_turn:MeAt K C "turn" "Wave.turn" sTurn m_adr_turn)
  (M_rename:MeAt K C "rename" "Wave.rename" sRename m_adr_rename)
  (M_twin:MeAt K C "twin" "Wave.twin" sTwin m_adr_twin)
  (N_STATES:PySem.W.nsIn K mainGlobals "STATES"=some (some (.int (3) t_STATES)))
  (N_CHASE:PySem.W.nsIn K mainGlobals "CHASE"=some (some (.int (0) t_CHASE)))
  (N_FIRE:PySem.W.nsIn K mainGlobals "FIRE"=some (some (.int (1) t_FIRE)))
  (N_DONE:PySem.W.nsIn K mainGlobals "DONE"=some (some (.int (0) t_DONE)))
  (N_OUT_OF_RANGE:PySem.W.nsIn K mainGlobals "OUT_OF_RANGE"=some (some (.int (-1) t_OUT_OF_RANGE)))
  (N_NOT_TOUCHING:PySem.W.nsIn K mainGlobals "NOT_TOUCHING"=some (some (.int (-5) t_NOT_TOUCHING)))
  (N_NO_CHORD:PySem.W.nsIn K mainGlobals "NO_CHORD"=some (some (.int (-5) t_NO_CHORD)))
  (N_NO_END:PySem.W.nsIn K mainGlobals "NO_END"=some (some (.int (-6) t_NO_END)))
  (N_NO_TURN:PySem.W.nsIn K mainGlobals "NO_TURN"=some (some (.int (-7) t_NO_TURN)))
  (N_MOST_CELLS:PySem.W.nsIn K mainGlobals "MOST_CELLS"=some (some (.int (16) t_MOST_CELLS)))
  (N_MOST_GENERATIONS:PySem.W.nsIn K mainGlobals "MOST_GENERATIONS"=some (some (.int (1000) t_MOST_GENERATIONS)))
  (N_LONGEST_WALK:PySem.W.nsIn K mainGlobals "LONGEST_WALK"=some (some (.int (256) t_LONGEST_WALK)))
  (N_WIDEST_BALL:PySem.W.nsIn K mainGlobals "WIDEST_BALL"=some (some (.int (16) t_WIDEST_BALL)))
  (B_sum:PySem.W.nsIn K mainGlobals "sum"=some none)
  (B_any:PySem.W.nsIn K mainGlobals "any"=some none)
  (B_tuple:PySem.W.nsIn K mainGlobals "tuple"=some none)
  (B_reversed:PySem.W.nsIn K mainGlobals "reversed"=some none)
  (B_zip:PySem.W.nsIn K mainGlobals "zip"=some none)
  (B_all:PySem.W.nsIn K mainGlobals "all"=some none)
  (B_len:PySem.W.nsIn K mainGlobals "len"=some none)
  (B_min:PySem.W.nsIn K mainGlobals "min"=some none)
  (B_max:PySem.W.nsIn K mainGlobals "max"=some none)
  (B_sorted:PySem.W.nsIn K mainGlobals "sorted"=some none)
  (B_set:PySem.W.nsIn K mainGlobals "set"=some none)
  (B_list:PySem.W.nsIn K mainGlobals "list"=some none)
  (B_range:PySem.W.nsIn K mainGlobals "range"=some none)
  (B_enumerate:PySem.W.nsIn K mainGlobals "enumerate"=some none)
  (pg:PySem.W.plainGet K C Str.empty=true)(hd:PySem.W.hasDictIn K C=true)(po:PySem.W.plainOver K C=true)(sa:PySem.W.findIn K (.ref C) "__setattr__"=some (some (.builtin "object.__setattr__")))(mk:PySem.W.makesIn K C=true)(kc:PySem.W.keepIn K (.ref C)=true)
  (nKind:PySem.W.findIn K (.ref C) "kind"=some none)
  (nN:PySem.W.findIn K (.ref C) "n"=some none)
  (nEdges:PySem.W.findIn K (.ref C) "edges"=some none)
  (nNear:PySem.W.findIn K (.ref C) "neighbours"=some none)
  (nStates:PySem.W.findIn K (.ref C) "states"=some none)
  (nTime:PySem.W.findIn K (.ref C) "time"=some none)
  (nCounts:PySem.W.findIn K (.ref C) "counts"=some none)
  (nA:PySem.W.nsIn K mainGlobals "ANSWERS"=some (some (.ref dA)))(lA:K.lookup dA=some ⟨.type "dict",none,.dict esA epA,#[]⟩)(eA:ents esA.toList=some [(0,.ref a_0),(1,.ref a_1),(2,.ref a_2),(3,.ref a_3),(4,.ref a_4),(5,.ref a_5),(6,.ref a_6),(7,.ref a_7),(8,.ref a_8),(9,.ref a_9),(10,.ref a_10),(11,.ref a_11),(12,.ref a_12),(13,.ref a_13),(14,.ref a_14),(15,.ref a_15),(16,.ref a_16),(17,.ref a_17),(18,.ref a_18),(19,.ref a_19),(20,.ref a_20),(21,.ref a_21)])
  (nH:PySem.W.nsIn K mainGlobals "HOW_MANY"=some (some (.ref dH)))(lH:K.lookup dH=some ⟨.type "dict",none,.dict esH epH,#[]⟩)(eH:ents esH.toList=some kvsH)(ndH:(kvsH.map (·.1)).Nodup)(vH:(List.range 22).map (fun n=>(valueAt kvsH ((n:Nat):Int)).bind intOf)=howL)
  (nW:PySem.W.nsIn K mainGlobals "WITH_LIST"=some (some (.ref dW)))(lW:K.lookup dW=some ⟨.type "tuple",wdict,.seq wits wn,wsl⟩)(eW:wits.toList.map intOf=[some 0,some 3,some 9,some 21]):
  ∃fd:FuncData,(∀(s:Shared) (us:List Value),us.length=(["calls"]:List Str).length->BindsTo s fd ⟨us,[]⟩ ((["calls"]:List Str).zip us))/\∀base:Heap,K.In base->base.Ns mainGlobals mg->FnOk P w K mg base CX0 11 fa fd ["calls"] (spTop K):=by
 cases hfa.symm.trans (PySem.W.mg_of X G F_top.ns);obtain⟨fdT,FT⟩:=F_top.fn;refine⟨fdT,?_,fun base _ _=> ?_⟩
 ·obtain⟨oc,od,kV,doc,pm,an,cdv,ct,osl,rfl,lk,hcd⟩:=FT.ex;exact fun s us hu=>match us,hu with|[_],_=>.of_eq rfl
 have B:Bi mg:={sum:=PySem.W.mg_none_of X G B_sum,any:=PySem.W.mg_none_of X G B_any,tuple:=PySem.W.mg_none_of X G B_tuple,reversed:=PySem.W.mg_none_of X G B_reversed,zip:=PySem.W.mg_none_of X G B_zip,all:=PySem.W.mg_none_of X G B_all,len:=PySem.W.mg_none_of X G B_len,min:=PySem.W.mg_none_of X G B_min,max:=PySem.W.mg_none_of X G B_max,sorted:=PySem.W.mg_none_of X G B_sorted,set:=PySem.W.mg_none_of X G B_set,list:=PySem.W.mg_none_of X G B_list,range:=PySem.W.mg_none_of X G B_range,enumerate:=PySem.W.mg_none_of X G B_enumerate};have T:WTxt K C:=⟨⟨pg,hd,po,sa⟩,nKind,nN,nEdges,nNear,nStates,nTime,nCounts⟩;have iSTATES:IntG mg "STATES" (3):=Zb X G N_STATES;have iCHASE:IntG mg "CHASE" (0):=Zb X G N_CHASE;have iFIRE:IntG mg "FIRE" (1):=Zb X G N_FIRE;have iDONE:IntG mg "DONE" (0):=Zb X G N_DONE;have iOUT_OF_RANGE:IntG mg "OUT_OF_RANGE" (-1):=Zb X G N_OUT_OF_RANGE;have iNOT_TOUCHING:IntG mg "NOT_TOUCHING" (-5):=Zb X G N_NOT_TOUCHING;have iNO_CHORD:IntG mg "NO_CHORD" (-5):=Zb X G N_NO_CHORD;have iNO_END:IntG mg "NO_END" (-6):=Zb X G N_NO_END;have iNO_TURN:IntG mg "NO_TURN" (-7):=Zb X G N_NO_TURN;have iMOST_CELLS:IntG mg "MOST_CELLS" (16):=Zb X G N_MOST_CELLS;have iMOST_GENERATIONS:IntG mg "MOST_GENERATIONS" (1000):=Zb X G N_MOST_GENERATIONS;have iLONGEST_WALK:IntG mg "LONGEST_WALK" (256):=Zb X G N_LONGEST_WALK;have iWIDEST_BALL:IntG mg "WIDEST_BALL" (16):=Zb X G N_WIDEST_BALL;have c_state_after:Callee P w K mg base 1 "state_after" ["state","steps"] spStateAfter:=F_state_after.cal X G (fun fd F=>ok_stateAfter F iSTATES) (fun _ _ _ _ _ _ us hl=>l2 us hl fun _ _=>rfl);have c_lean_between:Callee P w K mg base 2 "lean_between" ["a","b"] spLean:=F_lean_between.cal X G (fun fd F=>ok_lean F c_state_after) (fun _ _ _ _ _ _ us hl=>l2 us hl fun _ _=>rfl);have c_walk_sum:Callee P w K mg base 3 "walk_sum" ["states","cells"] (spWalkSum K):=F_walk_sum.cal X G (fun fd F=>ok_walkSum F B c_lean_between) (fun _ _ _ _ _ _ us hl=>l2 us hl fun _ _=>rfl);have c_goes_on:Callee P w K mg base 2 "goes_on" ["kind","near","states","cell"] (spGoes K):=F_goes_on.cal X G (fun fd F=>ok_goes F iFIRE c_state_after) (fun _ _ _ _ _ _ us hl=>l4 us hl fun _ _ _ _=>rfl);have c_steps_ahead:Callee P w K mg base 3 "steps_ahead" ["kind","neighbours","states"] (spSteps K):=F_steps_ahead.cal X G (fun fd F=>ok_steps F B c_goes_on) (fun _ _ _ _ _ _ us hl=>l3 us hl fun _ _ _=>rfl);have c_all_below:Callee P w K mg base 1 "all_below" ["numbers","bound"] (spAllBelow K):=F_all_below.cal X G (fun fd F=>ok_allBelow F B) (fun _ _ _ _ _ _ us hl=>l2 us hl fun _ _=>rfl);have c_is_walk:Callee P w K mg base 1 "is_walk" ["neighbours","cells"] (spIsWalk K):=F_is_walk.cal X G (fun fd F=>ok_isWalk F B) (fun _ _ _ _ _ _ us hl=>l2 us hl fun _ _=>rfl);have c_write_depths:Callee P w K mg base 1 "write_depths" ["neighbours","start","depths"] (spWriteDepths K):=F_write_depths.cal X G (fun fd F=>ok_writeDepths F B) (fun _ _ _ _ _ _ us hl=>l3 us hl fun _ _ _=>rfl);have c_depths_by:Callee P w K mg base 2 "depths_by" ["neighbours"] spDepthsBy:=F_depths_by.cal X G (fun fd F=>ok_depthsBy F B c_write_depths) (fun _ _ _ _ _ _ us hl=>l1 us hl fun _=>rfl);have c_parents_by:Callee P w K mg base 3 "parents_by" ["neighbours"] spParentsBy:=F_parents_by.cal X G (fun fd F=>ok_parentsBy F B c_depths_by) (fun _ _ _ _ _ _ us hl=>l1 us hl fun _=>rfl);have c_way_up:Callee P w K mg base 1 "way_up" ["cell","parents"] (spWayUp K):=F_way_up.cal X G (fun fd F=>ok_wayUp F) (fun _ _ _ _ _ _ us hl=>l2 us hl fun _ _=>rfl);have c_height_of:Callee P w K mg base 4 "height_of" ["cell","parents","states"] (spHeightOf K):=F_height_of.cal X G (fun fd F=>ok_heightOf F B c_way_up c_walk_sum) (fun _ _ _ _ _ _ us hl=>l3 us hl fun _ _ _=>rfl);have c_roots_by:Callee P w K mg base 2 "roots_by" ["parents"] (spRootsBy K):=F_roots_by.cal X G (fun fd F=>ok_rootsBy F B c_way_up) (fun _ _ _ _ _ _ us hl=>l1 us hl fun _=>rfl);have c_winding_of:Callee P w K mg base 3 "winding_of" ["a","b","heights","states"] (spWindingOf K):=F_winding_of.cal X G (fun fd F=>ok_windingOf F iSTATES c_lean_between) (fun _ _ _ _ _ _ us hl=>l4 us hl fun _ _ _ _=>rfl);have c_heights_by:Callee P w K mg base 5 "heights_by" ["parents","states"] (spHeightsBy K):=F_heights_by.cal X G (fun fd F=>ok_heightsBy F B c_height_of) (fun _ _ _ _ _ _ us hl=>l2 us hl fun _ _=>rfl);have c_chords_among:Callee P w K mg base 1 "chords_among" ["edges","parents"] (spChords K):=F_chords_among.cal X G (fun fd F=>ok_chords F) (fun _ _ _ _ _ _ us hl=>l2 us hl fun _ _=>rfl);have c_edge_between:Callee P w K mg base 1 "edge_between" ["a","b"] spEdge:=F_edge_between.cal X G (fun fd F=>ok_edge F B) (fun _ _ _ _ _ _ us hl=>l2 us hl fun _ _=>rfl);have c_edges_told:Callee P w K mg base 2 "edges_told" ["numbers"] (spEdgesTold K):=F_edges_told.cal X G (fun fd F=>ok_edgesTold F B c_edge_between) (fun _ _ _ _ _ _ us hl=>l1 us hl fun _=>rfl);have c_are_proper:Callee P w K mg base 1 "are_proper" ["edges"] spProper:=F_are_proper.cal X G (fun fd F=>ok_proper F B) (fun _ _ _ _ _ _ us hl=>l1 us hl fun _=>rfl);have c_neighbours_by:Callee P w K mg base 1 "neighbours_by" ["n","edges"] spNeighbours:=F_neighbours_by.cal X G (fun fd F=>ok_neighbours F B) (fun _ _ _ _ _ _ us hl=>l2 us hl fun _ _=>rfl);have c_placed_by:Callee P w K mg base 1 "placed_by" ["names","values"] (spPlaced K):=F_placed_by.cal X G (fun fd F=>ok_placed F B) (fun _ _ _ _ _ _ us hl=>l2 us hl fun _ _=>rfl);have c_windings_by:Callee P w K mg base 6 "windings_by" ["edges","neighbours","states"] (spWindings K):=F_windings_by.cal X G (fun fd F=>ok_windings F c_parents_by c_heights_by c_chords_among c_winding_of) (fun _ _ _ _ _ _ us hl=>l3 us hl fun _ _ _=>rfl);have c_windings_of:Callee P w K mg base 7 "windings_of" ["wave"] (spWindOf C):=F_windings_of.cal X G (fun fd F=>ok_windOf F T c_windings_by) (fun _ _ _ _ _ _ us hl=>l1 us hl fun _=>rfl);have c_lives:Callee P w K mg base 8 "lives" ["wave"] (spLives C):=F_lives.cal X G (fun fd F=>ok_lives F B c_windings_of) (fun _ _ _ _ _ _ us hl=>l1 us hl fun _=>rfl);have c_depths_from:Callee P w K mg base 2 "depths_from" ["neighbours","cell"] spDepthsFrom:=F_depths_from.cal X G (fun fd F=>ok_depthsFrom F c_write_depths) (fun _ _ _ _ _ _ us hl=>l2 us hl fun _ _=>rfl);have c_cells_within:Callee P w K mg base 3 "cells_within" ["wave","start","most"] (spCells C):=F_cells_within.cal X G (fun fd F=>ok_cells F B T c_depths_from) (fun _ _ _ _ _ _ us hl=>l3 us hl fun _ _ _=>rfl);have c_ring_of:Callee P w K mg base 2 "ring_of" ["chord","parents"] (spRing K):=F_ring_of.cal X G (fun fd F=>ok_ring F B c_way_up) (fun _ _ _ _ _ _ us hl=>l2 us hl fun _ _=>rfl);have c_leans_by:Callee P w K mg base 3 "leans_by" ["neighbours","states"] (spLeans K):=F_leans_by.cal X G (fun fd F=>ok_leans F B c_lean_between) (fun _ _ _ _ _ _ us hl=>l2 us hl fun _ _=>rfl);have c_can_exceed:Callee P w K mg base 1 "can_exceed" ["total","near","sums"] (spExceed K):=F_can_exceed.cal X G (fun fd F=>ok_exceed F) (fun _ _ _ _ _ _ us hl=>l3 us hl fun _ _ _=>rfl);have c_best_sum:Callee P w K mg base 2 "best_sum" ["leans","start","most"] (spBest K):=F_best_sum.cal X G (fun fd F=>ok_best F B c_can_exceed) (fun _ _ _ _ _ _ us hl=>l3 us hl fun _ _ _=>rfl);have c_sums_a_step_on:Callee P w K mg base 1 "sums_a_step_on" ["leans","sums"] spStepOn:=F_sums_a_step_on.cal X G (fun fd F=>ok_stepOn F) (fun _ _ _ _ _ _ us hl=>l2 us hl fun _ _=>rfl);have c_common_divisor:Callee P w K mg base 1 "common_divisor" ["a","b"] spGcd:=F_common_divisor.cal X G (fun fd F=>ok_gcd F) (fun _ _ _ _ _ _ us hl=>l2 us hl fun _ _=>rfl);have c_speed_among:Callee P w K mg base 2 "speed_among" ["leans","cells"] (spSpeed K):=F_speed_among.cal X G (fun fd F=>ok_speed F B c_sums_a_step_on c_common_divisor) (fun _ _ _ _ _ _ us hl=>l2 us hl fun _ _=>rfl);have m_forget_runs:MCallee P w K mg base 1 C "forget_runs" ["self"] (spForget C):=M_forget_runs.cal (fun fd F=>ok_forget F T) (fun _ _ _ _ _ _ us hl=>l1 us hl fun _=>rfl);have m_take_kind:MCallee P w K mg base 2 C "take_kind" ["self","kind"] (spTakeKind C):=M_take_kind.cal (fun fd F=>ok_takeKind F T m_forget_runs) (fun _ _ _ _ _ _ us hl=>l2 us hl fun _ _=>rfl);have m_take_states:MCallee P w K mg base 2 C "take_states" ["self","states"] (spTakeStates K C):=M_take_states.cal (fun fd F=>ok_takeStates F B T m_forget_runs) (fun _ _ _ _ _ _ us hl=>l2 us hl fun _ _=>rfl);have m_take_edges:MCallee P w K mg base 2 C "take_edges" ["self","edges"] (spTakeEdges C):=M_take_edges.cal (fun fd F=>ok_takeEdges F B T c_neighbours_by) (fun _ _ _ _ _ _ us hl=>l2 us hl fun _ _=>rfl);have m_take_graph:MCallee P w K mg base 3 C "take_graph" ["self","n","edges"] (spTakeGraph C):=M_take_graph.cal (fun fd F=>ok_takeGraph F T m_take_edges m_take_states) (fun _ _ _ _ _ _ us hl=>l3 us hl fun _ _ _=>rfl);have m_run:MCallee P w K mg base 4 C "run" ["self","generations"] (spRun C):=M_run.cal (fun fd F=>ok_run F B T c_steps_ahead c_state_after) (fun _ _ _ _ _ _ us hl=>l2 us hl fun _ _=>rfl);have m_turn:MCallee P w K mg base 2 C "turn" ["self","steps"] (spTurn C):=M_turn.cal (fun fd F=>ok_turn F T c_state_after) (fun _ _ _ _ _ _ us hl=>l2 us hl fun _ _=>rfl);have m_rename:MCallee P w K mg base 3 C "rename" ["self","names"] (spRename K C):=M_rename.cal (fun fd F=>ok_rename F T c_edge_between c_placed_by m_take_edges) (fun _ _ _ _ _ _ us hl=>l2 us hl fun _ _=>rfl);have mkr:Maker P w K mg base 4 C (spInit C):=by
  obtain⟨fdI,FI⟩:=M_init.fn;exact⟨fI,fdI,ok_init FI T iCHASE m_take_graph,⟨mk,M_init.me.1,M_init.me.2,kc⟩,PySem.W.mg_of X G aC,FI.binds (fun _ _ _ _ _ _ us hl=>l1 us hl fun _=>rfl)⟩
 have m_twin:MCallee P w K mg base 6 C "twin" ["self"] (spTwin C):=M_twin.cal (fun fd F=>ok_twin F T mkr m_take_kind m_take_graph m_take_states) (fun _ _ _ _ _ _ us hl=>l1 us hl fun _=>rfl);have c_end_of:Callee P w K mg base 7 "end_of" ["wave"] (spEnd C):=F_end_of.cal X G (fun fd F=>ok_end F T m_twin m_run) (fun _ _ _ _ _ _ us hl=>l1 us hl fun _=>rfl);have c_course_of:Callee P w K mg base 7 "course_of" ["wave","most"] (spCourse C):=F_course_of.cal X G (fun fd F=>ok_course F B T m_twin m_run) (fun _ _ _ _ _ _ us hl=>l2 us hl fun _ _=>rfl);have DA:=dictK_of lA eA (by show([0,1,2,3,4,5,6,7,8,9,10,11,12,13,14,15,16,17,18,19,20,21]:List Int).Nodup;decide);have DH:=dictK_of lH eH ndH;have CAll: ∀p k r,PyVblcas.shape p=some (k,r)->ACallee P w K mg base C [(0,Value.ref a_0),(1,Value.ref a_1),(2,Value.ref a_2),(3,Value.ref a_3),(4,Value.ref a_4),(5,Value.ref a_5),(6,Value.ref a_6),(7,Value.ref a_7),(8,Value.ref a_8),(9,Value.ref a_9),(10,Value.ref a_10),(11,Value.ref a_11),(12,Value.ref a_12),(13,Value.ref a_13),(14,Value.ref a_14),(15,Value.ref a_15),(16,Value.ref a_16),(17,Value.ref a_17),(18,Value.ref a_18),(19,Value.ref a_19),(20,Value.ref a_20),(21,Value.ref a_21)] p k r:=by
  intro p k r hs;obtain⟨h0,h1⟩:=yV hs;obtain⟨n,rfl⟩: ∃n:Nat,p=(n:Int):=⟨p.toNat,by omega⟩;have hn:n<22:=by omega
  clear h0 h1
  match n,hn,hs with
  |0,_,hs=>cases hs;exact A_0.acal rfl (by decide) (fun fd F=>ok_aGraph F B T iMOST_CELLS iDONE iOUT_OF_RANGE c_all_below c_edges_told c_are_proper m_take_graph) (fun _ _ _ _ _ _ us hl=>l3 us hl fun _ _ _=>rfl) (fun ns row hl=>rfl)
  |1,_,hs=>cases hs;exact A_1.acal rfl (by decide) (fun fd F=>ok_aTold F B T) (fun _ _ _ _ _ _ us hl=>l3 us hl fun _ _ _=>rfl) (fun ns row hl=>by cases ns with|nil=>rfl|cons _ _=>cases hl)
  |2,_,hs=>cases hs;exact A_2.acal rfl (by decide) (fun fd F=>ok_aKind F T iFIRE iDONE iOUT_OF_RANGE c_all_below m_take_kind) (fun _ _ _ _ _ _ us hl=>l3 us hl fun _ _ _=>rfl) (fun ns row hl=>rfl)
  |3,_,hs=>cases hs;exact A_3.acal rfl (by decide) (fun fd F=>ok_aSet F B T iSTATES iDONE iOUT_OF_RANGE c_all_below m_take_states) (fun _ _ _ _ _ _ us hl=>l3 us hl fun _ _ _=>rfl) (fun ns row hl=>by cases ns with|nil=>rfl|cons _ _=>cases hl)
  |4,_,hs=>cases hs;exact A_4.acal rfl (by decide) (fun fd F=>ok_aConfig F T) (fun _ _ _ _ _ _ us hl=>l3 us hl fun _ _ _=>rfl) (fun ns row hl=>by cases ns with|nil=>rfl|cons _ _=>cases hl)
  |5,_,hs=>cases hs;exact A_5.acal rfl (by decide) (fun fd F=>ok_aRun F T iMOST_GENERATIONS iOUT_OF_RANGE c_all_below m_run) (fun _ _ _ _ _ _ us hl=>l3 us hl fun _ _ _=>rfl) (fun ns row hl=>rfl)
  |6,_,hs=>cases hs;exact A_6.acal rfl (by decide) (fun fd F=>ok_aCounts F T) (fun _ _ _ _ _ _ us hl=>l3 us hl fun _ _ _=>rfl) (fun ns row hl=>by cases ns with|nil=>rfl|cons _ _=>cases hl)
  |7,_,hs=>cases hs;exact A_7.acal rfl (by decide) (fun fd F=>ok_aTime F T) (fun _ _ _ _ _ _ us hl=>l3 us hl fun _ _ _=>rfl) (fun ns row hl=>by cases ns with|nil=>rfl|cons _ _=>cases hl)
  |8,_,hs=>cases hs;exact A_8.acal rfl (by decide) (fun fd F=>ok_aLean F T iDONE iOUT_OF_RANGE iNOT_TOUCHING c_all_below c_is_walk c_lean_between) (fun _ _ _ _ _ _ us hl=>l3 us hl fun _ _ _=>rfl) (fun ns row hl=>rfl)
  |9,_,hs=>cases hs;exact A_9.acal rfl (by decide) (fun fd F=>ok_aWalk F B T iLONGEST_WALK iDONE iOUT_OF_RANGE iNOT_TOUCHING c_all_below c_is_walk c_walk_sum) (fun _ _ _ _ _ _ us hl=>l3 us hl fun _ _ _=>rfl) (fun ns row hl=>by cases ns with|nil=>rfl|cons _ _=>cases hl)
  |10,_,hs=>cases hs;exact A_10.acal rfl (by decide) (fun fd F=>ok_aHeights F T c_windings_of c_parents_by c_heights_by) (fun _ _ _ _ _ _ us hl=>l3 us hl fun _ _ _=>rfl) (fun ns row hl=>by cases ns with|nil=>rfl|cons _ _=>cases hl)
  |11,_,hs=>cases hs;exact A_11.acal rfl (by decide) (fun fd F=>ok_aWindings F B c_windings_of) (fun _ _ _ _ _ _ us hl=>l3 us hl fun _ _ _=>rfl) (fun ns row hl=>by cases ns with|nil=>rfl|cons _ _=>cases hl)
  |12,_,hs=>cases hs;exact A_12.acal rfl (by decide) (fun fd F=>ok_aRing F B T iOUT_OF_RANGE iNO_CHORD c_all_below c_edge_between c_parents_by c_chords_among c_ring_of) (fun _ _ _ _ _ _ us hl=>l3 us hl fun _ _ _=>rfl) (fun ns row hl=>rfl)
  |13,_,hs=>cases hs;exact A_13.acal rfl (by decide) (fun fd F=>ok_aLives F c_lives) (fun _ _ _ _ _ _ us hl=>l3 us hl fun _ _ _=>rfl) (fun ns row hl=>by cases ns with|nil=>rfl|cons _ _=>cases hl)
  |14,_,hs=>cases hs;exact A_14.acal rfl (by decide) (fun fd F=>ok_aEnd F iNO_END c_lives c_end_of) (fun _ _ _ _ _ _ us hl=>l3 us hl fun _ _ _=>rfl) (fun ns row hl=>by cases ns with|nil=>rfl|cons _ _=>cases hl)
  |15,_,hs=>cases hs;exact A_15.acal rfl (by decide) (fun fd F=>ok_aBest F T iMOST_GENERATIONS iOUT_OF_RANGE c_all_below c_leans_by c_best_sum) (fun _ _ _ _ _ _ us hl=>l3 us hl fun _ _ _=>rfl) (fun ns row hl=>rfl)
  |16,_,hs=>cases hs;exact A_16.acal rfl (by decide) (fun fd F=>ok_aSpeed F T iOUT_OF_RANGE c_all_below c_leans_by c_cells_within c_speed_among) (fun _ _ _ _ _ _ us hl=>l3 us hl fun _ _ _=>rfl) (fun ns row hl=>rfl)
  |17,_,hs=>cases hs;exact A_17.acal rfl (by decide) (fun fd F=>ok_aCourse F iMOST_GENERATIONS iOUT_OF_RANGE c_course_of) (fun _ _ _ _ _ _ us hl=>l3 us hl fun _ _ _=>rfl) (fun ns row hl=>rfl)
  |18,_,hs=>cases hs;exact A_18.acal rfl (by decide) (fun fd F=>ok_aBall F B T iWIDEST_BALL iOUT_OF_RANGE c_all_below c_cells_within) (fun _ _ _ _ _ _ us hl=>l3 us hl fun _ _ _=>rfl) (fun ns row hl=>rfl)
  |19,_,hs=>cases hs;exact A_19.acal rfl (by decide) (fun fd F=>ok_aParts F T c_parents_by c_roots_by) (fun _ _ _ _ _ _ us hl=>l3 us hl fun _ _ _=>rfl) (fun ns row hl=>by cases ns with|nil=>rfl|cons _ _=>cases hl)
  |20,_,hs=>cases hs;exact A_20.acal rfl (by decide) (fun fd F=>ok_aTurn F T iSTATES iFIRE iDONE iOUT_OF_RANGE iNO_TURN c_all_below m_turn) (fun _ _ _ _ _ _ us hl=>l3 us hl fun _ _ _=>rfl) (fun ns row hl=>rfl)
  |21,_,hs=>cases hs;exact A_21.acal rfl (by decide) (fun fd F=>ok_aRename F B T iDONE iOUT_OF_RANGE m_rename) (fun _ _ _ _ _ _ us hl=>l3 us hl fun _ _ _=>rfl) (fun ns row hl=>by cases ns with|nil=>rfl|cons _ _=>cases hl)
  |n+22,hn,_=>omega
 have c_call:Callee P w K mg base 10 "answer_call" ["wave","number","numbers","row"] (spCall K C):=F_call.cal X G (fun fd F=>ok_aCall F DA (PySem.W.mg_of X G nA) CAll) (fun _ _ _ _ _ _ us hl=>l4 us hl fun _ _ _ _=>rfl);refine ok_answers FT B mkr DH (PySem.W.mg_of X G nH) (how_of vH) (PySem.W.mg_of X G nW) (fun H=>.inr ⟨_,wits,wn,lW,rfl,rfl,?_,?_⟩) c_call
 ·have:=congrArg List.length eW;rw[List.length_map] at this;rw[<-Array.length_toList,this]
  decide
 ·revert eW;generalize wits.toList=l;intro eW;rcases l with _|⟨a,_|⟨b,_|⟨c,_|⟨d,_|⟨e,l⟩⟩⟩⟩⟩
  ·cases eW
  ·cases (List.cons.inj eW).2
  ·cases (List.cons.inj (List.cons.inj eW).2).2
  ·cases (List.cons.inj (List.cons.inj (List.cons.inj eW).2).2).2
  ·skip
   have e1:=(List.cons.inj eW).1;have e2:=(List.cons.inj (List.cons.inj eW).2).1;have e3:=(List.cons.inj (List.cons.inj (List.cons.inj eW).2).2).1;have e4:=(List.cons.inj (List.cons.inj (List.cons.inj (List.cons.inj eW).2).2).2).1;exact .cons (Zu e1) (.cons (Zu e2) (.cons (Zu e3) (.cons (Zu e4) .nil)))
  ·cases (List.cons.inj (List.cons.inj (List.cons.inj (List.cons.inj eW).2).2).2).2
end GW
namespace PySem.W.Fast
def tw7366317097620037344:=0
def tw6436646042545614991:=0
def tw17758597142695897054:=0
def tw8595280750319295967:=0
def tw7864339526840956956:=0
def tw7236107598683851513:=0
def tw5371869159724685310:=0
def tw4754323730562952966:=0
def tw14531181924590836304:=0
def tw18389780286687000699:=0
def tw6435248999985028335:=0
def tw11559811001844399166:=0
def tw18398803131693099890:=0
def tw8317296311187097025:=0
def tw6500702116136659642:=0
def tw4521903638283608550:=0
def tw3012838597669483208:=0
def tw11902245008836115872:=0
def tw305497560989835924:=0
def tw12852811603699471625:=0
def tw11087460838637504432:=0
def tw14365526304276160857:=0
def tw11108368531751080430:=0
def tw12758770533536534966:=0
def tw254073014729353937:=0
def tw6610035164575342339:=0
def tw16542348450322274752:=0
def tw17738925003593953536:=0
def tw1408998435268202014:=0
def tw10844611914935813779:=0
def tw16082943477461639388:=0
def tw5939171097321502382:=0
def tw8633746521240094223:=0
def tw11945736798256606114:=0
def tw11529886516076704140:=0
def tw7471195813188523838:=0
def tw11936677267612484033:=0
def tw13297037778164054747:=0
def tw10387858663782053029:=0
def tw2465978189521226217:=0
def tw15396918571128455926:=0
def tw13783334904199640454:=0
def tw17728661457163152787:=0
def tw1953569917112286631:=0
def tw11451235757230682939:=0
def tw3016315904046161287:=0
def tw17303769822649443976:=0
def tw8536607224819870361:=0
def tw10286704049312439762:=0
def tw16155697762544856665:=0
def tw8124279199708979558:=0
def tw2365364081335597007:=0
def tw3684274784827405861:=0
def tw6818661482245635707:=0
def tw7478214666531494007:=0
def tw16669433234245133298:=0
def tw11421163364164323307:=0
def tw7640396483123079972:=0
def tw2580885434669525951:=0
def tw10589097693655769688:=0
def tw10103417390277923447:=0
def tw17898668865603025931:=0
def tw17957676321200533093:=0
def tw2862050188425156814:=0
def tw9842485047921213889:=0
def tw16711438053155845439:=0
def tw12590902725307776332:=0
def tw626593827437265560:=0
def tw15077100049753127490:=0
def tw5226847266635545077:=0
def tw18174554010073856299:=0
def tw16305074766401932747:=0
def tw10121520024604845343:=0
def tw10945052333131044818:=0
def tw13233965815894169932:=0
def tw12735211566254216360:=0
def tw6114952981289715393:=0
def tw290050858610291223:=0
def tw7387836254924174740:=0
def tw11469665823572650758:=0
def tw10886060966211315561:=0
def tw15396365615733185326:=0
def tw1913479438457608766:=0
def tw9467371146733949282:=0
def tw5017735534401913407:=0
def tw14239743303430023340:=0
def tw13159080944273849254:=0
def tw16621214042863494084:=0
def tw15795269615868272348:=0
def tw641697101049834448:=0
def tw7252202906393798633:=0
def tw9951144110506537327:=0
def tw8990352581982893981:=0
def tw11364674640093799023:=0
def tw17025997364159877140:=0
def tw6083191351427890765:=0
def tw14480900936242030861:=0
def tw16805574124710602974:=0
def tw11758639270994572461:=0
def tw14649512360547088303:=0
def tw5833837387166173256:=0
def tw8877869214255410214:=0
def tw6549353558163054629:=0
def tw16700227172746817603:=0
def tw12443497853893665788:=0
def tw11969597019622262850:=0
def tw7238781205256276427:=0
def tw7087287624996918746:=0
def tw9945426360091816128:=0
def tw10038585086897953736:=0
def tw7785979779756751252:=0
def tw13579761419874591495:=0
def tw8717816619996513655:=0
def tw1190296968299001015:=0
def tw15502030868240633130:=0
def tw14302933895274041207:=0
def tw2510819440848415855:=0
def tw9934992181802409906:=0
def tw11206826593914499411:=0
def tw7083454522645984646:=0
def tw1065065170132683871:=0
def tw11288455417553240189:=0
def tw8676143968383675578:=0
def tw16442383529870775281:=0
def tw6952436762489121313:=0
def tw15021570255893656146:=0
def tw9949765966683950906:=0
def tw14823694295241613363:=0
def tw10679012623362046632:=0
def tw3896385824199540555:=0
def tw10028122482010428105:=0
def tw4193065604495422447:=0
def tw12699644768004701013:=0
def tw14229129165083341426:=0
def tw8042383783323075352:=0
def tw13676775332679549169:=0
def tw1853249521209434274:=0
def tw87834147803781253:=0
def tw9760036567872802286:=0
def tw7960617563624290622:=0
def tw1971103560334035459:=0
def tw18090244868884285951:=0
def tw1795778841943148824:=0
def tw11113266752625537486:=0
def tw11505625251018772271:=0
def tw3913290125706144819:=0
def tw6952808371877293221:=0
def tw5289728304614645620:=0
def tw15343772041676598080:=0
def tw7212374483216966409:=0
def tw10190544082393331163:=0
def tw11434956649805761139:=0
def tw10978212237640828943:=0
def tw11652628285025526477:=0
def tw17680784877154887395:=0
def tw13689137986859450975:=0
end PySem.W.Fast
open PySem PySem.W PyProof.Rows
theorem PySem.Challenge.cw_graphwaves_s01_answers_holds : PySem.Challenge.rw_graphwaves_s01_answers.Holds := by
 w_on;k_headS;(case hw=>exact⟨[.list [.int 1]],by decide +kernel,by decide +kernel⟩)
 k_fillS
 refine L2.walk_specK (r:=PySem.Challenge.rw_graphwaves_s01_answers) (k:=11) (CX:=L2.CX0) (ps:=["calls"]) (sp:=GW.spTop) (by decide +kernel) rfl rfl ⟨rfl,by decide,by decide⟩ (fun w h Y=>PySem.W.kIn_of Y) ?F ?S (fun _ _ _ _ z=>z)
 case F=>
  intro w mg fa h Y KX G hmg
  refine' GW.all_mk KX G hmg ?x0 (GW.zO ?x1 ?x2 ?x3 ?x4) (GW.zO ?x5 ?x6 ?x7 ?x8) (GW.zO ?x9 ?x10 ?x11 ?x12) (GW.zO ?x13 ?x14 ?x15 ?x16) (GW.zO ?x17 ?x18 ?x19 ?x20) (GW.zO ?x21 ?x22 ?x23 ?x24) (GW.zO ?x25 ?x26 ?x27 ?x28) (GW.zO ?x29 ?x30 ?x31 ?x32) (GW.zO ?x33 ?x34 ?x35 ?x36) (GW.zO ?x37 ?x38 ?x39 ?x40) (GW.zO ?x41 ?x42 ?x43 ?x44) (GW.zO ?x45 ?x46 ?x47 ?x48) (GW.zO ?x49 ?x50 ?x51 ?x52) (GW.zO ?x53 ?x54 ?x55 ?x56) (GW.zO ?x57 ?x58 ?x59 ?x60) (GW.zO ?x61 ?x62 ?x63 ?x64) (GW.zO ?x65 ?x66 ?x67 ?x68) (GW.zO ?x69 ?x70 ?x71 ?x72) (GW.zO ?x73 ?x74 ?x75 ?x76) (GW.zO ?x77 ?x78 ?x79 ?x80) (GW.zO ?x81 ?x82 ?x83 ?x84) (GW.zO ?x85 ?x86 ?x87 ?x88) (GW.zO ?x89 ?x90 ?x91 ?x92) (GW.zO ?x93 ?x94 ?x95 ?x96) (GW.zO ?x97 ?x98 ?x99 ?x100) (GW.zO ?x101 ?x102 ?x103 ?x104) (GW.zO ?x105 ?x106 ?x107 ?x108) (GW.zO ?x109 ?x110 ?x111 ?x112) (GW.zO ?x113 ?x114 ?x115 ?x116) (GW.zO ?x117 ?x118 ?x119 ?x120) (GW.zO ?x121 ?x122 ?x123 ?x124) (GW.zO ?x125 ?x126 ?x127 ?x128) (GW.zO ?x129 ?x130 ?x131 ?x132) (GW.zO ?x133 ?x134 ?x135 ?x136) (GW.zO ?x137 ?x138 ?x139 ?x140) (GW.zO ?x141 ?x142 ?x143 ?x144) (GW.zO ?x145 ?x146 ?x147 ?x148) (GW.zO ?x149 ?x150 ?x151 ?x152) (GW.zO ?x153 ?x154 ?x155 ?x156) (GW.zO ?x157 ?x158 ?x159 ?x160) (GW.zO ?x161 ?x162 ?x163 ?x164) (GW.zO ?x165 ?x166 ?x167 ?x168) (GW.zO ?x169 ?x170 ?x171 ?x172) (GW.zO ?x173 ?x174 ?x175 ?x176) (GW.zO ?x177 ?x178 ?x179 ?x180) (GW.zO ?x181 ?x182 ?x183 ?x184) (GW.zO ?x185 ?x186 ?x187 ?x188) (GW.zO ?x189 ?x190 ?x191 ?x192) (GW.zO ?x193 ?x194 ?x195 ?x196) (GW.zO ?x197 ?x198 ?x199 ?x200) (GW.zO ?x201 ?x202 ?x203 ?x204) (GW.zO ?x205 ?x206 ?x207 ?x208) (GW.zO ?x209 ?x210 ?x211 ?x212) (GW.zO ?x213 ?x214 ?x215 ?x216) (GW.zO ?x217 ?x218 ?x219 ?x220) (GW.zO ?x221 ?x222 ?x223 ?x224) (GW.zO ?x225 ?x226 ?x227 ?x228) (GW.zO ?x229 ?x230 ?x231 ?x232) (GW.zO ?x233 ?x234 ?x235 ?x236) (GW.Zj ?x237 ?x238 ?x239 ?x240 ?x241) (GW.Zj ?x242 ?x243 ?x244 ?x245 ?x246) (GW.Zj ?x247 ?x248 ?x249 ?x250 ?x251) (GW.Zj ?x252 ?x253 ?x254 ?x255 ?x256) (GW.Zj ?x257 ?x258 ?x259 ?x260 ?x261) (GW.Zj ?x262 ?x263 ?x264 ?x265 ?x266) (GW.Zj ?x267 ?x268 ?x269 ?x270 ?x271) (GW.Zj ?x272 ?x273 ?x274 ?x275 ?x276) (GW.Zj ?x277 ?x278 ?x279 ?x280 ?x281) (GW.Zj ?x282 ?x283 ?x284 ?x285 ?x286) ?x287 ?x288 ?x289 ?x290 ?x291 ?x292 ?x293 ?x294 ?x295 ?x296 ?x297 ?x298 ?x299 ?x300 ?x301 ?x302 ?x303 ?x304 ?x305 ?x306 ?x307 ?x308 ?x309 ?x310 ?x311 ?x312 ?x313 ?x314 ?x315 ?x316 ?x317 ?x318 ?x319 ?x320 ?x321 ?x322 ?x323 ?x324 ?x325 ?x326 ?x327 ?x328 ?x329 ?x330 ?x331 ?x332 ?x333 ?x334 ?x335 ?x336 ?x337
  case x0|x1|x2|x3|x4|x5|x6|x7|x8|x9|x10|x11|x12|x13|x14|x15|x16|x17|x18|x19|x20|x21|x22|x23|x24|x25|x26|x27|x28|x29|x30|x31|x32|x33|x34|x35|x36|x37|x38|x39|x40|x41|x42|x43|x44|x45|x46|x47|x48|x49|x50|x51|x52|x53|x54|x55|x56|x57|x58|x59|x60|x61|x62|x63|x64|x65|x66|x67|x68|x69|x70|x71|x72|x73|x74|x75|x76|x77|x78|x79|x80|x81|x82|x83|x84|x85|x86|x87|x88|x89|x90|x91|x92|x93|x94|x95|x96|x97|x98|x99|x100|x101|x102|x103|x104|x105|x106|x107|x108|x109|x110|x111|x112|x113|x114|x115|x116|x117|x118|x119|x120|x121|x122|x123|x124|x125|x126|x127|x128|x129|x130|x131|x132|x133|x134|x135|x136|x137|x138|x139|x140|x141|x142|x143|x144|x145|x146|x147|x148|x149|x150|x151|x152|x153|x154|x155|x156|x157|x158|x159|x160|x161|x162|x163|x164|x165|x166|x167|x168|x169|x170|x171|x172|x173|x174|x175|x176|x177|x178|x179|x180|x181|x182|x183|x184|x185|x186|x187|x188|x189|x190|x191|x192|x193|x194|x195|x196|x197|x198|x199|x200|x201|x202|x203|x204|x205|x206|x207|x208|x209|x210|x211|x212|x213|x214|x215|x216|x217|x218|x219|x220|x221|x222|x223|x224|x225|x226|x227|x228|x229|x230|x231|x232|x233|x234|x235|x236|x237|x238|x239|x240|x241|x242|x243|x244|x245|x246|x247|x248|x249|x250|x251|x252|x253|x254|x255|x256|x257|x258|x259|x260|x261|x262|x263|x264|x265|x266|x267|x268|x269|x270|x271|x272|x273|x274|x275|x276|x277|x278|x279|x280|x281|x282|x283|x284|x285|x286|x287|x288|x289|x290|x291|x292|x293|x294|x295|x296|x297|x298|x299|x300|x301|x302|x303|x304|x305|x306|x307|x308|x309|x310|x311|x312|x313|x314|x315|x316|x317|x318|x319|x320|x321|x322|x323|x324|x325|x326|x327|x328=>k_is
  case x329=>rfl
  case x330|x331=>k_is
  case x332=>rfl
  case x333=>decide
  case x334=>rfl
  case x335|x336=>k_is
  case x337=>rfl
 case S=>
  intro K H xs a hO hwi hask hx
  cases hx with
  |cons h1 h2=>
   cases h2
   cases h1 with
   |lst hs ha=>
    have e:=L2.ints_dw a.1 _ ha
    subst e
    have q:((Codec.inLen 0 16000 a.1&&a.1.all (Codec.inInt (-9223372036854775808) 9223372036854775807))&&true)=true:=hwi
    rw[Bool.and_eq_true,Bool.and_eq_true] at q
    exact⟨_,a.1,rfl,hs,(Codec.inNat_iff.mp q.1.1).2,hask,fun H' p hp=>.lst (L2.SqL.of hp) (L2.dw_ints _)⟩

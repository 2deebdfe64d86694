import Derived.Test.YtecnfgikbmcgoaaGreatG23
import Derived.Deep.RegionHeld3
import Derived.Test.YtecnfgikbmcgoaaGreatG6
import Derived.Laws.StructEq
import Derived.Test.YtecnfgikbmcgoaaGreatG10
import Derived.Test.YtecnfgikbmcgoaaGreatG3
namespace Go.Proofs.YtecnfgikbmcgoaaGreat
open Go.RowKit
structure Al where
 fr:Nat
 to:Nat
 q:List (Ms (List Wnt) (List Atr))
 told:List Ky
def Rln.av (l:Rln):Al:=⟨l.fr,l.to,l.q.map Rms.ms,l.told⟩
def subM (x:Hm):Rms:=⟨.sub x.1.key x.1.f,x.2.1,x.2.2⟩
def unsM (k:Ky):Rms:=⟨.uns k,none,0⟩
def newTo (n:Int) (X:List Hm) (old:List Ky) (q:Nat):List Hm:=(toldTo n X q).filter fun x => !(old.any fun k=>k==x.1.key)
def goneTo (now old:List Ky) (q:Nat):List Ky:=(old.take q).filter fun k => !(now.any fun x=>x==k)
def keysM (X:List Hm):List Ky:=X.map fun x=>x.1.key
theorem newTo_zero (n:Int) (X:List Hm) (old:List Ky):newTo n X old 0=[]:=by simp [newTo,toldTo]
theorem toldTo_zero (n:Int) (X:List Hm):toldTo n X 0=[]:=by simp [toldTo]
theorem goneTo_zero (now old:List Ky):goneTo now old 0=[]:=by simp [goneTo]
theorem newTo_no {n:Int} {X:List Hm} {old:List Ky} {q:Nat} (h:q<X.length) (hc:(hat X q).1.fr=n∨hidB X (hat X q).1 n=true):newTo n X old (q+1)=newTo n X old q∧toldTo n X (q+1)=toldTo n X q:=by
 have e:=toldTo_succ n X q h
 rw [if_pos hc,List.append_nil] at e
 exact ⟨by unfold newTo;rw [e],e⟩
theorem newTo_old {n:Int} {X:List Hm} {old:List Ky} {q:Nat} (h:q<X.length) (h1:(hat X q).1.fr≠n) (h2:hidB X (hat X q).1 n=false) (h3:(old.any fun k=>k==(hat X q).1.key)=true):newTo n X old (q+1)=newTo n X old q∧toldTo n X (q+1)=toldTo n X q++[hat X q]:=by
 have e:=toldTo_succ n X q h
 rw [if_neg (by simp [h1,h2])] at e
 refine ⟨?_,e⟩
 unfold newTo
 rw [e,List.filter_append]
 simp [h3]
theorem newTo_new {n:Int} {X:List Hm} {old:List Ky} {q:Nat} (h:q<X.length) (h1:(hat X q).1.fr≠n) (h2:hidB X (hat X q).1 n=false) (h3:(old.any fun k=>k==(hat X q).1.key)=false):newTo n X old (q+1)=newTo n X old q++[hat X q]∧toldTo n X (q+1)=toldTo n X q++[hat X q]:=by
 have e:=toldTo_succ n X q h
 rw [if_neg (by simp [h1,h2])] at e
 refine ⟨?_,e⟩
 unfold newTo
 rw [e,List.filter_append]
 congr 1
 simp only [List.filter_cons,h3,Bool.not_false,if_true,List.filter_nil]
theorem goneTo_succ (now old:List Ky) {q:Nat} (h:q<old.length):goneTo now old (q+1)=goneTo now old q++(if (now.any fun x=>x==eat old q)=true then [] else [eat old q]):=by
 unfold goneTo
 rw [eat_take h,List.filter_append]
 congr 1
 cases hc:now.any fun x=>x==eat old q <;> simp [hc]
theorem newTo_len (n:Int) (X:List Hm) (old:List Ky) (q:Nat):(newTo n X old q).length≤X.length:=by
 unfold newTo toldTo
 exact Nat.le_trans (List.length_filter_le _ _) (Nat.le_trans (List.length_filter_le _ _) (List.length_take_le' q X))
theorem toldTo_len (n:Int) (X:List Hm) (q:Nat):(toldTo n X q).length≤X.length:=by
 unfold toldTo
 exact Nat.le_trans (List.length_filter_le _ _) (List.length_take_le' q X)
theorem goneTo_len (now old:List Ky) (q:Nat):(goneTo now old q).length≤old.length:=by
 unfold goneTo
 exact Nat.le_trans (List.length_filter_le _ _) (List.length_take_le' q old)
def chA (b:Nat) (X:List Hm) (l:Al):Al :=
 if l.fr=b then ⟨l.fr,l.to,l.q++((newTo l.to X l.told X.length).map fun x=>Ms.sub x.1.key x.1.f)++((goneTo (keysM (toldM l.to X)) l.told l.told.length).map fun k=>Ms.uns k),keysM (toldM l.to X)⟩ else l
def keysH (l:List Hw):List Ky:=l.map fun h=>h.key
theorem chA_chg {b:Nat} {X:List Hm} {l:Al} (hb:l.fr=b) {old:List Hw} (ho:l.told=keysH (told cov old l.to)) :
  chA b X l=⟨l.fr,l.to,l.q++chg cov old (X.map (·.1)) l.to,keysH (told cov (X.map (·.1)) l.to)⟩:=by
 have e1:keysM (toldM l.to X)=keysH (told cov (X.map (·.1)) l.to):=by
  unfold keysM keysH
  rw [← toldM_told,List.map_map];rfl
 have e2:((newTo l.to X l.told X.length).map fun x=>(Ms.sub x.1.key x.1.f:Ms (List Wnt) (List Atr)))=subs (newT cov old (X.map (·.1)) l.to):=by
  unfold newTo subs newT
  rw [toldTo_all,ho, ← toldM_told,List.filter_map,List.map_map]
  unfold keysH
  congr 1
  refine List.filter_congr fun x _=>?_
  simp only [Function.comp_def,any_hasK]
 have e3:((goneTo (keysM (toldM l.to X)) l.told l.told.length).map fun k=>(Ms.uns k:Ms (List Wnt) (List Atr)))=unss (goneT cov old (X.map (·.1)) l.to):=by
  unfold goneTo unss goneT
  rw [List.take_length,e1,ho]
  unfold keysH
  rw [List.filter_map,List.map_map]
  have:∀ L:List Hw,L.filter ((fun k => !(((told cov (X.map (·.1)) l.to).map fun h=>h.key).any fun x=>x==k)) ∘ fun h=>h.key)=L.filter fun h => !(hasK (told cov (X.map (·.1)) l.to) h.key):=fun L=>List.filter_congr fun x _=>by simp only [Function.comp_def,any_hasK]
  rw [this];rfl
 unfold chA
 rw [if_pos hb,e1,e2, ← e1,e3,e1]
 unfold chg
 rw [List.append_assoc]
def lks (T:Tc):List (Nat × Nat):=(List.range T.nb).flatMap fun a=>(nbs T.adj T.nb a T.nb).map fun b=>(a,b)
def linksOf (T:Tc) (s:Ts):List Al:=(lks T).map fun p=>⟨p.1,p.2,s.q p.1 p.2,keysH (told cov (s.held p.1) p.2)⟩
theorem lks_mem {T:Tc} {p:Nat × Nat} (h:p∈lks T):p.1<T.nb∧p.2<T.nb∧T.adj p.1 p.2=true:=by
 simp only [lks,List.mem_flatMap,List.mem_map,List.mem_range] at h
 obtain ⟨a,ha,b,hb,rfl⟩:=h
 obtain ⟨_,h2,h3⟩:=nbs_mem.1 hb
 exact ⟨ha,h2,h3⟩
theorem links_turn (T:Tc) (s:Ts) (b:Nat) (X:List Hm):(linksOf T s).map (chA b X)=linksOf T (s.turn cov T.adj b (X.map (·.1))):=by
 unfold linksOf
 rw [List.map_map]
 refine List.map_congr_left fun p hp=>?_
 obtain ⟨_,_,hadj⟩:=lks_mem hp
 simp only [Function.comp_def]
 by_cases hb:p.1=b
 ·rw [chA_chg (l:=⟨p.1,p.2,s.q p.1 p.2,keysH (told cov (s.held p.1) p.2)⟩) hb (old:=s.held p.1) rfl]
  subst hb
  simp [TS.turn,hadj]
 ·unfold chA
  rw [if_neg hb]
  simp [TS.turn,hb]
theorem Tryz.infoRMsg:(Tryz.prog.info? 209).map (fun i=>(i.zero,i.size,i.bytes))=some (some (.agg #[.int .i64 0,.int .i64 0,.int .i64 0,.slice none 0 0,.slice none 0 0]),5,72):=by kernel_rfl
section
variable {A:Nat→Prop} {C:Rc} {R:Nat→Rl} {w:World} {ads:Nat→Option Addr × Nat} {Xs:Nat→List Hm} {lv cv:Value} {Ls:List Rln} {cs:List Rcl}
theorem Rt.c0 (h:Rt A C R w ads Xs lv Ls cv cs):w.cell? ⟨C.TB,0,none⟩=some (.slice (some ⟨C.HB,0,none⟩) C.nb C.hcap):=by rw [cell_of_row _ _ _ _ _ _ h.b.t];rfl
theorem Rt.c1 (h:Rt A C R w ads Xs lv Ls cv cs):w.cell? ⟨C.TB,1,none⟩=some lv:=by rw [cell_of_row _ _ _ _ _ _ h.b.t];rfl
theorem Rt.c2 (h:Rt A C R w ads Xs lv Ls cv cs):w.cell? ⟨C.TB,2,none⟩=some cv:=by rw [cell_of_row _ _ _ _ _ _ h.b.t];rfl
theorem Rt.tlt (h:Rt A C R w ads Xs lv Ls cv cs):C.TB<w.heap.size:=blk_lt h.b.t
theorem Rt.hlt (h:Rt A C R w ads Xs lv Ls cv cs):C.HB<w.heap.size:=by
 obtain ⟨cur,h1,_⟩:=h.b.h
 exact blk_lt h1
theorem Rt.hbc (h:Rt A C R w ads Xs lv Ls cv cs) {b:Nat} (hb:b<C.nb):w.cell? ⟨C.HB,b,none⟩=some (.slice (ads b).1 (Xs b).length (ads b).2):=by
 obtain ⟨cur,h1,h2⟩:=h.b.h
 rw [cell_of_row _ _ _ _ _ _ h1];exact h2 b hb
theorem Rt.hfz (h:Rt A C R w ads Xs lv Ls cv cs) (b:Nat):w.frozen? ⟨C.HB,b,none⟩=false:=by
 obtain ⟨cur,h1,h2⟩:=h.b.h
 exact frz0 h1 b
theorem Rt.lshape (h:Rt A C R w ads Xs lv Ls cv cs):∃ la lc,lv = .slice la Ls.length lc:=h.l.lk.shape
theorem alat {L:List Rln} {B:List Al} (h:L.map Rln.av=B) {k:Nat} (hk:k<L.length):B[k]? = some (lnat L k).av:=by
 rw [← h,List.getElem?_map]
 unfold lnat
 rw [List.getD_eq_getElem?_getD,List.getElem?_eq_getElem hk];rfl
def CSt (A:Nat→Prop) (C:Rc) (R0:Nat→Rl) (w0:World) (ads:Nat→Option Addr × Nat) (Xs:Nat→List Hm) (lv cv:Value) (cs:List Rcl) (Ls:List Rln) (k:Nat) (B:List Al) (v:Value) (K:List Ky) (wr:World):Prop :=
 ∃ R L,Rt A C R wr ads Xs lv L cv cs∧Fr R0 R w0 wr∧L.map Rln.av=B∧(∀ j,k≤j→lnat L j=lnat Ls j)∧Qr wr 200 2 (fun i=>w0.heap.size≤i∧R i = .no) v K.length (kcells K)
theorem CSt.gr {R0:Nat→Rl} {w0 wr w':World} {k:Nat} {B:List Al} {v:Value} {K:List Ky} (h:CSt A C R0 w0 ads Xs lv cv cs Ls k B v K wr) (g:Gr wr w'):CSt A C R0 w0 ads Xs lv cv cs Ls k B v K w':=by
 obtain ⟨R,L,h1,h2,h3,h4,h5⟩:=h
 exact ⟨R,L,h1.gr g,h2.trans (Fr.gr g),h3,h4,h5.kept fun i hi hP=>⟨g.block i hi,hP⟩⟩
theorem CSt.now {R0:Nat→Rl} {w0 wr w':World} {k:Nat} {B:List Al} {v v':Value} {K:List Ky} {y:Ky} (h:CSt A C R0 w0 ads Xs lv cv cs Ls k B v K wr) (hA0:∀ k,A k→k<w0.heap.size) (g:wr.grownBy w' v.ownBlock) (hq:Qr w' 200 2 (fun i=>v'.ownBlock=some i) v' (K.length+1) (kcells K++[.int .i64 y.1,.int .i64 y.2])) (ho:v'.ownBlock=v.ownBlock∨v'.ownBlock=some wr.heap.size):CSt A C R0 w0 ads Xs lv cv cs Ls k B v' (K++[y]) w':=by
 obtain ⟨R,L,h1,h2,h3,h4,h5⟩:=h
 have own:=h5.own
 have f1:Fr (msk v.ownBlock (fun _=>.no)) (msk v.ownBlock (fun _=>.no)) wr w':=⟨g.os,g.tape,g.output,g.size,fun k hk hr=>g.block k hk (fun e=>(msk_no hr).1 e.symm),fun _ _=>rfl⟩
 refine ⟨R,L,h1.apart f1 (fun k=>?_) (fun k hk=>?_),⟨g.os.trans h2.os,g.tape.trans h2.tape,g.output.trans h2.output,Nat.le_trans h2.size g.size,fun i hi hr=>(g.block i (Nat.lt_of_lt_of_le hi h2.size) (fun e=>?_)).trans (h2.keep i hi hr),h2.same⟩,h3,h4,?_⟩
 ·by_cases e:v.ownBlock=some k
  ·exact Or.inl (own k e).1.2
  ·exact Or.inr (if_neg e)
 ·exact if_neg (fun e=>by have:=(own k e).1.1;have:=hA0 k hk;omega)
 ·have:=(own i e.symm).1.1;omega
 ·rw [List.length_append,kcells_snoc]
  refine hq.kept fun i _ hi=>⟨rfl,?_⟩
  rcases ho with ho | ho
  ·exact (own i (ho ▸ hi)).1
  ·rw [ho] at hi
   injection hi with hi
   subst hi
   exact ⟨h2.size,h1.b.top _ (Nat.le_refl _)⟩
theorem set_map_av {L:List Rln} {k:Nat} (l:Rln):(L.set k l).map Rln.av=(L.map Rln.av).set k l.av:=by rw [List.map_set]
theorem CSt.tell {R0:Nat→Rl} {w0 wr:World} {k:Nat} {B:List Al} {K:List Ky} {ta:Option Addr} {tc:Nat} (h:CSt A C R0 w0 ads Xs lv cv cs Ls (k+1) B (.slice ta K.length tc) K wr) (hA0:∀ k,A k→k<w0.heap.size) (hL:B.length=Ls.length) (hk:k<Ls.length) {x:Al} (hx:B[k]? = some x) {g off lc:Nat} (hlv:lv = .slice (some ⟨g,off,none⟩) Ls.length lc) :
  CSt A C R0 w0 ads Xs lv cv cs Ls (k+1) (B.set k ⟨x.fr,x.to,x.q,K⟩) (.slice none 0 0) [] (wr.setCell ⟨g,off+(k*4+3),none⟩ (.slice ta K.length tc)):=by
 obtain ⟨R,L,h1,h2,h3,h4,h5⟩:=h
 have hl:L.length=Ls.length:=by rw [← hL, ← h3,List.length_map]
 obtain ⟨R',k1,k2⟩:=Rt.tell h2 h1 (k:=k) (by omega) K h5 hA0 (by rw [hl];exact hlv)
 have hav:=alat h3 (k:=k) (by omega)
 rw [hx] at hav
 injection hav with hav
 refine ⟨R',_,k1,k2,by rw [set_map_av,h3,hav];rfl,fun j hj=>?_,Qr.nil _ _ _ _⟩
 rw [lnat_set (by omega),if_neg (by omega)]
 exact h4 j hj
theorem CSt.next {R0:Nat→Rl} {w0 wr:World} {k:Nat} {B:List Al} {v:Value} {K:List Ky} (h:CSt A C R0 w0 ads Xs lv cv cs Ls k B v K wr):CSt A C R0 w0 ads Xs lv cv cs Ls (k+1) B v K wr:=by
 obtain ⟨R,L,h1,h2,h3,h4,h5⟩:=h
 exact ⟨R,L,h1,h2,h3,fun j hj=>h4 j (by omega),h5⟩
theorem CSt.send {R0 R:Nat→Rl} {w0 wr:World} {k:Nat} {B:List Al} {v:Value} {K:List Ky} {L:List Rln} (h1:Rt A C R wr ads Xs lv L cv cs) (h2:Fr R0 R w0 wr) (h3:L.map Rln.av=B) (h4:∀ j,k+1≤j→lnat L j=lnat Ls j) (h5:Qr wr 200 2 (fun i=>w0.heap.size≤i∧R i = .no) v K.length (kcells K))
  (hk:k<L.length) (x:Rms) (hx:RmOk A wr x) {w1:World} {a':Option Addr} {c':Nat}
  (hq:Qr w1 209 5 (fun i=>Value.ownBlock (.slice a' ((lnat L k).q.length+1) c')=some i) (.slice a' ((lnat L k).q.length+1) c') ((lnat L k).q.length+1) ((lnat L k).q.flatMap rmcells++rmcells x))
  (hg:wr.grownBy w1 (Value.ownBlock (.slice (lnat L k).qad (lnat L k).q.length (lnat L k).qcap))) (hold:Qr w1 209 5 (fun i=>R i = .qu k 0) (.slice (lnat L k).qad (lnat L k).q.length (lnat L k).qcap) (lnat L k).q.length ((lnat L k).q.flatMap rmcells))
  (ho:Value.ownBlock (.slice a' ((lnat L k).q.length+1) c')=Value.ownBlock (.slice (lnat L k).qad (lnat L k).q.length (lnat L k).qcap) ∨ ∃ j,wr.heap.size≤j∧Value.ownBlock (.slice a' ((lnat L k).q.length+1) c')=some j)
  {g off lc n:Nat} (hlv:lv = .slice (some ⟨g,off,none⟩) n lc) (hn:n=L.length) {y:Al} (hy:B[k]? = some y) :
  CSt A C R0 w0 ads Xs lv cv cs Ls (k+1) (B.set k ⟨y.fr,y.to,y.q++[x.ms],y.told⟩) v K (w1.setCell ⟨g,off+(k*4+2),none⟩ (.slice a' ((lnat L k).q.length+1) c')):=by
 subst hn
 obtain ⟨R',k1,k2⟩:=h1.send hk x hx hq hg hold ho hlv
 have hav:=alat h3 hk
 rw [hy] at hav
 injection hav with hav
 refine ⟨R',_,k1,h2.trans k2,?_,fun j hj=>?_,h5.kept fun i hi hP=>⟨k2.keep i hi (Or.inl hP.2),hP.1,(k2.same i hi).trans hP.2⟩⟩
 ·rw [set_map_av,h3,hav]
  simp [Rln.av,setQ]
 ·rw [lnat_set hk,if_neg (by omega)]
  exact h4 j hj
def bK (b:Nat) (X:List Hm) (B:List Al) (k:Nat):List Al:=(B.take k).map (chA b X)++B.drop k
theorem bK_zero (b:Nat) (X:List Hm) (B:List Al):bK b X B 0=B:=by simp [bK]
theorem bK_all (b:Nat) (X:List Hm) (B:List Al):bK b X B B.length=B.map (chA b X):=by simp [bK]
theorem bK_len (b:Nat) (X:List Hm) (B:List Al) (k:Nat):(bK b X B k).length=B.length:=by simp [bK];omega
theorem bK_at {b:Nat} {X:List Hm} {B:List Al} {k:Nat} {x:Al} (h:B[k]? = some x):(bK b X B k)[k]? = some x∧bK b X B (k+1)=(bK b X B k).set k (chA b X x):=by
 obtain ⟨hk,rfl⟩:=List.getElem?_eq_some_iff.1 h
 have hl:((B.take k).map (chA b X)).length=k:=by simp;omega
 have hd:B.drop k=B[k]::B.drop (k+1):=List.drop_eq_getElem_cons hk
 unfold bK
 refine ⟨?_,?_⟩
 ·rw [List.getElem?_append_right (by omega),hl,Nat.sub_self,hd];rfl
 ·rw [List.set_append_right _ _ (by omega),hl,Nat.sub_self,hd,List.set_cons_zero,List.take_succ_eq_append_getElem hk]
  simp only [List.map_append,List.map_cons,List.map_nil,List.append_assoc,List.cons_append,List.nil_append]
theorem bK_same {b:Nat} {X:List Hm} {B:List Al} {k:Nat} {x:Al} (h:B[k]? = some x) (hx:x.fr≠b):bK b X B (k+1)=bK b X B k:=by
 obtain ⟨h1,h2⟩:=bK_at (b:=b) (X:=X) h
 have:chA b X x=x:=if_neg hx
 rw [h2,this]
 obtain ⟨hk,e⟩:=List.getElem?_eq_some_iff.1 h1
 rw [← e,List.set_getElem_self]
end
theorem lks_nd (T:Tc):(lks T).Nodup:=by
 unfold lks
 refine List.pairwise_flatMap.2 ⟨fun a _=>?_,?_⟩
 ·refine List.pairwise_map.2 ((nbs_nd T.adj T.nb a T.nb).imp fun h e=>h ?_)
  injection e
 ·refine List.nodup_range.imp fun h x hx y hy e=>h ?_
  obtain ⟨_,_,rfl⟩:=List.mem_map.1 hx
  obtain ⟨_,_,rfl⟩:=List.mem_map.1 hy
  injection e
theorem lks_in {T:Tc} {a b:Nat} (ha:a<T.nb) (hb:b<T.nb) (h:T.adj a b=true):(a,b)∈lks T:=by
 simp only [lks,List.mem_flatMap,List.mem_map,List.mem_range]
 exact ⟨a,ha,b,nbs_mem.2 ⟨hb,hb,h⟩,rfl⟩
theorem lks_len (T:Tc):(lks T).length≤T.nb*T.nb:=by
 unfold lks
 rw [List.length_flatMap]
 have:∀ l:List Nat,(l.map fun a=>((nbs T.adj T.nb a T.nb).map fun b=>(a,b)).length).sum≤l.length*T.nb:=by
  intro l
  induction l with
  | nil=>simp
  | cons x l ih =>
   have:((nbs T.adj T.nb x T.nb).map fun b=>(x,b)).length≤T.nb:=by
    rw [List.length_map]
    exact Nat.le_trans (List.length_filter_le _ _) (by simp)
   simp only [List.map_cons,List.sum_cons,List.length_cons,Nat.add_mul,Nat.one_mul]
   omega
 have h:=this (List.range T.nb)
 simpa using h
theorem linksOf_len (T:Tc) (s:Ts):(linksOf T s).length=(lks T).length:=by simp [linksOf]
theorem linksOf_at {T:Tc} {s:Ts} {k:Nat} {x:Al} (h:(linksOf T s)[k]? = some x):(lks T)[k]? = some (x.fr,x.to)∧T.adj x.fr x.to=true∧x.fr<T.nb∧x.to<T.nb∧x.q=s.q x.fr x.to∧x.told=keysH (told cov (s.held x.fr) x.to):=by
 unfold linksOf at h
 rw [List.getElem?_map] at h
 cases hp:(lks T)[k]? with
 | none=>rw [hp] at h;cases h
 | some p =>
  rw [hp] at h
  injection h with h
  subst h
  have hm:=lks_mem (List.mem_of_getElem? hp)
  exact ⟨rfl,hm.2.2,hm.1,hm.2.1,rfl,rfl⟩
theorem links_pop {T:Tc} {s:Ts} {k a b:Nat} {x:Al} (h:(linksOf T s)[k]? = some x) (ha:x.fr=a) (hb:x.to=b):(linksOf T s).set k ⟨x.fr,x.to,x.q.tail,x.told⟩=linksOf T (s.pop a b):=by
 subst ha hb
 obtain ⟨h1,h2,h3,h4,h5,h6⟩:=linksOf_at h
 apply List.ext_getElem?
 intro j
 have hk:k<(linksOf T s).length:=(List.getElem?_eq_some_iff.1 h).1
 rw [List.getElem?_set]
 by_cases e:k=j
 ·subst e
  rw [if_pos rfl,if_pos hk]
  unfold linksOf
  rw [List.getElem?_map,h1]
  simp [TS.pop,h5,h6]
 ·rw [if_neg e]
  unfold linksOf
  rw [List.getElem?_map,List.getElem?_map]
  cases hp:(lks T)[j]? with
  | none=>rfl
  | some p =>
   have hne:¬ (p.1=x.fr∧p.2=x.to):=fun ⟨e1,e2⟩=>by
    have hpe:p=(x.fr,x.to):=Prod.ext e1 e2
    obtain ⟨hj,hj'⟩:=List.getElem?_eq_some_iff.1 hp
    obtain ⟨hk',hk''⟩:=List.getElem?_eq_some_iff.1 h1
    have nd:=List.pairwise_iff_getElem.1 (lks_nd T)
    rcases Nat.lt_trichotomy k j with hlt | hlt | hlt
    ·exact nd k j hk' hj hlt (by rw [hj',hk'',hpe])
    ·exact e hlt
    ·exact nd j k hj hk' hlt (by rw [hj',hk'',hpe])
   simp [TS.pop,hne]
structure Rv (T:Tc) (Xs:Nat→List Hm) (Ls:List Rln) (s:Ts):Prop where
 held:∀ b,b<T.nb→(Xs b).map (·.1)=s.held b
 lk:Ls.map Rln.av=linksOf T s
def pcR (c:Rcl):Pc (List Atr):=⟨c.num,c.at',c.lost,c.box.map (·.1)⟩
def Rw (A:Nat→Prop) (C:Rc) (T:Tc) (R:Nat→Rl) (w:World) (cs:List (Pc (List Atr))) (s:Ts):Prop:=∃ ads Xs lv Ls cv rs,Rt A C R w ads Xs lv Ls cv rs∧C.nb=T.nb∧Rv T Xs Ls s∧rs.map pcR=cs
theorem Rw.gr {A:Nat→Prop} {C:Rc} {T:Tc} {R:Nat→Rl} {w w':World} {cs:List (Pc (List Atr))} {s:Ts} (h:Rw A C T R w cs s) (g:Gr w w'):Rw A C T R w' cs s:=by
 obtain ⟨ads,Xs,lv,Ls,cv,rs,h1,h2,h3,h4⟩:=h
 exact ⟨ads,Xs,lv,Ls,cv,rs,h1.gr g,h2,h3,h4⟩
theorem Rw.apart {A:Nat→Prop} {C:Rc} {T:Tc} {R r1 r1':Nat→Rl} {w w':World} {cs:List (Pc (List Atr))} {s:Ts} (h:Rw A C T R w cs s) (g:Fr r1 r1' w w') (ha:∀ k,R k = .no∨r1 k = .no) (hA:∀ k,A k→r1 k = .no):Rw A C T R w' cs s:=by
 obtain ⟨ads,Xs,lv,Ls,cv,rs,h1,h2,h3,h4⟩:=h
 exact ⟨ads,Xs,lv,Ls,cv,rs,h1.apart g ha hA,h2,h3,h4⟩
theorem Rv.turn {T:Tc} {Xs:Nat→List Hm} {Ls Ls':List Rln} {s:Ts} (h:Rv T Xs Ls s) (b:Nat) (X:List Hm) (l':List Hw) (hl:X.map (·.1)=l') (hc:Ls'.map Rln.av=Ls.map fun l=>chA b X l.av):Rv T (fun i=>if i=b then X else Xs i) Ls' (s.turn cov T.adj b l'):=by
 refine ⟨fun i hi=>?_,?_⟩
 ·by_cases e:i=b
  ·simp [TS.turn,e,hl]
  ·simp only [TS.turn,if_neg e];exact h.held i hi
 ·rw [hc, ← hl, ← links_turn, ← h.lk,List.map_map];rfl
theorem Rv.qlen {T:Tc} {Xs:Nat→List Hm} {Ls:List Rln} {s:Ts} (h:Rv T Xs Ls s) (hm:Sm T s):∀ l∈Ls,l.q.length≤549755813888∧l.told.length≤1048576:=by
 intro l hl
 obtain ⟨k,hk,rfl⟩:=List.getElem_of_mem hl
 have e:(Ls.map Rln.av)[k]? = some (Ls[k]).av:=by rw [List.getElem?_map,List.getElem?_eq_getElem hk];rfl
 rw [h.lk] at e
 obtain ⟨_,_,h3,_,h5,h6⟩:=linksOf_at e
 have q:=congrArg List.length h5
 have t:=congrArg List.length h6
 simp only [Rln.av,List.length_map,keysH] at q t
 have hq:=hm.q Ls[k].fr Ls[k].to
 have ht:(told cov (s.held Ls[k].fr) Ls[k].to).length≤(s.held Ls[k].fr).length:=List.length_filter_le _ _
 have hh:=hm.h Ls[k].fr h3
 simp only [Rln.av] at h5 h6
 omega
theorem Rv.n64 {T:Tc} {Xs:Nat→List Hm} {Ls:List Rln} {s:Ts} (h:Rv T Xs Ls s) (hn:T.nb≤8):Ls.length≤64:=by
 have:=congrArg List.length h.lk
 rw [List.length_map,linksOf_len] at this
 rw [this]
 exact Nat.le_trans (lks_len T) (Nat.le_trans (Nat.mul_le_mul hn hn) (by omega))
end Go.Proofs.YtecnfgikbmcgoaaGreat
namespace Go.Proofs.YtecnfgikbmcgoaaGreat
def isE (a b:Nat) (e:Ky):Bool:=e==((a:Int),(b:Int))||e==((b:Int),(a:Int))
def mlk (es:List Ky) (a b:Nat):List Ky:=es.filter (isE a b)
theorem mlk_one:∀ (es:List Ky) (part:Nat→Nat),good part es → ∀ a b:Nat,(part a=part b→mlk es a b=[])∧(mlk es a b).length≤1
 | [],_,_,_,_=>by simp [mlk]
 | e::es,part,h,a,b=>by
  obtain ⟨h1,h2⟩:=h
  obtain ⟨A,B⟩:=mlk_one es _ h2 a b
  by_cases he:isE a b e=true
  ·have hab:part a≠part b∧joinP part e.1.toNat e.2.toNat a=joinP part e.1.toNat e.2.toNat b:=by
    simp only [isE,Bool.or_eq_true,beq_iff_eq] at he
    rcases he with rfl | rfl
    ·exact ⟨by simpa using h1,by simp only [Int.toNat_natCast];exact joinP_two part a b⟩
    ·exact ⟨fun h=>h1 (by simpa using h.symm),by simp only [Int.toNat_natCast];exact (joinP_two part b a).symm⟩
   have e0:=A hab.2
   unfold mlk at e0 ⊢
   rw [List.filter_cons,if_pos he,e0]
   exact ⟨fun h=>absurd h hab.1,by simp⟩
  ·unfold mlk at A B ⊢
   rw [List.filter_cons,if_neg he]
   exact ⟨fun h=>A (joinP_eq h),B⟩
theorem mlk_mem {es:List Ky} {a b:Nat}:mlk es a b≠[]↔EdgeOf es a b:=by
 unfold mlk EdgeOf
 rw [Ne,List.filter_eq_nil_iff]
 simp only [isE,Bool.or_eq_true,beq_iff_eq]
 constructor
 ·intro h
  refine Classical.byContradiction fun hn=>h fun e he hc=>hn ?_
  rcases hc with rfl | rfl
  ·exact Or.inl he
  ·exact Or.inr he
 ·rintro (h | h) hc
  ·exact hc _ h (Or.inl rfl)
  ·exact hc _ h (Or.inr rfl)
theorem filter_flat {α β : Type} (p : α → Bool) (f : α → β):∀ l:List α, (l.filter p).map f=l.flatMap fun x=>if p x=true then [f x] else []
 | []=>rfl
 | x::l=>by
  rw [List.filter_cons,List.flatMap_cons, ← filter_flat p f l]
  cases h:p x <;> simp
def lkE (es:List Ky) (a b:Nat):List (Nat × Nat):=(mlk es a b).map fun _=>(a,b)
def lkR (es:List Ky) (a n:Nat):List (Nat × Nat):=(List.range n).flatMap fun b=>lkE es a b
def lkA (es:List Ky) (nb n:Nat):List (Nat × Nat):=(List.range n).flatMap fun a=>lkR es a nb
theorem lkA_succ (es:List Ky) (nb n:Nat):lkA es nb (n+1)=lkA es nb n++lkR es n nb:=by simp [lkA,List.range_succ]
theorem lkR_succ (es:List Ky) (a n:Nat):lkR es a (n+1)=lkR es a n++lkE es a n:=by simp [lkR,List.range_succ]
theorem lkE_len {es:List Ky} (hg:good (fun b=>b) es) (a b:Nat):(lkE es a b).length≤1:=by
 unfold lkE
 rw [List.length_map];exact (mlk_one es _ hg a b).2
theorem lkR_len {es:List Ky} (hg:good (fun b=>b) es) (a:Nat):∀ n,(lkR es a n).length≤n
 | 0=>by simp [lkR]
 | n+1=>by
  rw [lkR_succ,List.length_append]
  have:=lkR_len hg a n
  have:=lkE_len hg a n
  omega
theorem lkA_len {es:List Ky} (hg:good (fun b=>b) es) (nb:Nat):∀ n,(lkA es nb n).length≤n*nb
 | 0=>by simp [lkA]
 | n+1=>by
  rw [lkA_succ,List.length_append,Nat.add_mul]
  have:=lkA_len hg nb n
  have:=lkR_len hg n nb
  omega
theorem lkA_lks {es:List Ky} {T:Tc} (hg:good (fun b=>b) es) (hE:∀ a b,T.adj a b=true↔EdgeOf es a b):lkA es T.nb T.nb=lks T:=by
 unfold lkA lks
 congr 1
 funext a
 unfold lkR nbs
 rw [filter_flat,List.flatMap_def,List.flatMap_def]
 congr 1
 refine List.map_congr_left fun b hb=>?_
 have hb:b<T.nb:=by simpa using hb
 have h1:=(mlk_one es _ hg a b).2
 unfold lkE
 by_cases hab:T.adj a b=true
 ·rw [if_pos (by simp [hb,hab])]
  have hne:=mlk_mem.2 ((hE a b).1 hab)
  cases hm:mlk es a b with
  | nil=>exact absurd hm hne
  | cons x l =>
   rw [hm] at h1
   have:l=[]:=List.eq_nil_of_length_eq_zero (by simp only [List.length_cons] at h1;omega)
   rw [this];rfl
 ·rw [if_neg (by simp [hab])]
  have:mlk es a b=[]:=Classical.byContradiction fun h=>hab ((hE a b).2 (mlk_mem.1 h))
  rw [this];rfl
theorem good_of {n:Int} {es:List Ky} (h:treeB n es=true):good (fun b=>b) es ∧ ∀ e∈es,inR n.toNat e=true:=by
 simp only [treeB,Bool.and_eq_true,decide_eq_true_eq] at h
 have:=(tRun_iff es (List.range n.toNat) (by simp) (fun x hx=>by simpa using hx)).1 h.2
 rw [prt_range] at this
 exact ⟨this.2,this.1⟩
end Go.Proofs.YtecnfgikbmcgoaaGreat
namespace Go.Proofs.YtecnfgikbmcgoaaGreat
open Go.RowKit
set_option maxRecDepth 100000 in
theorem eqPair (a b c d:Int) (w:World):(Op.equalIn 10000 81 (.agg #[.int .i64 a,.int .i64 b]) (.agg #[.int .i64 c,.int .i64 d])).run Tryz.prog w = .ok (a==c&&b==d) w:=by
 have u3:=Tryz.underlying3
 have a3:=Tryz.isAgg3
 have z3:=Tryz.sizeOf3
 rw [show (10000:Nat)=9999+1 from rfl,Op.equalIn]
 simp only [Sem.run_bind,run_underlying Tryz.underlying81,Result.andThen_ok]
 simp only [Std.Legacy.Range.forIn_eq_forIn_range',Std.Legacy.Range.size,Nat.sub_zero,Nat.add_sub_cancel,Nat.div_one,List.range'_succ,List.range'_zero,List.forIn_cons,List.forIn_nil]
 go_simp
 by_cases h1:a=c <;> by_cases h2:b=d <;> simp [h1,h2]
structure Ef0 (a0:Act) (D m:Nat) (a:Act):Prop where
 df:a.defers=a0.defers
 ts:∃ z:List Value,z.length=m∧a.tmps=(a0.tmps.toList.take D++z++a0.tmps.toList.drop (D+m)).toArray
theorem Ef0.start (a0:Act) (D m:Nat) (h:D+m≤a0.tmps.size):Ef0 a0 D m a0:=by
 refine ⟨rfl,(a0.tmps.toList.drop D).take m,by simp;omega,?_⟩
 apply Array.ext'
 rw [List.append_assoc]
 have e:a0.tmps.toList.drop (D+m)=(a0.tmps.toList.drop D).drop m:=by rw [List.drop_drop]
 rw [e,List.take_append_drop,List.take_append_drop]
theorem Ef0.put {a0:Act} {D m:Nat} (hD:D+m≤a0.tmps.size) (a:Act) (i:Nat) (x:Value) (hi:i<m) (h:Ef0 a0 D m a):Ef0 a0 D m (a.put (some (D+i)) x):=by
 obtain ⟨z,hz,ht⟩:=h.ts
 have hl:(a0.tmps.toList.take D).length=D:=by simp;omega
 refine ⟨h.df,z.set i x,by simpa using hz,?_⟩
 simp only [Act.put,ht,List.setIfInBounds_toArray]
 rw [List.append_assoc,List.set_append_right _ _ (by omega),show D+i - (a0.tmps.toList.take D).length=i by omega,List.set_append_left _ _ (by omega),List.append_assoc]
theorem Ef0.sz {a0:Act} {D m:Nat} (hD:D+m≤a0.tmps.size) {a:Act} (h:Ef0 a0 D m a):a.tmps.size=a0.tmps.size:=by
 obtain ⟨z,hz,ht⟩:=h.ts
 rw [ht];simp;omega
theorem Ef0.at_ {a0:Act} {D m:Nat} {a:Act} (h:Ef0 a0 D m a) (hD:D≤a0.tmps.size) {t:Nat} (ht:t<D):a.eval (.tmp t)=a0.eval (.tmp t):=by
 obtain ⟨z,hz,e⟩:=h.ts
 rw [evn,evn,e]
 have hl:t<(a0.tmps.toList.take D).length:=by simp;omega
 simp only [List.getElem?_toArray]
 rw [List.append_assoc,List.getElem?_append_left hl,List.getElem?_take,if_pos ht]
 simp
theorem len22 {z:List Value} (h:z.length=22):∃ z0 z1 z2 z3 z4 z5 z6 z7 z8 z9 z10 z11 z12 z13 z14 z15 z16 z17 z18 z19 z20 z21,z=[z0,z1,z2,z3,z4,z5,z6,z7,z8,z9,z10,z11,z12,z13,z14,z15,z16,z17,z18,z19,z20,z21]:=by
 match z,h with
 | [z0,z1,z2,z3,z4,z5,z6,z7,z8,z9,z10,z11,z12,z13,z14,z15,z16,z17,z18,z19,z20,z21],_=>exact ⟨_,_,_,_,_,_,_,_,_,_,_,_,_,_,_,_,_,_,_,_,_,_,rfl⟩
structure SqC where
 TB:Nat
 g:Nat
 off:Nat
 n:Nat
 lc:Nat
 k:Nat
 v:Value
 qn:Nat
 xs:List Value
 Rv:Nat→Prop
 x13:Value
 x14:Value
 x15:Value
 x16:Value
 m0:Value
 m1:Value
 m2:Value
 m3:Value
 m4:Value
 w1:World
def Rsq (c:SqC) (j:Nat) (x:Value) (w:World):Prop :=
 match j with
 | 0=>x = .pointer (some ⟨c.TB,0,none⟩)
 | 1=>x = .pointer (some ⟨c.TB,0,none⟩)
 | 2=>x = .pointer (some ⟨c.TB,1,none⟩)
 | 3=>x = .slice (some ⟨c.g,c.off,none⟩) c.n c.lc
 | 4=>x = .int .i64 c.k
 | 5=>x = .pointer (some ⟨c.TB,0,none⟩)
 | 6=>x = .pointer (some ⟨c.TB,0,none⟩)
 | 7=>x = .pointer (some ⟨c.TB,1,none⟩)
 | 8=>x = .slice (some ⟨c.g,c.off,none⟩) c.n c.lc
 | 9=>x = .int .i64 c.k
 | 10=>x = .pointer (some ⟨c.g,c.off+c.k*4,none⟩)
 | 11=>x = .pointer (some ⟨c.g,c.off+c.k*4+2,none⟩)
 | 12=>x=c.v
 | 13=>x=c.x13
 | 14=>x=c.x14
 | 15=>x=c.x15
 | 16=>x=c.x16
 | 17=>x = .agg #[c.m0,c.m1,c.m2,c.m3,c.m4]
 | 18=>∃ g,x = .slice (some ⟨g,0,none⟩) 1 1∧c.w1.heap.size≤g∧w.heap[g]? = some (.cells #[c.m0,c.m1,c.m2,c.m3,c.m4] 209 (0,0))
 | 19=>(∃ a m cap,x = .slice a m cap)∧Qr w 209 5 (fun k=>x.ownBlock=some k) x (c.qn+1) (c.xs++[c.m0,c.m1,c.m2,c.m3,c.m4])∧(x.ownBlock=c.v.ownBlock ∨ ∃ k,c.w1.heap.size≤k∧x.ownBlock=some k)
 | 20=>x = .pointer (some ⟨c.g,c.off+c.k*4,none⟩)
 | 21=>x = .pointer (some ⟨c.g,c.off+c.k*4+2,none⟩)
 | _=>True
structure Gsq (c:SqC) (i:Nat) (wa wb:World):Prop where
 g:wa.grownBy wb c.v.ownBlock
 q:Qr wa 209 5 c.Rv c.v c.qn c.xs→Qr wb 209 5 c.Rv c.v c.qn c.xs
 r:i≠19→Gr wa wb
theorem Gsq.gr {c:SqC} {i:Nat} {wa wb:World} (g:Gr wa wb):Gsq c i wa wb :=
 ⟨⟨g.os,g.tape,g.output,g.size,fun k hk _=>g.block k hk⟩,fun h=>h.kept fun k hk hR=>⟨g.block k hk,hR⟩,fun _=>g⟩
def Wsq (c:SqC) (w:World):Prop:=c.w1.grownBy w c.v.ownBlock∧Qr w 209 5 c.Rv c.v c.qn c.xs
theorem Rsq.keep {c:SqC} (hv:∀ k,c.v.ownBlock=some k→k<c.w1.heap.size) (i j:Nat) (x:Value) (wa wb:World) (hij:i≠j) (h:Rsq c j x wa) (g:Gsq c i wa wb):Rsq c j x wb:=by
 by_cases h18:j=18
 ·subst h18
  obtain ⟨q,h1,h2,h3⟩:=h
  exact ⟨q,h1,h2,(g.g.block q (blk_lt h3) (fun e=>by have:=hv q e.symm;omega)).trans h3⟩
 by_cases h19:j=19
 ·subst h19
  exact ⟨h.1,h.2.1.kept fun k hk hR=>⟨(g.r hij).block k hk,hR⟩,h.2.2⟩
 unfold Rsq at h ⊢
 split <;> first | exact h | (rename_i e;exact absurd rfl h18) | (rename_i e;exact absurd rfl h19) | trivial
end Go.Proofs.YtecnfgikbmcgoaaGreat

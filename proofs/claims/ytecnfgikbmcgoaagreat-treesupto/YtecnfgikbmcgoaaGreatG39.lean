import Derived.Test.YtecnfgikbmcgoaaGreatG38
namespace Go.Proofs.YtecnfgikbmcgoaaGreat
open Go.RowKit
def Own' (r R:Nat→Rl) (D:Nat→Prop) (PB:Nat):Nat→Prop:=fun k=>r k ≠ .no∨R k ≠ .no∨D k∨k=PB
section
variable {A:Nat→Prop} {T:Tc} {C:Rc} {r R:Nat→Rl} {LB PB BB:Nat} {B D:Nat→Prop} {L M:Nat} {w:World} {cs:List (Pc (List Atr))} {s:Ts}
theorem St.other (h:St A T C r R LB PB BB B D L M w cs s) {E B':Nat→Prop} {L':Nat} {w':World} (kx:Kx E w w') (hO:∀ k,Own' r R D PB k → ¬ E k) (hA:∀ k,A k → ¬ E k) (h0:¬ E 0) (bo:Bo BB B' L' w') (hB:∀ k,k<w.heap.size→B' k→B k):St A T C r R LB PB BB B' D L' M w' cs s:=by
 have tr:=h.pr.p.b.top
 have tR:=h.pr.q.top.1
 have tA:=h.pr.q.top.2
 have tp:=blk_lt h.pr.pb
 have t0:0<w.heap.size:=h.pr.p.b.ml.pos
 have tD:=h.le.lt
 refine ⟨h.pr.apart kx.fr (fun k=>?_) (fun k=>?_) (fun k hk=>kz_no (hA k hk)) (kz_no h0) (kz_no (hO PB (Or.inr (Or.inr (Or.inr rfl))))),bo,h.le.apart kx (fun k hk=>hO k (Or.inr (Or.inr (Or.inl hk)))) hA,fun k hk=>?_,h.sD⟩
 ·by_cases e:r k = .no
  ·exact Or.inl e
  ·exact Or.inr (kz_no (hO k (Or.inl e)))
 ·by_cases e:R k = .no
  ·exact Or.inl e
  ·exact Or.inr (kz_no (hO k (Or.inr (Or.inl e))))
 ·rcases Nat.lt_or_ge k w.heap.size with hl | hl
  ·exact h.sB k (hB k hl hk)
  ·exact ⟨tr k hl,tR k hl,fun c=>absurd (tD k c) (by omega),fun c=>absurd (tA k c) (by omega),by omega,by omega⟩
theorem St.aR (h:St A T C r R LB PB BB B D L M w cs s):∀ k,A k→R k = .no:=by
 obtain ⟨ads,Xs,lv,Ls,cv,rs,rt,_⟩:=h.pr.q
 exact rt.b.aR
theorem St.ownLt (h:St A T C r R LB PB BB B D L M w cs s) {k:Nat} (hk:Own' r R D PB k):k<w.heap.size:=by
 rcases hk with e | e | e | e
 ·exact Classical.not_not.1 (fun c=>e (h.pr.p.b.top k (by omega)))
 ·exact Classical.not_not.1 (fun c=>e (h.pr.q.top.1 k (by omega)))
 ·exact h.le.lt k e
 ·rw [e];exact blk_lt h.pr.pb
theorem St.ozA (h:St A T C r R LB PB BB B D L M w cs s) {k:Nat} (hk:A k):¬ Oz r R B D k:=by
 rintro (e | e | e | e)
 ·exact e (h.pr.ar k hk)
 ·exact e (h.aR k hk)
 ·exact (h.sB k e).2.2.2.1 hk
 ·exact (h.sD k e).2.2.1 hk
theorem St.oz0 (h:St A T C r R LB PB BB B D L M w cs s):¬ Oz r R B D 0:=by
 rintro (e | e | e | e)
 ·exact e h.pr.p.b.r0
 ·exact e h.pr.R0
 ·exact (h.sB 0 e).2.2.2.2.2 rfl
 ·exact (h.sD 0 e).2.2.2.2 rfl
theorem St.ownB (h:St A T C r R LB PB BB B D L M w cs s) {k:Nat} (hk:B k):¬ Own' r R D PB k:=by
 obtain ⟨a1,a2,a3,a4,a5,a6⟩:=h.sB k hk
 rintro (e | e | e | e)
 ·exact e a1
 ·exact e a2
 ·exact a3 e
 ·exact a5 e
end
def Live (A:Nat→Prop) (BB:Nat) (Ks:List Ky) (B:Nat→Prop) (L Mw:Nat) (w:World) (PB:Nat) (O:Nat→Prop):Prop :=
 ∃ T C r R LB D cs s nxt rank,(∀ k,O k↔Own' r R D PB k)∧St A T C r R LB PB BB B D L L w cs s∧Sh T nxt rank∧(lks T).length≤14∧Wl T nxt rank Ks cs s Mw
def Half (A:Nat→Prop) (BB:Nat) (Ks:List Ky) (B:Nat→Prop) (L Mw:Nat) (w:World) (v:Option Nat) (O:Nat→Prop):Prop :=
 match v with
 | none=>∀ k,¬ O k
 | some PB=>Live A BB Ks B L Mw w PB O
def pv (v:Option Nat):Value:=.pointer (v.map fun PB=>⟨PB,0,none⟩)
section
variable {A:Nat→Prop} {BB:Nat} {Ks:List Ky} {B:Nat→Prop} {L Mw:Nat} {w:World} {v:Option Nat} {O:Nat→Prop}
theorem Half.other (h:Half A BB Ks B L Mw w v O) {E B':Nat→Prop} {L' Mw':Nat} {w':World} (kx:Kx E w w') (hO:∀ k,O k → ¬ E k) (hA:∀ k,A k → ¬ E k) (h0:¬ E 0) (bo:Bo BB B' L' w') (hB:∀ k,k<w.heap.size→B' k→B k) (hL:L≤L') (hM:Mw≤Mw'):Half A BB Ks B' L' Mw' w' v O:=by
 cases v with
 | none=>exact h
 | some PB =>
  obtain ⟨T,C,r,R,LB,D,cs,s,nxt,rank,h1,h2,h3,h4,h5⟩:=h
  exact ⟨T,C,r,R,LB,D,cs,s,nxt,rank,h1,(h2.other kx (fun k hk=>hO k ((h1 k).2 hk)) hA h0 bo hB).up (Nat.le_refl _) hL,h3,h4,h5.up hM⟩
theorem Half.lt (h:Half A BB Ks B L Mw w v O) {k:Nat} (hk:O k):k<w.heap.size:=by
 cases v with
 | none=>exact absurd hk (h k)
 | some PB =>
  obtain ⟨T,C,r,R,LB,D,cs,s,nxt,rank,h1,h2,_⟩:=h
  exact h2.ownLt ((h1 k).1 hk)
theorem Half.nB (h:Half A BB Ks B L Mw w v O) {k:Nat} (hk:O k):¬ B k:=by
 cases v with
 | none=>exact absurd hk (h k)
 | some PB =>
  obtain ⟨T,C,r,R,LB,D,cs,s,nxt,rank,h1,h2,_⟩:=h
  exact fun hb=>h2.ownB hb ((h1 k).1 hk)
end
structure Jt (A G:Nat→Prop) (w0:World) (BB:Nat) (Ks:List Ky) (L Mw:Nat) (w:World) (v1 v2:Option Nat) (B O1 O2:Nat→Prop):Prop where
 bo:Bo BB B L w
 a:Half A BB Ks B L Mw w v1 O1
 b:Half A BB Ks B L Mw w v2 O2
 ap:∀ k,O1 k → ¬ O2 k
 kp:∀ k,A k∨G k→w.heap[k]? = w0.heap[k]?
 al:∀ k,A k∨G k→k<w.heap.size
 sz:w0.heap.size≤w.heap.size
 nb:∀ k,B k → ¬ A k∧k≠0
 gn:∀ k,G k → ¬ O1 k ∧ ¬ O2 k ∧ ¬ B k
 io:w.os=w0.os∧w.tape=w0.tape∧w.output=w0.output
 ml:∃ m,Ml m w
def Jx (A G:Nat→Prop) (w0:World) (BB:Nat) (Ks:List Ky) (L Mw:Nat) (w:World) (v1 v2:Option Nat):Prop:=∃ B O1 O2,Jt A G w0 BB Ks L Mw w v1 v2 B O1 O2
section
variable {A G:Nat→Prop} {w0:World} {BB:Nat} {Ks:List Ky} {L Mw:Nat} {w:World} {v1 v2:Option Nat}
theorem Jx.swap (h:Jx A G w0 BB Ks L Mw w v1 v2):Jx A G w0 BB Ks L Mw w v2 v1:=by
 obtain ⟨B,O1,O2,h⟩:=h
 exact ⟨B,O2,O1,h.bo,h.b,h.a,fun k h2 h1=>h.ap k h1 h2,h.kp,h.al,h.sz,h.nb,fun k hk=>⟨(h.gn k hk).2.1,(h.gn k hk).1,(h.gn k hk).2.2⟩,h.io,h.ml⟩
theorem Jt.gr {B O1 O2:Nat→Prop} (h:Jt A G w0 BB Ks L Mw w v1 v2 B O1 O2) {w':World} (g:Gr w w'):Jt A G w0 BB Ks L Mw w' v1 v2 B O1 O2:=by
 have bo:=h.bo.gr g
 exact ⟨bo,h.a.other (E:=fun _=>False) (Kx.gr g) (fun _ _ e=>e) (fun _ _ e=>e) (fun e=>e) bo (fun _ _ e=>e) (Nat.le_refl _) (Nat.le_refl _),h.b.other (E:=fun _=>False) (Kx.gr g) (fun _ _ e=>e) (fun _ _ e=>e) (fun e=>e) bo (fun _ _ e=>e) (Nat.le_refl _) (Nat.le_refl _),h.ap,fun k hk=>(g.block k (h.al k hk)).trans (h.kp k hk),fun k hk=>Nat.lt_of_lt_of_le (h.al k hk) g.size,Nat.le_trans h.sz g.size,h.nb,h.gn,⟨g.os.trans h.io.1,g.tape.trans h.io.2.1,g.output.trans h.io.2.2⟩,h.ml.imp fun m hm=>g.ml hm⟩
theorem Jx.gr (h:Jx A G w0 BB Ks L Mw w v1 v2) {w':World} (g:Gr w w'):Jx A G w0 BB Ks L Mw w' v1 v2:=by
 obtain ⟨B,O1,O2,h⟩:=h
 exact ⟨B,O1,O2,h.gr g⟩
theorem Jx.up (h:Jx A G w0 BB Ks L Mw w v1 v2) {L' Mw':Nat} (hL:L≤L') (hM:Mw≤Mw'):Jx A G w0 BB Ks L' Mw' w v1 v2:=by
 obtain ⟨B,O1,O2,h⟩:=h
 have bo:=h.bo.up hL
 exact ⟨B,O1,O2,bo,h.a.other (E:=fun _=>False) (Kx.gr (Gr.refl _)) (fun _ _ e=>e) (fun _ _ e=>e) (fun e=>e) bo (fun _ _ e=>e) hL hM,h.b.other (E:=fun _=>False) (Kx.gr (Gr.refl _)) (fun _ _ e=>e) (fun _ _ e=>e) (fun e=>e) bo (fun _ _ e=>e) hL hM,h.ap,h.kp,h.al,h.sz,h.nb,h.gn,h.io,h.ml⟩
theorem Jx.whole (h:Jx A G w0 BB Ks L Mw w v1 v2) (hL:L≤1099511627776):Calls Tryz.prog 33 #[.pointer (some ⟨BB,0,none⟩)] w fun e w'=>e = .returned (.bool true)∧Jx A G w0 BB Ks L Mw w' v1 v2:=by
 obtain ⟨B,O1,O2,j⟩:=h
 exact (j.bo.whole hL).mono (fun e w' he=>⟨he.1,Jx.gr ⟨B,O1,O2,j⟩ he.2⟩)
theorem Jt.turned {T:Tc} {C:Rc} {r R r' R':Nat→Rl} {LB PB:Nat} {B B' D D' O1 O2:Nat→Prop} {cs cs':List (Pc (List Atr))} {s s':Ts} {nxt:Nat→Nat→Int} {rank:Nat→Nat→Nat} {M L' Mw':Nat} {w':World} (j:Jt A G w0 BB Ks L Mw w (some PB) v2 B O1 O2) (hO:∀ k,O1 k↔Own' r R D PB k) (h:St A T C r R LB PB BB B D L M w cs s) (S:Sh T nxt rank) (hl:(lks T).length≤14) (h':St A T C r' R' LB PB BB B' D' L' L' w' cs' s') (W':Wl T nxt rank Ks cs' s' Mw') (hB:∀ k,k<w.heap.size→B' k→B k) (hD:∀ k,k<w.heap.size→D' k→D k) (q:Kq r R r' R' B D w w') (hL:L≤L') (hM:Mw≤Mw'):Jx A G w0 BB Ks L' Mw' w' (some PB) v2:=by
 have nO:∀ k,O2 k → ¬ Oz r R B D k:=fun k h2 e=>by
  have n1:¬ Own' r R D PB k:=fun c=>j.ap k ((hO k).2 c) h2
  rcases e with e | e | e | e
  ·exact n1 (Or.inl e)
  ·exact n1 (Or.inr (Or.inl e))
  ·exact j.b.nB h2 e
  ·exact n1 (Or.inr (Or.inr (Or.inl e)))
 have nG:∀ k,A k∨G k → ¬ Oz r R B D k:=fun k hk e=>by
  rcases hk with hk | hk
  ·exact h.ozA hk e
  ·obtain ⟨g1,g2,g3⟩:=j.gn k hk
   have n1:¬ Own' r R D PB k:=fun c=>g1 ((hO k).2 c)
   rcases e with e | e | e | e
   ·exact n1 (Or.inl e)
   ·exact n1 (Or.inr (Or.inl e))
   ·exact g3 e
   ·exact n1 (Or.inr (Or.inr (Or.inl e)))
 have old:∀ k,k<w.heap.size→Own' r' R' D' PB k→O1 k:=fun k hlt h1=>by
  obtain ⟨e1,e2⟩:=q.2 k hlt
  refine (hO k).2 ?_
  rcases h1 with e | e | e | e
  ·exact Or.inl (by rw [← e1];exact e)
  ·exact Or.inr (Or.inl (by rw [← e2];exact e))
  ·exact Or.inr (Or.inr (Or.inl (hD k hlt e)))
  ·exact Or.inr (Or.inr (Or.inr e))
 refine ⟨B',Own' r' R' D' PB,O2,h'.bo,⟨T,C,r',R',LB,D',cs',s',nxt,rank,fun _=>Iff.rfl,h',S,hl,W'⟩,j.b.other q.1 nO (fun k hk=>h.ozA hk) h.oz0 h'.bo hB hL hM,fun k h1 h2=>j.ap k (old k (j.b.lt h2) h1) h2,fun k hk=>(q.1.keep k (j.al k hk) (nG k hk)).trans (j.kp k hk),fun k hk=>Nat.lt_of_lt_of_le (j.al k hk) q.1.size,Nat.le_trans j.sz q.1.size,fun k hk=>⟨(h'.sB k hk).2.2.2.1,(h'.sB k hk).2.2.2.2.2⟩,fun k hk=>?_,⟨q.1.os.trans j.io.1,q.1.tape.trans j.io.2.1,q.1.output.trans j.io.2.2⟩,T.ml,h'.pr.p.b.ml⟩
 have hlt:=j.al k (Or.inr hk)
 obtain ⟨g1,g2,g3⟩:=j.gn k hk
 exact ⟨fun e=>g1 (old k hlt e),g2,fun e=>g3 (hB k hlt e)⟩
theorem Jx.step {PB:Nat} (h:Jx A G w0 BB Ks L Mw w (some PB) v2) (hL:L≤1099511627000) (hK:Ks.length≤1048576) (hMw:Mw<549755813888) (x:Stp) (hx:SpOk A w0 Ks x) (h4:x.kind≠4) (h7:x.kind≠7) :
  Calls Tryz.prog 31 #[.pointer (some ⟨PB,0,none⟩),x.v] w fun e w'=>e = .returned (.bool true)∧Jx A G w0 BB Ks (L+4) (Mw+8*(Ks.length+1)) w' (some PB) v2:=by
 obtain ⟨B,O1,O2,j⟩:=h
 obtain ⟨T,C,r,R,LB,D,cs,s,nxt,rank,hO,st,S,hl,W⟩:=j.a
 refine (st.stepAny W S hl hL hL hK hMw x (hx.keep j.sz (fun k _ ha=>j.kp k (Or.inl ha))) h4 h7).mono ?_
 rintro e w1 ⟨he,r',R',B',D',cs',s',i1,i2,i3,i4,i5⟩
 exact ⟨he,j.turned hO st S hl (i1.up (Nat.le_refl _) (by omega)) i2 i3 i4 i5 (by omega) (by omega)⟩
theorem Jx.still {PB:Nat} (h:Jx A G w0 BB Ks L Mw w (some PB) v2) (hL:L≤1099511627776):∃ LB,w.cell? ⟨PB,2,none⟩=some (.pointer (some ⟨LB,0,none⟩)) ∧
  Calls Tryz.prog 32 #[.pointer (some ⟨LB,0,none⟩)] w fun e w'=>e = .returned (.bool true)∧Jx A G w0 BB Ks L Mw w' (some PB) v2:=by
 obtain ⟨B,O1,O2,j⟩:=h
 obtain ⟨T,C,r,R,LB,D,cs,s,nxt,rank,hO,st,S,hl,W⟩:=j.a
 refine ⟨LB,by rw [cell_of_row _ _ _ _ _ _ st.pr.pb];rfl,(st.le.still hL).mono ?_⟩
 rintro e w2 ⟨he,le,kx⟩
 have lb:D LB:=st.le.lb
 have i6:=st.copied kx (le L) (fun k _ e=>by rw [e];exact lb)
 exact ⟨he,j.turned hO st S hl i6 W (fun _ _ e=>e) (fun k _ e=>by rw [e];exact lb) ⟨kx.wide (fun k _ e=>Or.inr (Or.inr (Or.inr e))),fun _ _=>⟨rfl,rfl⟩⟩ (Nat.le_refl _) (Nat.le_refl _)⟩
theorem Jx.all {PB:Nat} (h:Jx A G w0 BB Ks L Mw w (some PB) v2) (hL:L≤1099511627000) (hK:Ks.length≤1048576) (hMw:Mw<549755813888) :
  Calls Tryz.prog 34 #[.pointer (some ⟨PB,0,none⟩),.bool false] w fun e w'=>e = .returned (.bool true)∧Jx A G w0 BB Ks (L+404) Mw w' (some PB) v2:=by
 obtain ⟨B,O1,O2,j⟩:=h
 obtain ⟨T,C,r,R,LB,D,cs,s,nxt,rank,hO,st,S,hl,W⟩:=j.a
 refine (st.all (W.sm S hK hMw) W.srt st.pr.p.b.adj hl hL).mono ?_
 rintro e w' ⟨he,B',i0,i1,i2⟩
 exact ⟨he,j.turned hO st S hl (i1.up (Nat.le_refl _) (by omega)) W i0 (fun _ _ e=>e) ⟨i2,fun _ _=>⟨rfl,rfl⟩⟩ (by omega) (Nat.le_refl _)⟩
end
structure Tsh (n:Int) (es:List Ky) (nb:Nat) (adj:Nat→Nat→Bool) (nxt:Nat→Nat→Int):Prop where
 n:n=nb
 n1:1≤nb
 n8:nb≤8
 len:es.length+1=nb
 e:∀ a b,adj a b=true↔EdgeOf es a b
 N:Nx adj (dom nb nxt)
 Z:Nz nb adj (dom nb nxt)
 R:Rk adj (dom nb nxt) (behind nb (dom nb nxt))
theorem tsh_of {n:Int} {es:List Ky} (h:treeB n es=true):∃ nb adj nxt,Tsh n es nb adj nxt:=by
 obtain ⟨nb,adj,nxt,h1,h2,h3,h4,h5,h6,h7,h8⟩:=tree_of h
 exact ⟨nb,adj,nxt,h1,h2,h3,h4,h5,h6,h7,h8⟩
theorem Tsh.sh {n:Int} {es:List Ky} {nb:Nat} {adj:Nat→Nat→Bool} {nxt:Nat→Nat→Int} (h:Tsh n es nb adj nxt) (TB HB hcap:Nat) (MB:Nat→Nat) (CB LB:Nat) (ml:Int):Sh ⟨nb,adj,TB,HB,hcap,MB,CB,LB,ml⟩ (dom nb nxt) (behind nb (dom nb nxt)) :=
 ⟨h.N,h.Z,h.R,fun _ _=>behind_le _ _ _ _,behind_rs h.N h.Z⟩
theorem lks14 {T:Tc} {nxt:Nat→Nat→Int} {rank:Nat→Nat→Nat} (S:Sh T nxt rank) (hp:0<T.nb) (h8:T.nb≤8):(lks T).length≤14:=by
 have h:=links_len S hp (TS.none (List Wnt) (List Atr))
 rw [lkTo_map,List.length_map] at h
 omega
def NpP (n:Int) (es:List Ky) (nb:Nat) (adj:Nat→Nat→Bool) (w:World) (e:Ending) (w':World):Prop :=
 (treeB n es=false∧e = .returned (.tuple #[.pointer none,.int .i64 4])∧Gr w w') ∨
 (treeB n es=true ∧ ∃ TB HB hcap MB CB LB ml r,e = .returned (.tuple #[.pointer (some ⟨TB,0,none⟩),.int .i64 0])∧Tf ⟨nb,adj,TB,HB,hcap,MB,CB,LB,ml⟩ r w' [] (TS.none (List Wnt) (List Atr))∧Fr (fun _=>.no) r w w')
theorem new_prog (n:Int) (es:List Ky) (ad:Option Addr) (cap:Nat) (w:World) (nb:Nat) (adj:Nat→Nat→Bool) (nxt:Nat→Nat→Int) (hl:es.length≤maxLen) (h:EdAt w ad es) (hI:∀ e∈es,I64 e.1∧I64 e.2) (hml:∃ m,Ml m w) (hT:treeB n es=true→Tsh n es nb adj nxt) :
  Calls Tryz.prog 35 #[.int .i64 n,.slice ad es.length cap] w fun e w'=>NpP n es nb adj w e w':=by
 cases ht:treeB n es with
 | false=>exact (New_no n es ad cap w hl h hI ht).mono (fun e w' he=>Or.inl ⟨ht,he⟩)
 | true =>
  obtain ⟨ml,hml⟩:=hml
  have t:=hT ht
  have hn:=t.n
  subst hn
  have hin:=(good_of ht).2
  have hes:∀ e∈es,∃ a b:Nat,e=((a:Int),(b:Int)):=fun e he=>by
   have:=hin e he
   simp only [inR,Bool.and_eq_true,decide_eq_true_eq] at this
   exact ⟨e.1.toNat,e.2.toNat,by ext <;> simp <;> omega⟩
  refine (New_tree nb es ad cap w adj ml (by have:=t.len;have:=t.n8;omega) h hI ht t.n1 t.n8 t.Z.inn t.e hes hml).mono ?_
  rintro e w' ⟨TB,HB,hcap,MB,CB,LB,r,he,h1,h2⟩
  exact Or.inr ⟨ht,TB,HB,hcap,MB,CB,LB,ml,r,he,⟨[],h1,rfl⟩,h2⟩
theorem new_ref (A:Nat→Prop) (n:Int) (es:List Ky) (ad:Option Addr) (cap:Nat) (w:World) (h:EdAt w ad es) (hA:∀ i,A i→i<w.heap.size) :
  Calls Tryz.prog 57 #[.int .i64 n,.slice ad es.length cap] w fun e w'=>RnK A w n es e w':=by
 by_cases hn:1≤n∧n≤8∧(es.length:Int)=n - 1
 ·obtain ⟨k,rfl⟩:∃ k:Nat,n=k:=⟨n.toNat,by omega⟩
  exact rNew_t A k es ad cap w (by omega) (by omega) (by omega) h hA
 ·exact rNew_bad A n es ad cap w hn
structure Tw2 (A:Nat→Prop) (T:Tc) (C:Rc) (r R:Nat→Rl) (w0 w:World):Prop where
 p:Tf T r w [] (TS.none (List Wnt) (List Atr))
 q:Rw A C T R w [] (TS.none (List Wnt) (List Atr))
 ap:∀ k,r k = .no∨R k = .no
 old:∀ k,k<w0.heap.size→r k = .no∧R k = .no
 x0:0<w0.heap.size
 xA:∀ k,A k→k<w0.heap.size
 sz:w0.heap.size≤w.heap.size
def N2P (A:Nat→Prop) (n:Int) (es:List Ky) (nb:Nat) (adj:Nat→Nat→Bool) (w0:World) (pe:Value) (re:Value) (w:World):Prop :=
 (treeB n es=false∧pe = .tuple #[.pointer none,.int .i64 4]∧re = .tuple #[.pointer none,.int .i64 4]∧Gr w0 w) ∨
 (treeB n es=true ∧ ∃ T C r R,pe = .tuple #[.pointer (some ⟨T.TB,0,none⟩),.int .i64 0]∧re = .tuple #[.pointer (some ⟨C.TB,0,none⟩),.int .i64 0]∧T.nb=nb∧T.adj=adj∧(∃ HB hcap MB CB LB ml,T=⟨nb,adj,T.TB,HB,hcap,MB,CB,LB,ml⟩)∧Tw2 A T C r R w0 w∧Gr w0 w)
theorem N2P.of {A:Nat→Prop} {n:Int} {es:List Ky} {nb:Nat} {adj:Nat→Nat→Bool} {nxt:Nat→Nat→Int} {w w1 w2:World} {pe re:Value} (np:NpP n es nb adj w (.returned pe) w1) (rn:RnK A w1 n es (.returned re) w2) (hT:treeB n es=true→Tsh n es nb adj nxt) (hA:∀ k,A k→k<w.heap.size) (h0:0<w.heap.size):N2P A n es nb adj w pe re w2:=by
 unfold RnK at rn
 rw [refB_tree] at rn
 rcases np with ⟨ht,he,g⟩ | ⟨ht,TB,HB,hcap,MB,CB,LB,ml,r,he,tf,fr⟩
 ·rcases rn with ⟨_,he2,g2⟩ | ⟨ht2,_⟩
  ·injection he with he
   injection he2 with he2
   exact Or.inl ⟨ht,he,he2,Gr.call g g2⟩
  ·rw [ht] at ht2;cases ht2
 ·rcases rn with ⟨ht2,_⟩ | ⟨_,C,R,lv,Ls,he2,hn,rt,hav,fr2⟩
  ·rw [ht] at ht2;cases ht2
  ·injection he with he
   injection he2 with he2
   have t:=hT ht
   have hnb:C.nb=nb:=by have:=t.n;omega
   refine Or.inr ⟨ht,⟨nb,adj,TB,HB,hcap,MB,CB,LB,ml⟩,C,r,R,he,he2,rfl,rfl,⟨HB,hcap,MB,CB,LB,ml,rfl⟩,⟨tf.apart fr2 (fun _=>Or.inr rfl) rfl,Rw.start rt hnb hav (good_of ht).1 t.e,fun k=>?_,fun k hk=>⟨fr.same k hk,fr2.same k (Nat.lt_of_lt_of_le hk fr.size)⟩,h0,hA,Nat.le_trans fr.size fr2.size⟩,Gr.call fr.gr0 fr2.gr0⟩
   rcases Nat.lt_or_ge k w1.heap.size with hk | hk
   ·exact Or.inr (fr2.same k hk)
   ·exact Or.inl (tf.b.top k hk)
section
variable {A:Nat→Prop} {T:Tc} {C:Rc} {r R:Nat→Rl} {w0 w w':World}
theorem Tw2.gr (h:Tw2 A T C r R w0 w) (g:Gr w w'):Tw2 A T C r R w0 w':=⟨h.p.gr g,h.q.gr g,h.ap,h.old,h.x0,h.xA,Nat.le_trans h.sz g.size⟩
theorem Tw2.apart (h:Tw2 A T C r R w0 w) {IB:Nat} (kx:Kx (fun k=>k=IB) w w') (hl:IB<w0.heap.size) (h0:IB≠0) (hA:¬ A IB):Tw2 A T C r R w0 w':=by
 refine ⟨h.p.apart kx.fr (fun k=>?_) (kz_no (fun e=>h0 e.symm)),h.q.apart kx.fr (fun k=>?_) (fun k hk=>kz_no (fun e=>hA (e ▸ hk))),h.ap,h.old,h.x0,h.xA,Nat.le_trans h.sz kx.size⟩
 ·by_cases e:k=IB
  ·exact Or.inl (h.old k (e ▸ hl)).1
  ·exact Or.inr (kz_no e)
 ·by_cases e:k=IB
  ·exact Or.inl (h.old k (e ▸ hl)).2
  ·exact Or.inr (kz_no e)
theorem Tw2.made (h:Tw2 A T C r R w0 w) (g:Gr w w') {LB PB BB:Nat} {B:Nat→Prop} {L:Nat} (lb:w'.heap[LB]? = some (.cells lent0 152 (0,0))) (pb:w'.heap[PB]? = some (.cells #[.pointer (some ⟨T.TB,0,none⟩),.pointer (some ⟨C.TB,0,none⟩),.pointer (some ⟨LB,0,none⟩),.pointer (some ⟨BB,0,none⟩)] 103 (0,0))) (hLB:w.heap.size≤LB) (hPB:w.heap.size≤PB) (hne:LB≠PB) (bo:Bo BB B L w') (hB:∀ k,B k→k<w0.heap.size ∧ ¬ A k∧k≠0) :
  St A T C r R LB PB BB B (fun k=>k=LB) L 0 w' [] (TS.none (List Wnt) (List Atr)):=by
 have tr:=h.p.b.top
 have tR:=h.q.top.1
 have hsz:=h.sz
 have x0:=h.x0
 have z:=h.gr g
 refine ⟨⟨z.p,z.q,h.ap,fun k hk=>(h.old k (h.xA k hk)).1,(h.old 0 x0).2,pb,⟨tr PB hPB,tR PB hPB⟩⟩,bo,Le.start lb 0 (base:=w0.heap.size) (by omega) (fun k hk=>Or.inl (h.xA k hk)),fun k hk=>?_,fun k hk=>?_⟩
 ·obtain ⟨b1,b2,b3⟩:=hB k hk
  exact ⟨(h.old k b1).1,(h.old k b1).2,by omega,b2,by omega,b3⟩
 ·subst hk
  exact ⟨tr _ hLB,tR _ hLB,fun c=>absurd (h.xA _ c) (by omega),hne,by omega⟩
end
def OpP (A:Nat→Prop) (n:Int) (es:List Ky) (BB:Nat) (nb:Nat) (adj:Nat→Nat→Bool) (w:World) (e:Ending) (w':World):Prop :=
 (treeB n es=false∧e = .returned (.tuple #[.pointer none,.bool true])∧Gr w w') ∨
 (treeB n es=true ∧ ∃ T C r R LB PB w0 w3,e = .returned (.tuple #[.pointer (some ⟨PB,0,none⟩),.bool true])∧Gr w w'∧(∃ TB HB hcap MB CB LB ml,T=⟨nb,adj,TB,HB,hcap,MB,CB,LB,ml⟩)∧Tw2 A T C r R w0 w3∧w.heap.size≤w0.heap.size∧Gr w3 w'∧w'.heap[LB]? = some (.cells lent0 152 (0,0))∧w'.heap[PB]? = some (.cells #[.pointer (some ⟨T.TB,0,none⟩),.pointer (some ⟨C.TB,0,none⟩),.pointer (some ⟨LB,0,none⟩),.pointer (some ⟨BB,0,none⟩)] 103 (0,0))∧w3.heap.size≤LB∧w3.heap.size≤PB∧LB≠PB)
theorem Jx.openP {A G:Nat→Prop} {w0:World} {BB:Nat} {Ks:List Ky} {L Mw:Nat} {w:World} {v2:Option Nat} {n:Int} {es:List Ky} {nb:Nat} {adj:Nat→Nat→Bool} {nxt:Nat→Nat→Int} {e:Ending} {w':World} (h:Jx A G w0 BB Ks L Mw w none v2) (hT:treeB n es=true→Tsh n es nb adj nxt) (ho:OpP A n es BB nb adj w e w'):∃ v:Option Nat,e = .returned (.tuple #[pv v,.bool true])∧(treeB n es=true→v≠none)∧Jx A G w0 BB Ks L Mw w' v v2:=by
 rcases ho with ⟨ht,he,g⟩ | ⟨ht,T,C,r,R,LB,PB,wa,w3,he,g,⟨TB,HB,hcap,MB,CB,LB',ml,rfl⟩,tw,hs,g3,lb,pb,hLB,hPB,hne⟩
 ·exact ⟨none,he,(fun e=>by rw [ht] at e;cases e),h.gr g⟩
 ·refine ⟨some PB,he,(fun _ e=>by cases e),?_⟩
  obtain ⟨B,O1,O2,j⟩:=h
  have lB:=j.bo.lt
  have lO:∀ k,O2 k→k<w.heap.size:=fun k hk=>j.b.lt hk
  have j':=j.gr g
  have t:=hT ht
  have S:=t.sh TB HB hcap MB CB LB' ml
  have sz:=tw.sz
  have nO:∀ k,k<w.heap.size → ¬ Own' r R (fun k=>k=LB) PB k:=fun k hk h1=>by
   obtain ⟨o1,o2⟩:=tw.old k (by omega)
   rcases h1 with e | e | e | e
   ·exact e o1
   ·exact e o2
   ·omega
   ·omega
  refine ⟨B,Own' r R (fun k=>k=LB) PB,O2,j'.bo,⟨_,C,r,R,LB,_,[],_,dom nb nxt,behind nb (dom nb nxt),fun _=>Iff.rfl,(tw.made g3 lb pb hLB hPB hne j'.bo (fun k hk=>⟨Nat.lt_of_lt_of_le (lB k hk) hs,j.nb k hk⟩)).up (Nat.le_refl _) (Nat.zero_le _),S,lks14 S t.n1 t.n8,Wl.start.up (Nat.zero_le _)⟩,j'.b,fun k h1 h2=>nO k (lO k h2) h1,j'.kp,j'.al,j'.sz,j'.nb,fun k hk=>⟨fun h1=>nO k (j.al k (Or.inr hk)) h1,(j.gn k hk).2⟩,j'.io,j'.ml⟩
theorem kcells_set:∀ (X:List Ky) (i:Nat) (a b:Int),((kcells X).set (i*2) (.int .i64 a)).set (i*2+1) (.int .i64 b)=kcells (X.set i (a,b))
 | [],i,a,b=>by simp [kcells]
 | x::X,0,a,b=>by simp [kcells,kcell]
 | x::X,i+1,a,b=>by
  have ih:=kcells_set X i a b
  simp only [kcells] at ih
  simp only [kcells,List.flatMap_cons,List.set_cons_succ]
  rw [← ih,show (i+1)*2=i*2+1+1 by omega,show i*2+1+1+1=(i*2+1)+1+1 by omega]
  simp [kcell]
theorem EdAt.gr {w w':World} {ad:Option Addr} {es:List Ky} (h:EdAt w ad es) (g:Gr w w'):EdAt w' ad es :=
 h.imp id (fun ⟨b,off,e,h1,h2⟩=>⟨b,off,e,g.lt h1,fun i hi=>by rw [(bcell g).1 b _ h1,(bcell g).1 b _ h1];exact h2 i hi⟩)
def Ib (IB:Nat) (X:List Ky) (w:World):Prop:=∃ cur,w.heap[IB]? = some (.cells cur 81 (0,0))∧cur.toList=kcells X
section
variable {IB:Nat} {X:List Ky} {w w':World}
theorem Ib.cell (h:Ib IB X w) {i:Nat} (hi:i<X.length):w.cell? ⟨IB,i*2,none⟩=some (.int .i64 (eat X i).1)∧w.cell? ⟨IB,i*2+1,none⟩=some (.int .i64 (eat X i).2):=by
 obtain ⟨cur,h1,h2⟩:=h
 obtain ⟨c0,c1⟩:=kcells_at X i hi
 rw [cell_of_row _ _ _ _ _ _ h1,cell_of_row _ _ _ _ _ _ h1, ← Array.getElem?_toList, ← Array.getElem?_toList,h2]
 exact ⟨c0,c1⟩
theorem Ib.fz (h:Ib IB X w) (j:Nat):w.frozen? ⟨IB,j,none⟩=false:=by
 obtain ⟨cur,h1,_⟩:=h
 exact frz0 h1 j
theorem Ib.gr (h:Ib IB X w) (g:Gr w w'):Ib IB X w':=by
 obtain ⟨cur,h1,h2⟩:=h
 exact ⟨cur,blk_gr g h1,h2⟩
theorem Ib.lt (h:Ib IB X w):IB<w.heap.size:=by
 obtain ⟨cur,h1,h2⟩:=h
 exact blk_lt h1
theorem Ib.set (h:Ib IB X w) (i:Nat) (a b:Int):Ib IB (X.set i (a,b)) ((w.setCell ⟨IB,i*2,none⟩ (.int .i64 a)).setCell ⟨IB,i*2+1,none⟩ (.int .i64 b)):=by
 obtain ⟨cur,h1,h2⟩:=h
 refine ⟨_,heap_setCell_same _ _ _ _ _ _ (heap_setCell_same _ _ _ _ _ _ h1),?_⟩
 rw [Array.toList_setIfInBounds,Array.toList_setIfInBounds,h2,kcells_set]
end
def outEd (es:List Ky):List Ky:=es++List.replicate 8 (77,77)
theorem eat_outEd {es:List Ky} {i:Nat} (h:i<es.length):eat (outEd es) i=eat es i:=by
 simp [eat,outEd,List.getD_eq_getElem?_getD,List.getElem?_append_left h]
theorem eat_outEd' {es:List Ky} {i:Nat} (h:¬ i<es.length) (h2:i<es.length+8):eat (outEd es) i=(77,77):=by
 simp only [eat,outEd,List.getD_eq_getElem?_getD]
 rw [List.getElem?_append_right (by omega),List.getElem?_replicate,if_pos (by omega)];rfl
theorem eat_set {X:List Ky} {i:Nat} (h:i<X.length) (x:Ky) (j:Nat):eat (X.set i x) j=if j=i then x else eat X j:=by
 simp only [eat,List.getD_eq_getElem?_getD,List.getElem?_set]
 by_cases e:i=j
 ·subst e;simp [h]
 ·rw [if_neg e,if_neg (fun c=>e c.symm)]
def dS:Stp:=⟨0,0,0,0,[],none,0,none,0,0⟩
def sat (xs:List Stp) (i:Nat):Stp:=xs.getD i dS
theorem sat_mem {xs:List Stp} {i:Nat} (h:i<xs.length):sat xs i∈xs:=by unfold sat;exact getD_mem h _
def SpsAt (w:World) (b off:Nat) (xs:List Stp):Prop:=∀ i,i<xs.length→w.cell? ⟨b,off+i*6,none⟩=some (.int .i64 (sat xs i).wh)∧w.cell? ⟨b,off+i*6+1,none⟩=some (.int .i64 (sat xs i).kind)∧w.cell? ⟨b,off+i*6+1+1,none⟩=some (.int .i64 (sat xs i).a)∧w.cell? ⟨b,off+i*6+1+1+1,none⟩=some (.int .i64 (sat xs i).b)∧w.cell? ⟨b,off+i*6+1+1+1+1,none⟩=some (.slice (sat xs i).fad (sat xs i).f.length (sat xs i).fc)∧w.cell? ⟨b,off+i*6+1+1+1+1+1,none⟩=some (.slice (sat xs i).ead (sat xs i).en (sat xs i).ec)
theorem SpsAt.blk {w w':World} {b off:Nat} {xs:List Stp} (h:SpsAt w b off xs) (hb:w'.heap[b]? = w.heap[b]?):SpsAt w' b off xs:=fun i hi=>by
 have e:∀ o,w'.cell? ⟨b,o,none⟩=w.cell? ⟨b,o,none⟩:=fun o=>by unfold World.cell?;simp only [hb]
 rw [e,e,e,e,e,e]
 exact h i hi
def SpAd (G:Nat→Prop) (w:World) (ad:Option Addr) (xs:List Stp):Prop:=xs=[] ∨ ∃ b off,ad=some ⟨b,off,none⟩∧G b∧SpsAt w b off xs
theorem SpAd.gr {w w':World} {ad:Option Addr} {xs:List Stp} (h:SpAd (fun k=>k<w.heap.size) w ad xs) (g:Gr w w'):SpAd (fun k=>k<w'.heap.size) w' ad xs :=
 h.imp id (fun ⟨b,off,e,h1,h2⟩=>⟨b,off,e,g.lt h1,h2.blk (g.block b h1)⟩)
def book0:Array Value:=#[.slice none 0 0,.slice none 0 0,.slice none 0 0,.slice none 0 0,.slice none 0 0,.slice none 0 0]
theorem Bo.start {BB:Nat} {w:World} (h:w.heap[BB]? = some (.cells book0 89 (0,0))) (L:Nat):Bo BB (fun k=>k=BB) L w :=
 ⟨none,none,0,0,[],[],fun k hk=>hk ▸ blk_lt h,rfl,h,⟨World.ownsRow_nil _ _ _ _,fun i hi=>absurd hi (Nat.not_lt_zero _)⟩,⟨World.ownsRow_nil _ _ _ _,fun i hi=>absurd hi (Nat.not_lt_zero _)⟩,rfl,rfl,Nat.zero_le _,Nat.zero_le _,by simp [Value.ownBlock],by simp [Value.ownBlock],fun i hi=>absurd hi (Nat.not_lt_zero _),fun i hi=>absurd hi (Nat.not_lt_zero _)⟩
theorem Jx.start {BB:Nat} {Ks:List Ky} {w W:World} {m:Int} (g:Gr w W) (hb:W.heap[BB]? = some (.cells book0 89 (0,0))) (hBB:w.heap.size≤BB) (hml:Ml m w):Jx (fun k=>k<w.heap.size) (fun _=>False) w BB Ks 0 0 W none none:=by
 have hp:=hml.pos
 refine ⟨fun k=>k=BB,fun _=>False,fun _=>False,Bo.start hb 0,fun _ e=>e,fun _ e=>e,fun _ e=>e.elim,fun k hk=>g.block k (hk.elim id False.elim),fun k hk=>g.lt (hk.elim id False.elim),g.size,fun k hk=>?_,fun _ e=>e.elim,⟨g.os,g.tape,g.output⟩,m,g.ml hml⟩
 have hk:k=BB:=hk
 subst hk
 exact ⟨by omega,by omega⟩
theorem Jx.fin {A G:Nat→Prop} {w0 w:World} {BB:Nat} {Ks:List Ky} {L Mw:Nat} {v1 v2:Option Nat} (h:Jx A G w0 BB Ks L Mw w v1 v2) {wa:World} (g:Gr wa w0) (hA:∀ k,k<wa.heap.size→A k):Gr wa w:=by
 obtain ⟨B,O1,O2,j⟩:=h
 exact ⟨j.io.1.trans g.os,j.io.2.1.trans g.tape,j.io.2.2.trans g.output,Nat.le_trans g.size j.sz,fun k hk=>(j.kp k (Or.inl (hA k hk))).trans (g.block k hk)⟩
end Go.Proofs.YtecnfgikbmcgoaaGreat

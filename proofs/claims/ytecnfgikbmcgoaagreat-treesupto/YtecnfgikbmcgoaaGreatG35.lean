import Derived.Test.YtecnfgikbmcgoaaGreatG34
namespace Go.Proofs.YtecnfgikbmcgoaaGreat
open Go.RowKit
def done (l:Nat→Bool) (i:Nat):Nat→Bool:=fun j=>if j=i then true else l j
def Closed (ops:Array Oper) (l:Nat→Bool):Prop:=∀ (j:Nat) (o:Oper),ops[j]? = some o→l j=true → ∀ e∈o.after,Region.binds .any e=true→l e.on=true
def Waits (ops:Array Oper) (l:Nat→Bool) (i:Nat):Prop:=∀ o,ops[i]? = some o → ∀ e∈o.after,Region.binds .any e=true→l e.on=true
section
variable {P:Program} {ops:Array Oper} {Q:Exit→Act→World→Prop}
theorem region_L0 {id:Nat} {a0:Act} {w0:World} (hm:P.follows .mixedOrders=true) (last:Nat) (hsz:ops.size=last+1) (dst:Nat→Nat)
  (hinj:∀ i j,i<last→j<last→dst i=dst j→i=j) (hguard:∀ (i:Nat) (o:Oper),ops[i]? = some o→o.guard=none)
  (hdag:∀ (i:Nat) (o:Oper),ops[i]? = some o → ∀ e∈o.after,e.on<i) (hall:∀ j,j<last → ∃ (k:Nat) (o:Oper),j<k∧k≤last∧ops[k]? = some o ∧ ∃ e∈o.after,Region.binds .any e=true∧e.on=j)
  (R:Nat→Value→World→Prop) (E:Act→Prop) (W:(Nat→Bool)→World→Prop) (Good:Nat→World→World→Prop)
  (hE:∀ a i x,i<last→E a→E (a.put (some (dst i)) x)) (hsize:∀ a,E a → ∀ i,i<last→dst i<a.tmps.size)
  (hW:∀ i l w w',i<last→l i=false→Closed ops l→Waits ops l i→W l w→Good i w w'→W (done l i) w') (hR:∀ i j x w w',i≠j→R j x w→Good i w w'→R j x w')
  (hfront:∀ (i:Nat) (o:Oper) (a:Act) (w:World) (l:Nat→Bool),ops[i]? = some o→i<last→l i=false→Closed ops l→Waits ops l i→E a→W l w→(∀ e∈o.after,Region.binds .any e=true→R e.on (a.eval (.tmp (dst e.on))) w) → ∀ K:Act→World→Prop,(∀ x w',Good i w w'→R i x w'→K (a.put (some (dst i)) x) w')→o.wp P a w K Q)
  (hlast:∀ (o:Oper) (a:Act) (w:World),ops[last]? = some o→E a→(∃ l,W l w ∧ ∀ j,j<last→l j=true)→(∀ j,j<last→R j (a.eval (.tmp (dst j))) w) → ∀ K:Act→World→Prop,(∀ a' w',Q .normal a' w'→K a' w')→o.wp P a w K Q)
  (h0:E a0) (hw0:W (fun _=>false) w0.drew):(Code.region id ops true).wp P Q a0 w0:=by
 refine wp_region_any hm ?_
 have main:∀ (fuel:Nat) (listed:Array Bool) (a:Act) (w:World),listed.size=ops.size→listed.toList.count false≤fuel →
   ((listed.getD last true=false∧E a∧W (fun j=>listed.getD j false) w∧(∀ (j:Nat) (o:Oper),ops[j]? = some o→listed.getD j false=true → ∀ e∈o.after,Region.binds .any e=true→listed.getD e.on false=true) ∧ ∀ j,j<last→listed.getD j false=true→R j (a.eval (.tmp (dst j))) w)∨((∀ i,i<ops.size→listed.getD i true=true)∧Q .normal a w)) →
   wpAny P .any ops Q fuel listed a w:=by
  intro fuel
  induction fuel with
  | zero =>
   intro listed a w hs hc hI
   have hz:∀ i,i<ops.size→listed.getD i true=true:=by
    intro i hi
    have h1:¬ false∈listed.toList:=List.count_eq_zero.mp (by omega)
    have h2:listed.getD i true=listed[i]'(by omega):=by simp [Array.getD,show i<listed.size by omega]
    rw [h2]
    cases h3:listed[i]'(by omega)
    ·exact absurd (by rw [← h3];simp) h1
    ·rfl
   rcases hI with ⟨h1,_⟩ | ⟨_,h2⟩
   ·rw [hz last (by omega)] at h1;cases h1
   ·refine ⟨?_,h2⟩
    rw [List.eq_nil_iff_forall_not_mem]
    intro i hi
    obtain ⟨h3,o,ho,_⟩:=mem_ready.1 hi
    rw [hz i (Array.getElem?_eq_some_iff.1 ho).1] at h3
    cases h3
  | succ fuel ih =>
   intro listed a w hs hc hI
   constructor
   ·intro hr
    rcases hI with ⟨h1,_⟩ | ⟨_,h2⟩
    ·exfalso
     have hleast:∀ n,∀ i,i<n→listed.getD i true=true:=by
      intro n
      induction n with
      | zero=>intro i hi;omega
      | succ n ihn =>
       intro i hi
       by_cases hin:i<n
       ·exact ihn i hin
       ·have hin:i=n:=by omega
        subst hin
        cases hf:listed.getD i true
        ·have hlt:=getD_false hf
         have hm:i∈Region.ready .any ops listed:=mem_ready.2 ⟨hf,ops[i]'(by omega),Array.getElem?_eq_getElem (by omega),fun e he _=>by
          have hlt':=hdag i _ (Array.getElem?_eq_getElem (by omega)) e he
          rw [getD_lt (by omega) false true];exact ihn _ hlt'⟩
         rw [hr] at hm;cases hm
        ·rfl
     rw [hleast (last+1) last (by omega)] at h1;cases h1
    ·exact h2
   ·intro i hi
    obtain ⟨h3,o,ho,hdep⟩:=mem_ready.1 hi
    have hil:i<ops.size:=(Array.getElem?_eq_some_iff.1 ho).1
    rcases hI with ⟨h1,hEa,hWw,hcl,hRs⟩ | ⟨h2,_⟩
    ·unfold wpOp
     simp only [ho,Region.wanted,hguard i o ho,if_true]
     refine Or.inl ?_
     have hcnt:(listed.setIfInBounds i true).toList.count false≤fuel:=by
      have hl:i<listed.toList.length:=by simp;omega
      rw [Array.toList_setIfInBounds,List.count_set hl]
      have h4:listed.toList[i]=false:=by
       have h2:listed.getD i true=listed[i]'(by omega):=by simp [Array.getD,show i<listed.size by omega]
       rw [← h3,h2];simp
      rw [h4,if_pos (by rfl),if_neg (by decide)];omega
     by_cases hil':i=last
     ·subst hil'
      have every:∀ (d j:Nat),j+d=i→0<d→listed.getD j false=true:=by
       intro d
       induction d using Nat.strongRecOn with
       | ind d ihd =>
        intro j hj hd
        obtain ⟨k,ok,hjk,hki,hok,e,he,hb,hon⟩:=hall j (by omega)
        by_cases hkl:k=i
        ·subst hkl
         rw [ho] at hok;injection hok with hok;subst hok
         have:=hdep e he hb
         rw [hon] at this;exact this
        ·have:=hcl k ok hok (ihd (i - k) (by omega) k (by omega) (by omega)) e he hb
         rw [hon] at this;exact this
      refine hlast o a w ho hEa ⟨_,hWw,fun j hj=>every (i - j) j (by omega) (by omega)⟩ (fun j hj=>hRs j hj (every (i - j) j (by omega) (by omega))) _ (fun a' w' hq=>ih _ _ _ (by simpa using hs) hcnt (Or.inr ⟨fun k hk=>?_,hq⟩))
      by_cases hki:i=k
      ·subst hki;exact getD_set_self (by omega) _
      ·rw [getD_set_ne hki,getD_lt (by omega) true false]
       exact every (i - k) k (by omega) (by omega)
     ·have hil2:i<last:=by omega
      have hif:listed.getD i false=false:=by rw [getD_lt (by omega) false true];exact h3
      have hwt:Waits ops (fun j=>listed.getD j false) i:=fun o' ho' e he hb=>by
       rw [ho] at ho';injection ho' with ho';subst ho';exact hdep e he hb
      refine hfront i o a w (fun j=>listed.getD j false) ho hil2 hif hcl hwt hEa hWw (fun e he hb=>hRs _ ?_ (hdep e he hb)) _ (fun x w' hg hr=>?_)
      ·have:=hdag i o ho e he;omega
      ·refine ih _ _ _ (by simpa using hs) hcnt (Or.inl ⟨by rw [getD_set_ne hil'];exact h1,hE _ _ _ hil2 hEa,?_,?_,fun j hj hl=>?_⟩)
       ·have e:(fun j=>(listed.setIfInBounds i true).getD j false)=done (fun j=>listed.getD j false) i:=by
         funext j
         unfold done
         by_cases hij:j=i
         ·rw [if_pos hij,hij,getD_set_self (by omega)]
         ·rw [if_neg hij,getD_set_ne (fun e=>hij e.symm)]
        rw [e]
        exact hW _ _ _ _ hil2 hif hcl hwt hWw hg
       ·intro j oj hoj hl e he hb
        by_cases hij:i=j
        ·subst hij
         rw [ho] at hoj;injection hoj with hoj;subst hoj
         have:=hdag i o ho e he
         rw [getD_set_ne (by omega)];exact hdep e he hb
        ·rw [getD_set_ne hij] at hl
         have:=hcl j oj hoj hl e he hb
         by_cases hie:i=e.on
         ·rw [← hie] at this;rw [getD_lt (by omega) true false,this] at h3;cases h3
         ·rw [getD_set_ne hie];exact this
       by_cases hij:i=j
       ·subst hij;rw [eval_put_same (hsize _ hEa _ hil2)];exact hr
       ·rw [getD_set_ne hij] at hl
        rw [eval_put_other (fun he=>hij (hinj _ _ hil2 hj he))]
        exact hR _ _ _ _ _ hij (hRs j hj hl) hg
    ·rw [h2 i hil] at h3;cases h3
 have e0:∀ n:Nat,(fun m=>(Array.replicate n false).getD m false)=fun _=>false:=fun n=>by
  funext m
  by_cases hh:m<n <;> simp [Array.getD,hh]
 refine main _ _ _ _ (by simp) ?_ (Or.inl ⟨?_,h0,(e0 ops.size).symm ▸ hw0,fun j o _ hl=>?_,fun j hj hl=>?_⟩)
 ·simp
 ·simp [Array.getD,hsz]
 ·simp [Array.getD] at hl
 ·simp [Array.getD] at hl
theorem region_L {id:Nat} {a0:Act} {w0:World} (hm:P.follows .mixedOrders=true) (last:Nat) (hs:shapeB ops last=true) (dst:Nat→Nat) (hinj:∀ i,i<last → ∀ j,j<last→dst i=dst j→i=j)
  (R:Nat→Value→World→Prop) (E:Act→Prop) (W:(Nat→Bool)→World→Prop) (Good:Nat→World→World→Prop)
  (hE:∀ a i x,i<last→E a→E (a.put (some (dst i)) x)) (hsize:∀ a,E a → ∀ i,i<last→dst i<a.tmps.size)
  (hW:∀ i l w w',i<last→l i=false→Closed ops l→Waits ops l i→W l w→Good i w w'→W (done l i) w') (hR:∀ i j x w w',i≠j→R j x w→Good i w w'→R j x w')
  (hfront:∀ (i:Nat) (o:Oper) (a:Act) (w:World) (l:Nat→Bool),ops[i]? = some o→i<last→l i=false→Closed ops l→Waits ops l i→E a→W l w→(∀ e∈o.after,Region.binds .any e=true→R e.on (a.eval (.tmp (dst e.on))) w) → ∀ K:Act→World→Prop,(∀ x w',Good i w w'→R i x w'→K (a.put (some (dst i)) x) w')→o.wp P a w K Q)
  (hlast:∀ (o:Oper) (a:Act) (w:World),ops[last]? = some o→E a→(∃ l,W l w ∧ ∀ j,j<last→l j=true)→(∀ j,j<last→R j (a.eval (.tmp (dst j))) w) → ∀ K:Act→World→Prop,(∀ a' w',Q .normal a' w'→K a' w')→o.wp P a w K Q)
  (h0:E a0) (hw0:W (fun _=>false) w0.drew):(Code.region id ops true).wp P Q a0 w0 :=
 region_L0 hm last (shape_size hs) dst (fun i j hi hj h=>hinj i hi j hj h) (fun _ _ ho=>(shape_at hs ho).1) (fun _ _ ho=>(shape_at hs ho).2) (shape_all hs) R E W Good hE hsize hW hR hfront hlast h0 hw0
end
theorem drn_front (T:Tc):∀ (k:Nat) (x:Ts × List (Pc (List Atr))),drn T (k+1) x=(dstep T x).bind (drn T k)
 | 0,x=>by
  show (some x).bind (dstep T)=_
  cases h:dstep T x with
  | none=>simp [h]
  | some y=>simp [h,drn]
 | k+1,x=>by
  show (drn T (k+1) x).bind (dstep T)=_
  rw [drn_front T k x]
  cases h:dstep T x with
  | none=>rfl
  | some y=>rfl
section
variable {T:Tc} {nxt:Nat→Nat→Int} {rank:Nat→Nat→Nat} {home:Int→Nat} {Ks:List Ky} {M:Nat}
theorem dstep_gd (S:Sh T nxt rank) {s:Ts} {cs:List (Pc (List Atr))} {n:Nat} (G:Gd T nxt rank home Ks s cs n M) (hE:NoEv s) {y:Ts × List (Pc (List Atr))} (h:dstep T (s,cs)=some y):∃ n',n'<n∧Gd T nxt rank home Ks y.1 cs n' M∧NoEv y.1∧y.2=cs ∧ ∀ K2,Kin K2 s→Kin K2 y.1:=by
 unfold dstep at h
 cases hf:fst_ (lkTo T s T.nb) with
 | none=>simp only [hf] at h;cases h
 | some z =>
  simp only [hf] at h
  obtain ⟨z1,z2,z3⟩:=z
  have hab:=(lkTo_q (List.mem_of_find?_eq_some hf)).2.1
  cases hq:s.q z1 z2 with
  | nil=>simp only [hq] at h;cases h
  | cons m rs =>
   simp only [hq] at h
   obtain ⟨n',h1,h2⟩:=G.step S hab hq
   obtain ⟨h3,h4⟩:=nstep_noEv (adj:=T.adj) hE hq
   have hh:hrs mat (s.held z2) z1 m cs=cs:=by
    cases m with
    | ev e=>exact absurd rfl (h4 e)
    | sub k f=>rfl
    | uns k=>rfl
   rw [hh] at h h2
   injection h with h
   subst h
   exact ⟨n',h1,h2,h3,rfl,fun K2 hk=>nstep_kin hk hq⟩
theorem drn_ends (S:Sh T nxt rank):∀ (n:Nat) {s:Ts} {cs:List (Pc (List Atr))},Gd T nxt rank home Ks s cs n M→NoEv s → ∃ k s' n',drn T k (s,cs)=some (s',cs)∧dstep T (s',cs)=none∧Gd T nxt rank home Ks s' cs n' M∧NoEv s'∧n'≤n ∧ ∀ K2,Kin K2 s→Kin K2 s':=by
 intro n
 induction n using Nat.strongRecOn with
 | ind n ih =>
  intro s cs G hE
  cases h:dstep T (s,cs) with
  | none=>exact ⟨0,s,n,rfl,h,G,hE,Nat.le_refl _,fun _ hk=>hk⟩
  | some y =>
   obtain ⟨n1,h1,h2,h3,h4,h5⟩:=dstep_gd S G hE h
   obtain ⟨y1,y2⟩:=y
   simp only at h2 h3 h4 h5
   subst h4
   obtain ⟨k,s',n',k1,k2,k3,k4,k5,k6⟩:=ih n1 h1 h2 h3
   exact ⟨k+1,s',n',by rw [drn_front,h];exact k1,k2,k3,k4,by omega,fun K2 hk=>k6 K2 (h5 K2 hk)⟩
end
def Both0 (A:Nat→Prop) (T:Tc) (C:Rc) (r R:Nat→Rl) (w:World) (cs:List (Pc (List Atr))) (s:Ts) (fp fr:Nat) (Ch:List (Pc (List Atr))→Ts→Prop):Prop :=
 ∃ (code:Int) (cs':List (Pc (List Atr))) (s':Ts),Ch cs' s'∧(∀ W,Gr w W→Calls Tryz.prog fp #[.pointer (some ⟨T.TB,0,none⟩)] W fun e w'=>TfP T r code cs' s' W e w') ∧
  ∀ W,Rw A C T R W cs s→Calls Tryz.prog fr #[.pointer (some ⟨C.TB,0,none⟩)] W fun e w'=>RwP A C T R code cs' s' W e w'
theorem drain_both {A:Nat→Prop} {T:Tc} {C:Rc} {r R:Nat→Rl} {w:World} {cs:List (Pc (List Atr))} {s:Ts} {nxt:Nat→Nat→Int} {rank:Nat→Nat→Nat} {home:Int→Nat} {Ks:List Ky} {n M:Nat} (h:Tf T r w cs s) (hE:NoEv s) (S:Sh T nxt rank) (G:Gd T nxt rank home Ks s cs n M) (hK:Ks.length≤1048576) (hM:M<549755813888) :
  Both0 A T C r R w cs s 14 66 (fun cs' s'=>cs'=cs∧NoEv s'∧(∀ K2,Kin K2 s→Kin K2 s') ∧ ∃ n',n'≤n∧Gd T nxt rank home Ks s' cs n' M):=by
 obtain ⟨k,s',n',d1,d2,d3,d4,d5,d6⟩:=drn_ends S n G hE
 refine ⟨k,cs,s',⟨rfl,d4,d6,n',d5,d3⟩,fun W g=>?_,fun W hW=>?_⟩
 ·refine (Drain_d T r W cs s nxt rank home Ks n M (h.gr g) S G hK hM).mono ?_
  rintro e w' ⟨k2,s2,cs2,r2,n2,he,e1,e2,t2,_,_,f2⟩
  obtain ⟨rfl,e3⟩:=drn_one d1 d2 e1 e2
  injection e3 with e3 e4
  subst e3 e4
  exact ⟨he,r2,t2,f2⟩
 ·refine (rDrain_d A C T R W cs s nxt rank home Ks n M hW hE S G hK hM).mono ?_
  rintro e w' ⟨k2,s2,R2,he,e1,e2,t2,_,f2⟩
  obtain ⟨rfl,e3⟩:=drn_one d1 d2 e1 e2
  injection e3 with e3 e4
  subst e3
  exact ⟨he,R2,t2,f2⟩
section
variable {A:Nat→Prop} {T:Tc} {C:Rc} {r R:Nat→Rl} {w:World} {cs:List (Pc (List Atr))} {s:Ts}
theorem step_both {nxt:Nat→Nat→Int} {rank:Nat→Nat→Nat} {home:Int→Nat} {Ks:List Ky} {n M:Nat} (h:Tf T r w cs s) (hE:NoEv s) (S:Sh T nxt rank) (G:Gd T nxt rank home Ks s cs n M) (hK:Ks.length≤1048576) (hM:M<549755813888) (hsr:∀ b,b<T.nb→Srt (s.held b)) (a b:Int) (ha:I64 a) (hb:I64 b) (hlo:∀ c∈cs,0≤c.lost∧c.lost<4611686018427387903) :
  Both2 A T C r R w cs s 37 65 a b (fun cs' s'=>cs'=cs∧NoEv s'∧(∀ K2,Kin K2 s→Kin K2 s') ∧ ∃ n',n'≤n∧Gd T nxt rank home Ks s' cs n' M):=by
 have hm:=G.sm S hK hM
 have hadj:=h.b.adj
 by_cases hc:∃ x y:Nat,(x:Int)=a∧(y:Int)=b∧T.adj x y=true∧s.q x y≠[]
 ·obtain ⟨x,y,rfl,rfl,hxy,hq⟩:=hc
  obtain ⟨m,rs,hq⟩:∃ m rs,s.q x y=m::rs:=by
   cases hq':s.q x y with
   | nil=>exact absurd hq' hq
   | cons m rs=>exact ⟨m,rs,rfl⟩
  obtain ⟨n',h1,h2⟩:=G.step S hxy hq
  obtain ⟨h3,h4⟩:=nstep_noEv (adj:=T.adj) hE hq
  have hh:hrs mat (s.held y) x m cs=cs:=by
   cases m with
   | ev e=>exact absurd rfl (h4 e)
   | sub k f=>rfl
   | uns k=>rfl
  rw [hh] at h2
  have hm2:=h2.sm S hK hM
  refine ⟨0,cs,s.nstep cov T.adj mat x y m,⟨rfl,h3,fun K2 hk=>nstep_kin hk hq,n',by omega,h2⟩,fun W g=>?_,fun W hW=>?_⟩
  ·refine (Step_t T r W cs s nxt home _ x y m rs (h.gr g) G.I hxy hq hm hlo).mono ?_
   rintro e w' ⟨he,r',t,f⟩
   rw [hh] at t
   exact ⟨he,r',t,f⟩
  ·refine (rStep_f A C T R W cs s x y m rs hW (hadj _ _ hxy).1 (hadj _ _ hxy).2 hxy hq h4 (hsr y (hadj _ _ hxy).2) hm (hm2.h y (hadj _ _ hxy).2)).mono ?_
   rintro e w' ⟨he,R',t,f⟩
   exact ⟨he,R',t,f⟩
 ·have hn:∀ x y:Nat,(x:Int)=a→(y:Int)=b→T.adj x y=true→s.q x y=[]:=fun x y e1 e2 e3=>Classical.not_not.1 (fun e4=>hc ⟨x,y,e1,e2,e3,e4⟩)
  obtain ⟨cls,hT,hcs⟩:=h
  refine ⟨5,cs,s,⟨rfl,hE,fun _ hk=>hk,n,Nat.le_refl _,G⟩,fun W g=>?_,fun W hW=>?_⟩
  ·exact (Step_none T r W cls s a b (hT.gr g) ha hb hn).mono (fun e w' he=>TfP.none' ⟨cls,hT.gr g,hcs⟩ he)
  ·refine (rStep_none A C T R W cs s a b hW hn hm).mono ?_
   rintro e w' ⟨he,g⟩
   exact ⟨he,R,hW.gr g,Fr.gr g⟩
theorem uns_both (h:Tf T r w cs s) (hm:Sm T s) (hsr:∀ b,b<T.nb→Srt (s.held b)) (huni:cs.Pairwise fun x y=>x.num≠y.num) (hcl:cs.length≤16) (hat:∀ c∈cs,c.at'<T.nb) (a b:Int) (ha:I64 a) (hb:I64 b) :
  Both2 A T C r R w cs s 18 62 a b (fun cs' s'=>cs'=cs∧(s'=s ∨ ∃ c∈cs,c.num=a∧hasK (s.held c.at') (a,b)=true∧s'=s.turn cov T.adj c.at' (del (a,b) (s.held c.at')))):=by
 by_cases hc:∃ c∈cs,c.num=a
 ·obtain ⟨c,hc,rfl⟩:=hc
  cases hk:hasK (s.held c.at') (c.num,b) with
  | false =>
   refine ⟨5,cs,s,⟨rfl,Or.inl rfl⟩,fun W g=>?_,fun W hW=>?_⟩
   ·obtain ⟨cls,x,h1,rfl,hx,rfl⟩:=(h.gr g).find hc
    refine (Unsubscribe_none T r W cls s x b h1 hx hb (fun q hq e=>?_)).mono (fun e w' he=>TfP.none' ⟨cls,h1,rfl⟩ he)
    have:hasK (s.held (pcOf x).at') ((pcOf x).num,b)=true:=by
     unfold hasK
     rw [List.any_eq_true]
     exact ⟨q,hq,by rw [beq_iff_eq];exact e⟩
    rw [this] at hk;cases hk
   ·refine (rUns_t A C T R W cs s c b hW hc huni hcl (hat c hc) hm).mono ?_
    rintro e w' ⟨R',f,⟨_,he,q⟩ | ⟨hk',_,_⟩⟩
    ·exact ⟨he,R',q,f⟩
    ·rw [hk] at hk';cases hk'
  | true =>
   refine ⟨0,cs,_,⟨rfl,Or.inr ⟨c,hc,rfl,hk,rfl⟩⟩,fun W g=>?_,fun W hW=>?_⟩
   ·obtain ⟨q,hq,e⟩:∃ q∈s.held c.at',q.key=(c.num,b):=by
     unfold hasK at hk
     rw [List.any_eq_true] at hk
     obtain ⟨q,hq,e⟩:=hk
     exact ⟨q,hq,by rw [beq_iff_eq] at e;exact e⟩
    refine (Unsubscribe_t T r W cs s c b q (h.gr g) hc hb (hsr _ (hat c hc)) hq e hm).mono ?_
    rintro e' w' ⟨he,r',t,f⟩
    rw [e] at t
    exact ⟨he,r',t,f⟩
   ·refine (rUns_t A C T R W cs s c b hW hc huni hcl (hat c hc) hm).mono ?_
    rintro e w' ⟨R',f,⟨hk',_,_⟩ | ⟨_,he,q⟩⟩
    ·rw [hk] at hk';cases hk'
    ·exact ⟨he,R',q,f⟩
 ·have hne:∀ c∈cs,c.num≠a:=fun c h1 e=>hc ⟨c,h1,e⟩
  obtain ⟨cls,hT,hcs⟩:=h
  refine ⟨5,cs,s,⟨rfl,Or.inl rfl⟩,fun W g=>?_,fun W hW=>?_⟩
  ·exact (Unsubscribe_no T r W cls s a b (hT.gr g) ha (fun x hx e=>hne (pcOf x) (by rw [← hcs];exact List.mem_map_of_mem hx) e)).mono (fun e w' he=>TfP.none' ⟨cls,hT.gr g,hcs⟩ he)
  ·obtain ⟨ads,Xs,lv,Ls,cv,rs,rt,hnb,rv,hr⟩:=hW
   obtain ⟨ca,cc,rfl⟩:=rt.k.cl.shape
   have hrl:rs.length≤16:=by rw [← List.length_map (f:=pcR),hr];exact hcl
   refine (rUns_none C.TB ca cc rs W a b rt.c2 rt.k.cl.rowAt hrl (fun d hd e=>hne (pcR d) (by rw [← hr];exact List.mem_map_of_mem hd) e)).mono ?_
   rintro e w' ⟨he,rfl⟩
   exact ⟨he,R,⟨ads,Xs,lv,Ls,_,rs,rt,hnb,rv,hr⟩,Fr.refl _ _⟩
end
theorem sub_prog {T:Tc} {r:Nat→Rl} {W:World} {cs:List (Pc (List Atr))} {s:Ts} (h:Tf T r W cs s) (hm:Sm T s) (hsr:∀ b,b<T.nb→Srt (s.held b)) (c:Pc (List Atr)) (hc:c∈cs) (id:Int) (hid:I64 id) (f:List Wnt) (ad:Option Addr) (cap:Nat) (hl:f.length≤maxLen) (hf:FiAt W ad f) (hwf:∀ y∈f,Wnt.Wf y) (hch:chk f=if filterOk f=true then 0 else 2) (hfi:filterOk f=true→FiM W ad f) :
  Calls Tryz.prog 22 #[.pointer (some ⟨T.TB,0,none⟩),.int .i64 c.num,.int .i64 id,.slice ad f.length cap] W fun e w'=>TfP T r (subCode T s c.at' (c.num,id) f) cs (if subCode T s c.at' (c.num,id) f=0 then s.turn cov T.adj c.at' (ins ⟨(c.num,id),f,-1⟩ (s.held c.at')) else s) W e w':=by
 by_cases hok:filterOk f=true
 ·rw [if_pos hok] at hch
  cases hk:hasK (s.held c.at') (c.num,id) with
  | true =>
   have e:subCode T s c.at' (c.num,id) f=6:=by unfold subCode;rw [if_pos hok,if_pos hk]
   rw [e,if_neg (by decide)]
   obtain ⟨q,hq,ek⟩:∃ q∈s.held c.at',q.key=(c.num,id):=by
    unfold hasK at hk
    rw [List.any_eq_true] at hk
    obtain ⟨q,hq,e⟩:=hk
    exact ⟨q,hq,by rw [beq_iff_eq] at e;exact e⟩
   obtain ⟨cls,x,h1,rfl,hx,rfl⟩:=h.find hc
   exact (Subscribe_twice T r W cls s x id f ad cap q h1 hx hid (hfi hok) hq ek).mono (fun e w' he=>TfP.none' ⟨cls,h1,rfl⟩ he)
  | false =>
   have hn:∀ g∈s.held c.at',g.key≠(c.num,id):=fun g hg e=>by
    have:hasK (s.held c.at') (c.num,id)=true:=by
     unfold hasK
     rw [List.any_eq_true]
     exact ⟨g,hg,by rw [beq_iff_eq];exact e⟩
    rw [this] at hk;cases hk
   by_cases hf64:63<nCl T s
   ·have e:subCode T s c.at' (c.num,id) f=7:=by unfold subCode;rw [if_pos hok,hk,if_neg (by decide),if_pos hf64]
    rw [e,if_neg (by decide)]
    obtain ⟨cls,x,h1,rfl,hx,rfl⟩:=h.find hc
    exact (Subscribe_full T r W cls s x id f ad cap h1 hx hid (hfi hok) hsr hn hm (by omega)).mono (fun e w' he=>TfP.none' ⟨cls,h1,rfl⟩ he)
   ·have e:subCode T s c.at' (c.num,id) f=0:=by unfold subCode;rw [if_pos hok,hk,if_neg (by decide),if_neg hf64]
    rw [e,if_pos rfl]
    refine (Subscribe_t T r W cs s c id f ad cap h hc hid (hfi hok) hsr hn hm (by omega)).mono ?_
    rintro e' w' ⟨he,r',t,g⟩
    exact ⟨he,r',t,g⟩
 ·rw [if_neg hok] at hch
  have e:subCode T s c.at' (c.num,id) f=2:=by unfold subCode;rw [if_neg hok]
  rw [e,if_neg (by decide)]
  obtain ⟨cls,x,h1,rfl,hx,rfl⟩:=h.find hc
  refine (Subscribe_bad T r W cls s x id f ad cap h1 hx hl hf hwf (by rw [hch];decide)).mono (fun e w' he=>?_)
  rw [hch] at he
  exact TfP.none' ⟨cls,h1,rfl⟩ he
theorem FiO.wide {A A':Nat→Prop} {w:World} {ad:Option Addr} {l:List Wnt} (h:FiO A w ad l) (hA:∀ k,A k→A' k):FiO A' w ad l:=by
 obtain ⟨b,off,e,ha⟩:=h.r
 exact ⟨h.m,b,off,e,hA b ha⟩
theorem EvO.wide {A A':Nat→Prop} {w:World} {ad:Option Addr} {l:List Atr} (h:EvO A w ad l) (hA:∀ k,A k→A' k):EvO A' w ad l:=by
 obtain ⟨b,off,e,ha⟩:=h.r
 exact ⟨h.m,b,off,e,hA b ha⟩
theorem RmOk.wide {A A':Nat→Prop} {w:World} {x:Rms} (h:RmOk A w x) (hA:∀ k,A k→A' k):RmOk A' w x:=by
 unfold RmOk at h ⊢
 split
 ·rename_i k f e;rw [e] at h;exact FiO.wide h hA
 ·trivial
 ·rename_i v e;rw [e] at h;exact EvO.wide h hA
theorem Rw.wide {A A':Nat→Prop} {C:Rc} {T:Tc} {R:Nat→Rl} {w:World} {cs:List (Pc (List Atr))} {s:Ts} (h:Rw A C T R w cs s) (hA:∀ k,A k→A' k) (hR:∀ k,A' k→R k = .no) (hl:∀ k,A' k→k<w.heap.size):Rw A' C T R w cs s:=by
 obtain ⟨ads,Xs,lv,Ls,cv,rs,rt,hnb,rv,hr⟩:=h
 refine ⟨ads,Xs,lv,Ls,cv,rs,⟨⟨rt.b.nb8,rt.b.pos,rt.b.t,rt.b.rT,rt.b.h,rt.b.rH,rt.b.top,hR,hl⟩,⟨rt.h.row,fun b hb x hx=>(rt.h.fi b hb x hx).wide hA⟩,⟨rt.l.lk,rt.l.qu,fun l hl x hx=>(rt.l.ms l hl x hx).wide hA,rt.l.td⟩,⟨rt.k.cl,rt.k.bx,fun c hc x hx=>(rt.k.be c hc x hx).wide hA⟩⟩,hnb,rv,hr⟩
theorem sub_ref {A:Nat→Prop} {C:Rc} {T:Tc} {R:Nat→Rl} {W:World} {cs:List (Pc (List Atr))} {s:Ts} (hW:Rw A C T R W cs s) (hm:Sm T s) (hsr:∀ b,b<T.nb→Srt (s.held b)) (c:Pc (List Atr)) (hc:c∈cs) (huni:cs.Pairwise fun x y=>x.num≠y.num) (hcl:cs.length≤16) (hatc:c.at'<T.nb) (id:Int) (f:List Wnt) (ad:Option Addr) (cap:Nat) (hl:f.length≤maxLen) (hf:FiAt W ad f) (hwf:∀ y∈f,Wnt.Wf y) (hA:filterOk f=true→FiO A W ad f) (hm':(ins ⟨(c.num,id),f,-1⟩ (s.held c.at')).length≤1048576) (hfr:∀ b,b<T.nb → ∀ x∈s.held b,x.fr = -1∨0≤x.fr) :
  Calls Tryz.prog 61 #[.pointer (some ⟨C.TB,0,none⟩),.int .i64 c.num,.int .i64 id,.slice ad f.length cap] W fun e w'=>RwP A C T R (subCode T s c.at' (c.num,id) f) cs (if subCode T s c.at' (c.num,id) f=0 then s.turn cov T.adj c.at' (ins ⟨(c.num,id),f,-1⟩ (s.held c.at')) else s) W e w':=by
 refine (rSub_t A C T R W cs s c id f ad cap hW hc huni hcl hatc hl hf hwf hA hsr hm hm' hfr).mono ?_
 rintro e w' ⟨he,R',g,⟨h0,q⟩ | ⟨h0,q⟩⟩
 ·rw [if_neg h0];exact ⟨he,R',q,g⟩
 ·rw [if_pos h0];exact ⟨he,R',q,g⟩
structure FiC (A:Nat→Prop) (w:World) (ad:Option Addr) (f:List Wnt):Prop where
 wf:∀ x∈f,Wnt.Wf x
 len:f.length≤2513169434845
 at':f=[] ∨ ∃ b off,ad=some ⟨b,off,none⟩∧A b∧b<w.heap.size∧WantsAt w b off f
section
variable {A:Nat→Prop} {w w':World} {ad:Option Addr} {f:List Wnt}
theorem FiC.keep (h:FiC A w ad f) (hs:w.heap.size≤w'.heap.size) (hk:∀ k,k<w.heap.size→A k→w'.heap[k]? = w.heap[k]?):FiC A w' ad f :=
 ⟨h.wf,h.len,h.at'.imp id (fun ⟨b,off,e,h1,h2,h3⟩=>⟨b,off,e,h1,Nat.lt_of_lt_of_le h2 hs,h3.blk (hk b h2 h1)⟩)⟩
theorem FiC.gr (h:FiC A w ad f) (g:Gr w w'):FiC A w' ad f:=h.keep g.size (fun k hk _=>g.block k hk)
theorem FiC.fi (h:FiC A w ad f):FiAt w ad f:=by
 rcases h.at' with e | ⟨b,off,e,_,hl,hw⟩
 ·exact Or.inl e
 ·exact Or.inr ⟨b,off,e,hl,hw⟩
theorem filterOk_ne (h:filterOk f=true):f≠[]:=by
 rintro rfl
 simp [filterOk] at h
theorem FiC.fo (h:FiC A w ad f) (hok:filterOk f=true):FiO A w ad f:=by
 rcases h.at' with e | ⟨b,off,e,ha,hl,hw⟩
 ·exact absurd e (filterOk_ne hok)
 ·exact ⟨⟨⟨b,off,e,hl,hw⟩,h.wf,hok⟩,b,off,e,ha⟩
def Fcp (b0:Nat) (w:World) (ad:Option Addr) (f:List Wnt):Prop:=(f=[]∧ad=none) ∨ ∃ g,ad=some ⟨g,0,none⟩∧b0≤g∧g<w.heap.size∧WantsAt w g 0 f
theorem Fcp.keep {b0:Nat} (h:Fcp b0 w ad f) (g:Kx (fun k=>k<b0) w w'):Fcp b0 w' ad f:=by
 rcases h with e | ⟨q,e,h1,h2,h3⟩
 ·exact Or.inl e
 ·exact Or.inr ⟨q,e,h1,Nat.lt_of_lt_of_le h2 g.size,h3.blk (g.keep q h2 (by omega))⟩
theorem Fcp.low {b0 b1:Nat} (h:Fcp b1 w ad f) (hb:b0≤b1):Fcp b0 w ad f:=by
 rcases h with e | ⟨q,e,h1,h2,h3⟩
 ·exact Or.inl e
 ·exact Or.inr ⟨q,e,Nat.le_trans hb h1,h2,h3⟩
theorem Fcp.fi {b0:Nat} (h:Fcp b0 w ad f):FiAt w ad f:=by
 rcases h with e | ⟨q,e,h1,h2,h3⟩
 ·exact Or.inl e.1
 ·exact Or.inr ⟨q,0,e,h2,h3⟩
theorem Fcp.fm {b0:Nat} (h:Fcp b0 w ad f) (hwf:∀ x∈f,Wnt.Wf x) (hok:filterOk f=true):FiM w ad f:=by
 rcases h with e | ⟨q,e,h1,h2,h3⟩
 ·exact absurd e.1 (filterOk_ne hok)
 ·exact ⟨⟨q,0,e,h2,h3⟩,hwf,hok⟩
end
section
variable {A:Nat→Prop} {T:Tc} {C:Rc} {r R:Nat→Rl} {LB PB BB:Nat} {B D:Nat→Prop} {L M:Nat} {w:World} {cs:List (Pc (List Atr))} {s:Ts}
theorem St.copied (h:St A T C r R LB PB BB B D L M w cs s) {D':Nat→Prop} {M':Nat} {w1:World} (kx:Kx D w w1) (le:Le A LB D' M' w1) (hD:∀ k,k<w.heap.size→D' k→D k):St A T C r R LB PB BB B D' L M' w1 cs s:=by
 have tr:=h.pr.p.b.top
 have tR:=h.pr.q.top.1
 have tA:=h.pr.q.top.2
 have tp:=blk_lt h.pr.pb
 have t0:0<w.heap.size:=h.pr.p.b.ml.pos
 have hno:∀ k,D' k→r k = .no∧R k = .no ∧ ¬ A k∧k≠PB∧k≠0:=fun k hk=>by
  rcases Nat.lt_or_ge k w.heap.size with hl | hl
  ·exact h.sD k (hD k hl hk)
  ·exact ⟨tr k hl,tR k hl,fun c=>absurd (tA k c) (by omega),by omega,by omega⟩
 have h0:¬ D 0:=fun e=>(h.sD 0 e).2.2.2.2 rfl
 have hp:¬ D PB:=fun e=>(h.sD PB e).2.2.2.1 rfl
 refine ⟨h.pr.apart kx.fr (fun k=>?_) (fun k=>?_) (fun k hk=>kz_no (fun e=>(h.sD k e).2.2.1 hk)) (kz_no h0) (kz_no hp),h.bo.apart kx (fun k hb hd=>(h.sB k hb).2.2.1 hd),le,fun k hk=>?_,hno⟩
 ·by_cases e:D k
  ·exact Or.inl (h.sD k e).1
  ·exact Or.inr (kz_no e)
 ·by_cases e:D k
  ·exact Or.inl (h.sD k e).2.1
  ·exact Or.inr (kz_no e)
 ·obtain ⟨a1,a2,a3,a4,a5,a6⟩:=h.sB k hk
  exact ⟨a1,a2,fun e=>a3 (hD k (h.bo.lt k hk) e),a4,a5,a6⟩
def CpS (A:Nat→Prop) (T:Tc) (C:Rc) (r R:Nat→Rl) (LB PB BB:Nat) (B D:Nat→Prop) (L M:Nat) (w:World) (cs:List (Pc (List Atr))) (s:Ts) (W:World):Prop :=
 ∃ D',(∀ k,k<w.heap.size→D' k→D k)∧Kx D w W∧St A T C r R LB PB BB B D' L (M+1) W cs s
theorem St.copy (h:St A T C r R LB PB BB B D L M w cs s) (hM:M≤1099511627776) (f:List Wnt) (ad:Option Addr) (cap:Nat) (hf:FiC A w ad f) :
  Calls Tryz.prog 60 #[.pointer (some ⟨LB,0,none⟩),.slice ad f.length cap] w fun e w'=>∃ ad' cap',e = .returned (.slice ad' f.length cap')∧Fcp w.heap.size w' ad' f∧CpS A T C r R LB PB BB B D L M w cs s w':=by
 by_cases hne:f=[]
 ·subst hne
  refine (filter_none ad cap _ w).mono ?_
  rintro e w' ⟨he,hw⟩
  rw [hw]
  exact ⟨none,0,he,Or.inl ⟨rfl,rfl⟩,D,fun _ _ e=>e,Kx.gr (Gr.refl w),h.copied (Kx.gr (Gr.refl w)) (h.le.up (Nat.le_succ _)) (fun _ _ e=>e)⟩
 ·refine (h.le.filter hM f ad cap hne hf.len (hf.at'.resolve_left hne) hf.wf).mono ?_
  rintro e w' ⟨g,he,h1,h2,h3,h4,h5⟩
  exact ⟨_,_,he,Or.inr ⟨g,rfl,h1,h2,h3⟩,_,fun k hk hd=>Bn.old hk hd,h5,h.copied h5 h4 (fun k hk hd=>Bn.old hk hd)⟩
end
def Both3 (A:Nat→Prop) (T:Tc) (C:Rc) (r R:Nat→Rl) (_:World) (cs:List (Pc (List Atr))) (s:Ts) (a b:Int) (f:List Wnt) (fad:Option Addr) (fc:Nat) (Ch:List (Pc (List Atr))→Ts→Prop):Prop :=
 ∃ (code:Int) (cs':List (Pc (List Atr))) (s':Ts),Ch cs' s'∧(∀ W b0 ad cap,Tf T r W cs s→Fcp b0 W ad f→Calls Tryz.prog 22 #[.pointer (some ⟨T.TB,0,none⟩),.int .i64 a,.int .i64 b,.slice ad f.length cap] W fun e w'=>TfP T r code cs' s' W e w') ∧
  ∀ W,Rw A C T R W cs s→FiC A W fad f→Calls Tryz.prog 61 #[.pointer (some ⟨C.TB,0,none⟩),.int .i64 a,.int .i64 b,.slice fad f.length fc] W fun e w'=>RwP A C T R code cs' s' W e w'
def Step2P (A:Nat→Prop) (T:Tc) (C:Rc) (r R:Nat→Rl) (LB PB BB:Nat) (B D:Nat→Prop) (L M:Nat) (Ch:List (Pc (List Atr))→Ts→Prop) (w:World) (e:Ending) (w':World):Prop :=
 e = .returned (.bool true) ∧ ∃ r' R' D' cs' s',Ch cs' s'∧(∀ k,k<w.heap.size→D' k→D k)∧St A T C r' R' LB PB BB B D' L (M+1) w' cs' s'∧Kq r R r' R' B D w w'
def MdS (A:Nat→Prop) (T:Tc) (C:Rc) (r R:Nat→Rl) (LB PB BB:Nat) (B D:Nat→Prop) (L M:Nat) (w:World) (cs:List (Pc (List Atr))) (s:Ts) (cs':List (Pc (List Atr))) (s':Ts) (W:World):Prop :=
 ∃ r1 w1,CpS A T C r R LB PB BB B D L M w cs s w1∧Tf T r1 W cs' s'∧Fr r r1 w1 W
section
variable {A:Nat→Prop} {T:Tc} {C:Rc} {r R:Nat→Rl} {LB PB BB:Nat} {B D:Nat→Prop} {L M:Nat} {w:World} {cs:List (Pc (List Atr))} {s:Ts}
theorem CpS.pb {w1:World} (h:CpS A T C r R LB PB BB B D L M w cs s w1):w1.heap[PB]? = some (.cells #[.pointer (some ⟨T.TB,0,none⟩),.pointer (some ⟨C.TB,0,none⟩),.pointer (some ⟨LB,0,none⟩),.pointer (some ⟨BB,0,none⟩)] 103 (0,0))∧r PB = .no∧R PB = .no:=by
 obtain ⟨D',_,_,h⟩:=h
 exact ⟨h.pr.pb,h.pr.np⟩
theorem MdS.fin {cs':List (Pc (List Atr))} {s':Ts} {W:World} (h:MdS A T C r R LB PB BB B D L M w cs s cs' s' W) {R2:Nat→Rl} {w2:World} (g2:Fr R R2 W w2) (q2:Rw A C T R2 w2 cs' s') :
  ∃ r1 D',(∀ k,k<w.heap.size→D' k→D k)∧St A T C r1 R2 LB PB BB B D' L (M+1) w2 cs' s'∧Kq r R r1 R2 B D w w2:=by
 obtain ⟨r1,w1,⟨D',h1,h2,h3⟩,t,f⟩:=h
 obtain ⟨k1,k2⟩:=h3.both f t g2 q2
 refine ⟨r1,D',h1,k1,(h2.wide (fun k _ e=>Or.inr (Or.inr (Or.inr e)))).trans k2.1 (fun k hk e=>?_),fun k hk=>k2.2 k (Nat.lt_of_lt_of_le hk h2.size)⟩
 rcases e with e | e | e | e
 ·exact Or.inl e
 ·exact Or.inr (Or.inl e)
 ·exact Or.inr (Or.inr (Or.inl e))
 ·exact Or.inr (Or.inr (Or.inr (h1 k hk e)))
theorem CpS.pre {W w1:World} (g:Gr w W) (h:CpS A T C r R LB PB BB B D L M W cs s w1):CpS A T C r R LB PB BB B D L M w cs s w1:=by
 obtain ⟨D',h1,h2,h3⟩:=h
 exact ⟨D',fun k hk=>h1 k (Nat.lt_of_lt_of_le hk g.size),(Kx.gr g).trans h2 (fun _ _ e=>e),h3⟩
end
end Go.Proofs.YtecnfgikbmcgoaaGreat

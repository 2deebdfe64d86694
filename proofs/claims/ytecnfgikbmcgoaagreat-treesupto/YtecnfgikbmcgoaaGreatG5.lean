import Derived.Test.YtecnfgikbmcgoaaGreatG4
namespace Go.Proofs.YtecnfgikbmcgoaaGreat
section
variable {F E:Type}
structure Nx (adj:Nat→Nat→Bool) (nxt:Nat→Nat→Int):Prop where
 sym:∀ a b,adj a b=true→adj b a=true
 irr:∀ a,adj a a=false
 self:∀ t,nxt t t = -1
 back:∀ b n t,adj b n=true→nxt b t≠(n:Int)→nxt n t=(b:Int)
structure TS (F E:Type) where
 held:Nat→List (Hd F)
 q:Nat→Nat→List (Ms F E)
variable (cov:F→F→Bool) (adj:Nat→Nat→Bool)
def TS.turn (s:TS F E) (b:Nat) (l':List (Hd F)):TS F E where
 held:=fun x=>if x=b then l' else s.held x
 q:=fun x y=>if x=b∧adj b y=true then s.q x y++chg cov (s.held b) l' y else s.q x y
def TS.pop (s:TS F E) (a b:Nat):TS F E where
 held:=s.held
 q:=fun x y=>if x=a∧y=b then (s.q x y).tail else s.q x y
structure Inv (nxt:Nat→Nat→Int) (home:Int→Nat) (ok:F→Prop) (s:TS F E):Prop where
 srt:∀ b,Srt (s.held b)
 rt:∀ b,∀ h∈s.held b,h.fr=nxt b (home h.key.1)
 hok:∀ b,∀ h∈s.held b,ok h.f
 qs:∀ a b k f,Ms.sub k f∈s.q a b→nxt b (home k.1)=(a:Int)∧ok f
 qu:∀ a b k,Ms.uns k∈s.q a b→nxt b (home k.1)=(a:Int)
 nq:∀ a b,adj a b=false→s.q a b=[]
 ag:∀ a b,adj a b=true→ap (s.q a b) (hfr (s.held b) a)=rl (told cov (s.held a) b)
 al:∀ a b,adj a b=true→wf (s.q a b) (hfr (s.held b) a)
variable {cov adj}
variable {nxt:Nat→Nat→Int} {home:Int→Nat} {ok:F→Prop}
theorem mem_chg_sub {l l':List (Hd F)} {n:Int} {k:Ky} {f:F} (h:(Ms.sub k f:Ms F E)∈chg cov l l' n):∃ g∈l',g.fr≠n∧g.key=k∧g.f=f:=by
 simp only [chg,subs,unss,List.mem_append,List.mem_map] at h
 rcases h with ⟨g,hg,he⟩ | ⟨g,_,he⟩
 ·injection he with h1 h2
  have:=(mem_told cov).1 (List.mem_filter.1 hg).1
  exact ⟨g,this.1,this.2.1,h1,h2⟩
 ·cases he
theorem mem_chg_uns {l l':List (Hd F)} {n:Int} {k:Ky} (h:(Ms.uns k:Ms F E)∈chg cov l l' n):∃ g∈l,g.fr≠n∧g.key=k:=by
 simp only [chg,subs,unss,List.mem_append,List.mem_map] at h
 rcases h with ⟨g,_,he⟩ | ⟨g,hg,he⟩
 ·cases he
 ·injection he with h1
  have:=(mem_told cov).1 (List.mem_filter.1 hg).1
  exact ⟨g,this.1,this.2.1,h1⟩
theorem turn_inv (N:Nx adj nxt) {s:TS F E} {b:Nat} {l':List (Hd F)}
  (srt:∀ x,Srt (s.held x)) (rt:∀ x,∀ h∈s.held x,h.fr=nxt x (home h.key.1)) (hok:∀ x,∀ h∈s.held x,ok h.f)
  (qs:∀ a x k f,Ms.sub k f∈s.q a x→nxt x (home k.1)=(a:Int)∧ok f) (qu:∀ a x k,Ms.uns k∈s.q a x→nxt x (home k.1)=(a:Int)) (nq:∀ a x,adj a x=false→s.q a x=[])
  (ag:∀ a x,x≠b→adj a x=true→ap (s.q a x) (hfr (s.held x) a)=rl (told cov (s.held a) x)) (al:∀ a x,x≠b→adj a x=true→wf (s.q a x) (hfr (s.held x) a))
  (srt':Srt l') (rt':∀ h∈l',h.fr=nxt b (home h.key.1)) (hok':∀ h∈l',ok h.f) (hsm:Same (s.held b) l')
  (ag':∀ a,adj a b=true→ap (s.q a b) (hfr l' a)=rl (told cov (s.held a) b)) (al':∀ a,adj a b=true→wf (s.q a b) (hfr l' a)):Inv cov adj nxt home ok (s.turn cov adj b l'):=by
 have hh:∀ x,(s.turn cov adj b l').held x=if x=b then l' else s.held x:=fun _=>rfl
 have hq:∀ x y,(s.turn cov adj b l').q x y=if x=b∧adj b y=true then s.q x y++chg cov (s.held b) l' y else s.q x y:=fun _ _=>rfl
 refine ⟨fun x=>?_,fun x h hm=>?_,fun x h hm=>?_,fun a x k f hm=>?_,fun a x k hm=>?_,fun a x ha=>?_,fun a x ha=>?_,fun a x ha=>?_⟩
 ·rw [hh];split
  ·exact srt'
  ·exact srt x
 ·rw [hh] at hm
  by_cases hx:x=b
  ·subst hx;rw [if_pos rfl] at hm;exact rt' h hm
  ·rw [if_neg hx] at hm;exact rt x h hm
 ·rw [hh] at hm
  by_cases hx:x=b
  ·subst hx;rw [if_pos rfl] at hm;exact hok' h hm
  ·rw [if_neg hx] at hm;exact hok x h hm
 ·rw [hq] at hm
  split at hm
  ·rename_i hc
   obtain ⟨rfl,hadj⟩:=hc
   rcases List.mem_append.1 hm with hm | hm
   ·exact qs a x k f hm
   ·obtain ⟨g,hg,hn,rfl,rfl⟩:=mem_chg_sub hm
    refine ⟨N.back a x _ hadj ?_,hok' g hg⟩
    rw [← rt' g hg];exact hn
  ·exact qs a x k f hm
 ·rw [hq] at hm
  split at hm
  ·rename_i hc
   obtain ⟨rfl,hadj⟩:=hc
   rcases List.mem_append.1 hm with hm | hm
   ·exact qu a x k hm
   ·obtain ⟨g,hg,hn,rfl⟩:=mem_chg_uns hm
    refine N.back a x _ hadj ?_
    rw [← rt a g hg];exact hn
  ·exact qu a x k hm
 ·rw [hq]
  split
  ·rename_i hc
   obtain ⟨rfl,hadj⟩:=hc
   rw [ha] at hadj;cases hadj
  ·exact nq a x ha
 ·rw [hq,hh,hh]
  by_cases hab:a=b
  ·subst hab
   have hxa:x≠a:=fun e=>by subst e;rw [N.irr] at ha;cases ha
   rw [if_pos ⟨rfl,ha⟩,if_neg hxa,if_pos rfl,ap_append,ag a x hxa ha]
   exact ap_chg srt' hsm x
  ·rw [if_neg (fun h=>hab h.1),if_neg hab]
   by_cases hxb:x=b
   ·subst hxb;rw [if_pos rfl];exact ag' a ha
   ·rw [if_neg hxb];exact ag a x hxb ha
 ·rw [hq,hh]
  by_cases hab:a=b
  ·subst hab
   have hxa:x≠a:=fun e=>by subst e;rw [N.irr] at ha;cases ha
   rw [if_pos ⟨rfl,ha⟩,if_neg hxa,wf_append]
   refine ⟨al a x hxa ha,?_⟩
   rw [ag a x hxa ha]
   exact wf_chg (srt a) srt' x
  ·rw [if_neg (fun h=>hab h.1)]
   by_cases hxb:x=b
   ·subst hxb;rw [if_pos rfl];exact al' a ha
   ·rw [if_neg hxb];exact al a x hxb ha
theorem Same.ins {h:Hd F} {l:List (Hd F)} (hs:Srt l) (hn:∀ g∈l,g.key≠h.key):Same l (ins h l):=by
 intro x hx y hy e
 rcases mem_ins.1 hy with rfl | ⟨hy,_⟩
 ·exact absurd e (hn x hx)
 ·rw [hs.uniq hx hy e]
theorem Same.del {k:Ky} {l:List (Hd F)} (hs:Srt l):Same l (del k l):=by
 intro x hx y hy e
 rw [hs.uniq hx (mem_del.1 hy).1 e]
theorem sub_inv (N:Nx adj nxt) {s:TS F E} (I:Inv cov adj nxt home ok s) (k:Ky) (f:F) (hf:ok f) (hn:∀ g∈s.held (home k.1),g.key≠k) :
  Inv cov adj nxt home ok (s.turn cov adj (home k.1) (ins ⟨k,f,-1⟩ (s.held (home k.1)))):=by
 refine turn_inv N I.srt I.rt I.hok I.qs I.qu I.nq (fun a x _=>I.ag a x) (fun a x _=>I.al a x) ((I.srt _).ins _) (fun h hm=>?_) (fun h hm=>?_) (Same.ins (I.srt _) hn) (fun a ha=>?_) (fun a ha=>?_)
 ·rcases mem_ins.1 hm with rfl | ⟨hm,_⟩
  ·exact (N.self _).symm
  ·exact I.rt _ h hm
 ·rcases mem_ins.1 hm with rfl | ⟨hm,_⟩
  ·exact hf
  ·exact I.hok _ h hm
 ·rw [hfr_ins_other (by show (-1:Int)≠a;omega) (fun g hg e=>absurd e (hn g hg))]
  exact I.ag a _ ha
 ·rw [hfr_ins_other (by show (-1:Int)≠a;omega) (fun g hg e=>absurd e (hn g hg))]
  exact I.al a _ ha
theorem uns_inv (N:Nx adj nxt) {s:TS F E} (I:Inv cov adj nxt home ok s) (k:Ky) :
  Inv cov adj nxt home ok (s.turn cov adj (home k.1) (del k (s.held (home k.1)))):=by
 have hoth:∀ a:Nat,∀ g∈s.held (home k.1),g.key=k→g.fr≠(a:Int):=by
  intro a g hg e
  rw [I.rt _ g hg,e,N.self];omega
 refine turn_inv N I.srt I.rt I.hok I.qs I.qu I.nq (fun a x _=>I.ag a x) (fun a x _=>I.al a x) ((I.srt _).del _) (fun h hm=>I.rt _ h (mem_del.1 hm).1) (fun h hm=>I.hok _ h (mem_del.1 hm).1) (Same.del (I.srt _)) (fun a ha=>?_) (fun a ha=>?_)
 ·rw [hfr_del_other (hoth a)];exact I.ag a _ ha
 ·rw [hfr_del_other (hoth a)];exact I.al a _ ha
def TS.arr (cov:F→F→Bool) (adj:Nat→Nat→Bool) (s:TS F E) (a b:Nat):Ms F E→TS F E
 | .sub k f=>(s.pop a b).turn cov adj b (ins ⟨k,f,a⟩ (s.held b))
 | .uns k=>(s.pop a b).turn cov adj b (del k (s.held b))
 | .ev _=>s.pop a b
theorem pop_q {s:TS F E} {a b x y:Nat} {m:Ms F E} (hm:m∈(s.pop a b).q x y):m∈s.q x y:=by
 simp only [TS.pop] at hm
 split at hm
 ·exact List.mem_of_mem_tail hm
 ·exact hm
theorem head_sub {s:TS F E} (I:Inv cov adj nxt home ok s) {a b:Nat} (ha:adj a b=true) {k:Ky} {f:F} {r:List (Ms F E)} (hq:s.q a b = .sub k f::r):∀ g∈s.held b,g.key≠k:=by
 intro g hg e
 have h1:=I.al a b ha
 rw [hq] at h1
 have h2:=(I.qs a b k f (by rw [hq];simp)).1
 exact h1.1 g.f ⟨g,hg,by rw [I.rt b g hg,e,h2],e,rfl⟩
theorem head_uns {s:TS F E} (I:Inv cov adj nxt home ok s) {a b:Nat} (ha:adj a b=true) {k:Ky} {r:List (Ms F E)} (hq:s.q a b = .uns k::r):∃ g∈s.held b,g.key=k:=by
 have h1:=I.al a b ha
 rw [hq] at h1
 obtain ⟨f,g,hg,_,h3,_⟩:=h1.1
 exact ⟨g,hg,h3⟩
theorem arr_inv (N:Nx adj nxt) {s:TS F E} (I:Inv cov adj nxt home ok s) {a b:Nat} (ha:adj a b=true) {m:Ms F E} {r:List (Ms F E)} (hq:s.q a b=m::r):Inv cov adj nxt home ok (s.arr cov adj a b m):=by
 have hpq:∀ x y,(s.pop a b).q x y=if x=a∧y=b then (s.q x y).tail else s.q x y:=fun _ _=>rfl
 have hpb:(s.pop a b).q a b=r:=by rw [hpq,if_pos ⟨rfl,rfl⟩,hq];rfl
 have hpo:∀ x,x≠a→(s.pop a b).q x b=s.q x b:=fun x hx=>by rw [hpq,if_neg (fun h=>hx h.1)]
 have hpy:∀ x y,y≠b→(s.pop a b).q x y=s.q x y:=fun x y hy=>by rw [hpq,if_neg (fun h=>hy h.2)]
 have hnq:∀ x y,adj x y=false→(s.pop a b).q x y=[]:=by
  intro x y hxy
  rw [hpq];split
  ·rw [I.nq x y hxy];rfl
  ·exact I.nq x y hxy
 have hag:=I.ag a b ha
 have hal:=I.al a b ha
 rw [hq] at hag hal
 cases m with
 | sub k f =>
  have hside:=(I.qs a b k f (by rw [hq];simp))
  have hno:=head_sub I ha hq
  refine turn_inv N (s:=s.pop a b) I.srt I.rt I.hok (fun x y k f hm=>I.qs x y k f (pop_q hm)) (fun x y k hm=>I.qu x y k (pop_q hm)) hnq (fun x y hy hxy=>by rw [hpy x y hy];exact I.ag x y hxy) (fun x y hy hxy=>by rw [hpy x y hy];exact I.al x y hxy)
   ((I.srt b).ins _) (fun h hm=>?_) (fun h hm=>?_) (Same.ins (I.srt b) hno) (fun x hx=>?_) (fun x hx=>?_)
  ·rcases mem_ins.1 hm with rfl | ⟨hm,_⟩
   ·exact hside.1.symm
   ·exact I.rt b h hm
  ·rcases mem_ins.1 hm with rfl | ⟨hm,_⟩
   ·exact hside.2
   ·exact I.hok b h hm
  ·by_cases hxa:x=a
   ·subst hxa
    rw [hpb]
    have:=hfr_ins (E:=E) (h:=(⟨k,f,x⟩:Hd F)) (l:=s.held b)
    simp only at this
    rw [this]
    exact hag
   ·rw [hpo x hxa,hfr_ins_other (by show (a:Int)≠x;omega) (fun g hg e=>absurd e (hno g hg))]
    exact I.ag x b hx
  ·by_cases hxa:x=a
   ·subst hxa
    rw [hpb]
    have:=hfr_ins (E:=E) (h:=(⟨k,f,x⟩:Hd F)) (l:=s.held b)
    simp only at this
    rw [this]
    exact hal.2
   ·rw [hpo x hxa,hfr_ins_other (by show (a:Int)≠x;omega) (fun g hg e=>absurd e (hno g hg))]
    exact I.al x b hx
 | uns k =>
  have hside:=I.qu a b k (by rw [hq];simp)
  have hoth:∀ x:Nat,x≠a → ∀ g∈s.held b,g.key=k→g.fr≠(x:Int):=by
   intro x hx g hg e
   rw [I.rt b g hg,e,hside];omega
  refine turn_inv N (s:=s.pop a b) I.srt I.rt I.hok (fun x y k f hm=>I.qs x y k f (pop_q hm)) (fun x y k hm=>I.qu x y k (pop_q hm)) hnq (fun x y hy hxy=>by rw [hpy x y hy];exact I.ag x y hxy) (fun x y hy hxy=>by rw [hpy x y hy];exact I.al x y hxy)
   ((I.srt b).del _) (fun h hm=>I.rt b h (mem_del.1 hm).1) (fun h hm=>I.hok b h (mem_del.1 hm).1) (Same.del (I.srt b)) (fun x hx=>?_) (fun x hx=>?_)
  ·by_cases hxa:x=a
   ·subst hxa
    rw [hpb,hfr_del (E:=E)]
    exact hag
   ·rw [hpo x hxa,hfr_del_other (hoth x hxa)]
    exact I.ag x b hx
  ·by_cases hxa:x=a
   ·subst hxa
    rw [hpb,hfr_del (E:=E)]
    exact hal.2
   ·rw [hpo x hxa,hfr_del_other (hoth x hxa)]
    exact I.al x b hx
 | ev e =>
  refine ⟨I.srt,I.rt,I.hok,fun x y k f hm=>I.qs x y k f (pop_q hm),fun x y k hm=>I.qu x y k (pop_q hm),hnq,fun x y hxy=>?_,fun x y hxy=>?_⟩
  ·show ap ((s.pop a b).q x y) (hfr (s.held y) x)=_
   by_cases h:x=a∧y=b
   ·obtain ⟨rfl,rfl⟩:=h
    rw [hpb];exact hag
   ·rw [hpq,if_neg h];exact I.ag x y hxy
  ·show wf ((s.pop a b).q x y) (hfr (s.held y) x)
   by_cases h:x=a∧y=b
   ·obtain ⟨rfl,rfl⟩:=h
    rw [hpb];exact hal
   ·rw [hpq,if_neg h];exact I.al x y hxy
end
section
variable {F E:Type}
variable {cov:F→F→Bool} {adj:Nat→Nat→Bool} {nxt:Nat→Nat→Int} {home:Int→Nat} {ok:F→Prop} {rank:Nat→Nat→Nat}
structure Rk (adj:Nat→Nat→Bool) (nxt:Nat→Nat→Int) (rank:Nat→Nat→Nat):Prop where
 lt:∀ b n m,adj b n=true→adj m b=true→m≠n→rank m b<rank b n
 nb:∀ b t,nxt b t = -1 ∨ ∃ m:Nat,nxt b t=(m:Int)∧adj m b=true
def TS.none (F E:Type):TS F E:=⟨fun _=>[],fun _ _=>[]⟩
theorem none_inv:Inv cov adj nxt home ok (TS.none F E):=by
 refine ⟨fun b=>List.Pairwise.nil,fun b h hm=>(by cases hm),fun b h hm=>(by cases hm),fun a b k f hm=>(by cases hm),fun a b k hm=>(by cases hm),fun a b _=>rfl,fun a b _=>?_,fun a b _=>trivial⟩
 funext k f
 apply propext
 constructor
 ·rintro ⟨h,hm,_⟩;cases hm
 ·rintro ⟨h,hm,_⟩;cases hm
def isT (cov:F→F→Bool) (l:List (Hd F)) (n:Int) (h:Hd F):Bool := !(l.any fun g => !(g.fr==n)&&hides cov g h)
theorem isT_iff {l:List (Hd F)} {n:Int} {h:Hd F}:isT cov l n h=true ↔ ∀ g∈l,g.fr≠n→hides cov g h=false:=by
 simp only [isT,Bool.not_eq_true',List.any_eq_false]
 constructor
 ·intro h1 g hg hn
  have:=h1 g hg
  simpa [hn] using this
 ·intro h1 g hg
  by_cases hn:g.fr=n
  ·simp [hn]
  ·simp [h1 g hg hn]
def woT (cov:F→F→Bool) (l:List (Hd F)) (n:Int) (h:Hd F):List (Hd F):=l.filter fun g => !(g.fr==n)&&hides cov h g&&isT cov l n g
theorem mem_woT {l:List (Hd F)} {n:Int} {h g:Hd F}:g∈woT cov l n h↔g∈told cov l n∧hides cov h g=true:=by
 simp only [woT,List.mem_filter,Bool.and_eq_true,Bool.not_eq_true',beq_eq_false_iff_ne,mem_told,isT_iff]
 constructor
 ·rintro ⟨h1,⟨h2,h3⟩,h4⟩;exact ⟨⟨h1,h2,h4⟩,h3⟩
 ·rintro ⟨⟨h1,h2,h4⟩,h3⟩;exact ⟨h1,⟨h2,h3⟩,h4⟩
theorem told_ins {l:List (Hd F)} {h:Hd F} (hn:∀ g∈l,g.key≠h.key) {n:Int} (hf:h.fr≠n) (g:Hd F):g∈told cov (ins h l) n↔(g=h∧isT cov l n h=true)∨(g∈told cov l n∧hides cov h g=false):=by
 rw [mem_told,mem_told,isT_iff]
 constructor
 ·rintro ⟨h1,h2,h3⟩
  rcases mem_ins.1 h1 with rfl | ⟨h4,h5⟩
  ·exact Or.inl ⟨rfl,fun x hx hxn=>h3 x (mem_ins.2 (Or.inr ⟨hx,hn x hx⟩)) hxn⟩
  ·exact Or.inr ⟨⟨h4,h2,fun x hx hxn=>h3 x (mem_ins.2 (Or.inr ⟨hx,hn x hx⟩)) hxn⟩,h3 h (mem_ins.2 (Or.inl rfl)) hf⟩
 ·rintro (⟨rfl,h1⟩ | ⟨⟨h1,h2,h3⟩,h4⟩)
  ·refine ⟨mem_ins.2 (Or.inl rfl),hf,fun x hx hxn=>?_⟩
   rcases mem_ins.1 hx with rfl | ⟨hx,_⟩
   ·exact hides_irr x
   ·exact h1 x hx hxn
  ·refine ⟨mem_ins.2 (Or.inr ⟨h1,hn g h1⟩),h2,fun x hx hxn=>?_⟩
   rcases mem_ins.1 hx with rfl | ⟨hx,_⟩
   ·exact h4
   ·exact h3 x hx hxn
theorem told_ins_same {l:List (Hd F)} {h:Hd F} (hs:Srt l) (hn:∀ g∈l,g.key≠h.key):told cov (ins h l) h.fr=told cov l h.fr:=by
 refine ((hs.ins h).told cov _).ext (hs.told cov _) (fun g=>?_)
 rw [mem_told,mem_told]
 constructor
 ·rintro ⟨h1,h2,h3⟩
  rcases mem_ins.1 h1 with rfl | ⟨h4,_⟩
  ·exact absurd rfl h2
  ·exact ⟨h4,h2,fun x hx hxn=>h3 x (mem_ins.2 (Or.inr ⟨hx,hn x hx⟩)) hxn⟩
 ·rintro ⟨h1,h2,h3⟩
  refine ⟨mem_ins.2 (Or.inr ⟨h1,hn g h1⟩),h2,fun x hx hxn=>?_⟩
  rcases mem_ins.1 hx with rfl | ⟨hx,_⟩
  ·exact absurd rfl hxn
  ·exact h3 x hx hxn
theorem chg_none {l l':List (Hd F)} {n:Int} (h:told cov l' n=told cov l n):(chg cov l l' n:List (Ms F E))=[]:=by
 have e:∀ m:List (Hd F),(m.filter fun h => !(hasK m h.key))=[]:=by
  intro m
  rw [List.filter_eq_nil_iff]
  intro x hx
  simp only [Bool.not_eq_true',Bool.not_eq_false]
  exact hasK_iff.2 ⟨x,hx,rfl⟩
 simp only [chg,newT,goneT,h,e,subs,unss,List.map_nil,List.append_nil]
theorem chg_ins {l:List (Hd F)} {h:Hd F} (hs:Srt l) (hn:∀ g∈l,g.key≠h.key) {n:Int} (hf:h.fr≠n) :
  (chg cov l (ins h l) n:List (Ms F E))=(if isT cov l n h then [.sub h.key h.f] else [])++unss (woT cov l n h):=by
 have e1:newT cov l (ins h l) n=if isT cov l n h then [h] else []:=by
  refine ((hs.ins h).newT n).ext ?_ (fun g=>?_)
  ·split
   ·exact List.pairwise_singleton _ _
   ·exact List.Pairwise.nil
  ·unfold newT
   rw [List.mem_filter,told_ins hn hf]
   constructor
   ·rintro ⟨⟨rfl,h1⟩ | ⟨h1,h2⟩,h3⟩
    ·rw [if_pos h1];simp
    ·simp only [Bool.not_eq_true'] at h3
     exact absurd rfl (hasK_no.1 h3 g h1)
   ·intro hg
    split at hg
    ·rename_i h1
     simp only [List.mem_singleton] at hg
     subst hg
     refine ⟨Or.inl ⟨rfl,h1⟩,?_⟩
     simp only [Bool.not_eq_true']
     exact hasK_no.2 (fun x hx=>hn x ((mem_told cov).1 hx).1)
    ·cases hg
 have e2:goneT cov l (ins h l) n=woT cov l n h:=by
  refine (hs.goneT n).ext (hs.filter _) (fun g=>?_)
  rw [mem_woT]
  unfold goneT
  rw [List.mem_filter]
  constructor
  ·rintro ⟨h1,h2⟩
   refine ⟨h1,?_⟩
   cases hh:hides cov h g with
   | true=>rfl
   | false =>
    simp only [Bool.not_eq_true'] at h2
    exact absurd rfl (hasK_no.1 h2 g ((told_ins hn hf g).2 (Or.inr ⟨h1,hh⟩)))
  ·rintro ⟨h1,h2⟩
   refine ⟨h1,?_⟩
   simp only [Bool.not_eq_true']
   refine hasK_no.2 (fun x hx e=>?_)
   rcases (told_ins hn hf x).1 hx with ⟨rfl,_⟩ | ⟨h3,h4⟩
   ·exact hn g ((mem_told cov).1 h1).1 e.symm
   ·rw [hs.uniq ((mem_told cov).1 h3).1 ((mem_told cov).1 h1).1 e,h2] at h4;cases h4
 unfold chg
 rw [e1,e2]
 congr 1
 split <;> rfl
theorem chg_ins_same {l:List (Hd F)} {h:Hd F} (hs:Srt l) (hn:∀ g∈l,g.key≠h.key):(chg cov l (ins h l) h.fr:List (Ms F E))=[]:=chg_none (told_ins_same hs hn)
theorem ins_del {l:List (Hd F)} {h:Hd F} (hs:Srt l) (hm:h∈l):ins h (del h.key l)=l:=by
 refine ((hs.del _).ins h).ext hs (fun g=>?_)
 rw [mem_ins,mem_del]
 constructor
 ·rintro (rfl | ⟨⟨h1,_⟩,_⟩)
  ·exact hm
  ·exact h1
 ·intro hg
  by_cases e:g.key=h.key
  ·exact Or.inl (hs.uniq hg hm e)
  ·exact Or.inr ⟨⟨hg,e⟩,e⟩
theorem del_no {l:List (Hd F)} {k:Ky}:∀ g∈del k l,g.key≠k:=fun _ hg=>(mem_del.1 hg).2
theorem chg_swap {l l':List (Hd F)} {n:Int}:(chg cov l l' n:List (Ms F E))=subs (newT cov l l' n)++unss (newT cov l' l n):=rfl
theorem chg_del {l:List (Hd F)} {h:Hd F} (hs:Srt l) (hm:h∈l) {n:Int} (hf:h.fr≠n) :
  (chg cov l (del h.key l) n:List (Ms F E))=subs (woT cov (del h.key l) n h)++(if isT cov (del h.key l) n h then [.uns h.key] else []):=by
 have hd:=hs.del h.key
 have e:=ins_del hs hm
 have tt:∀ g,g∈told cov l n↔(g=h∧isT cov (del h.key l) n h=true)∨(g∈told cov (del h.key l) n∧hides cov h g=false):=by
  intro g
  have:=told_ins (cov:=cov) (l:=del h.key l) (h:=h) del_no hf g
  rw [e] at this
  exact this
 have e1:newT cov (del h.key l) l n=if isT cov (del h.key l) n h then [h] else []:=by
  refine (hs.newT n).ext ?_ (fun g=>?_)
  ·split
   ·exact List.pairwise_singleton _ _
   ·exact List.Pairwise.nil
  ·unfold newT
   rw [List.mem_filter,tt]
   constructor
   ·rintro ⟨⟨rfl,h1⟩ | ⟨h1,h2⟩,h3⟩
    ·rw [if_pos h1];simp
    ·simp only [Bool.not_eq_true'] at h3
     exact absurd rfl (hasK_no.1 h3 g h1)
   ·intro hg
    split at hg
    ·rename_i h1
     simp only [List.mem_singleton] at hg
     subst hg
     refine ⟨Or.inl ⟨rfl,h1⟩,?_⟩
     simp only [Bool.not_eq_true']
     exact hasK_no.2 (fun x hx=>del_no x ((mem_told cov).1 hx).1)
    ·cases hg
 have e2:newT cov l (del h.key l) n=woT cov (del h.key l) n h:=by
  refine (hd.newT n).ext (hd.filter _) (fun g=>?_)
  rw [mem_woT]
  unfold newT
  rw [List.mem_filter]
  constructor
  ·rintro ⟨h1,h2⟩
   refine ⟨h1,?_⟩
   cases hh:hides cov h g with
   | true=>rfl
   | false =>
    simp only [Bool.not_eq_true'] at h2
    refine absurd rfl (hasK_no.1 h2 g ?_)
    rw [tt]
    exact Or.inr ⟨h1,hh⟩
  ·rintro ⟨h1,h2⟩
   refine ⟨h1,?_⟩
   simp only [Bool.not_eq_true']
   refine hasK_no.2 (fun x hx ek=>?_)
   rw [tt] at hx
   rcases hx with ⟨rfl,_⟩ | ⟨h3,h4⟩
   ·exact del_no g ((mem_told cov).1 h1).1 ek.symm
   ·rw [hd.uniq ((mem_told cov).1 h3).1 ((mem_told cov).1 h1).1 ek,h2] at h4;cases h4
 rw [chg_swap,e2,e1]
 congr 1
 split <;> rfl
theorem chg_del_same {l:List (Hd F)} {h:Hd F} (hs:Srt l) (hm:h∈l):(chg cov l (del h.key l) h.fr:List (Ms F E))=[]:=by
 refine chg_none ?_
 have:=told_ins_same (cov:=cov) (hs.del h.key) (h:=h) del_no
 rw [ins_del hs hm] at this
 exact this.symm
end
def sm:Nat→(Nat→Nat)→Nat
 | 0,_=>0
 | n+1,f=>sm n f+f n
theorem sm_le {f g:Nat→Nat}:∀ n,(∀ i,i<n→f i≤g i)→sm n f≤sm n g
 | 0,_=>Nat.le_refl _
 | n+1,h=>by
  have:=sm_le n (fun i hi=>h i (by omega))
  have:=h n (by omega)
  simp only [sm];omega
theorem sm_add (f g:Nat→Nat):∀ n,sm n (fun i=>f i+g i)=sm n f+sm n g
 | 0=>rfl
 | n+1=>by simp only [sm,sm_add f g n];omega
theorem sm_zero:∀ n,sm n (fun _=>0)=0
 | 0=>rfl
 | n+1=>by simp only [sm,sm_zero n]
theorem sm_one (i c:Nat):∀ n,sm n (fun j=>if j=i then c else 0)=if i<n then c else 0
 | 0=>by simp [sm]
 | n+1=>by
  simp only [sm,sm_one i c n]
  by_cases h:i<n
  ·rw [if_pos h,if_neg (by omega),if_pos (by omega)];omega
  ·by_cases h2:n=i
   ·rw [if_neg h,if_pos h2,if_pos (by omega)];omega
   ·rw [if_neg h,if_neg h2,if_neg (by omega)]
theorem sm_const (c:Nat):∀ n,sm n (fun _=>c)=n*c
 | 0=>by simp [sm]
 | n+1=>by simp only [sm,sm_const c n,Nat.succ_mul]
theorem keys_le:∀ (l Ks:List Ky),l.Pairwise (fun x y=>x≠y)→(∀ k∈l,k∈Ks)→l.length≤Ks.length
 | [],_,_,_=>by simp
 | a::t,Ks,hp,hs=>by
  have hp':=List.pairwise_cons.1 hp
  have ha:=hs a (by simp)
  have:=keys_le t (Ks.erase a) hp'.2 (fun k hk=>(List.mem_erase_of_ne (fun e=>hp'.1 k hk e.symm)).2 (hs k (by simp [hk])))
  rw [List.length_erase_of_mem ha] at this
  have:0<Ks.length:=List.length_pos_of_mem ha
  simp only [List.length_cons];omega
section
variable {F E:Type}
variable {cov:F→F→Bool} {adj:Nat→Nat→Bool} {nxt:Nat→Nat→Int} {home:Int→Nat} {ok:F→Prop} {rank:Nat→Nat→Nat}
theorem Srt.len {l:List (Hd F)} (hs:Srt l) {Ks:List Ky} (h:∀ x∈l,x.key∈Ks):l.length≤Ks.length:=by
 rw [← List.length_map (f:=fun x:Hd F=>x.key)]
 refine keys_le _ _ ?_ (fun k hk=>?_)
 ·rw [List.pairwise_map]
  exact List.Pairwise.imp (fun h=>klt_ne h) hs
 ·obtain ⟨x,hx,rfl⟩:=List.mem_map.1 hk
  exact h x hx
def TS.come (adj:Nat→Nat→Bool) (mt:E→F→Bool) (s:TS F E) (b:Nat) (fr:Int) (e:E):TS F E where
 held:=s.held
 q:=fun x y=>if x=b∧adj b y=true∧(y:Int)≠fr∧((s.held b).any fun h=>h.fr==(y:Int)&&mt e h.f)=true then s.q x y++[.ev e] else s.q x y
theorem come_inv {mt:E→F→Bool} {s:TS F E} (I:Inv cov adj nxt home ok s) (b:Nat) (fr:Int) (e:E):Inv cov adj nxt home ok (s.come adj mt b fr e):=by
 have hq:∀ x y,(s.come adj mt b fr e).q x y=s.q x y∨(adj x y=true∧(s.come adj mt b fr e).q x y=s.q x y++[.ev e]):=by
  intro x y
  simp only [TS.come]
  split
  ·rename_i h
   obtain ⟨rfl,h1,_⟩:=h
   exact Or.inr ⟨h1,rfl⟩
  ·exact Or.inl rfl
 refine ⟨I.srt,I.rt,I.hok,fun x y k f hm=>?_,fun x y k hm=>?_,fun x y hxy=>?_,fun x y hxy=>?_,fun x y hxy=>?_⟩
 ·rcases hq x y with h | ⟨_,h⟩
  ·rw [h] at hm;exact I.qs x y k f hm
  ·rw [h] at hm;exact I.qs x y k f (by simpa using hm)
 ·rcases hq x y with h | ⟨_,h⟩
  ·rw [h] at hm;exact I.qu x y k hm
  ·rw [h] at hm;exact I.qu x y k (by simpa using hm)
 ·rcases hq x y with h | ⟨h1,_⟩
  ·rw [h];exact I.nq x y hxy
  ·rw [hxy] at h1;cases h1
 ·show ap _ (hfr (s.held y) x)=rl (told cov (s.held x) y)
  rcases hq x y with h | ⟨_,h⟩
  ·rw [h];exact I.ag x y hxy
  ·rw [h,ap_append,I.ag x y hxy];rfl
 ·show wf _ (hfr (s.held y) x)
  rcases hq x y with h | ⟨_,h⟩
  ·rw [h];exact I.al x y hxy
  ·rw [h,wf_append];exact ⟨I.al x y hxy,trivial⟩
def TS.nstep (cov:F→F→Bool) (adj:Nat→Nat→Bool) (mt:E→F→Bool) (s:TS F E) (a b:Nat):Ms F E→TS F E
 | .ev e=>(s.pop a b).come adj mt b a e
 | .sub k f=>s.arr cov adj a b (.sub k f)
 | .uns k=>s.arr cov adj a b (.uns k)
theorem nstep_inv (N:Nx adj nxt) {mt:E→F→Bool} {s:TS F E} (I:Inv cov adj nxt home ok s) {a b:Nat} (ha:adj a b=true) {m:Ms F E} {r:List (Ms F E)} (hq:s.q a b=m::r):Inv cov adj nxt home ok (s.nstep cov adj mt a b m):=by
 cases m with
 | sub k f=>exact arr_inv N I ha hq
 | uns k=>exact arr_inv N I ha hq
 | ev e=>exact come_inv (show Inv cov adj nxt home ok (s.arr cov adj a b (.ev e)) from arr_inv N I ha hq) b a e
structure Kin (Ks:List Ky) (s:TS F E):Prop where
 held:∀ b,∀ h∈s.held b,h.key∈Ks
 q:∀ a b k f,Ms.sub k f∈s.q a b→k∈Ks
theorem turn_kin {Ks:List Ky} {s:TS F E} (K:Kin Ks s) {b:Nat} {l':List (Hd F)} (h:∀ x∈l',x.key∈Ks):Kin Ks (s.turn cov adj b l'):=by
 refine ⟨fun x g hg=>?_,fun x y k f hm=>?_⟩
 ·simp only [TS.turn] at hg
  split at hg
  ·exact h g hg
  ·exact K.held x g hg
 ·simp only [TS.turn] at hm
  split at hm
  ·rcases List.mem_append.1 hm with hm | hm
   ·exact K.q x y k f hm
   ·obtain ⟨g,hg,_,rfl,_⟩:=mem_chg_sub hm
    exact h g hg
  ·exact K.q x y k f hm
theorem nstep_kin {Ks:List Ky} {mt:E→F→Bool} {s:TS F E} (K:Kin Ks s) {a b:Nat} {m:Ms F E} {r:List (Ms F E)} (hq:s.q a b=m::r):Kin Ks (s.nstep cov adj mt a b m):=by
 have KP:Kin Ks (s.pop a b):=⟨K.held,fun x y k f hm=>K.q x y k f (pop_q hm)⟩
 cases m with
 | sub k f =>
  refine turn_kin KP (fun x hx=>?_)
  rcases mem_ins.1 hx with rfl | ⟨hx,_⟩
  ·exact K.q a b k f (by rw [hq];simp)
  ·exact K.held b x hx
 | uns k=>exact turn_kin KP (fun x hx=>K.held b x (mem_del.1 hx).1)
 | ev e =>
  refine ⟨K.held,fun x y k f hm=>KP.q x y k f ?_⟩
  simp only [TS.nstep,TS.come] at hm
  split at hm
  ·simpa using hm
  ·exact hm
end
theorem sm_lt {f g:Nat→Nat} {j:Nat}:∀ n,(∀ i,i<n→f i≤g i)→j<n→f j<g j→sm n f<sm n g
 | 0,_,hj,_=>by omega
 | n+1,h,hj,hl=>by
  simp only [sm]
  by_cases e:j=n
  ·subst e
   have:=sm_le j (fun i hi=>h i (by omega))
   omega
  ·have:=sm_lt n (fun i hi=>h i (by omega)) (by omega) hl
   have:=h n (by omega)
   omega
def behind (nb:Nat) (nxt:Nat→Nat→Int) (b n:Nat):Nat:=sm nb fun t=>if nxt n t=(b:Int) then 1 else 0
structure Fo (nb:Nat) (part:Nat→Nat) (adj:Nat→Nat→Bool) (nxt:Nat→Nat→Int):Prop where
 sym:∀ a b,adj a b=true→adj b a=true
 irr:∀ a,adj a a=false
 inn:∀ a b,adj a b=true→a<nb∧b<nb
 same:∀ a b,adj a b=true→part a=part b
 self:∀ t,nxt t t = -1
 back:∀ b n t,adj b n=true→part t=part b→nxt b t≠(n:Int)→nxt n t=(b:Int)
 nb':∀ b t,nxt b t = -1 ∨ ∃ m:Nat,nxt b t=(m:Int)∧adj m b=true
 one:∀ b t,part b=part t→nxt b t = -1→b=t
 excl:∀ b n t,adj b n=true→part t=part b→nxt b t=(n:Int)→nxt n t≠(b:Int)
theorem Fo.init (nb:Nat):Fo nb (fun b=>b) (fun _ _=>false) (fun _ _ => -1) :=
 ⟨fun _ _ h=>(by cases h),fun _=>rfl,fun _ _ h=>(by cases h),fun _ _ h=>(by cases h),fun _=>rfl,fun _ _ _ h=>(by cases h),fun _ _=>Or.inl rfl,fun _ _ h _=>h,fun _ _ _ h=>(by cases h)⟩
def joinP (part:Nat→Nat) (u v:Nat):Nat→Nat:=fun x=>if part x=part v then part u else part x
def joinA (adj:Nat→Nat→Bool) (u v:Nat):Nat→Nat→Bool:=fun a b=>adj a b||(a==u&&b==v)||(a==v&&b==u)
def joinN (part:Nat→Nat) (nxt:Nat→Nat→Int) (u v:Nat):Nat→Nat→Int:=fun b t =>
 if part b=part u∧part t=part v then (if b=u then (v:Int) else nxt b u)
 else if part b=part v∧part t=part u then (if b=v then (u:Int) else nxt b v)
 else nxt b t
theorem joinA_iff {adj:Nat→Nat→Bool} {u v a b:Nat}:joinA adj u v a b=true↔adj a b=true∨(a=u∧b=v)∨(a=v∧b=u):=by
 simp [joinA,or_assoc]
theorem Fo.join {nb:Nat} {part:Nat→Nat} {adj:Nat→Nat→Bool} {nxt:Nat→Nat→Int} (h:Fo nb part adj nxt) {u v:Nat} (hu:u<nb) (hv:v<nb) (hp:part u≠part v) :
  Fo nb (joinP part u v) (joinA adj u v) (joinN part nxt u v):=by
 have huv:u≠v:=fun e=>hp (by rw [e])
 have far:∀ {n b c:Nat},adj b n=true→b≠c→nxt b c≠(n:Int)→part c=part b→n≠c∧nxt n c=(b:Int):=by
  intro n b c hbn hbc hne hpc
  have h1:=h.back b n c hbn hpc hne
  refine ⟨fun e=>?_,h1⟩
  subst e
  rw [h.self] at h1
  omega
 have near:∀ {n b:Nat},adj b n=true→n≠b∧nxt n b=(b:Int):=by
  intro n b hbn
  refine ⟨fun e=>?_,h.back b n b hbn rfl (by rw [h.self];omega)⟩
  subst e
  rw [h.irr] at hbn;cases hbn
 have adjp:∀ {b t m:Nat},nxt b t=(m:Int)→part m=part b:=by
  intro b t m e
  rcases h.nb' b t with e' | ⟨m',e',hm⟩
  ·omega
  ·have:m=m':=by omega
   subst this
   exact h.same m b hm
 refine ⟨fun a b hab=>?_,fun a=>?_,fun a b hab=>?_,fun a b hab=>?_,fun t=>?_,fun b n t hbn hpt hne=>?_,fun b t=>?_,fun b t hpt he=>?_,fun b n t hbn hpt he=>?_⟩
 ·rw [joinA_iff] at *
  rcases hab with hab | ⟨rfl,rfl⟩ | ⟨rfl,rfl⟩
  ·exact Or.inl (h.sym a b hab)
  ·exact Or.inr (Or.inr ⟨rfl,rfl⟩)
  ·exact Or.inr (Or.inl ⟨rfl,rfl⟩)
 ·cases hj:joinA adj u v a a with
  | false=>rfl
  | true =>
   rcases joinA_iff.1 hj with hab | ⟨rfl,e⟩ | ⟨rfl,e⟩
   ·rw [h.irr] at hab;cases hab
   ·exact absurd e huv
   ·exact absurd e.symm huv
 ·rcases joinA_iff.1 hab with hab | ⟨rfl,rfl⟩ | ⟨rfl,rfl⟩
  ·exact h.inn a b hab
  ·exact ⟨hu,hv⟩
  ·exact ⟨hv,hu⟩
 ·simp only [joinP]
  rcases joinA_iff.1 hab with hab | ⟨rfl,rfl⟩ | ⟨rfl,rfl⟩
  ·rw [h.same a b hab]
  ·rw [if_neg hp,if_pos rfl]
  ·rw [if_pos rfl,if_neg hp]
 ·simp only [joinN]
  rw [if_neg (fun e=>hp (e.1.symm.trans e.2)),if_neg (fun e=>hp (e.2.symm.trans e.1))]
  exact h.self t
 ·simp only [joinP] at hpt
  simp only [joinN] at hne ⊢
  rcases joinA_iff.1 hbn with h0 | ⟨rfl,rfl⟩ | ⟨rfl,rfl⟩
  ·have hs:=h.same b n h0
   rw [← hs]
   by_cases c1:part b=part u∧part t=part v
   ·rw [if_pos c1] at hne ⊢
    by_cases hbu:b=u
    ·subst hbu
     obtain ⟨k1,k2⟩:=near h0
     rw [if_neg k1];exact k2
    ·rw [if_neg hbu] at hne
     obtain ⟨k1,k2⟩:=far h0 hbu hne c1.1.symm
     rw [if_neg k1];exact k2
   ·rw [if_neg c1] at hne ⊢
    by_cases c2:part b=part v∧part t=part u
    ·rw [if_pos c2] at hne ⊢
     by_cases hbv:b=v
     ·subst hbv
      obtain ⟨k1,k2⟩:=near h0
      rw [if_neg k1];exact k2
     ·rw [if_neg hbv] at hne
      obtain ⟨k1,k2⟩:=far h0 hbv hne c2.1.symm
      rw [if_neg k1];exact k2
    ·rw [if_neg c2] at hne ⊢
     refine h.back b n t h0 ?_ hne
     by_cases e1:part t=part v
     ·by_cases e2:part b=part v
      ·rw [e1,e2]
      ·rw [if_pos e1,if_neg e2] at hpt
       exact absurd ⟨hpt.symm,e1⟩ c1
     ·by_cases e2:part b=part v
      ·rw [if_neg e1,if_pos e2] at hpt
       exact absurd ⟨e2,hpt⟩ c2
      ·rw [if_neg e1,if_neg e2] at hpt
       exact hpt
  ·rw [if_neg hp] at hpt
   by_cases e1:part t=part n
   ·rw [if_pos ⟨rfl,e1⟩,if_pos rfl] at hne;exact absurd rfl hne
   ·rw [if_neg e1] at hpt
    rw [if_neg (fun c=>hp c.1.symm),if_pos ⟨rfl,hpt⟩,if_pos rfl]
  ·rw [if_pos rfl] at hpt
   by_cases e1:part t=part b
   ·rw [if_pos ⟨rfl,e1⟩,if_pos rfl]
   ·rw [if_neg e1] at hpt
    rw [if_neg (fun c=>hp c.1.symm),if_pos ⟨rfl,hpt⟩,if_pos rfl] at hne
    exact absurd rfl hne
 ·simp only [joinN]
  have lift:∀ x y:Nat,nxt x y = -1 ∨ ∃ m:Nat,nxt x y=(m:Int)∧joinA adj u v m x=true:=fun x y=>by
   rcases h.nb' x y with e | ⟨m,e,hm⟩
   ·exact Or.inl e
   ·exact Or.inr ⟨m,e,joinA_iff.2 (Or.inl hm)⟩
  split
  ·split
   ·rename_i _ e;subst e
    exact Or.inr ⟨v,rfl,joinA_iff.2 (Or.inr (Or.inr ⟨rfl,rfl⟩))⟩
   ·exact lift b u
  ·split
   ·split
    ·rename_i _ _ e;subst e
     exact Or.inr ⟨u,rfl,joinA_iff.2 (Or.inr (Or.inl ⟨rfl,rfl⟩))⟩
    ·exact lift b v
   ·exact lift b t
 ·simp only [joinN] at he
  simp only [joinP] at hpt
  by_cases c1:part b=part u∧part t=part v
  ·rw [if_pos c1] at he
   by_cases hbu:b=u
   ·rw [if_pos hbu] at he;omega
   ·rw [if_neg hbu] at he
    exact absurd (h.one b u c1.1 he) hbu
  ·rw [if_neg c1] at he
   by_cases c2:part b=part v∧part t=part u
   ·rw [if_pos c2] at he
    by_cases hbv:b=v
    ·rw [if_pos hbv] at he;omega
    ·rw [if_neg hbv] at he
     exact absurd (h.one b v c2.1 he) hbv
   ·rw [if_neg c2] at he
    refine h.one b t ?_ he
    by_cases e1:part t=part v
    ·by_cases e2:part b=part v
     ·rw [e1,e2]
     ·rw [if_pos e1,if_neg e2] at hpt
      exact absurd ⟨hpt,e1⟩ c1
    ·by_cases e2:part b=part v
     ·rw [if_neg e1,if_pos e2] at hpt
      exact absurd ⟨e2,hpt.symm⟩ c2
     ·rw [if_neg e1,if_neg e2] at hpt
      exact hpt
 ·simp only [joinP] at hpt
  simp only [joinN] at he ⊢
  rcases joinA_iff.1 hbn with h0 | ⟨rfl,rfl⟩ | ⟨rfl,rfl⟩
  ·have hs:=h.same b n h0
   rw [← hs]
   by_cases c1:part b=part u∧part t=part v
   ·rw [if_pos c1] at he ⊢
    by_cases hbu:b=u
    ·rw [if_pos hbu] at he
     have:v=n:=by omega
     rw [this, ← hs,hbu] at hp;exact absurd rfl hp
    ·rw [if_neg hbu] at he
     by_cases hnu:n=u
     ·rw [if_pos hnu];intro e
      have:v=b:=by omega
      rw [this,c1.1] at hp;exact hp rfl
     ·rw [if_neg hnu];exact h.excl b n u h0 c1.1.symm he
   ·rw [if_neg c1] at he ⊢
    by_cases c2:part b=part v∧part t=part u
    ·rw [if_pos c2] at he ⊢
     by_cases hbv:b=v
     ·rw [if_pos hbv] at he
      have:u=n:=by omega
      rw [this, ← hs,hbv] at hp;exact absurd rfl hp
     ·rw [if_neg hbv] at he
      by_cases hnv:n=v
      ·rw [if_pos hnv];intro e
       have:u=b:=by omega
       rw [this,c2.1] at hp;exact hp rfl
      ·rw [if_neg hnv];exact h.excl b n v h0 c2.1.symm he
    ·rw [if_neg c2] at he ⊢
     refine h.excl b n t h0 ?_ he
     by_cases e1:part t=part v
     ·by_cases e2:part b=part v
      ·rw [e1,e2]
      ·rw [if_pos e1,if_neg e2] at hpt
       exact absurd ⟨hpt.symm,e1⟩ c1
     ·by_cases e2:part b=part v
      ·rw [if_neg e1,if_pos e2] at hpt
       exact absurd ⟨e2,hpt⟩ c2
      ·rw [if_neg e1,if_neg e2] at hpt
       exact hpt
  ·rw [if_neg (fun c=>hp c.1.symm)]
   by_cases e1:part t=part n
   ·rw [if_neg (fun c=>hp (by rw [← e1,c.2]))]
    intro e
    exact hp (adjp e)
   ·rw [if_neg (fun c=>e1 c.2),if_neg (fun c=>hp c.1)] at he
    exact absurd (adjp he).symm hp
  ·by_cases e1:part t=part b
   ·rw [if_neg (fun c=>hp c.1.symm),if_neg (fun c=>hp (by rw [← e1,c.2]))] at he
    exact absurd (adjp he) hp
   ·rw [if_neg (fun c=>e1 c.2),if_neg (fun c=>hp c.1)]
    intro e
    exact hp (adjp e).symm
def dom (nb:Nat) (nxt:Nat→Nat→Int):Nat→Nat→Int:=fun b t=>if b=t ∨ ¬ b<nb then -1 else nxt b (if t<nb then t else 0)
theorem Fo.nx {nb:Nat} {part:Nat→Nat} {adj:Nat→Nat→Bool} {nxt:Nat→Nat→Int} (h:Fo nb part adj nxt) (h1:∀ a b,a<nb→b<nb→part a=part b):Nx adj (dom nb nxt):=by
 refine ⟨h.sym,h.irr,fun t=>by simp [dom],fun b n t hbn hne=>?_⟩
 obtain ⟨hb,hn⟩:=h.inn b n hbn
 have hbn':b≠n:=fun e=>by subst e;rw [h.irr] at hbn;cases hbn
 have ht:(if t<nb then t else 0)<nb:=by split <;> omega
 have hback:=h.back b n (if t<nb then t else 0) hbn (h1 _ _ ht hb)
 simp only [dom] at hne ⊢
 by_cases hbt:b=t
 ·subst hbt
  rw [if_pos hb] at hback
  rw [if_neg (by intro e;rcases e with e | e <;> omega),if_pos hb]
  exact hback (by rw [h.self];omega)
 ·rw [if_neg (by intro e;rcases e with e | e;exact hbt e;exact e hb)] at hne
  have:=hback hne
  by_cases hnt:n=t
  ·subst hnt
   rw [if_pos hn,h.self] at this
   omega
  ·rw [if_neg (by intro e;rcases e with e | e;exact hnt e;exact e hn)]
   exact this
theorem Fo.rk {nb:Nat} {part:Nat→Nat} {adj:Nat→Nat→Bool} {nxt:Nat→Nat→Int} (h:Fo nb part adj nxt) (h1:∀ a b,a<nb→b<nb→part a=part b):Rk adj (dom nb nxt) (behind nb (dom nb nxt)):=by
 have N:=h.nx h1
 refine ⟨fun b n m hbn hmb hmn=>?_,fun b t=>?_⟩
 ·obtain ⟨hb,hn⟩:=h.inn b n hbn
  unfold behind
  refine sm_lt (j:=b) nb (fun t _=>?_) hb ?_
  ·by_cases e:dom nb nxt b t=(m:Int)
   ·rw [if_pos e,if_pos (N.back b n t hbn (by rw [e];omega))]
    exact Nat.le_refl _
   ·rw [if_neg e];omega
  ·rw [N.self,if_neg (by omega),if_pos (N.back b n b hbn (by rw [N.self];omega))]
   decide
 ·simp only [dom]
  split
  ·exact Or.inl rfl
  ·exact h.nb' b _
structure Nz (nb:Nat) (adj:Nat→Nat→Bool) (nxt:Nat→Nat→Int):Prop where
 inn:∀ a b,adj a b=true→a<nb∧b<nb
 one:∀ b t,b<nb→t<nb→nxt b t = -1→b=t
 excl:∀ b n t,t<nb→adj b n=true→nxt b t=(n:Int)→nxt n t≠(b:Int)
theorem Fo.nz {nb:Nat} {part:Nat→Nat} {adj:Nat→Nat→Bool} {nxt:Nat→Nat→Int} (h:Fo nb part adj nxt) (h1:∀ a b,a<nb→b<nb→part a=part b):Nz nb adj (dom nb nxt):=by
 refine ⟨h.inn,fun b t hb ht he=>?_,fun b n t ht hbn he=>?_⟩
 ·simp only [dom] at he
  by_cases hbt:b=t
  ·exact hbt
  ·rw [if_neg (by intro e;rcases e with e | e;exact hbt e;exact e hb),if_pos ht] at he
   exact h.one b t (h1 b t hb ht) he
 ·obtain ⟨hb,hn⟩:=h.inn b n hbn
  simp only [dom] at he ⊢
  by_cases hbt:b=t
  ·rw [if_pos (Or.inl hbt)] at he;omega
  ·rw [if_neg (by intro e;rcases e with e | e;exact hbt e;exact e hb),if_pos ht] at he
   by_cases hnt:n=t
   ·rw [if_pos (Or.inl hnt)];omega
   ·rw [if_neg (by intro e;rcases e with e | e;exact hnt e;exact e hn),if_pos ht]
    exact h.excl b n t hbn (h1 t b ht hb) he
def reps (nb:Nat) (part:Nat→Nat):Nat:=sm nb fun b=>if part b=b then 1 else 0
theorem sm_congr {f g:Nat→Nat}:∀ n,(∀ i,i<n→f i=g i)→sm n f=sm n g
 | 0,_=>rfl
 | n+1,h=>by simp only [sm];rw [sm_congr n (fun i hi=>h i (by omega)),h n (by omega)]
theorem joinP_pos {part:Nat→Nat} {u v x:Nat} (h:part x=part v):joinP part u v x=part u:=if_pos h
theorem joinP_neg {part:Nat→Nat} {u v x:Nat} (h:¬ part x=part v):joinP part u v x=part x:=if_neg h
theorem joinP_rep {part:Nat→Nat} (hi:∀ b,part (part b)=part b) (u v:Nat) (b:Nat):joinP part u v (joinP part u v b)=joinP part u v b:=by
 by_cases h:part b=part v
 ·rw [joinP_pos h]
  by_cases h2:part (part u)=part v
  ·rw [joinP_pos h2]
  ·rw [joinP_neg h2,hi]
 ·rw [joinP_neg h,joinP_neg (by rw [hi];exact h),hi]
theorem reps_join {nb:Nat} {part:Nat→Nat} (hi:∀ b,part (part b)=part b) (hl:∀ b,b<nb→part b<nb) {u v:Nat} (hv:v<nb) (hp:part u≠part v):reps nb (joinP part u v)+1=reps nb part:=by
 have e:reps nb part=sm nb fun b=>(if joinP part u v b=b then 1 else 0)+(if b=part v then 1 else 0):=by
  refine sm_congr nb (fun b _=>?_)
  by_cases h:part b=part v
  ·rw [joinP_pos h]
   by_cases hb:b=part v
   ·subst hb
    rw [hi,if_pos rfl,if_neg hp]
   ·rw [if_neg (fun e=>hb (by rw [← h,e])),if_neg hb,if_neg ?_]
    intro e
    have h2:part (part u)=part v:=by rw [e];exact h
    rw [hi] at h2;exact hp h2
  ·rw [joinP_neg h,if_neg (c:=b=part v) (fun e=>h (by rw [e,hi])),Nat.add_zero]
 rw [e,sm_add,sm_one,if_pos (hl v hv)];rfl
theorem one_part {nb:Nat} {part:Nat→Nat} (hi:∀ b,part (part b)=part b) (hl:∀ b,b<nb→part b<nb) (h:reps nb part≤1):∀ a b,a<nb→b<nb→part a=part b:=by
 intro a b ha hb
 refine Classical.byContradiction fun hne=>?_
 have:sm nb (fun x=>(if x=part a then 1 else 0)+(if x=part b then 1 else 0))≤reps nb part:=sm_le nb (fun x _=>by
  by_cases h1:x=part a
  ·rw [if_pos h1,if_neg (by rw [h1];exact hne),if_pos (by rw [h1,hi])];decide
  ·by_cases h2:x=part b
   ·rw [if_neg h1,if_pos h2,if_pos (by rw [h2,hi])];decide
   ·rw [if_neg h1,if_neg h2];omega)
 rw [sm_add,sm_one,sm_one,if_pos (hl a ha),if_pos (hl b hb)] at this
 omega
theorem reps_init (nb:Nat):reps nb (fun b=>b)=nb:=by
 unfold reps
 simp only [if_true]
 rw [sm_const];omega
end Go.Proofs.YtecnfgikbmcgoaaGreat

import Derived.Test.YtecnfgikbmcgoaaGreatRows
import Derived.Test.YtecnfgikbmcgoaaGreatG0
import Derived.Test.YtecnfgikbmcgoaaGreatG1
import Derived.Test.YtecnfgikbmcgoaaGreatG3
import Derived.ProofKit
import Derived.OpenShut
import Derived.HandedShaped
import Derived.Deep.Slices
import Derived.SizedLaws
import Derived.JoinedCond
import Derived.Deep.RegionLaw
import Derived.ArgAppend
import Derived.WalkSpells
namespace Go.Proofs.YtecnfgikbmcgoaaGreat
open Go.ChangeShapes Go.WideShapes Go.ChangeAt Go.RowKit
theorem Tryz.own:ownKnob Tryz.prog.godebug=none:=by kernel_rfl
theorem ml_of {W:World} (h:W.ShapedOpen Tryz.prog):∃ m,Ml m W:=by
 obtain ⟨m,hm⟩:=Tryz.laysM144.s1_3 W h
 exact ⟨m,hm,World.block_lt_of_cell? _ _ hm⟩
theorem addr_add (b off i:Nat):(⟨b,off,none⟩:Addr).add i=⟨b,off+i,none⟩:=by
 unfold Addr.add;split <;> simp_all
theorem bulk_one {H:Type} (d:DataW H):1≤Rows.uptoBulk d:=by
 cases d with
 | lit l=>cases l <;> simp [Rows.uptoBulk]
 | nil=>simp [Rows.uptoBulk]
 | ptr d=>simp [Rows.uptoBulk]
 | slice elems spare=>simp [Rows.uptoBulk]
 | agg parts=>simp [Rows.uptoBulk]
 | iface t d=>simp [Rows.uptoBulk]
 | map entries=>simp [Rows.uptoBulk]
 | held h=>simp [Rows.uptoBulk]
theorem bulk_in {H:Type} {d:DataW H} {l:List (DataW H)} (h:d∈l):Rows.uptoBulk d≤Rows.uptoBulkAll l:=by
 induction l with
 | nil=>cases h
 | cons x r ih =>
  simp only [Rows.uptoBulkAll]
  rcases List.mem_cons.1 h with e | e
  ·subst e;omega
  ·have:=ih e;omega
theorem bulk_len {H:Type} (l:List (DataW H)):l.length≤Rows.uptoBulkAll l:=by
 induction l with
 | nil=>simp [Rows.uptoBulkAll]
 | cons x r ih=>have:=bulk_one x;simp only [Rows.uptoBulkAll,List.length_cons];omega
theorem bulk_slice {H:Type} {d:DataW H} {len:Nat} (h:len=0 ∨ ∃ es sp,d = .slice es sp∧es.length=len):len≤Rows.uptoBulk d:=by
 rcases h with h | ⟨es,sp,rfl,rfl⟩
 ·omega
 ·have:=bulk_len es
  simp only [Rows.uptoBulk];omega
theorem returns_cond_shaped {H:Type} {enc:TypeId × Value→H} {a:Assume} {C:Checked} {os:Os} {f:FuncId} {fn:Func} {s:OpenSpec} {k:(H:Type)→List (DataW H)→Bool} (hk:s.cond=some k) {F:Stop.Interp} {conds:List PathCond} {apart fresh handsOn again:Bool}
  (own:ownKnob C.prog.godebug=none) (started:os.Started) (noInit:C.prog.inits.idxOf? f=none) (hfn:C.prog.funcs[f]? = some fn)
  (witness:∃ (w:World) (tape:Tape) (i:Input),w.os=os∧(w.forCall tape i).Shaped C.prog∧i.vars=[]∧Input.okWide C.prog (w.forCall tape i) .any w.heap.size f i ∧
   s.pre6 enc C.prog fn conds apart (w.forCall tape i).memory i.args∧a.holds C.prog (lone (Frame.enter C.prog f i.args .normal) [] (w.forCall tape i)))
  (contract:∀ (W:World) (base:Nat) (args:Array Value) (ds gs:List (DataW H)) (before:List MemPlace),
   (∀ (j:Nat) t v,fn.params[j]? = some t→args[j]? = some v→Value.okWide C.prog W .any base t v) →
   DataW.Whole enc C.prog fn.params.toList s.vars apart W args.toList ds gs before→k H (ds++gs)=true→W.ShapedOpen C.prog →
   Calls C.prog f args W fun e W'=>∃ v,e = .returned v∧(s.at F).post enc C.prog fn apart fresh handsOn again W args v W') :
  ReturnsInHanded a C os f .any (s.pre6 enc C.prog fn conds apart) ((s.at F).post enc C.prog fn apart fresh handsOn again):=by
 refine returnsInHanded_of_calls own started noInit witness ?_
 intro w tape i _ hsh _ hok hpre _
 obtain ⟨_,_,_,fn',hfn',_,_,_,_,hval⟩:=hok
 obtain rfl:fn'=fn:=Option.some.inj (hfn'.symm.trans hfn)
 obtain ⟨ds,gs,before,hw,_,hkk⟩:=(OpenSpec.pre_some hk conds apart _ _).1 hpre.1
 refine (contract (w.forCall tape i) w.heap.size i.args ds gs before hval (DataW.Whole.of_heap (w':=w.forCall tape i) (by rfl) hw) hkk hsh).mono fun e W' ⟨v,he,hp⟩=>?_
 subst he
 exact ChangeSpec.post_blind hp
end Go.Proofs.YtecnfgikbmcgoaaGreat
namespace Go.Proofs.YtecnfgikbmcgoaaGreat
open Go.RowKit
def rep (k:Nat) (mk:List Value):List Value:=(List.replicate k mk).flatten
theorem rep_len (k:Nat) (mk:List Value):(rep k mk).length=k*mk.length:=by simp [rep]
theorem rep_add (a b:Nat) (mk:List Value):rep (a+b) mk=rep a mk++rep b mk:=by
 simp only [rep];rw [← List.replicate_append_replicate,List.flatten_append]
theorem rep_one (mk:List Value):rep 1 mk=mk:=by simp [rep]
theorem rep_mem {k:Nat} {mk:List Value} {u:Value} (h:u∈rep k mk):u∈mk:=by
 simp only [rep,List.mem_flatten,List.mem_replicate] at h
 obtain ⟨l,⟨_,rfl⟩,hu⟩:=h
 exact hu
theorem rep_take {a b:Nat} (h:a≤b) (mk:List Value):(rep b mk).take (a*mk.length)=rep a mk:=by
 obtain ⟨c,rfl⟩:=Nat.exists_eq_add_of_le h
 rw [rep_add, ← rep_len,List.take_left]
theorem owns_base {w:World} {base b2:Nat} {e:TypeId} {size:Nat} {v:Value} {n:Nat} {xs:List Value} (h:w.ownsRow b2 e size v n xs) (hb:base≤b2):w.ownsRow base e size v n xs:=by
 obtain ⟨h1,h2⟩:=h
 refine ⟨h1,?_⟩
 rcases h2 with h2 | ⟨b,cap,cur,hv,hl,r⟩
 ·exact Or.inl h2
 ·exact Or.inr ⟨b,cap,cur,hv,by omega,r⟩
section
variable {P:Program} (w:World)
theorem run_append_rep (t ty:TypeId) (base:Nat) (e:TypeId) (i:TypeInfo) (z:Value) (bytes:Nat) (mk:List Value) (ht:P.underlying t=some (.slice e)) (hi:P.info? e=some i) (hz:i.zero=some z)
  (hsize:i.size=mk.length) (hby:i.bytes=bytes) (hzs:z.cells.size=mk.length) (hsz:0<mk.length)
  (v:Value) (n:Nat) (hown:w.ownsRow base e mk.length v n (rep n mk))
  (ad:Addr) (m c:Nat) (hnews:∀ j u,(rep m mk)[j]? = some u→w.cell? (ad.add j)=some u) (h1:∀ u∈mk,u.oneCell'=true)
  (h63:n+m≤maxLen) (hbytes:(n+m)*bytes≤140737488355328) (hbase:base≤w.heap.size) :
  ∃ v' w',(Builtin.append_ #[t,t] ty #[v,.slice (some ad) m c]).run P w = .ok v' w'∧w'.ownsRow base e mk.length v' (n+m) (rep (n+m) mk)∧w.grownBy w' v.ownBlock ∧
   (∀ u k,w.ownsRow base e mk.length u k (rep k mk)→w'.ownsRow base e mk.length u k (rep k mk)):=by
 have h1':∀ u∈rep m mk,u.oneCell'=true:=fun u hu=>h1 u (rep_mem hu)
 rcases hown.2 with ⟨hv,hn⟩ | ⟨g,cap,cur,hv,hb,hh,hnc,hcm,hcs,htk⟩
 ·subst hv
  obtain ⟨v',w',hr,h2,h3,_⟩:=run_append_own (P:=P) w base t ty e i z mk.length bytes ht hi hz hsize hby hzs hsz _ n _ hown ad m c (rep m mk) (rep_len _ _) hnews h1' h63 hbytes hbase
  refine ⟨v',w',hr,by rw [rep_add];exact h2,h3,fun u k hu=>owns_kept hu h3 (fun k _=>by simp [Value.ownBlock])⟩
 ·subst hv
  by_cases hroom:n+m≤cap
  ·have hfit:n*mk.length+(rep m mk).length≤cur.size:=by rw [rep_len,hcs, ← Nat.add_mul];exact Nat.mul_le_mul_right _ hroom
   have hr:=run_append_room (P:=P) w t ty e i ht hi g n cap cur hh ad m c (rep m mk) (by rw [hsize];exact rep_len _ _) hnews h1' hroom (by rw [hsize];exact hfit)
   rw [hsize] at hr
   have hcur:cur.toList.take (n*mk.length)++rep m mk=rep (n+m) mk:=by rw [htk,rep_add]
   have hlen:(rep (n+m) mk).length=n*mk.length+(rep m mk).length:=by rw [rep_len,rep_len,Nat.add_mul]
   refine ⟨_,_,hr,?_,?_,fun u k hu=>?_⟩
   ·refine ⟨rep_len _ _,Or.inr ⟨g,cap,_,rfl,hb,setRow_heap w g cur _ e _ hh,hroom,hcm,?_,?_⟩⟩
    ·simp only [List.size_toArray,List.length_append,List.length_take,List.length_drop,Array.length_toList]
     omega
    ·rw [hcur, ← rep_len];exact List.take_left
   ·exact ⟨rfl,rfl,rfl,by simp,fun k _ hk=>setRow_other w g k _ (fun e=>hk (by simp [e,Value.ownBlock]))⟩
   ·rcases hu.2 with ⟨hv,hk0⟩ | ⟨g',cap',cur',hv,hb',hh',hkc,hkm,hcs',htk'⟩
    ·exact ⟨hu.1,Or.inl ⟨hv,hk0⟩⟩
    ·by_cases hg:g'=g
     ·subst hg
      rw [hh] at hh'
      injection hh' with hh'
      injection hh' with hh' _
      subst hh'
      refine ⟨hu.1,Or.inr ⟨g',cap',_,hv,hb',setRow_heap w g' cur _ e _ hh,hkc,hkm,?_,?_⟩⟩
      ·simp only [List.size_toArray,List.length_append,List.length_take,List.length_drop,Array.length_toList]
       omega
      ·rw [hcur]
       by_cases hk:k≤n+m
       ·have hle:k*mk.length≤(rep (n+m) mk).length:=by rw [rep_len];exact Nat.mul_le_mul_right _ hk
        show ((rep (n+m) mk++_).toArray.toList).take _=_
        rw [List.toList_toArray,List.take_append_of_le_length hle,rep_take hk]
       ·have hc2:cur.toList.take ((n+m)*mk.length)=rep (n+m) mk:=by
         rw [← rep_take (show n+m≤k by omega), ← htk',List.take_take,Nat.min_eq_left (Nat.mul_le_mul_right _ (by omega))]
        have hc3:rep (n+m) mk++cur.toList.drop (n*mk.length+(rep m mk).length)=cur.toList:=by
         rw [← hlen,rep_len, ← hc2,List.take_append_drop]
        show ((rep (n+m) mk++_).toArray.toList).take _=_
        rw [List.toList_toArray,hc3,htk']
     ·refine ⟨hu.1,Or.inr ⟨g',cap',cur',hv,hb',?_,hkc,hkm,hcs',htk'⟩⟩
      rw [← hh'];exact setRow_other w g g' _ hg
  ·obtain ⟨v',w',hr,h2,h3⟩:=run_append_arg_grows (P:=P) w t ty e i z mk.length bytes ht hi hz hsize hby hzs hsz ⟨g,0,none⟩ n cap (rep n mk) hown.1 (fun j u hj=>by
     have hl:j<n*mk.length:=by rw [← rep_len];exact (List.getElem?_eq_some_iff.1 hj).1
     rw [Addr.add_lit,Nat.zero_add,World.ownsRow.cellAt hown j hl];exact hj) ad m c (rep m mk) (rep_len _ _) hnews (by omega) h63 hbytes
   refine ⟨v',w',hr,by rw [rep_add];exact owns_base h2 hbase,⟨h3.os,h3.tape,h3.output,h3.size,fun k hk _=>h3.block k hk (by simp)⟩,fun u k hu=>owns_kept hu h3 (fun k _=>by simp)⟩
theorem run_append_keep (t ty:TypeId) (base:Nat) (e:TypeId) (i:TypeInfo) (z:Value) (size bytes:Nat) (ht:P.underlying t=some (.slice e)) (hi:P.info? e=some i) (hz:i.zero=some z)
  (hsize:i.size=size) (hby:i.bytes=bytes) (hzs:z.cells.size=size) (hsz:0<size)
  (v:Value) (n:Nat) (xs:List Value) (hown:w.ownsRow base e size v n xs)
  (ad:Addr) (m c:Nat) (news:List Value) (hl:news.length=m*size) (hnews:∀ j u,news[j]? = some u→w.cell? (ad.add j)=some u) (h1:∀ u∈news,u.oneCell'=true)
  (h63:n+m≤maxLen) (hbytes:(n+m)*bytes≤140737488355328) (hbase:base≤w.heap.size) :
  ∃ v' w',(Builtin.append_ #[t,t] ty #[v,.slice (some ad) m c]).run P w = .ok v' w'∧w'.ownsRow base e size v' (n+m) (xs++news)∧w.grownBy w' v.ownBlock∧w'.ownsRow base e size v n xs:=by
 rcases hown.2 with ⟨hv,hn⟩ | ⟨g,cap,cur,hv,hb,hh,hnc,hcm,hcs,htk⟩
 ·subst hv
  obtain ⟨v',w',hr,h2,h3,_⟩:=run_append_own (P:=P) w base t ty e i z size bytes ht hi hz hsize hby hzs hsz _ n _ hown ad m c news hl hnews h1 h63 hbytes hbase
  exact ⟨v',w',hr,h2,h3,owns_kept hown h3 (fun k _=>by simp [Value.ownBlock])⟩
 ·subst hv
  by_cases hroom:n+m≤cap
  ·obtain ⟨w',hr,h2,h3⟩:=run_append_fits (P:=P) w base t ty e i size ht hi hsize g n cap _ hown ad m c news hl hnews h1 hroom
   refine ⟨_,w',hr,h2,h3,hown.1,?_⟩
   rcases h2.2 with ⟨hv,_⟩ | ⟨g',cap',cur',hv,hb',hh',_,hm',hs',ht'⟩
   ·cases hv
   ·simp only [Value.slice.injEq,Option.some.injEq,Addr.mk.injEq,and_true,true_and] at hv
    obtain ⟨rfl,rfl⟩:=hv
    refine Or.inr ⟨g,cap,cur',rfl,hb',hh',hnc,hm',hs',?_⟩
    have h5:(cur'.toList.take ((n+m)*size)).take (n*size)=(xs++news).take (n*size):=by rw [ht']
    rw [List.take_take,Nat.min_eq_left (Nat.mul_le_mul_right _ (by omega)), ← hown.1,List.take_left,hown.1] at h5
    exact h5
  ·obtain ⟨v',w',hr,h2,h3⟩:=run_append_arg_grows (P:=P) w t ty e i z size bytes ht hi hz hsize hby hzs hsz ⟨g,0,none⟩ n cap xs hown.1 (fun j u hj=>by
     have hl':j<n*size:=by rw [← hown.1];exact (List.getElem?_eq_some_iff.1 hj).1
     rw [Addr.add_lit,Nat.zero_add,World.ownsRow.cellAt hown j hl'];exact hj) ad m c news hl hnews (by omega) h63 hbytes
   exact ⟨v',w',hr,owns_base h2 hbase,⟨h3.os,h3.tape,h3.output,h3.size,fun k hk _=>h3.block k hk (by simp)⟩,owns_kept hown h3 (fun k _=>by simp)⟩
theorem wp_append_rep {o:Oper} {a:Act} {K:Act→World→Prop} {Q:Exit→Act→World→Prop} (s x:Operand) (t:TypeId)
  (ho:o.op = .call { callee:=.builtin .append,args:=#[s,x],argTypes:=#[t,t] })
  (base:Nat) (e:TypeId) (i:TypeInfo) (z:Value) (bytes:Nat) (mk:List Value) (ht:P.underlying t=some (.slice e)) (hi:P.info? e=some i) (hz:i.zero=some z)
  (hsize:i.size=mk.length) (hby:i.bytes=bytes) (hzs:z.cells.size=mk.length) (hsz:0<mk.length)
  (v:Value) (n:Nat) (hs:a.eval s=v) (hown:w.ownsRow base e mk.length v n (rep n mk))
  (ad:Addr) (m c:Nat) (hx:a.eval x = .slice (some ad) m c) (hnews:∀ j u,(rep m mk)[j]? = some u→w.cell? (ad.add j)=some u) (h1:∀ u∈mk,u.oneCell'=true)
  (h63:n+m≤maxLen) (hbytes:(n+m)*bytes≤140737488355328) (hbase:base≤w.heap.size)
  (h:∀ v' w',w'.ownsRow base e mk.length v' (n+m) (rep (n+m) mk)→w.grownBy w' v.ownBlock→(∀ u k,w.ownsRow base e mk.length u k (rep k mk)→w'.ownsRow base e mk.length u k (rep k mk))→K (a.put o.dst v') w'):o.wp P a w K Q:=by
 obtain ⟨v',w',hr,h2,h3,h4⟩:=run_append_rep (P:=P) w t o.type base e i z bytes mk ht hi hz hsize hby hzs hsz v n hown ad m c hnews h1 h63 hbytes hbase
 unfold Oper.wp execOp
 simp only [ho,resolve,invoke,builtin,Sem.run_bind,Sem.run_pure,Result.andThen_ok,List.map_toArray,List.map_cons,List.map_nil,hs,hx,hr]
 exact h v' w' h2 h3 h4
end
structure Kv (ts:List TypeId) (own:Option Nat) (base:Nat) (w w':World):Prop where
 be:Below base w w'
 kp:∀ (k:Nat) (cs:Array Value) (t:TypeId) (fr:Nat × Nat),w.heap[k]? = some (.cells cs t fr) → ¬ t∈ts→own≠some k→w'.heap[k]? = some (.cells cs t fr)
theorem Kv.trans {ts:List TypeId} {own:Option Nat} {base:Nat} {a b c:World} (h:Kv ts own base a b) (k:Kv ts own base b c):Kv ts own base a c :=
 ⟨Below.trans h.be k.be,fun i cs t fr hi ht ho=>k.kp i cs t fr (h.kp i cs t fr hi ht ho) ht ho⟩
theorem Kv.gr {ts:List TypeId} {own:Option Nat} {base:Nat} {a b:World} (g:Gr a b) (hb:base≤a.heap.size):Kv ts own base a b :=
 ⟨Below.mono g hb,fun _ _ _ _ hi _ _=>blk_gr g hi⟩
theorem Kv.wide {ts us:List TypeId} {own:Option Nat} {base:Nat} {a b:World} (h:Kv ts own base a b) (hs:∀ t∈ts,t∈us):Kv us own base a b :=
 ⟨h.be,fun i cs t fr hi ht ho=>h.kp i cs t fr hi (fun hm=>ht (hs t hm)) ho⟩
theorem Kv.size {ts:List TypeId} {own:Option Nat} {base:Nat} {a b:World} (h:Kv ts own base a b):a.heap.size≤b.heap.size:=h.be.size
theorem Kv.owns {ts:List TypeId} {own:Option Nat} {base b2:Nat} {w w':World} {e:TypeId} {size:Nat} {v:Value} {n:Nat} {xs:List Value} (k:Kv ts own base w w') (h:w.ownsRow b2 e size v n xs) (he:¬ e∈ts) (ho:∀ q,v.ownBlock=some q→own≠some q):w'.ownsRow b2 e size v n xs:=by
 obtain ⟨h1,h2⟩:=h
 refine ⟨h1,?_⟩
 rcases h2 with h2 | ⟨b,cap,cur,hv,hb,hh,r⟩
 ·exact Or.inl h2
 ·exact Or.inr ⟨b,cap,cur,hv,hb,k.kp _ _ _ _ hh he (ho b (by rw [hv];rfl)),r⟩
structure KI (T TS:TypeId) (own:Option Nat) (base:Nat) (w wr:World) (mk:List Value) (n:Nat) (v vi:Value) (ls:List Value) (us:List (Value × Nat)):Prop where
 fr:Kv [TS] own 0 w wr
 le:base≤wr.heap.size
 nl:∀ z,z<w.heap.size→own≠some z→vi.ownBlock≠some z→wr.heap[z]? = w.heap[z]?
 v0:wr.ownsRow base T mk.length v n (rep n mk)
 vi:wr.ownsRow 0 TS 1 vi ls.length ls
 us:∀ p∈us,wr.ownsRow base T mk.length p.1 p.2 (rep p.2 mk)
theorem KI.gr {T TS:TypeId} {own:Option Nat} {base:Nat} {w wr wn:World} {mk:List Value} {n:Nat} {v vi:Value} {ls:List Value} {us:List (Value × Nat)} (h:KI T TS own base w wr mk n v vi ls us) (g:Gr wr wn):KI T TS own base w wn mk n v vi ls us :=
 ⟨h.fr.trans (Kv.gr g (Nat.zero_le _)),Nat.le_trans h.le g.size,fun z hz a b=>(g.block z (Nat.lt_of_lt_of_le hz h.fr.size)).trans (h.nl z hz a b),ownsGr h.v0 g,ownsGr h.vi g,fun p hp=>ownsGr (h.us p hp) g⟩
theorem KI.drew {T TS:TypeId} {own:Option Nat} {base:Nat} {w wr:World} {mk:List Value} {n:Nat} {v vi:Value} {ls:List Value} {us:List (Value × Nat)} (h:KI T TS own base w wr mk n v vi ls us):KI T TS own base w wr.drew mk n v vi ls us:=h.gr (Gr.refl _).drew
theorem KI.app {T TS:TypeId} {own:Option Nat} {base:Nat} {w wr wn:World} {mk:List Value} {n m:Nat} {v vi v':Value} {ls:List Value} {us:List (Value × Nat)} (h:KI T TS own base w wr mk n v vi ls us) (hts:TS≠T) (hv:v.ownBlock=own)
  (h2:wn.ownsRow base T mk.length v' (n+m) (rep (n+m) mk)) (h3:wr.grownBy wn v.ownBlock) (h4:∀ u k,k≤n+m→wr.ownsRow base T mk.length u k (rep k mk)→wn.ownsRow base T mk.length u k (rep k mk)) (hus:∀ p∈us,p.2≤n+m) :
  KI T TS own base w wn mk n v vi ls (us++[(v',n+m)]):=by
 have hk:Kv [TS] own 0 wr wn:=⟨Below.grown (Below.refl _ _) h3 (Nat.zero_le _) (fun _ _=>Nat.zero_le _),fun k cs t fr hk _ ho=>grown_block h3 hk (by rw [hv];exact ho)⟩
 refine ⟨h.fr.trans hk,Nat.le_trans h.le h3.size,fun z hz a b=>(h3.block z (Nat.lt_of_lt_of_le hz h.fr.size) (fun e=>a (by rw [← hv];exact e.symm))).trans (h.nl z hz a b),h4 _ _ (by omega) h.v0,owns_kept h.vi h3 (own_apart h.v0 h.vi hts),fun p hp=>?_⟩
 rcases List.mem_append.mp hp with hp | hp
 ·exact h4 _ _ (hus p hp) (h.us p hp)
 ·simp only [List.mem_singleton] at hp;subst hp;exact h2
theorem blk_ne' {w:World} {i k:Nat} {cs cs':Array Value} {t t':TypeId} {fr fr':Nat × Nat} (h:w.heap[i]? = some (.cells cs t fr)) (h':w.heap[k]? = some (.cells cs' t' fr')) (hn:t≠t'):i≠k:=by
 intro he;subst he;rw [h] at h';injection h' with h';injection h' with _ h';exact hn h'
structure Kept (T TS:TypeId) (own:Option Nat) (base:Nat) (w w':World) (mk:List Value) (n:Nat) (v vi':Value) (ls us:List Value):Prop where
 fr:Kv [TS,89] own 0 w w'
 vi:w'.ownsRow 0 TS 1 vi' us.length us
 ex:∃ v1 v2 v3,us=ls++[v,v1,v2,v3]∧w'.ownsRow base T mk.length v n (rep n mk)∧w'.ownsRow base T mk.length v1 (n+1) (rep (n+1) mk)∧w'.ownsRow base T mk.length v2 (n+2) (rep (n+2) mk)∧w'.ownsRow base T mk.length v3 (n+3) (rep (n+3) mk)
theorem KI.box {T TS:TypeId} {own:Option Nat} {base:Nat} {w wr:World} {mk:List Value} {n:Nat} {v vi:Value} {ls:List Value} {us:List (Value × Nat)} {BB:Nat} {bx:Array Value} (h:KI T TS own base w wr mk n v vi ls us) (hbx:w.heap[BB]? = some (.cells bx 89 (0,0))) (h1:TS≠89) (h2:own≠some BB):wr.heap[BB]? = some (.cells bx 89 (0,0)) :=
 h.fr.kp _ _ _ _ hbx (by simp;exact fun e=>h1 e.symm) h2
structure Gk (T TS:TypeId) (own:Option Nat) (base:Nat) (w:World) (mk:List Value) (n:Nat) (v vi:Value) (ls:List Value) (strict:Prop) (wa wb:World):Prop where
 mks:∀ u k,wa.ownsRow base T mk.length u k (rep k mk)→wb.ownsRow base T mk.length u k (rep k mk)
 bl:∀ (k:Nat) (cs:Array Value) (t:TypeId) (fr:Nat × Nat),wa.heap[k]? = some (.cells cs t fr)→own≠some k→vi.ownBlock≠some k→wb.heap[k]? = some (.cells cs t fr)
 ki:KI T TS own base w wa mk n v vi ls []→KI T TS own base w wb mk n v vi ls []
 ts:strict → ∀ u k xs,wa.ownsRow 0 TS 1 u k xs→wb.ownsRow 0 TS 1 u k xs
theorem Gk.gr {T TS:TypeId} {own:Option Nat} {base:Nat} {w:World} {mk:List Value} {n:Nat} {v vi:Value} {ls:List Value} {s:Prop} {wa wb:World} (g:Gr wa wb):Gk T TS own base w mk n v vi ls s wa wb :=
 ⟨fun _ _ h=>ownsGr h g,fun _ _ _ _ h _ _=>blk_gr g h,fun h=>h.gr g,fun _ _ _ _ h=>ownsGr h g⟩
theorem Gk.app {T TS:TypeId} {own:Option Nat} {base:Nat} {w:World} {mk:List Value} {n m:Nat} {v vi v':Value} {ls:List Value} {s:Prop} {wa wb:World} (hts:TS≠T) (hv:v.ownBlock=own) (h0:wa.ownsRow base T mk.length v n (rep n mk))
  (h2:wb.ownsRow base T mk.length v' (n+m) (rep (n+m) mk)) (h3:wa.grownBy wb v.ownBlock) (h4:∀ u k,wa.ownsRow base T mk.length u k (rep k mk)→wb.ownsRow base T mk.length u k (rep k mk)):Gk T TS own base w mk n v vi ls s wa wb:=by
 refine ⟨h4,fun k cs t fr hk ho _=>grown_block h3 hk (by rw [hv];exact ho),fun h=>?_,fun _ u k xs h=>owns_kept h h3 (own_apart h0 h hts)⟩
 have:=h.app hts hv h2 h3 (fun u k _=>h4 u k) (by simp)
 exact ⟨this.fr,this.le,this.nl,this.v0,this.vi,by simp⟩
theorem Gk.app4 {T TS:TypeId} {own:Option Nat} {base:Nat} {w:World} {mk:List Value} {n:Nat} {v vi:Value} {ls:List Value} {wa wb:World} (hts:T≠TS) (hvi:wa.ownsRow 0 TS 1 vi ls.length ls)
  (h2:wb.ownsRow 0 TS 1 vi ls.length ls) (h3:wa.grownBy wb vi.ownBlock):Gk T TS own base w mk n v vi ls False wa wb:=by
 refine ⟨fun u k h=>owns_kept h h3 (own_apart hvi h hts),fun k cs t fr hk _ ho=>grown_block h3 hk ho,fun h=>?_,fun h=>h.elim⟩
 refine ⟨h.fr.trans ⟨Below.grown (Below.refl _ _) h3 (Nat.zero_le _) (fun _ _=>Nat.zero_le _),fun k cs t fr hk ht _=>grown_block h3 hk (own_ne hvi hk (fun e=>ht (by simp [e])))⟩,Nat.le_trans h.le h3.size,fun z hz a b=>(h3.block z (Nat.lt_of_lt_of_le hz h.fr.size) (fun e=>b e.symm)).trans (h.nl z hz a b),owns_kept h.v0 h3 (own_apart hvi h.v0 hts),h2,by simp⟩
def NewB (own:Option Nat) (vi:Value) (T:TypeId) (k:Nat) (cs:Array Value) (x:Value) (w:World):Prop:=∃ B,x = .slice (some ⟨B,0,none⟩) k k∧own≠some B∧vi.ownBlock≠some B∧w.heap[B]? = some (.cells cs T (0,0))
def Mk (T:TypeId) (base:Nat) (mk:List Value) (k:Nat) (x:Value) (w:World):Prop:=(∃ b m q,x = .slice b m q)∧w.ownsRow base T mk.length x k (rep k mk)
theorem NewB.gd {T TS T':TypeId} {own:Option Nat} {base:Nat} {w:World} {mk:List Value} {n k:Nat} {v vi x:Value} {ls:List Value} {cs:Array Value} {s:Prop} {wa wb:World} (h:NewB own vi T' k cs x wa) (g:Gk T TS own base w mk n v vi ls s wa wb):NewB own vi T' k cs x wb:=by
 obtain ⟨B,h1,h2,h3,h4⟩:=h
 exact ⟨B,h1,h2,h3,g.bl _ _ _ _ h4 h2 h3⟩
theorem Mk.gd {T TS:TypeId} {own:Option Nat} {base:Nat} {w:World} {mk:List Value} {n k:Nat} {v vi x:Value} {ls:List Value} {s:Prop} {wa wb:World} (h:Mk T base mk k x wa) (g:Gk T TS own base w mk n v vi ls s wa wb):Mk T base mk k x wb:=⟨h.1,g.mks _ _ h.2⟩
theorem NewB.alloc {T TS T':TypeId} {own:Option Nat} {base:Nat} {w wr:World} {mk:List Value} {n k:Nat} {v vi:Value} {ls:List Value} {cs:Array Value} (h:KI T TS own base w wr mk n v vi ls []) (hv:v.ownBlock=own):NewB own vi T' k cs (.slice (some ⟨wr.heap.size,0,none⟩) k k) (wr.alloc (.cells cs T')):=by
 refine ⟨wr.heap.size,rfl,fun he=>?_,fun he=>?_,heap_alloc_new _ _⟩
 ·rcases h.v0.2 with ⟨hx,_⟩ | ⟨g,cap,cur,hx,_,hh,_⟩
  ·rw [hx] at hv;rw [← hv] at he;simp [Value.ownBlock] at he
  ·rw [hx] at hv;rw [← hv] at he
   have:g=wr.heap.size:=by simpa [Value.ownBlock] using he
   have:=blk_lt hh;omega
 ·rcases h.vi.2 with ⟨hx,_⟩ | ⟨g,cap,cur,hx,_,hh,_⟩
  ·rw [hx] at he;simp [Value.ownBlock] at he
  ·rw [hx] at he
   have:g=wr.heap.size:=by simpa [Value.ownBlock] using he
   have:=blk_lt hh;omega
def Four (T TS:TypeId) (base:Nat) (mk:List Value) (n:Nat) (v:Value) (own:Option Nat) (vi x:Value) (w:World):Prop :=
 ∃ v1 v2 v3,NewB own vi TS 4 #[v,v1,v2,v3] x w∧Mk T base mk (n+1) v1 w∧Mk T base mk (n+2) v2 w∧Mk T base mk (n+3) v3 w
def Done (T TS:TypeId) (base:Nat) (mk:List Value) (n:Nat) (v vi:Value) (ls:List Value) (x:Value) (w:World):Prop :=
 ((∃ b m q,x = .slice b m q) ∧ ∀ q,x.ownBlock=some q→vi.ownBlock=some q∨base≤q) ∧ ∃ v1 v2 v3,w.ownsRow 0 TS 1 x (ls.length+4) (ls++[v,v1,v2,v3])∧Mk T base mk (n+1) v1 w∧Mk T base mk (n+2) v2 w∧Mk T base mk (n+3) v3 w
theorem Four.gd {T TS:TypeId} {own:Option Nat} {base:Nat} {w:World} {mk:List Value} {n:Nat} {v vi x:Value} {ls:List Value} {s:Prop} {wa wb:World} (h:Four T TS base mk n v own vi x wa) (g:Gk T TS own base w mk n v vi ls s wa wb):Four T TS base mk n v own vi x wb:=by
 obtain ⟨v1,v2,v3,h0,h1,h2,h3⟩:=h
 exact ⟨v1,v2,v3,h0.gd g,h1.gd g,h2.gd g,h3.gd g⟩
theorem Done.gd {T TS:TypeId} {own:Option Nat} {base:Nat} {w:World} {mk:List Value} {n:Nat} {v vi x:Value} {ls:List Value} {s:Prop} {wa wb:World} (h:Done T TS base mk n v vi ls x wa) (g:Gk T TS own base w mk n v vi ls s wa wb) (hs:s):Done T TS base mk n v vi ls x wb:=by
 obtain ⟨h',v1,v2,v3,h0,h1,h2,h3⟩:=h
 exact ⟨h',v1,v2,v3,g.ts hs _ _ _ h0,h1.gd g,h2.gd g,h3.gd g⟩
theorem Done.kept {T TS:TypeId} {own:Option Nat} {base:Nat} {w wr:World} {mk:List Value} {n:Nat} {v vi x:Value} {ls:List Value} {BB j:Nat} {bx:Array Value} (h:Done T TS base mk n v vi ls x wr) (k:KI T TS own base w wr mk n v vi ls []) (hbx:w.heap[BB]? = some (.cells bx 89 (0,0)))
  (h1:TS≠89) (h2:own≠some BB) (h4:T≠89):(∃ us,Kept T TS own base w (wr.setCell ⟨BB,j,none⟩ x) mk n v x ls us) ∧ ∀ z,z<w.heap.size→own≠some z→vi.ownBlock≠some z→z≠BB→(wr.setCell ⟨BB,j,none⟩ x).heap[z]? = w.heap[z]? := by
 obtain ⟨_,v1,v2,v3,h0,m1,m2,m3⟩:=h
 have hb2:=k.box hbx h1 h2
 have kp:∀ {u:Value} {q:Nat},wr.ownsRow base T mk.length u q (rep q mk)→(wr.setCell ⟨BB,j,none⟩ x).ownsRow base T mk.length u q (rep q mk):=fun hu=>owns_set hu hb2 (fun e=>h4 e.symm) _
 refine ⟨⟨ls++[v,v1,v2,v3],?_,?_,v1,v2,v3,rfl,kp k.v0,kp m1.2,kp m2.2,kp m3.2⟩,fun z hz a b c=>(Below.heap_setCell wr ⟨BB,j,none⟩ x z c).trans (k.nl z hz a b)⟩
 ·refine (k.fr.wide (by simp)).trans ⟨Below.setCell (Below.refl _ _) (p:=⟨BB,j,none⟩) (Nat.zero_le _) _,?_⟩
  intro q cs t fr hk ht _
  simp only [List.mem_cons,List.not_mem_nil,or_false,not_or] at ht
  exact blk_set hk (p:=⟨BB,j,none⟩) (blk_ne' hk hb2 ht.2) _
 ·have e:(ls++[v,v1,v2,v3]).length=ls.length+4:=by simp
  rw [e]
  exact owns_set h0 hb2 (fun e=>h1 e.symm) _
end Go.Proofs.YtecnfgikbmcgoaaGreat
namespace Go.Proofs.YtecnfgikbmcgoaaGreat
open Go.RowKit
open Go.Maps (Keyed)
theorem Tryz.infoIntQ:(Tryz.prog.info? 3).map (fun i=>(i.zero,i.size,i.bytes))=some (some (.int .i64 0),1,8):=by kernel_rfl
theorem Tryz.zeroQ (w:World):(zeroValue 129).run Tryz.prog w = .ok (.slice none 0 0) w:=Tryz.zeroValue129 w
set_option maxRecDepth 100000 in
set_option maxHeartbeats 4000000 in
theorem hasLink_any (TB LB:Nat) (k:Ky) (m:List (Value × Value)) (es:Array MapEntry) (clock:Nat) (r:Bool) (w:World) (h1:I64 k.1) (h2:I64 k.2)
  (c2:w.cell? ⟨TB,2,none⟩=some (.map (some LB))) (hm:Mp Tryz.prog 81 w LB m es clock) (hr:r=true ↔ ∃ v,(pk k,v)∈m) :
  Calls Tryz.prog 40 #[.pointer (some ⟨TB,0,none⟩),.int .i64 k.1,.int .i64 k.2] w fun e w'=>e = .returned (.bool r)∧w'=w:=by
 obtain ⟨l,hk⟩:=keyE k h1 h2
 cases r with
 | true =>
  obtain ⟨v,hv⟩:=hr.1 rfl
  have hlk:=Mp.look_yes Tryz.keyedE Tryz.underlying117 hm hk hv true
  unfold pk at hlk
  clear hm hr hv hk h1 h2
  go_enter Tryz.func40,Tryz.ntmps40
  go_wp2_with fail
  go_ret
  exact ⟨rfl,rfl⟩
 | false =>
  have hno:∀ v,(pk k,v) ∉ m:=fun v hv=>by have:=hr.2 ⟨v,hv⟩;cases this
  have hlk:=Mp.look_no Tryz.keyedE Tryz.underlying117 hm hk hno Tryz.zeroQ true
  unfold pk at hlk
  clear hm hr hno hk h1 h2
  go_enter Tryz.func40,Tryz.ntmps40
  go_wp2_with fail
  go_ret
  exact ⟨rfl,rfl⟩
def nbs (adj:Nat→Nat→Bool) (nb b:Nat) (k:Nat):List Nat:=(List.range k).filter fun n=>n<nb&&adj b n
theorem nbs_yes {adj:Nat→Nat→Bool} {nb b k:Nat} (hk:k<nb) (h:adj b k=true):nbs adj nb b (k+1)=nbs adj nb b k++[k]:=by
 simp [nbs,List.range_succ,List.filter_append,hk,h]
theorem nbs_no {adj:Nat→Nat→Bool} {nb b k:Nat} (h:adj b k=false):nbs adj nb b (k+1)=nbs adj nb b k:=by
 simp [nbs,List.range_succ,List.filter_append,h]
theorem nbs_le (adj:Nat→Nat→Bool) (nb b k:Nat):(nbs adj nb b k).length≤k:=by
 have:=List.length_filter_le (fun n=>decide (n<nb)&&adj b n) (List.range k)
 simpa [nbs] using this
structure Lk (adj:Nat→Nat→Bool) (nb:Nat) (m:List (Value × Value)):Prop where
 iff:∀ a b:Nat,a<nb→b<nb→(adj a b=true ↔ ∃ v,(pk ((a:Int),(b:Int)),v)∈m)
set_option maxRecDepth 100000 in
set_option maxHeartbeats 4000000 in
theorem neighbours_any (TB LB HB hoff nb hcap b:Nat) (adj:Nat→Nat→Bool) (m:List (Value × Value)) (es:Array MapEntry) (clock:Nat) (w:World) (hnb:nb≤8) (hb:b<nb)
  (c0:w.cell? ⟨TB,0,none⟩=some (.slice (some ⟨HB,hoff,none⟩) nb hcap)) (c2:w.cell? ⟨TB,2,none⟩=some (.map (some LB))) (hTB:TB<w.heap.size) (hm:Mp Tryz.prog 81 w LB m es clock) (hl:Lk adj nb m) :
  Calls Tryz.prog 43 #[.pointer (some ⟨TB,0,none⟩),.int .i64 b] w fun e w'=>∃ v,e = .returned v∧w'.ownsRow w.heap.size 3 1 v (nbs adj nb b nb).length (ints (nbs adj nb b nb))∧Gr w w':=by
 obtain ⟨i0,hi,hz0,hz1,hz2⟩:=info_parts Tryz.infoIntQ
 have HM:=Hid.mk' hm
 have HL:=Hid.mk' hl
 clear hm hl
 go_enter Tryz.func43,Tryz.ntmps43
 go_wp2_with fail
 go_loopw [5,12] (fun v i wr=>∃ q:Nat,q≤nb∧i = .int .i64 q∧Hid (Gr w wr)∧Hid (wr.ownsRow w.heap.size 3 1 v (nbs adj nb b q).length (ints (nbs adj nb b q)))) (fun _ i _=>nb - (intOf i).toNat)
 case atStart=>exact ⟨0,Nat.zero_le _,rfl,Gr.refl _,World.ownsRow_nil _ _ _ _⟩
 case round =>
  obtain ⟨q,hq,rfl,G,O⟩:=hrel
  obtain ⟨va,vm,vk,rfl⟩:=owns_slice O.out
  have c2':wr.cell? ⟨TB,2,none⟩=some (.map (some LB)):=(G.out.cell (p:=⟨TB,2,none⟩) hTB).trans c2
  clear c0 c2
  have hlen:=nbs_le adj nb b q
  by_cases hlt:q<nb
  ·have hM':=HM.out.kept (G.out.block LB HM.out.lt)
   have hI:I64 ((b:Int)):=⟨by omega,by omega⟩
   have hJ:I64 ((q:Int)):=⟨by omega,by omega⟩
   have HC:=Hid.mk' (hasLink_any TB LB ((b:Int),(q:Int)) m es clock (adj b q) wr hI hJ c2' hM' (HL.out.iff b q hb hlt))
   clear hM' hI hJ
   cases ha:adj b q with
   | true =>
    rw [ha] at HC
    go_wp2_with fail
    refine HC.out.mono ?_
    rintro e w1 ⟨rfl,hw⟩
    have hw':=hw.symm
    clear hw
    subst hw'
    go_wp2_with (at_builtin;refine wpList_append_own _ rfl _ _ 27 rfl w.heap.size 3 i0 (.int .i64 0) 1 8 Tryz.underlying27 hi hz0 hz1 hz2 rfl (by decide) _ _ _ rfl (O.out.alloc _) ⟨wr.heap.size,0,none⟩ 1 1 [.int .i64 q] rfl rfl (cell_one_new _ _ _) ?k2 ?k3 ?k4 ?k5 ?_)
    case k2=>intro t ht;simp at ht;subst ht;rfl
    case k3=>unfold maxLen;omega
    case k4=>omega
    case k5=>have:=G.out.size;simp;omega
    intro v5 w5 ho5 hg5 _
    have G5:Hid (Gr w w5):=Below.grown (G.out.alloc _) hg5 (Nat.le_trans G.out.size (by simp)) (own_low O.out)
    have O5:Hid (w5.ownsRow w.heap.size 3 1 v5 (nbs adj nb b (q+1)).length (ints (nbs adj nb b (q+1)))):=by
     show World.ownsRow _ _ _ _ _ _ _
     rw [nbs_yes hlt ha,List.length_append,ints_snoc];exact ho5
    obtain ⟨ya,ym,yk,rfl⟩:=owns_slice ho5
    clear ho5 hg5 O G
    go_wp2_with fail
    go_roundw
    case rel=>exact ⟨q+1,by omega,by go_num,G5,O5⟩
    case measure=>simp [intOf];omega
   | false =>
    rw [ha] at HC
    go_wp2_with fail
    refine HC.out.mono ?_
    rintro e w1 ⟨rfl,hw⟩
    have hw':=hw.symm
    clear hw
    subst hw'
    have O5:Hid (wr.ownsRow w.heap.size 3 1 (.slice va vm vk) (nbs adj nb b (q+1)).length (ints (nbs adj nb b (q+1)))):=by
     show World.ownsRow _ _ _ _ _ _ _
     rw [nbs_no ha];exact O.out
    go_wp2_with fail
    go_roundw
    case rel=>exact ⟨q+1,by omega,by go_num,G,O5⟩
    case measure=>simp [intOf];omega
  ·have hqn:q=nb:=by omega
   subst hqn
   go_wp2_with fail
   go_ret
   exact ⟨_,rfl,O.out,G.out⟩
end Go.Proofs.YtecnfgikbmcgoaaGreat
namespace Go.Proofs.YtecnfgikbmcgoaaGreat
section
variable {F E:Type}
inductive Ms (F E:Type) where
 | sub (k:Ky) (f:F)
 | uns (k:Ky)
 | ev (e:E)
abbrev Rl' (F:Type):=Ky→F→Prop
def ap1:Ms F E→Rl' F→Rl' F
 | .sub k f,R=>fun k' f'=>(k'=k∧f'=f)∨(k'≠k∧R k' f')
 | .uns k,R=>fun k' f'=>k'≠k∧R k' f'
 | .ev _,R=>R
def ap:List (Ms F E)→Rl' F→Rl' F
 | [],R=>R
 | m::r,R=>ap r (ap1 m R)
theorem ap_append (p q:List (Ms F E)) (R:Rl' F):ap (p++q) R=ap q (ap p R):=by
 induction p generalizing R with
 | nil=>rfl
 | cons m r ih=>exact ih _
def wf:List (Ms F E)→Rl' F→Prop
 | [],_=>True
 | .sub k f::r,R=>(∀ f',¬ R k f')∧wf r (ap1 (.sub k f:Ms F E) R)
 | .uns k::r,R=>(∃ f',R k f')∧wf r (ap1 (.uns k:Ms F E) R)
 | .ev _::r,R=>wf r R
theorem wf_append (p q:List (Ms F E)) (R:Rl' F):wf (p++q) R↔wf p R∧wf q (ap p R):=by
 induction p generalizing R with
 | nil=>simp [wf,ap]
 | cons m r ih =>
  cases m with
  | sub k f=>simp only [List.cons_append,wf,ap,ih];exact and_assoc.symm
  | uns k=>simp only [List.cons_append,wf,ap,ih];exact and_assoc.symm
  | ev e=>simp only [List.cons_append,wf,ap,ih,ap1]
def rl (l:List (Hd F)):Rl' F:=fun k f=>∃ h∈l,h.key=k∧h.f=f
def hfr (l:List (Hd F)) (a:Int):Rl' F:=fun k f=>∃ h∈l,h.fr=a∧h.key=k∧h.f=f
variable (cov:F→F→Bool)
def hasK (l:List (Hd F)) (k:Ky):Bool:=l.any fun g=>g.key==k
theorem hasK_iff {l:List (Hd F)} {k:Ky}:hasK l k=true ↔ ∃ g∈l,g.key=k:=by simp [hasK]
theorem hasK_no {l:List (Hd F)} {k:Ky}:hasK l k=false ↔ ∀ g∈l,g.key≠k:=by simp [hasK]
def newT (l l':List (Hd F)) (n:Int):List (Hd F):=(told cov l' n).filter fun h => !(hasK (told cov l n) h.key)
def goneT (l l':List (Hd F)) (n:Int):List (Hd F):=(told cov l n).filter fun h => !(hasK (told cov l' n) h.key)
def subs (xs:List (Hd F)):List (Ms F E):=xs.map fun h=>.sub h.key h.f
def unss (xs:List (Hd F)):List (Ms F E):=xs.map fun h=>.uns h.key
def chg (l l':List (Hd F)) (n:Int):List (Ms F E):=subs (newT cov l l' n)++unss (goneT cov l l' n)
variable {cov}
theorem Srt.newT {l l':List (Hd F)} (hs:Srt l') (n:Int):Srt (newT cov l l' n):=(hs.told cov n).filter _
theorem Srt.goneT {l l':List (Hd F)} (hs:Srt l) (n:Int):Srt (goneT cov l l' n):=(hs.told cov n).filter _
theorem ap_subs {xs:List (Hd F)} (hs:Srt xs) (R:Rl' F) (k:Ky) (f:F):ap (subs xs:List (Ms F E)) R k f↔rl xs k f∨((∀ h∈xs,h.key≠k)∧R k f):=by
 induction xs generalizing R with
 | nil=>simp [subs,ap,rl]
 | cons x t ih =>
  have hp:=List.pairwise_cons.1 hs
  show ap (subs t:List (Ms F E)) (ap1 (.sub x.key x.f:Ms F E) R) k f↔_
  rw [ih hp.2]
  simp only [ap1,rl,List.mem_cons]
  constructor
  ·rintro (⟨h,h1,h2⟩ | ⟨h1,⟨rfl,rfl⟩ | ⟨h2,h3⟩⟩)
   ·exact Or.inl ⟨h,Or.inr h1,h2⟩
   ·exact Or.inl ⟨x,Or.inl rfl,rfl,rfl⟩
   ·refine Or.inr ⟨fun h hh=>?_,h3⟩
    rcases hh with rfl | hh
    ·exact fun e=>h2 e.symm
    ·exact h1 h hh
  ·rintro (⟨h,rfl | h1,h2,h3⟩ | ⟨h1,h2⟩)
   ·refine Or.inr ⟨fun g hg e=>?_,Or.inl ⟨h2.symm,h3.symm⟩⟩
    have:=hp.1 g hg
    rw [e,h2,klt_irr] at this;cases this
   ·exact Or.inl ⟨h,h1,h2,h3⟩
   ·exact Or.inr ⟨fun h hh=>h1 h (Or.inr hh),Or.inr ⟨fun e=>h1 x (Or.inl rfl) e.symm,h2⟩⟩
theorem ap_unss (xs:List (Hd F)) (R:Rl' F) (k:Ky) (f:F):ap (unss xs:List (Ms F E)) R k f↔(∀ h∈xs,h.key≠k)∧R k f:=by
 induction xs generalizing R with
 | nil=>simp [unss,ap]
 | cons x t ih =>
  show ap (unss t:List (Ms F E)) (ap1 (.uns x.key:Ms F E) R) k f↔_
  rw [ih]
  simp only [ap1,List.mem_cons]
  constructor
  ·rintro ⟨h1,h2,h3⟩
   refine ⟨fun h hh=>?_,h3⟩
   rcases hh with rfl | hh
   ·exact fun e=>h2 e.symm
   ·exact h1 h hh
  ·rintro ⟨h1,h2⟩
   exact ⟨fun h hh=>h1 h (Or.inr hh),fun e=>h1 x (Or.inl rfl) e.symm,h2⟩
theorem wf_subs {xs:List (Hd F)} (hs:Srt xs) (R:Rl' F) (h:∀ x∈xs,∀ f,¬ R x.key f):wf (subs xs:List (Ms F E)) R:=by
 induction xs generalizing R with
 | nil=>trivial
 | cons x t ih =>
  have hp:=List.pairwise_cons.1 hs
  refine ⟨h x (by simp),ih hp.2 _ (fun y hy f hr=>?_)⟩
  rcases hr with ⟨e,_⟩ | ⟨_,hr⟩
  ·have:=hp.1 y hy;rw [e,klt_irr] at this;cases this
  ·exact h y (by simp [hy]) f hr
theorem wf_unss {xs:List (Hd F)} (hs:Srt xs) (R:Rl' F) (h:∀ x∈xs,∃ f,R x.key f):wf (unss xs:List (Ms F E)) R:=by
 induction xs generalizing R with
 | nil=>trivial
 | cons x t ih =>
  have hp:=List.pairwise_cons.1 hs
  refine ⟨h x (by simp),ih hp.2 _ (fun y hy=>?_)⟩
  obtain ⟨f,hf⟩:=h y (by simp [hy])
  refine ⟨f,fun e=>?_,hf⟩
  have:=hp.1 y hy;rw [e,klt_irr] at this;cases this
def Same (l l':List (Hd F)):Prop:=∀ x∈l,∀ y∈l',x.key=y.key→x.f=y.f
theorem ap_chg {l l':List (Hd F)} (hs':Srt l') (hsm:Same l l') (n:Int):ap (chg cov l l' n:List (Ms F E)) (rl (told cov l n))=rl (told cov l' n):=by
 funext k f
 apply propext
 unfold chg
 rw [ap_append,ap_unss,ap_subs (hs'.newT n)]
 constructor
 ·rintro ⟨h1,⟨h,hm,h2,h3⟩ | ⟨h2,h,hm,h3,h4⟩⟩
  ·exact ⟨h,(List.mem_filter.1 hm).1,h2,h3⟩
  ·cases hk:hasK (told cov l' n) k with
   | false =>
    exact absurd h3 (h1 h (List.mem_filter.2 ⟨hm,by rw [h3,hk];rfl⟩))
   | true =>
    obtain ⟨g,hg,hgk⟩:=hasK_iff.1 hk
    exact ⟨g,hg,hgk,by rw [← h4];exact (hsm h ((mem_told cov).1 hm).1 g ((mem_told cov).1 hg).1 (by rw [h3,hgk])).symm⟩
 ·rintro ⟨h,hm,h2,h3⟩
  refine ⟨fun g hg e=>?_,?_⟩
  ·have:=(List.mem_filter.1 hg).2
   simp only [Bool.not_eq_true'] at this
   exact hasK_no.1 this h hm (by rw [h2,e])
  ·cases hk:hasK (told cov l n) k with
   | false=>exact Or.inl ⟨h,List.mem_filter.2 ⟨hm,by rw [h2,hk];rfl⟩,h2,h3⟩
   | true =>
    obtain ⟨g,hg,hgk⟩:=hasK_iff.1 hk
    refine Or.inr ⟨fun x hx e=>?_,g,hg,hgk,?_⟩
    ·have:=(List.mem_filter.1 hx).2
     rw [e,hk] at this;cases this
    ·rw [← h3];exact hsm g ((mem_told cov).1 hg).1 h ((mem_told cov).1 hm).1 (by rw [hgk,h2])
theorem wf_chg {l l':List (Hd F)} (hs:Srt l) (hs':Srt l') (n:Int):wf (chg cov l l' n:List (Ms F E)) (rl (told cov l n)):=by
 unfold chg
 rw [wf_append]
 refine ⟨wf_subs (hs'.newT n) _ (fun x hx f hr=>?_),wf_unss (hs.goneT n) _ (fun x hx=>⟨x.f,?_⟩)⟩
 ·have:=(List.mem_filter.1 hx).2
  simp only [Bool.not_eq_true'] at this
  obtain ⟨g,hg,hgk,_⟩:=hr
  exact hasK_no.1 this g hg hgk
 ·rw [ap_subs (hs'.newT n)]
  refine Or.inr ⟨fun h hh e=>?_,x,(List.mem_filter.1 hx).1,rfl,rfl⟩
  have:=(List.mem_filter.1 hx).2
  simp only [Bool.not_eq_true'] at this
  exact hasK_no.1 this h (List.mem_filter.1 hh).1 e
theorem hfr_ins {h:Hd F} {l:List (Hd F)}:hfr (ins h l) h.fr=ap1 (.sub h.key h.f:Ms F E) (hfr l h.fr):=by
 funext k f
 apply propext
 simp only [hfr,ap1,mem_ins]
 constructor
 ·rintro ⟨g,rfl | ⟨h1,h2⟩,h3,rfl,rfl⟩
  ·exact Or.inl ⟨rfl,rfl⟩
  ·exact Or.inr ⟨h2,g,h1,h3,rfl,rfl⟩
 ·rintro (⟨rfl,rfl⟩ | ⟨h1,g,h2,h3,rfl,rfl⟩)
  ·exact ⟨h,Or.inl rfl,rfl,rfl,rfl⟩
  ·exact ⟨g,Or.inr ⟨h2,h1⟩,h3,rfl,rfl⟩
theorem hfr_ins_other {h:Hd F} {l:List (Hd F)} {a:Int} (ha:h.fr≠a) (hn:∀ g∈l,g.key=h.key→g.fr≠a):hfr (ins h l) a=hfr l a:=by
 funext k f
 apply propext
 simp only [hfr,mem_ins]
 constructor
 ·rintro ⟨g,rfl | ⟨h1,h2⟩,h3,h4⟩
  ·exact absurd h3 ha
  ·exact ⟨g,h1,h3,h4⟩
 ·rintro ⟨g,h1,h2,h3⟩
  exact ⟨g,Or.inr ⟨h1,fun e=>hn g h1 e h2⟩,h2,h3⟩
theorem hfr_del {k:Ky} {l:List (Hd F)} {a:Int}:hfr (del k l) a=ap1 (.uns k:Ms F E) (hfr l a):=by
 funext k' f
 apply propext
 simp only [hfr,ap1,mem_del]
 constructor
 ·rintro ⟨g,⟨h1,h2⟩,h3,rfl,rfl⟩
  exact ⟨h2,g,h1,h3,rfl,rfl⟩
 ·rintro ⟨h1,g,h2,h3,rfl,rfl⟩
  exact ⟨g,⟨h2,h1⟩,h3,rfl,rfl⟩
theorem hfr_del_other {k:Ky} {l:List (Hd F)} {a:Int} (hn:∀ g∈l,g.key=k→g.fr≠a):hfr (del k l) a=hfr l a:=by
 funext k' f
 apply propext
 simp only [hfr,mem_del]
 constructor
 ·rintro ⟨g,⟨h1,_⟩,h3⟩
  exact ⟨g,h1,h3⟩
 ·rintro ⟨g,h1,h2,h3⟩
  exact ⟨g,⟨h1,fun e=>hn g h1 e h2⟩,h2,h3⟩
end
end Go.Proofs.YtecnfgikbmcgoaaGreat

import PyProof.Rows.All
import Wide.All
import OpenK.AllK
import Wide.FinOn
import PyProof.EqAt
import PyProof.EqKinds
import PyProof.TupleCall
import KE.BitLaws
import Open.SpecLaws
import KE.OsHead
import KE.OsGo
import VbiraaSpec
import PySem.Challenge.RW_channelnet_s01_answers
import PyVbiraa
import KE.SpHead
set_option Elab.async false
set_option maxRecDepth 100000
set_option linter.all false
set_option exponentiation.threshold 2000
set_option maxHeartbeats 2000000
namespace L2
open PySem PySem.Spec PyProof.Rows
abbrev Key:=Sum Int Str
def oR:Key→Value→Bool
  | .inl k,v=>Value.isInt k v
  | .inr x,v=>Value.isStrOf x v
def keyH (w:World):Key→Int
  | .inl k=>hashInt k
  | .inr x=>hashStr w x
theorem bE:∀ {k:Key} {v:Value},oR k v=true→(∃ i t,k=Sum.inl i∧v=Value.int i t)∨(∃ x t,k=Sum.inr x∧v=Value.str x t)
  | .inl i,v,h=>by
    obtain ⟨t,e⟩:=Value.isInt_shape (k:=i) (v:=v) h
    exact .inl ⟨i,t,rfl,e⟩
  | .inr x,v,h=>by
    obtain ⟨t,e⟩:=Value.isStrOf_shape (x:=x) (v:=v) h
    exact .inr ⟨x,t,rfl,e⟩
theorem vL (i:Int) (t:Tok):oR (.inl i) (.int i t)=true:=by simp [oR,Value.isInt]
theorem vK (x:Str) (t:Tok):oR (.inr x) (.str x t)=true:=by simp [oR,Value.isStrOf]
theorem key_ll (a b:Int):decide ((Sum.inl a:Key)=Sum.inl b)=(a == b):=by
  by_cases e:a=b
  · subst e; simp
  · have h:¬ (Sum.inl a:Key)=Sum.inl b:=fun q=>e (Sum.inl.inj q)
    rw [decide_eq_false h]
    exact (beq_eq_false_iff_ne.mpr e).symm
theorem key_rr (a b:Str):decide ((Sum.inr a:Key)=Sum.inr b)=decide (a=b):=by
  by_cases e:a=b
  · subst e; simp
  · have h:¬ (Sum.inr a:Key)=Sum.inr b:=fun q=>e (Sum.inr.inj q)
    rw [decide_eq_false h,decide_eq_false e]
theorem key_lr (a:Int) (b:Str):decide ((Sum.inl a:Key)=Sum.inr b)=false:=decide_eq_false (fun q=>nomatch q)
theorem key_rl (a:Str) (b:Int):decide ((Sum.inr a:Key)=Sum.inl b)=false:=decide_eq_false (fun q=>nomatch q)
def cq (prog:Program) (w:World):PySem.KeyKind prog w Key where
  is:=oR
  hash:=keyH w
  inj:=fun v a b ha hb=>by
    rcases bE ha with ⟨i,t,rfl,rfl⟩ | ⟨x,t,rfl,rfl⟩
    · rcases bE hb with ⟨j,u,rfl,e⟩ | ⟨y,u,rfl,e⟩
      · injection e with e1 _; rw [e1]
      · exact nomatch e
    · rcases bE hb with ⟨j,u,rfl,e⟩ | ⟨y,u,rfl,e⟩
      · exact nomatch e
      · injection e with e1 _; rw [e1]
  byValue:=fun k v h=>by
    rcases bE h with ⟨i,t,rfl,rfl⟩ | ⟨x,t,rfl,rfl⟩ <;> rfl
  pyHash:=fun hv h=>by
    rcases bE hv with ⟨i,t,rfl,rfl⟩ | ⟨x,t,rfl,rfl⟩
    · exact wpAny_pyHash_int h
    · exact wpAny_pyHash_str h
  eqBool:=fun hu hv h=>by
    rcases bE hu with ⟨i,t,rfl,rfl⟩ | ⟨x,t,rfl,rfl⟩
    · rcases bE hv with ⟨j,u,rfl,rfl⟩ | ⟨y,u,rfl,rfl⟩
      · rw [key_ll] at h; exact wpAny_eqBool_int h
      · rw [key_lr] at h; exact SeqAt.EqAt.int_str i t y u _ _ _ _ h
    · rcases bE hv with ⟨j,u,rfl,rfl⟩ | ⟨y,u,rfl,rfl⟩
      · rw [key_rl] at h; exact SeqAt.EqAt.str_int x t j u _ _ _ _ h
      · rw [key_rr] at h; exact wpAny_eqBool_str h
  «strs»:=fun k x t v h=>by
    rcases bE h with ⟨i,u,rfl,e⟩ | ⟨y,u,rfl,e⟩
    · exact nomatch e
    · injection e with e1 _
      subst e1
      cases v <;> rfl
theorem rB (prog:Program) (w:World) (i:Int) (t:Tok):(cq prog w).is (.inl i) (.int i t)=true:=vL i t
theorem rA (prog:Program) (w:World) (x:Str) (t:Tok):(cq prog w).is (.inr x) (.str x t)=true:=vK x t
end L2
namespace L2
open PySem PySem.Spec PyProof.Rows
inductive V where
  | non | bl (b:Bool) | int (i:Int) | str (x:Str) | byt (b:Array UInt8) | flt (b:UInt64) | ref (a:Addr) | ty (n:String)
  deriving DecidableEq
def RelV:V→Value→Prop
  | .non,u=>u=Value.none
  | .bl b,u=>u=Value.bool b
  | .int i,u=>∃ t,u=Value.int i t
  | .str x,u=>∃ t,u=Value.str x t
  | .byt b,u=>∃ t,u=Value.bytes b t
  | .flt b,u=>∃ t,u=Value.float b t
  | .ref a,u=>u=Value.ref a
  | .ty n,u=>u=Value.type n
abbrev Vals:List V→List Value→Prop:=Paired RelV
theorem Vals.length {xs:List V} {us:List Value} (r:Vals xs us):xs.length=us.length:=Paired.length r
theorem Vals.get:∀ {xs:List V} {us:List Value} {i:Nat} {x:V},Vals xs us→xs[i]?=some x→∃ u,us[i]?=some u∧RelV x u
  | _,_,_,_,.nil,e=>by simp at e
  | _,_,0,_,.cons r _,e=>by simp at e; subst e; exact ⟨_,rfl,r⟩
  | _,_,i + 1,x,.cons _ t,e=>by
    obtain ⟨u,h1,h2⟩:=Vals.get (i:=i) (x:=x) t (by simpa using e)
    exact ⟨u,by simpa using h1,h2⟩
theorem Vals.set {x:V} {u:Value} (r:RelV x u):∀ {xs:List V} {us:List Value} (i:Nat),Vals xs us→Vals (xs.set i x) (us.set i u)
  | _,_,_,.nil=>.nil
  | _,_,0,.cons _ t=>.cons r t
  | _,_,i + 1,.cons q t=>.cons q (Vals.set r i t)
theorem Vals.append:∀ {xs ys:List V} {us ws:List Value},Vals xs us→Vals ys ws→Vals (xs++ys) (us++ws)
  | _,_,_,_,.nil,s=>s
  | _,_,_,_,.cons r t,s=>.cons r (Vals.append t s)
theorem Vals.take:∀ {xs:List V} {us:List Value} (n:Nat),Vals xs us→Vals (xs.take n) (us.take n)
  | _,_,0,_=>.nil
  | _,_,_ + 1,.nil=>.nil
  | _,_,n + 1,.cons r t=>.cons r (Vals.take n t)
theorem Vals.drop:∀ {xs:List V} {us:List Value} (n:Nat),Vals xs us→Vals (xs.drop n) (us.drop n)
  | _,_,0,r=>r
  | _,_,_ + 1,.nil=>.nil
  | _,_,n + 1,.cons _ t=>Vals.drop n t
def RelO:Option V→Option Value→Prop
  | some v,some u=>RelV v u
  | none,none=>True
  | _,_=>False
def KV {κ:Type}:List (κ × V)→List (κ × Value)→Prop:=Paired fun (p:κ × V) (q:κ × Value)=>p.1=q.1∧RelV p.2 q.2
def kV:Key→V
  | .inl i=>.int i
  | .inr x=>.str x
inductive HO where
    | lst (xs:List V)
    | tup (xs:List V)
    | dK (kvs:List (Key × V)) | dT (kvs:List (List Key × V))
    | set (S:Int→Bool) (n:Nat)
    | ins (C dx:Addr) (fs:List (Str × V))
    | own (x:Addr)
    | xd (fs:List (Str × V))
    | met (f x:Addr)
    | rng (lo hi:Int)
    | frz (o:Obj) (u:HO)
    | tbl (ps:Array Value)
    | ext (φ:Heap→Prop)
abbrev Hp:=Addr→Option HO
def upd (H:Hp) (a:Addr) (o:HO):Hp:=fun b=>if b=a then some o else H b
theorem ac {H:Hp} {a:Addr} {o:HO}:upd H a o a=some o:=by unfold upd; rw [if_pos rfl]
theorem ai {H:Hp} {a b:Addr} {o:HO} (h:b≠a):upd H a o b=H b:=by unfold upd; rw [if_neg h]
theorem bK {H:Hp} {a b:Addr} {o u:HO} (h:H a=some o) (h':H b=some u) (d:o≠u):a≠b:=by
  intro e; subst e; rw [h] at h'; exact d (Option.some.inj h')
theorem aq {H:Hp} {a b:Addr} {o:HO} (h:H a=some o) (h':H b=none):a≠b:=by
  intro e; subst e; rw [h] at h'; cases h'
section
variable (P:Program) (w:World)
def bM (H:Hp) (h:Heap) (a:Addr):HO→Prop
  | .lst xs=>xs.length≤sizeLine∧∃ (its:List Value) (n:Nat),Vals xs its∧h.get? a=some { cls:=.type "list",data:=.seq its.toArray n }
  | .tup xs=>xs.length≤sizeLine∧∃ its:List Value,Vals xs its∧IsTup h a its.toArray
  | .dK kvs=>kvs.length≤sizeLine∧(a == sysModules)=false∧∃ vs,KV kvs vs∧h.DictOf (cq P w) a vs
  | .dT kvs=>kvs.length≤sizeLine∧(a == sysModules)=false∧∃ xs:List (List Key × Addr × Value),
      Paired (fun (p:List Key × V) (q:List Key × Addr × Value)=>p.1=q.1∧H q.2.1=some (.tup (p.1.map kV))∧RelV p.2 q.2.2) kvs xs ∧
      ∃ o es ep,h.get? a=some o∧o.ExactDict∧o.data=.dict es ep∧es.toList=xs.map (entryOfKey (tupleKind (cq P w)))∧(xs.map (·.1)).Nodup
  | .set S n=>h.SetOf (intKind P w) a S n
  | .ins C dx fs=>H dx=some (.own a)∧fs.length≤1000∧dx≠a∧h.get? a=some (PySem.W.instObj C dx) ∧
      ∃ mA,h.Ns1 dx mA∧(∀ f,RelO (fs.lookup f) (mA f))∧PySem.Within mA (fs.map (·.1))
  | .own _=>∃ o,h.get? a=some o
  | .xd fs=>∃ mA,h.Ns1 a mA∧∀ f,RelO (fs.lookup f) (mA f)
  | .rng lo hi=>∃ t u v,h.get? a=some { cls:=.type "range",data:=.fields #[.int lo t,.int hi u,.int 1 v] }
  | .frz o u=>h.get? a=some o∧bM H h a u
  | .tbl ps=>h.get? a=some { cls:=.none,data:=.fields ps }
  | .met f x=>h.get? a=some (PySem.W.methodObj (.ref f) (.ref x))
  | .ext φ=>φ h∧(∃ o,h.get? a=some o)∧∀ h1 h2:Heap,φ h1→(∀ o,h1.get? a=some o→h2.get? a=some o)→φ h2
def HOk (H:Hp) (h:Heap):Prop:=∀ a o,H a=some o→bM P w H h a o
end
section
variable {P:Program} {w:World} {H H':Hp} {h h':Heap} {a:Addr} {o:HO}
theorem bM.lt (x:bM P w H h a o):a < h.objs.size:=by
  cases o with
  | lst xs=>obtain ⟨_,_,_,_,e⟩:=x; exact Heap.lt_size e
  | tup xs=>obtain ⟨_,_,_,p⟩:=x; exact p.lt
  | dK kvs=>obtain ⟨_,_,_,_,o,_,_,e,_⟩:=x; exact Heap.lt_size e
  | dT kvs=>obtain ⟨_,_,_,_,o,_,_,e,_⟩:=x; exact Heap.lt_size e
  | set S n=>obtain ⟨o,_,_,_,e,_⟩:=x; exact Heap.lt_size e
  | ins C dx fs=>obtain ⟨_,_,_,e,_⟩:=x; exact Heap.lt_size e
  | own y=>obtain ⟨_,e⟩:=x; exact Heap.lt_size e
  | xd fs=>obtain ⟨_,⟨_,_,_,e,_⟩,_⟩:=x; exact Heap.lt_size e
  | rng lo hi=>obtain ⟨_,_,_,e⟩:=x; exact Heap.lt_size e
  | frz ob u=>obtain ⟨e,_⟩:=x; exact Heap.lt_size e
  | tbl ps=>exact Heap.lt_size (show h.get? a=some _ from x)
  | met f y=>exact Heap.lt_size (show h.get? a=some _ from x)
  | ext φ=>obtain ⟨_,⟨_,e⟩,_⟩:=x; exact Heap.lt_size e
theorem Paired.mapP {α β:Type} {F G:α→β→Prop}:∀ {l₁:List α} {l₂:List β},Paired F l₁ l₂→(∀ a b,F a b→G a b)→Paired G l₁ l₂
  | _,_,.nil,_=>.nil
  | _,_,.cons r t,f=>.cons (f _ _ r) (Paired.mapP t f)
theorem bM.stay (x:bM P w H h a o) (k:∀ b u,(b=a∨H b=some (.own a))→h.get? b=some u→h'.get? b=some u)
    (ho:∀ b,H b=some (.own a)→H' b=some (.own a)) (ht:∀ b xs,H b=some (.tup xs)→H' b=some (.tup xs)):bM P w H' h' a o:=by
  induction o with
  | lst xs=>obtain ⟨z,its,n,r,e⟩:=x; exact ⟨z,its,n,r,k _ _ (.inl rfl) e⟩
  | tup xs=>obtain ⟨z,its,r,ob,e,c⟩:=x; exact ⟨z,its,r,ob,k _ _ (.inl rfl) e,c⟩
  | dK kvs=>obtain ⟨z,y,vs,r,ob,es,ep,e,c⟩:=x; exact ⟨z,y,vs,r,ob,es,ep,k _ _ (.inl rfl) e,c⟩
  | dT kvs =>
    obtain ⟨z,y,xs,r,ob,es,ep,e,c⟩:=x
    exact ⟨z,y,xs,Paired.mapP r fun p q z=>⟨z.1,ht _ _ z.2.1,z.2.2⟩,ob,es,ep,k _ _ (.inl rfl) e,c⟩
  | set S n=>obtain ⟨ob,es,ep,t,e,c⟩:=x; exact ⟨ob,es,ep,t,k _ _ (.inl rfl) e,c⟩
  | ins C dx fs =>
    obtain ⟨d,z,ne,e,mA,⟨od,es,ep,e2,c⟩,r⟩:=x
    exact ⟨ho _ d,z,ne,k _ _ (.inl rfl) e,mA,⟨od,es,ep,k _ _ (.inr d) e2,c⟩,r⟩
  | own y=>obtain ⟨ob,e⟩:=x; exact ⟨ob,k _ _ (.inl rfl) e⟩
  | xd fs=>obtain ⟨mA,⟨od,es,ep,e,c⟩,r⟩:=x; exact ⟨mA,⟨od,es,ep,k _ _ (.inl rfl) e,c⟩,r⟩
  | rng lo hi=>obtain ⟨t,u,v,e⟩:=x; exact ⟨t,u,v,k _ _ (.inl rfl) e⟩
  | frz ob u ih=>obtain ⟨e,q⟩:=x; exact ⟨k _ _ (.inl rfl) e,ih q⟩
  | tbl ps =>
    have e:h.get? a=some { cls:=.none,data:=.fields ps }:=x
    show h'.get? a=some { cls:=.none,data:=.fields ps }
    exact k a _ (.inl rfl) e
  | met f y =>
    have e:h.get? a=some (PySem.W.methodObj (.ref f) (.ref y)):=x
    show h'.get? a=some (PySem.W.methodObj (.ref f) (.ref y))
    exact k a _ (.inl rfl) e
  | ext φ=>obtain ⟨p,⟨o,e⟩,st⟩:=x; exact ⟨st _ _ p fun o q=>k _ _ (.inl rfl) q,⟨o,k _ _ (.inl rfl) e⟩,st⟩
theorem HOk.lt (x:HOk P w H h) (e:H a=some o):a < h.objs.size:=(x a o e).lt
theorem HOk.fresh (x:HOk P w H h) (e:h.objs.size≤a):H a=none:=by
  cases q:H a with
  | none=>rfl
  | some u=>exact absurd (Nat.lt_of_lt_of_le (x.lt q) e) (Nat.lt_irrefl _)
theorem HOk.kept (x:HOk P w H h) (k:∀ b u,h.get? b=some u→h'.get? b=some u):HOk P w H h':=fun a o e =>
  (x a o e).stay (fun b u _ q=>k b u q) (fun _ q=>q) fun _ _ q=>q
theorem HOk.laid (x:HOk P w H h) (k:∀ b u,h.get? b=some u→h'.get? b=some u) (hp:h.objs.size≤a) (new:bM P w (upd H a o) h' a o):HOk P w (upd H a o) h':=fun b u e=>by
  have hn:=x.fresh hp
  by_cases hb:b=a
  · subst hb; rw [ac] at e; cases e; exact new
  · rw [ai hb] at e
    exact (x b u e).stay (fun c v _ q=>k c v q) (fun c q=>by rw [ai (aq q hn)]; exact q) fun c xs q=>by rw [ai (aq q hn)]; exact q
end
def Rd (H:Hp) (a:Addr) (u:HO):Prop:=H a=some u∨∃ o,H a=some (.frz o u)
theorem Rd.ok {P:Program} {w:World} {H:Hp} {h:Heap} {a:Addr} {u:HO} (r:Rd H a u) (x:HOk P w H h):bM P w H h a u:=by
  rcases r with r | ⟨o,r⟩
  · exact x a u r
  · obtain ⟨_,q⟩:=x a _ r
    exact q
def Mut:Option HO→Prop
  | some (.lst _)=>True
  | some (.dK _)=>True
  | some (.dT _)=>True
  | some (.set _ _)=>True
  | some (.ins _ _ _)=>True
  | some (.ext _)=>True
  | _=>False
section
variable {P:Program} {w:World} {H:Hp} {h h':Heap} {x e:Addr} {o':HO}
theorem HOk.write (ok:HOk P w H h) (mu:Mut (H x)) (he:e=x∨H e=some (.own x)) (k:∀ b u,b≠e→h.get? b=some u→h'.get? b=some u) (heo:∃ u,h'.get? e=some u)
    (new:bM P w (upd H x o') h' x o'):HOk P w (upd H x o') h':=fun b u q=>by
  have nown:∀ c y,H c=some (.own y)→c≠x:=fun c y r z=>by subst z; rw [r] at mu; exact mu
  have ntup:∀ c xs,H c=some (.tup xs)→c≠x:=fun c xs r z=>by subst z; rw [r] at mu; exact mu
  by_cases hb:b=x
  · subst hb; rw [ac] at q; cases q; exact new
  · rw [ai hb] at q
    by_cases hbe:b=e
    · have q':H b=some (.own x):=by
        rcases he with z | z
        · exact absurd (hbe.trans z) hb
        · rw [hbe]; exact z
      rw [q] at q'; cases q'
      obtain ⟨v,hv⟩:=heo
      exact ⟨v,by rw [hbe]; exact hv⟩
    · refine (ok b u q).stay (fun c v hc r=>k c v ?_ r) (fun c r=>by rw [ai (nown c b r)]; exact r) fun c xs r=>by rw [ai (ntup c xs r)]; exact r
      rcases hc with rfl | hc
      · exact hbe
      · rintro rfl
        rcases he with z | z
        · exact nown c b hc z
        · rw [hc] at z; cases z; exact hb rfl
end
structure Un (fs ex:List Addr) (H H':Hp) (h h':Heap):Prop where
  keep:∀ b o,h.get? b=some o→H b=none→b∉fs→b∉ex→h'.get? b=some o
  slot:∀ b o,h.get? b=some o→H b=none→b∈fs→b∉ex→∃ sl,h'.get? b=some { o with slots:=sl }
  free:∀ b o,h.get? b=some o→H b=none→b∉ex→H' b=none
  there:∀ b o,h.get? b=some o→b∉ex→∃ o',h'.get? b=some o'
  tups:∀ b xs,H b=some (.tup xs)→H' b=some (.tup xs)
  frzs:∀ b o u,H b=some (.frz o u)→H' b=some (.frz o u)
  tbls:∀ b ps,H b=some (.tbl ps)→∃ more,H' b=some (.tbl (ps++more))
section
variable {fs fs' ex ex':List Addr} {H H1 H2:Hp} {h h1 h2 h':Heap} {a x e:Addr} {o:HO}
theorem Un.any (u:Un fs ex H H1 h h1) {b:Addr} {ob:Obj} (q:h.get? b=some ob) (n:H b=none) (hx:b∉ex):∃ sl,h1.get? b=some { ob with slots:=sl }:=by
  by_cases hb:b∈fs
  · exact u.slot b ob q n hb hx
  · exact ⟨ob.slots,u.keep b ob q n hb hx⟩
theorem Un.kept (k:∀ b u,h.get? b=some u→h'.get? b=some u):Un fs ex H H h h' :=
  ⟨fun b ob q _ _ _=>k b ob q,fun b ob q _ _ _=>⟨ob.slots,k b ob q⟩,fun _ _ _ n _=>n,fun b ob q _=>⟨ob,k b ob q⟩,fun _ _ q=>q,fun _ _ _ q=>q,fun _ ps q=>⟨#[],by rw [q]; simp⟩⟩
theorem Un.refl:Un fs ex H H h h:=Un.kept fun _ _ q=>q
theorem Un.laid (k:∀ b u,h.get? b=some u→h'.get? b=some u) (hp:h.objs.size≤a) (hn:H a=none):Un fs ex H (upd H a o) h h' where
  keep:=fun b u q _ _ _=>k b u q
  slot:=fun b u q _ _ _=>⟨u.slots,k b u q⟩
  free:=fun b u q n _=>by rw [ai (Nat.ne_of_lt (Nat.lt_of_lt_of_le (Heap.lt_size q) hp))]; exact n
  there:=fun b u q _=>⟨u,k b u q⟩
  tups:=fun b xs q=>by rw [ai (aq q hn)]; exact q
  frzs:=fun b u xs q=>by rw [ai (aq q hn)]; exact q
  tbls:=fun b ps q=>⟨#[],by rw [ai (aq q hn),q]; simp⟩
theorem Un.write (mu:Mut (H x)) (he:e=x∨H e=some (.own x)) (k:∀ b u,b≠e→h.get? b=some u→h'.get? b=some u) (heo:∃ u,h'.get? e=some u):Un fs ex H (upd H x o) h h':=by
  have hx:∀ b,H b=none→b≠x:=fun b n z=>by subst z; rw [n] at mu; exact mu
  have hb:∀ b,H b=none→b≠e:=fun b n z=>by
    subst z
    rcases he with r | r
    · exact hx b n r
    · rw [n] at r; cases r
  have hm:∀ b u,H b=some u→¬ Mut (some u)→b≠x:=fun b u q nm z=>by subst z; rw [q] at mu; exact nm mu
  refine ⟨fun b u q n _ _=>k b u (hb b n) q,fun b u q n _ _=>⟨u.slots,k b u (hb b n) q⟩,fun b u q n _=>by rw [ai (hx b n)]; exact n,fun b u q _=>?_,
    fun b xs q=>by rw [ai (hm b _ q fun z=>z)]; exact q,fun b u xs q=>by rw [ai (hm b _ q fun z=>z)]; exact q,fun b ps q=>⟨#[],by rw [ai (hm b _ q fun z=>z),q]; simp⟩⟩
  by_cases hbe:b=e
  · subst hbe; exact heo
  · exact ⟨u,k b u hbe q⟩
end
def trk (h:Heap) (H:Hp):List Addr:=(List.range h.objs.size).filter fun a=>(H a).isSome
def hidT (h:Heap) (H:Hp):Heap:=PySem.W.hideAll h (trk h H)
theorem vS (h:Heap) (H:Hp):(hidT h H).objs.size=h.objs.size:=PySem.W.hideAll_size _ _
theorem xT {h:Heap} {H:Hp} {b:Addr} {o:Obj} (e:h.get? b=some o) (n:H b=none):(hidT h H).get? b=some o :=
  PySem.W.hideAll_get _ e fun hm=>by
    have q:(H b).isSome=true:=(List.mem_filter.mp hm).2
    rw [n] at q; simp at q
theorem yN {h:Heap} {H:Hp} {b:Addr} {o:Obj} (e:(hidT h H).get? b=some o):h.get? b=some o∧H b=none:=by
  have e':h.get? b=some o:=PySem.W.of_hideAll (trk h H) e
  refine ⟨e',?_⟩
  cases q:H b with
  | none=>rfl
  | some x =>
    have hm:b∈trk h H:=List.mem_filter.mpr ⟨List.mem_range.mpr (Heap.lt_size e'),by simp [q]⟩
    have z:(hidT h H).get? b=none:=PySem.W.hideAll_none (trk h H) hm
    rw [z] at e; cases e
end L2
namespace L2
open PySem PySem.Spec PyProof.Rows
structure Mod (K:PySem.W.Frag) (mg:Str→Option Value) (base:Heap):Prop where
  kin:K.In base
  glob:base.Ns mainGlobals mg
  blt:∃ mb,base.Ns builtinsNs mb∧∀ x:Str,x ≠ "__name__" → mb x=bootBuiltins x
  nolimit:base.NoLimit
structure Cx where
  prog:Program
  w:World
  K:PySem.W.Frag
  mg:Str→Option Value
  base:Heap
  A:Around
  N:List Str
  s_0:Shared
  H_0:Hp
  env:Env
  outer:List Env
  stack:List Env
  ex:List Addr
  fn:Str→Bool
  calm:Bool
  pn:List (Addr × Obj)
  xe:Value→Shared→Prop
def frs (l:List Env):List Addr:=l.filterMap (·.frame)
abbrev Cx.fs (X:Cx):List Addr:=frs X.outer
def Vis (sc:Scope) (x:Str):Prop:=sc.names.lookup x=some .local∨sc.names.lookup x=some .cell∨sc.names.lookup x=some .free
def Loc (sc:Scope) (x:Str):Prop:=sc.names.lookup x=some .local∨sc.names.lookup x=some .cell
def Look (env:Env) (h:Heap) (m:Str→Option Value) (x:Str) (u:Value):Prop :=
  (env.kindOf x=some .local∧m x=some u)∨((env.kindOf x=some .cell∨env.kindOf x=some .free)∧∃ c,env.cells.lookup x=some c∧h.IsCell c (some u))
structure Cx.Ok (X:Cx):Prop where
  mod:Mod X.K X.mg X.base
  kind:X.env.scope.kind=.function
  glob:X.env.globals=mainGlobals
  blt:X.env.builtins=builtinsNs
  above:X.s_0.heap.objs.size≤X.env.locals
  inj:∀ x y c,X.env.cells.lookup x=some c→X.env.cells.lookup y=some c→x=y
  has:∀ x,(X.env.kindOf x=some .cell∨X.env.kindOf x=some .free)→∃ c,X.env.cells.lookup x=some c
  cab:∀ x c,X.fn x=true→X.env.cells.lookup x=some c→X.s_0.heap.objs.size≤c
  hd:X.calm=true→X.A.handled=none
  frames:X.A.frames=some X.stack
  stk:X.stack=X.outer∨(X.stack=X.env :: X.outer∧X.env.frame=some X.env.locals)
  exf:∀ b∈X.ex,b≠X.env.locals∧∀ x c,X.env.cells.lookup x=some c→c≠b
  bs:∀ b o,X.base.get? b=some o→X.s_0.heap.get? b=some o∧X.H_0 b=none
  bsz:X.base.objs.size≤X.s_0.heap.objs.size
  noex:∀ b o,X.base.get? b=some o→b∉X.ex
  exfs:∀ b∈X.ex,b∉X.fs
  funs:X.s_0.heap.FunFrames X.base X.outer
  frf:∀ b∈X.fs,X.H_0 b=none
structure Inv (X:Cx) (pins:List (Addr × Obj)) (σ:List (Option V)) (H:Hp) (s:Shared):Prop where
  ok:X.Ok
  os:s.os=X.s_0.os
  bare:AllBare s.gens
  base:Un X.fs X.ex X.H_0 H X.s_0.heap s.heap
  loc:∃ m,s.heap.Ns X.env.locals m∧∀ (i:Nat) (x:Str) (v:V),X.N[i]?=some x→σ[i]?=some (some v)→Vis X.env.scope x→∃ u,RelV v u∧Look X.env s.heap m x u
  cell:∀ x c,X.env.cells.lookup x=some c→∃ v,s.heap.IsCell c v
  free:H X.env.locals=none
  freeC:∀ x c,X.env.cells.lookup x=some c→H c=none
  pin:∀ p∈X.pn++pins,s.heap.get? p.1=some p.2∧H p.1=none∧p.1≠X.env.locals∧p.1∉X.fs∧∀ v,p.2.data≠.cell v
  hok:HOk X.prog X.w H s.heap
  len:σ.length=X.N.length
section
variable {X:Cx} {pins:List (Addr × Obj)} {σ:List (Option V)} {H H':Hp} {s:Shared} {h':Heap}
theorem Cx.Ok.nofr (ok:X.Ok) {b:Addr} {o:Obj} (e:X.base.get? b=some o):b∉X.fs:=fun hb=>by
  have:=(ok.funs.mem hb).1
  rw [e] at this; cases this
theorem Inv.bs (I:Inv X pins σ H s):∀ b o,X.base.get? b=some o→s.heap.get? b=some o∧H b=none:=fun b o e =>
  ⟨I.base.keep b o (I.ok.bs b o e).1 (I.ok.bs b o e).2 (I.ok.nofr e) (I.ok.noex b o e),I.base.free b o (I.ok.bs b o e).1 (I.ok.bs b o e).2 (I.ok.noex b o e)⟩
theorem Inv.bk (I:Inv X pins σ H s):∀ b o,X.base.get? b=some o→s.heap.get? b=some o:=fun b o e=>(I.bs b o e).1
theorem Inv.mod (I:Inv X pins σ H s):Mod X.K X.mg X.base:=I.ok.mod
theorem Inv.kIn (I:Inv X pins σ H s):X.K.In s.heap:=I.ok.mod.kin.keeps I.bk
theorem Inv.lt (I:Inv X pins σ H s):X.env.locals < s.heap.objs.size:=let ⟨_,hn,_⟩:=I.loc; hn.lt
theorem Inv.sz (I:Inv X pins σ H s):X.s_0.heap.objs.size≤s.heap.objs.size:=Nat.le_trans I.ok.above (Nat.le_of_lt I.lt)
theorem Inv.nofs (I:Inv X pins σ H s) {a:Addr} (h:s.heap.objs.size≤a):a∉X.fs:=fun hb=>by
  obtain ⟨_,o,ho,_⟩:=I.ok.funs.mem hb
  exact absurd (Nat.lt_of_lt_of_le (Heap.lt_size ho) (Nat.le_trans I.sz h)) (Nat.lt_irrefl _)
theorem Inv.cne (I:Inv X pins σ H s):∀ x c,X.env.cells.lookup x=some c→c≠X.env.locals:=fun x c e z=>by
  obtain ⟨v,o,ho,hd⟩:=I.cell x c e
  obtain ⟨m,⟨o',es,ep,ho',hd',_⟩,_⟩:=I.loc
  rw [z,ho'] at ho; cases ho; rw [hd'] at hd; cases hd
theorem Inv.funs (I:Inv X pins σ H s):s.heap.FunFrames X.base X.outer:=by
  have all:∀ (l:List Env),(∀ b∈frs l,b∈X.fs)→X.s_0.heap.FunFrames X.base l→s.heap.FunFrames X.base l:=by
    intro l
    induction l with
    | nil=>intro _ _; trivial
    | cons env r ih =>
      intro hs hl
      obtain ⟨hk,⟨L,o,hf,hn,ho,hd⟩,hr⟩:=hl
      have hL:L∈X.fs:=hs L (by unfold frs; rw [List.filterMap_cons,hf]; exact List.mem_cons_self)
      obtain ⟨sl,e⟩:=I.base.slot L o ho (I.ok.frf L hL) hL fun z=>I.ok.exfs L z hL
      exact ⟨hk,⟨L,_,hf,hn,e,hd⟩,ih (fun b hb=>hs b (by unfold frs; rw [List.filterMap_cons,hf]; exact List.mem_cons_of_mem _ hb)) hr⟩
  exact all X.outer (fun _ hb=>hb) I.ok.funs
theorem Inv.stack (I:Inv X pins σ H s):s.heap.FunFrames X.base X.stack:=by
  rcases I.ok.stk with e | ⟨e,hf⟩
  · rw [e]; exact I.funs
  · rw [e]
    obtain ⟨m,hn,_⟩:=I.loc
    refine .cons (by rw [I.ok.kind]; decide) hf hn ?_ I.funs
    exact Heap.get?_none_of_le (Nat.le_trans I.ok.bsz I.ok.above)
theorem Inv.stkSub (I:Inv X pins σ H s):∀ b∈frs X.stack,b∈X.env.locals :: X.fs:=fun b hb=>by
  rcases I.ok.stk with e | ⟨e,hf⟩
  · rw [e] at hb; exact List.mem_cons_of_mem _ hb
  · rw [e] at hb
    unfold frs at hb
    rw [List.filterMap_cons,hf] at hb
    exact hb
theorem Inv.stkFree (I:Inv X pins σ H s):∀ b∈frs X.stack,H b=none:=fun b hb=>by
  rcases List.mem_cons.mp (I.stkSub b hb) with e | hb
  · rw [e]; exact I.free
  · obtain ⟨_,o,ho,_⟩:=I.ok.funs.mem hb
    exact I.base.free b o ho (I.ok.frf b hb) fun z=>I.ok.exfs b z hb
theorem Inv.step {g':Array GenState} {t':Nat} {d':Drawn} {ch:List Addr} (I:Inv X pins σ H s)
    (hch:∀ b∈ch,(b∈X.ex∨X.s_0.heap.objs.size≤b)∧b≠X.env.locals∧(∀ x c,X.env.cells.lookup x=some c→c≠b)∧∀ p∈X.pn++pins,p.1≠b)
    (keep:∀ b o,b≠X.env.locals→b∉X.fs→b∉ch→s.heap.get? b=some o→H b=none→h'.get? b=some o)
    (slot:∀ b o,b≠X.env.locals→b∈X.fs→b∉ch→s.heap.get? b=some o→H b=none→∃ sl,h'.get? b=some { o with slots:=sl }) (free:∀ b o,b∉ch→s.heap.get? b=some o→H b=none→H' b=none)
    (there:∀ b o,b∉ch→s.heap.get? b=some o→∃ o',h'.get? b=some o')
    (tups:∀ b xs,H b=some (.tup xs)→H' b=some (.tup xs)) (frzs:∀ b o u,H b=some (.frz o u)→H' b=some (.frz o u)) (tbls:∀ b ps,H b=some (.tbl ps)→∃ more,H' b=some (.tbl (ps++more)))
    (ns:∀ m,s.heap.Ns X.env.locals m→h'.Ns X.env.locals m) (hok:HOk X.prog X.w H' h') (hg:AllBare g') :
    Inv X pins σ H' { s with heap:=h',gens:=g',drawn:=d',toks:=t' }:=by
  have neL:∀ b o,X.s_0.heap.get? b=some o→b≠X.env.locals:=fun b o e=>Nat.ne_of_lt (Nat.lt_of_lt_of_le (Heap.lt_size e) I.ok.above)
  have neC:∀ b o,X.s_0.heap.get? b=some o→b∉X.ex→b∉ch:=fun b o e hx hb=>by
    rcases (hch b hb).1 with z | z
    · exact hx z
    · exact absurd (Nat.lt_of_lt_of_le (Heap.lt_size e) z) (Nat.lt_irrefl _)
  have cellK:∀ x c,X.env.cells.lookup x=some c→∀ v,s.heap.IsCell c v→h'.IsCell c v:=fun x c e v ⟨o,ho,hd⟩=>by
    have nch:c∉ch:=fun z=>(hch c z).2.2.1 x c e rfl
    by_cases hc:c∈X.fs
    · obtain ⟨sl,q⟩:=slot c o (I.cne x c e) hc nch ho (I.freeC x c e)
      exact ⟨_,q,hd⟩
    · exact ⟨o,keep c o (I.cne x c e) hc nch ho (I.freeC x c e),hd⟩
  refine ⟨I.ok,I.os,hg,⟨fun b o e n hb hx=>?_,fun b o e n hb hx=>?_,fun b o e n hx=>?_,fun b o e hx=>?_,fun b xs e=>tups b xs (I.base.tups b xs e),fun b o xs e=>frzs b o xs (I.base.frzs b o xs e),fun b ps e=>?_⟩,?_,fun x c e=>?_,?_,fun x c e=>?_,fun p hp=>?_,hok,I.len⟩
  · exact keep b o (neL b o e) hb (neC b o e hx) (I.base.keep b o e n hb hx) (I.base.free b o e n hx)
  · obtain ⟨sl,e1⟩:=I.base.slot b o e n hb hx
    obtain ⟨sl',e2⟩:=slot b _ (neL b o e) hb (neC b o e hx) e1 (I.base.free b o e n hx)
    exact ⟨sl',e2⟩
  · obtain ⟨o',e1⟩:=I.base.there b o e hx
    exact free b o' (neC b o e hx) e1 (I.base.free b o e n hx)
  · obtain ⟨o',e1⟩:=I.base.there b o e hx
    exact there b o' (neC b o e hx) e1
  · obtain ⟨m1,e1⟩:=I.base.tbls b ps e
    obtain ⟨m2,e2⟩:=tbls b _ e1
    exact ⟨m1++m2,by rw [e2,Array.append_assoc]⟩
  · obtain ⟨m,hn,hl⟩:=I.loc
    refine ⟨m,ns m hn,fun i x v e1 e2 e3=>?_⟩
    obtain ⟨u,r,l⟩:=hl i x v e1 e2 e3
    refine ⟨u,r,?_⟩
    rcases l with l | ⟨k,c,e,z⟩
    · exact .inl l
    · exact .inr ⟨k,c,e,cellK x c e _ z⟩
  · obtain ⟨v,z⟩:=I.cell x c e
    exact ⟨v,cellK x c e v z⟩
  · obtain ⟨m,⟨o,_,_,ho,_⟩,_⟩:=I.loc
    exact free _ o (fun z=>(hch _ z).2.1 rfl) ho I.free
  · obtain ⟨v,o,ho,hd⟩:=I.cell x c e
    exact free c o (fun z=>(hch c z).2.2.1 x c e rfl) ho (I.freeC x c e)
  · obtain ⟨e,n,ne,nf,d⟩:=I.pin p hp
    have nch:p.1∉ch:=fun z=>(hch p.1 z).2.2.2 p hp rfl
    exact ⟨keep p.1 p.2 ne nf nch e n,free p.1 p.2 nch e n,ne,nf,d⟩
theorem Inv.un {t':Nat} (I:Inv X pins σ H s) (u:Un X.fs [] H H' s.heap h') (hok:HOk X.prog X.w H' h'):Inv X pins σ H' { s with heap:=h',toks:=t' }:=by
  obtain ⟨m,⟨o,es,ep,ho,r⟩,_⟩:=id I.loc
  obtain ⟨sl,hL⟩:=u.any ho I.free (by simp)
  exact I.step (g':=s.gens) (d':=s.drawn) (ch:=[]) (fun _ z=>nomatch z) (fun b o _ hb _ e n=>u.keep b o e n hb (by simp)) (fun b o _ hb _ e n=>u.slot b o e n hb (by simp)) (fun b o _ e n=>u.free b o e n (by simp)) (fun b o _ e=>u.there b o e (by simp)) u.tups u.frzs u.tbls (fun m' hm=>by
    obtain ⟨o',es',ep',ho',r'⟩:=hm
    rw [ho] at ho'; cases ho'
    exact ⟨_,es',ep',hL,r'⟩) hok I.bare
theorem Inv.call {g':Array GenState} {t':Nat} {d':Drawn} {ch:List Addr} (I:Inv X pins σ H s) (u:Un (frs X.stack) ch H H' s.heap h') (hok:HOk X.prog X.w H' h') (hg:AllBare g')
    (hch:∀ b∈ch,(b∈X.ex∨X.s_0.heap.objs.size≤b)∧b≠X.env.locals∧(∀ x c,X.env.cells.lookup x=some c→c≠b)∧∀ p∈X.pn++pins,p.1≠b) :
    Inv X pins σ H' { s with heap:=h',gens:=g',drawn:=d',toks:=t' }:=by
  obtain ⟨m,⟨o,es,ep,ho,r⟩,_⟩:=id I.loc
  obtain ⟨sl,hL⟩:=u.any ho I.free fun z=>(hch _ z).2.1 rfl
  exact I.step (ch:=ch) hch (fun b o hL hb hc e n=>u.keep b o e n (fun z=>(List.mem_cons.mp (I.stkSub b z)).elim hL hb) hc) (fun b o _ _ hc e n=>u.any e n hc) (fun b o hc e n=>u.free b o e n hc) (fun b o hc e=>u.there b o e hc) u.tups u.frzs u.tbls (fun m' hm=>by
    obtain ⟨o',es',ep',ho',r'⟩:=hm
    rw [ho] at ho'; cases ho'
    exact ⟨_,es',ep',hL,r'⟩) hok hg
theorem Inv.turned {t':Nat} {it:Addr} (I:Inv X pins σ H s) (k:∀ b o,b≠it→s.heap.get? b=some o→h'.get? b=some o) (hn:H it=none) (hL:it≠X.env.locals)
    (h1:it∈X.ex∨X.s_0.heap.objs.size≤it) (h2:∀ x c,X.env.cells.lookup x=some c→c≠it) (h3:∀ p∈X.pn++pins,p.1≠it):Inv X pins σ H { s with heap:=h',toks:=t' }:=by
  have nit:∀ b u,H b=some u→b≠it:=fun b u e z=>by rw [z,hn] at e; cases e
  refine I.step (g':=s.gens) (d':=s.drawn) (ch:=[it]) (fun b hb=>?_) (fun b o _ _ hc e _=>k b o (fun z=>hc (by simp [z])) e) (fun b o _ _ hc e _=>⟨o.slots,k b o (fun z=>hc (by simp [z])) e⟩) (fun _ _ _ _ n=>n)
    (fun b o hc e=>⟨o,k b o (fun z=>hc (by simp [z])) e⟩) (fun _ _ e=>e) (fun _ _ _ e=>e) (fun b ps e=>⟨#[],by rw [e]; simp⟩) (fun m hm=>?_) (fun b u e=>?_) I.bare
  · have e:b=it:=by simpa using hb
    subst e
    exact ⟨h1,hL,h2,h3⟩
  · obtain ⟨o,es,ep,ho,r⟩:=hm
    exact ⟨o,es,ep,k _ o (Ne.symm hL) ho,r⟩
  · refine (I.hok b u e).stay (fun c v hc q=>k c v ?_ q) (fun _ q=>q) fun _ _ q=>q
    rcases hc with z | z
    · rw [z]; exact nit b u e
    · exact nit c _ z
theorem Inv.tok (I:Inv X pins σ H s) (t:Nat):Inv X pins σ H { s with toks:=t }:=I.un (h':=s.heap) (t':=t) Un.refl I.hok
theorem Inv.kept {t':Nat} (I:Inv X pins σ H s) (k:∀ b u,s.heap.get? b=some u→h'.get? b=some u):Inv X pins σ H { s with heap:=h',toks:=t' }:=I.un (Un.kept k) (I.hok.kept k)
theorem Inv.laid {a:Addr} {o:HO} {t':Nat} (I:Inv X pins σ H s) (k:∀ b u,s.heap.get? b=some u→h'.get? b=some u) (hp:s.heap.objs.size≤a) (new:bM X.prog X.w (upd H a o) h' a o) :
    Inv X pins σ (upd H a o) { s with heap:=h',toks:=t' }:=I.un (Un.laid k hp (I.hok.fresh hp)) (I.hok.laid k hp new)
theorem Inv.write {x e:Addr} {o:HO} {t':Nat} (I:Inv X pins σ H s) (mu:Mut (H x)) (he:e=x∨H e=some (.own x)) (k:∀ b u,b≠e→s.heap.get? b=some u→h'.get? b=some u) (heo:∃ u,h'.get? e=some u)
    (new:bM X.prog X.w (upd H x o) h' x o):Inv X pins σ (upd H x o) { s with heap:=h',toks:=t' }:=I.un (Un.write mu he k heo) (I.hok.write mu he k heo new)
theorem Inv.weak {σ':List (Option V)} (I:Inv X pins σ H s) (hl:σ'.length=σ.length) (w:∀ (i:Nat) v,σ'[i]?=some (some v)→σ[i]?=some (some v)):Inv X pins σ' H s :=
  ⟨I.ok,I.os,I.bare,I.base,let ⟨m,hn,hl'⟩:=I.loc; ⟨m,hn,fun i x v e1 e2 e3=>hl' i x v e1 (w i v e2) e3⟩,I.cell,I.free,I.freeC,I.pin,I.hok,hl.trans I.len⟩
theorem Inv.pins_of {pins':List (Addr × Obj)} (I:Inv X pins σ H s) (h:∀ p∈pins',s.heap.get? p.1=some p.2∧H p.1=none∧p.1≠X.env.locals∧p.1∉X.fs∧∀ v,p.2.data≠.cell v):Inv X pins' σ H s :=
  ⟨I.ok,I.os,I.bare,I.base,I.loc,I.cell,I.free,I.freeC,fun p hp=>(List.mem_append.mp hp).elim (fun z=>I.pin p (List.mem_append_left _ z)) (h p),I.hok,I.len⟩
theorem m5 {N:List Str} (hN:N.Nodup) {i j:Nat} {x:Str} (a:N[i]?=some x) (b:N[j]?=some x):i=j:=by
  obtain ⟨h1,e1⟩:=List.getElem?_eq_some_iff.mp a
  obtain ⟨h2,e2⟩:=List.getElem?_eq_some_iff.mp b
  exact (List.getElem_inj hN).mp (e1.trans e2.symm)
theorem oE {M:Model} {A:Around} {E:Value→Shared→Prop} {i:Nat} {x:Str} {v:V} {u:Value} {Q:Unit→Shared→Prop} (I:Inv X pins σ H s) (hN:X.N.Nodup) (hi:X.N[i]?=some x) (hx:Loc X.env.scope x) (r:RelV v u)
    (h:∀ s',Inv X pins (σ.set i (some v)) H s'→(∃ a,Heap.SameBut a s.heap s'.heap∧(a=X.env.locals∨X.env.cells.lookup x=some a))→Q () s') (hf:X.fn x=true∨X.env.scope.names.lookup x=some .local:=by first | exact .inl rfl | exact .inr rfl | assumption):wpAny M A (storeName X.env x u) Q E s:=by
  obtain ⟨m,hn,hl⟩:=id I.loc
  have hcls:(X.env.scope.kind == .class || (X.env.scope.kind == .module && X.env.locals != X.env.globals))=false:=by rw [I.ok.kind]; rfl
  have hiσ:i < σ.length:=by rw [I.len]; exact (List.getElem?_eq_some_iff.mp hi).1
  have cne:=I.cne
  have tracked:∀ {a:Addr} {h':Heap},(∃ o,s.heap.get? a=some o∧H a=none)→Heap.SameBut a s.heap h'→HOk X.prog X.w H h':=fun {a h'} ha hs b ob e=>by
    obtain ⟨_,_,hfree⟩:=ha
    refine (I.hok b ob e).stay (fun c w' hc q=>(hs.2 c ?_).trans q) (fun _ q=>q) fun _ _ q=>q
    rintro rfl
    rcases hc with rfl | hc
    · rw [hfree] at e; cases e
    · rw [hfree] at hc; cases hc
  rcases hx with hk | hk
  · refine wpAny_storeName_local hk hn (fun h' hn' hs=>?_) hcls
    obtain ⟨oL,_,_,hoL,_⟩:=id hn
    refine h _ ⟨I.ok,I.os,I.bare,⟨fun b o e n hb hx=>?_,fun b o e n hb hx=>?_,I.base.free,fun b o e hx=>?_,I.base.tups,I.base.frzs,I.base.tbls⟩,⟨_,hn',fun j y v' e1 e2 e3=>?_⟩,fun y c e=>?_,I.free,I.freeC,fun p hp=>?_,tracked ⟨oL,hoL,I.free⟩ hs,by simpa using I.len⟩ ⟨_,hs,.inl rfl⟩
    · exact (hs.2 b (Nat.ne_of_lt (Nat.lt_of_lt_of_le (Heap.lt_size e) I.ok.above))).trans (I.base.keep b o e n hb hx)
    · obtain ⟨sl,e1⟩:=I.base.slot b o e n hb hx
      exact ⟨sl,(hs.2 b (Nat.ne_of_lt (Nat.lt_of_lt_of_le (Heap.lt_size e) I.ok.above))).trans e1⟩
    · obtain ⟨o',e1⟩:=I.base.there b o e hx
      exact ⟨o',(hs.2 b (Nat.ne_of_lt (Nat.lt_of_lt_of_le (Heap.lt_size e) I.ok.above))).trans e1⟩
    · by_cases hj:j=i
      · subst hj
        rw [hi] at e1; cases e1
        rw [List.getElem?_set_self hiσ] at e2
        cases e2
        exact ⟨u,r,.inl ⟨hk,by simp⟩⟩
      · rw [List.getElem?_set_ne (Ne.symm hj)] at e2
        obtain ⟨u',r',q⟩:=hl j y v' e1 e2 e3
        refine ⟨u',r',?_⟩
        rcases q with ⟨k,e⟩ | ⟨k,c,e,z⟩
        · refine .inl ⟨k,?_⟩
          have:y≠x:=fun e=>hj (m5 hN e1 (e ▸ hi))
          simp [this,e]
        · exact .inr ⟨k,c,e,z.sameBut hs (cne y c e)⟩
    · obtain ⟨w',z⟩:=I.cell y c e
      exact ⟨w',z.sameBut hs (cne y c e)⟩
    · obtain ⟨e,n,ne,nf,d⟩:=I.pin p hp
      exact ⟨(hs.2 p.1 ne).trans e,n,ne,nf,d⟩
  · have hfn:X.fn x=true:=by
      rcases hf with z | z
      · exact z
      · rw [z] at hk; cases hk
    obtain ⟨c,hc⟩:=I.ok.has x (.inl hk)
    obtain ⟨w',z⟩:=I.cell x c hc
    refine wpAny_storeName_cell I.ok.kind hk hc z (fun h' hc' hs=>?_)
    obtain ⟨oc,hoc,hocd⟩:=id z
    refine h { s with heap:=h' } ⟨I.ok,I.os,I.bare,⟨fun b o e n hb hx=>?_,fun b o e n hb hx=>?_,I.base.free,fun b o e hx=>?_,I.base.tups,I.base.frzs,I.base.tbls⟩,⟨m,hn.sameBut hs (Ne.symm (cne x c hc)),fun j y v' e1 e2 e3=>?_⟩,fun y c' e=>?_,I.free,I.freeC,fun p hp=>?_,tracked ⟨oc,hoc,I.freeC x c hc⟩ hs,by simpa using I.len⟩ ⟨c,hs,.inr hc⟩
    · exact (hs.2 b (Nat.ne_of_lt (Nat.lt_of_lt_of_le (Heap.lt_size e) (I.ok.cab x c hfn hc)))).trans (I.base.keep b o e n hb hx)
    · obtain ⟨sl,e1⟩:=I.base.slot b o e n hb hx
      exact ⟨sl,(hs.2 b (Nat.ne_of_lt (Nat.lt_of_lt_of_le (Heap.lt_size e) (I.ok.cab x c hfn hc)))).trans e1⟩
    · obtain ⟨o',e1⟩:=I.base.there b o e hx
      exact ⟨o',(hs.2 b (Nat.ne_of_lt (Nat.lt_of_lt_of_le (Heap.lt_size e) (I.ok.cab x c hfn hc)))).trans e1⟩
    · by_cases hj:j=i
      · subst hj
        rw [hi] at e1; cases e1
        rw [List.getElem?_set_self hiσ] at e2
        cases e2
        exact ⟨u,r,.inr ⟨.inl hk,c,hc,hc'⟩⟩
      · rw [List.getElem?_set_ne (Ne.symm hj)] at e2
        obtain ⟨u',r',q⟩:=hl j y v' e1 e2 e3
        refine ⟨u',r',?_⟩
        rcases q with q | ⟨k,c',e,z'⟩
        · exact .inl q
        · refine .inr ⟨k,c',e,z'.sameBut hs ?_⟩
          rintro rfl
          exact hj (m5 hN e1 (I.ok.inj _ _ _ e hc ▸ hi))
    · by_cases hcc:c'=c
      · subst hcc; exact ⟨_,hc'⟩
      · obtain ⟨w2,z2⟩:=I.cell y c' e
        exact ⟨w2,z2.sameBut hs hcc⟩
    · obtain ⟨e,n,ne,nf,d⟩:=I.pin p hp
      refine ⟨(hs.2 p.1 ?_).trans e,n,ne,nf,d⟩
      intro q
      rw [q,hoc] at e
      have q':oc=p.2:=Option.some.inj e
      exact d w' (by rw [←q']; exact hocd)
theorem qD {M:Model} {A:Around} {E:Value→Shared→Prop} {i:Nat} {x:Str} {v:V} {u:Value} {Q:Unit→Shared→Prop} (I:Inv X pins σ H s) (hN:X.N.Nodup) (hi:X.N[i]?=some x) (hx:Loc X.env.scope x) (r:RelV v u)
    (h:∀ s',Inv X pins (σ.set i (some v)) H s'→Q () s') (hf:X.fn x=true∨X.env.scope.names.lookup x=some .local:=by first | exact .inl rfl | exact .inr rfl | assumption):wpAny M A (storeName X.env x u) Q E s :=
  oE I hN hi hx r (fun s' I' _=>h s' I') hf
theorem Inv.call' {s':Shared} {ch:List Addr} (I:Inv X pins σ H s) (ho:s'.os=s.os) (u:Un (frs X.stack) ch H H' s.heap s'.heap) (hok:HOk X.prog X.w H' s'.heap) (hg:AllBare s'.gens)
    (hch:∀ b∈ch,(b∈X.ex∨X.s_0.heap.objs.size≤b)∧b≠X.env.locals∧(∀ x c,X.env.cells.lookup x=some c→c≠b)∧∀ p∈X.pn++pins,p.1≠b):Inv X pins σ H' s':=by
  obtain ⟨h',g',d',t',o'⟩:=s'
  have e:o'=s.os:=ho
  subst e
  exact I.call (g':=g') (t':=t') (d':=d') u hok hg hch
end
abbrev XK:=Value→Option Addr→Hp→Prop
abbrev St:=List (Option V)
abbrev VK:=V→Hp→Prop
abbrev TE:=St→Hp→VK→Prop
abbrev TT:=St→Hp→(Bool→Hp→Prop)→Prop
abbrev TA:=St→Hp→(List V→Hp→Prop)→Prop
structure Ends where
  nx:St→Hp→Prop
  rt:VK
  bk:St→Hp→Prop:=fun _ _=>False
  ct:St→Hp→Prop:=fun _ _=>False
abbrev TS:=Ends→St→Hp→Prop
def EP (X:Cx) (pins:List (Addr × Obj)) (σ:St) (Q:VK) (u:Value) (s':Shared):Prop:=∃ v H',Inv X pins σ H' s'∧RelV v u∧Q v H'
def TP (X:Cx) (pins:List (Addr × Obj)) (σ:St) (Q:Bool→Hp→Prop) (b:Bool) (s':Shared):Prop:=∃ H',Inv X pins σ H' s'∧Q b H'
def AP (X:Cx) (pins:List (Addr × Obj)) (σ:St) (Q:List V→Hp→Prop) (us:List Value) (s':Shared):Prop:=∃ vs H',Inv X pins σ H' s'∧Vals vs us∧Q vs H'
def SP (X:Cx) (pins:List (Addr × Obj)) (D:Ends) (f:Flow) (s':Shared):Prop :=
  match f with
  | .next=>∃ σ' H',Inv X pins σ' H' s'∧D.nx σ' H'
  | .brk=>∃ σ' H',Inv X pins σ' H' s'∧D.bk σ' H'
  | .cont=>∃ σ' H',Inv X pins σ' H' s'∧D.ct σ' H'
  | .ret u=>∃ v σ' H',Inv X pins σ' H' s'∧RelV v u∧D.rt v H'
def PE (X:Cx) (e:Expr) (t:TE):Prop :=
  ∀ (pins:List (Addr × Obj)) (s:Shared) (σ:St) (H:Hp) (Q:VK),Inv X pins σ H s→t σ H Q→wpAny (model X.prog X.w) X.A (eval e X.env) (EP X pins σ Q) X.xe s
def PT (X:Cx) (e:Expr) (t:TT):Prop :=
  ∀ (pins:List (Addr × Obj)) (s:Shared) (σ:St) (H:Hp) (Q:Bool→Hp→Prop),Inv X pins σ H s→t σ H Q→wpAny (model X.prog X.w) X.A (isTrue e X.env (eval e X.env)) (TP X pins σ Q) X.xe s
def PW (X:Cx) (e:Expr) (t:TT):Prop :=
  ∀ (whole:Sem Value) (pins:List (Addr × Obj)) (s:Shared) (σ:St) (H:Hp) (Q:Bool→Hp→Prop),Inv X pins σ H s→t σ H Q→wpAny (model X.prog X.w) X.A (isTrue e X.env whole) (TP X pins σ Q) X.xe s
theorem PW.pt {X:Cx} {e:Expr} {t:TT} (h:PW X e t):PT X e t:=h _
def PA (X:Cx) (es:List Expr) (t:TA):Prop :=
  ∀ (pos:Pos) (pins:List (Addr × Obj)) (s:Shared) (σ:St) (H:Hp) (Q:List V→Hp→Prop),Inv X pins σ H s→t σ H Q→wpAny (model X.prog X.w) X.A (spliced (backTo pos (starEach es X.env))) (AP X pins σ Q) X.xe s
def PS (X:Cx) (st:Stmt) (t:TS):Prop :=
  ∀ (pins:List (Addr × Obj)) (s:Shared) (σ:St) (H:Hp) (D:Ends),Inv X pins σ H s→t D σ H→wpAny (model X.prog X.w) X.A (exec st X.env) (SP X pins D) X.xe s
def PSs (X:Cx) (st:List Stmt) (t:TS):Prop :=
  ∀ (pins:List (Addr × Obj)) (s:Shared) (σ:St) (H:Hp) (D:Ends),Inv X pins σ H s→t D σ H→wpAny (model X.prog X.w) X.A (execs st X.env) (SP X pins D) X.xe s
theorem thn {α:Type} {t:Sem α} {Q Q':α→Shared→Prop} {M:Model} {A:Around} {E:Value→Shared→Prop} {s:Shared} (h:wpAny M A t Q E s) (hQ:∀ a s,Q a s→Q' a s):wpAny M A t Q' E s:=wpAny_mono h hQ fun _ _ x=>x
end L2
namespace L2
open PySem PySem.Spec PyProof.Rows
section
variable {X:Cx}
def tVar (i:Nat):TE:=fun σ H Q=>∃ v,σ[i]?=some (some v)∧Q v H
def tC (v:V):TE:=fun _ H Q=>Q v H
theorem pe_var {i:Nat} {x:Str} {pos:Pos} (hN:X.N[i]?=some x) (hv:Vis X.env.scope x) (hd:(x == ("__debug__" : Str))=false:=by decide) (hcd:(x == ("__classdict__" : Str))=false:=by decide):PE X (.Name x pos) (tVar i):=by
  intro pins s σ H Q I h
  obtain ⟨v,e,h⟩:=h
  obtain ⟨m,hn,hl⟩:=I.loc
  obtain ⟨u,r,l⟩:=hl i x v hN e hv
  have fin:EP X pins σ Q u s:=⟨v,H,I,r,h⟩
  rcases l with ⟨hk,hm⟩ | ⟨hk,c,hc,hcell⟩
  · exact wpAny_Name (wpAny_loadName_local I.ok.kind hk hn hm fin) hd
  · rcases hk with hk | hk
    · exact wpAny_Name (wpAny_loadName_cell I.ok.kind hk hc hcell fin) hd
    · exact wpAny_Name (wpAny_loadName_free I.ok.kind hk hc hcell fin hcd) hd
theorem af {i j pos}:PE X (.Constant (.int i) j pos) (tC (.int i)):=fun _ _ _ H _ I h=>wpAny_Constant_int ⟨.int i,H,I.tok _,⟨_,rfl⟩,h⟩
theorem mO {b j pos}:PE X (.Constant (.bool b) j pos) (tC (.bl b)):=fun _ _ _ H _ I h=>Constant_bool ⟨.bl b,H,I,rfl,h⟩
theorem fR {j pos}:PE X (.Constant .none j pos) (tC .non):=fun _ _ _ H _ I h=>Constant_none ⟨.non,H,I,rfl,h⟩
theorem bW {x j pos}:PE X (.Constant (.str x) j pos) (tC (.str x)):=fun _ _ _ H _ I h=>Calls.Constant_str ⟨.str x,H,I.tok _,⟨_,rfl⟩,h⟩
def Gl (X:Cx) (x:Str):Prop:=X.env.kindOf x=some .globalImplicit
theorem l9 {E:Value→Shared→Prop} {pins:List (Addr × Obj)} {s:Shared} {σ:St} {H:Hp} {x:Str} {u:Value} {pos:Pos} {Q:Value→Shared→Prop} (I:Inv X pins σ H s) (hg:Gl X x) (hm:X.mg x=some u) (h:Q u s)
    (hd:(x == ("__debug__" : Str))=false:=by decide):wpAny (model X.prog X.w) X.A (eval (.Name x pos) X.env) Q E s :=
  Calls.Name_function_global I.ok.kind hg (Calls.loadGlobal_global (by rw [I.ok.glob]; exact I.mod.glob.keeps I.bk) hm h) hd
theorem gN {E:Value→Shared→Prop} {pins:List (Addr × Obj)} {s:Shared} {σ:St} {H:Hp} {x:Str} {u:Value} {pos:Pos} {Q:Value→Shared→Prop} (I:Inv X pins σ H s) (hg:Gl X x) (hm:X.mg x=none) (hv:bootBuiltins x=some u) (h:Q u s)
    (hn:x ≠ "__name__" := by decide) (hd:(x == ("__debug__" : Str))=false:=by decide):wpAny (model X.prog X.w) X.A (eval (.Name x pos) X.env) Q E s:=by
  obtain ⟨mb,h1,h2⟩:=I.mod.blt
  exact Calls.Name_function_global I.ok.kind hg (Calls.loadGlobal_builtin (by rw [I.ok.glob]; exact I.mod.glob.keeps I.bk) hm (by rw [I.ok.blt]; exact h1.keeps I.bk) ((h2 x hn).trans hv) h) hd
theorem pO {x:Str} {v:V} {u:Value} {pos:Pos} (hg:Gl X x) (hm:X.mg x=some u) (r:RelV v u) (hd:(x == ("__debug__" : Str))=false:=by decide):PE X (.Name x pos) (tC v) :=
  fun _ _ _ H _ I h=>l9 I hg hm ⟨v,H,I,r,h⟩ hd
variable {a b:Expr} {ta tb:TE} {pos:Pos}
def PC (X:Cx) (op:CmpOp) (a b:Expr) (t:TE):Prop :=
  ∀ (pins:List (Addr × Obj)) (s:Shared) (σ:St) (H:Hp) (Q:VK),Inv X pins σ H s→t σ H Q →
    wpAny (model X.prog X.w) X.A (eval a X.env) (fun v s₁=>wpAny (model X.prog X.w) X.A (eval b X.env) (fun u s₂=>wpAny (model X.prog X.w) X.A (compareOp op v u) (EP X pins σ Q) X.xe s₂) X.xe s₁) X.xe s
def tB (t:TE):TT:=fun σ H Q=>t σ H fun x H1=>∃ c,x=.bl c∧Q c H1
theorem pt_cmp {op:CmpOp} {t:TE} (h:PC X op a b t) (h1:behindInMarks op b=false:=by first | exact nobehind _ (by decide) (by decide) | rfl):PT X (.Compare a [op] [b] pos) (tB t):=by
  intro pins s σ H Q I hw
  refine wpAny_isTrue_Compare1 (thn (h pins s σ H _ I hw) fun v s1 h1=>thn h1 fun u s2 h2=>thn h2 fun c s3 ⟨x,H1,I1,r1,q1⟩=>?_) h1
  obtain ⟨d,rfl,q⟩:=q1
  cases r1
  exact wpAny_truthy_bool ⟨H1,I1,q⟩
variable {tA tB':TT} {rest:List Expr}
def tAnd (t u:TT):TT:=fun σ H Q=>t σ H fun c H1=>if c=true then u σ H1 Q else Q false H1
def tOr (t u:TT):TT:=fun σ H Q=>t σ H fun c H1=>if c=true then Q true H1 else u σ H1 Q
def tNot (t:TT):TT:=fun σ H Q=>t σ H fun c H1=>Q (!c) H1
theorem ut (ha:PT X a tA):PW X (.BoolOp .And [a] pos) tA:=by
  intro wh pins s σ H Q I h
  refine isTrue_and (thn (ha pins s σ H Q I h) fun c s1 e=>?_)
  cases c with
  | true=>exact isTrue_and_nil e
  | false=>exact e
theorem dH (ha:PT X a tA):PW X (.BoolOp .Or [a] pos) tA:=by
  intro wh pins s σ H Q I h
  refine isTrue_or (thn (ha pins s σ H Q I h) fun c s1 e=>?_)
  cases c with
  | false=>exact isTrue_or_nil e
  | true=>exact e
theorem xc (ha:PT X a tA) (hb:PW X (.BoolOp .And (b :: rest) pos) tB'):PW X (.BoolOp .And (a :: b :: rest) pos) (tAnd tA tB'):=by
  intro wh pins s σ H Q I h
  refine isTrue_and (thn (ha pins s σ H _ I h) fun c s1 ⟨H1,I1,q1⟩=>?_)
  cases c with
  | true=>exact hb wh pins s1 σ H1 Q I1 q1
  | false=>exact ⟨H1,I1,q1⟩
theorem dX (ha:PT X a tA) (hb:PW X (.BoolOp .Or (b :: rest) pos) tB'):PW X (.BoolOp .Or (a :: b :: rest) pos) (tOr tA tB'):=by
  intro wh pins s σ H Q I h
  refine isTrue_or (thn (ha pins s σ H _ I h) fun c s1 ⟨H1,I1,q1⟩=>?_)
  cases c with
  | true=>exact ⟨H1,I1,q1⟩
  | false=>exact hb wh pins s1 σ H1 Q I1 q1
theorem aZ (ha:PT X a tA):PT X (.UnaryOp .Not a pos) (tNot tA):=by
  intro pins s σ H Q I h
  exact isTrue_not (ha pins s σ H (fun c H1=>Q (!c) H1) I h)
def tAndV (ta tb:TE):TE:=fun σ H Q=>ta σ H fun x H1=>∃ c,x=.bl c∧if c=true then tb σ H1 Q else Q (.bl false) H1
def tOrV (ta tb:TE):TE:=fun σ H Q=>ta σ H fun x H1=>∃ c,x=.bl c∧if c=true then Q (.bl true) H1 else tb σ H1 Q
theorem pM {op} {t:TE} (h:PE X a t):PE X (.BoolOp op [a] pos) t:=fun pins s σ H Q I hw=>BoolOp_one (h pins s σ H Q I hw)
theorem mP (ha:PE X a ta) (hb:PE X (.BoolOp .And (b :: rest) pos) tb):PE X (.BoolOp .And (a :: b :: rest) pos) (tAndV ta tb):=by
  intro pins s σ H Q I h
  refine BoolOp_and (thn (ha pins s σ H _ I h) fun v s1 ⟨x,H1,I1,r1,q1⟩=>?_)
  obtain ⟨c,rfl,q1⟩:=q1
  cases r1
  refine wpAny_truthy_bool ?_
  cases c with
  | true=>exact hb pins s1 σ H1 Q I1 q1
  | false=>exact ⟨.bl false,H1,I1,rfl,q1⟩
theorem pe_or (ha:PE X a ta) (hb:PE X (.BoolOp .Or (b :: rest) pos) tb):PE X (.BoolOp .Or (a :: b :: rest) pos) (tOrV ta tb):=by
  intro pins s σ H Q I h
  refine BoolOp_or (thn (ha pins s σ H _ I h) fun v s1 ⟨x,H1,I1,r1,q1⟩=>?_)
  obtain ⟨c,rfl,q1⟩:=q1
  cases r1
  refine wpAny_truthy_bool ?_
  cases c with
  | false=>exact hb pins s1 σ H1 Q I1 q1
  | true=>exact ⟨.bl true,H1,I1,rfl,q1⟩
def tIf (t:TT) (ta tb:TE):TE:=fun σ H Q=>t σ H fun c H1=>if c=true then ta σ H1 Q else tb σ H1 Q
theorem qS {c:Expr} (hc:PT X c tA) (ha:PE X a ta) (hb:PE X b tb):PE X (.IfExp c a b pos) (tIf tA ta tb):=by
  intro pins s σ H Q I h
  refine wpAny_IfExp (thn (hc pins s σ H _ I h) fun d s1 ⟨H1,I1,q1⟩=>?_)
  cases d with
  | true=>exact ha pins s1 σ H1 Q I1 q1
  | false=>exact hb pins s1 σ H1 Q I1 q1
end
end L2
namespace L2
open PySem PySem.Spec PyProof.Rows
def SqL (K:PySem.W.Frag) (H:Hp) (a:Addr) (xs:List V):Prop :=
  Rd H a (.lst xs) ∨
    ∃ (o:Obj) (its:Array Value) (n:Nat),K.lookup a=some o∧o.cls=.type "list" ∧ o.dict=none∧o.data=.seq its n∧its.size≤sizeLine∧Vals xs its.toList
def SqT (K:PySem.W.Frag) (H:Hp) (a:Addr) (xs:List V):Prop :=
  Rd H a (.tup xs) ∨
    ∃ (o:Obj) (its:Array Value) (n:Nat),K.lookup a=some o∧o.cls=.type "tuple" ∧ o.data=.seq its n∧its.size≤sizeLine∧Vals xs its.toList
def absV:Value→Option V
  | .none=>some .non
  | .bool b=>some (.bl b)
  | .int i _=>some (.int i)
  | .str x _=>some (.str x)
  | .bytes b _=>some (.byt b)
  | .float b _=>some (.flt b)
  | .ref a=>some (.ref a)
  | .type n=>some (.ty n)
  | _=>none
theorem RelV.abs {x:V} {u:Value} (r:RelV x u):absV u=some x:=by
  cases x with
  | non=>cases r; rfl
  | bl _=>cases r; rfl
  | int _=>obtain ⟨t,rfl⟩:=r; rfl
  | str _=>obtain ⟨t,rfl⟩:=r; rfl
  | byt _=>obtain ⟨t,rfl⟩:=r; rfl
  | flt _=>obtain ⟨t,rfl⟩:=r; rfl
  | ref _=>cases r; rfl
  | ty _=>cases r; rfl
theorem RelV.inj {x y:V} {u:Value} (r:RelV x u) (q:RelV y u):x=y:=Option.some.inj (r.abs.symm.trans q.abs)
theorem Vals.inj:∀ {xs ys:List V} {us:List Value},Vals xs us→Vals ys us→xs=ys
  | _,_,_,.nil,.nil=>rfl
  | _,_,_,.cons r t,.cons r' t'=>by rw [r.inj r',Vals.inj t t']
section
variable {X:Cx} {pins:List (Addr × Obj)} {σ:St} {H:Hp} {s:Shared} {a:Addr} {xs ys:List V}
theorem SqL.of {K:PySem.W.Frag} (h:H a=some (.lst xs)):SqL K H a xs:=.inl (.inl h)
theorem SqT.of {K:PySem.W.Frag} (h:H a=some (.tup xs)):SqT K H a xs:=.inl (.inl h)
theorem Inv.list (I:Inv X pins σ H s) (h:SqL X.K H a xs):∃ its:List Value,Vals xs its∧PlainL s.heap a its.toArray∧xs.length≤sizeLine:=by
  rcases h with h | ⟨o,its,n,hk,hc,hd,hs,hz,r⟩
  · obtain ⟨z,its,n,r,e⟩:=h.ok I.hok
    exact ⟨its,r,⟨_,n,e,rfl,rfl,rfl⟩,z⟩
  · refine ⟨its.toList,r,⟨o,n,I.kIn a o hk,hc,hd,by simpa using hs⟩,?_⟩
    have e:=r.length
    simp only [Array.length_toList] at e
    omega
theorem Inv.tuple (I:Inv X pins σ H s) (h:SqT X.K H a xs):∃ its:List Value,Vals xs its∧IsTup s.heap a its.toArray∧xs.length≤sizeLine:=by
  rcases h with h | ⟨o,its,n,hk,hc,hs,hz,r⟩
  · obtain ⟨z,its,r,p⟩:=h.ok I.hok
    exact ⟨its,r,p,z⟩
  · refine ⟨its.toList,r,⟨o,I.kIn a o hk,hc,n,by simpa using hs⟩,?_⟩
    have e:=r.length
    simp only [Array.length_toList] at e
    omega
theorem Inv.list_inj (I:Inv X pins σ H s) (h:SqL X.K H a xs) (h':SqL X.K H a ys):xs=ys:=by
  obtain ⟨its,r,⟨o,n,e,_,_,d⟩,_⟩:=I.list h
  obtain ⟨its',r',⟨o',n',e',_,_,d'⟩,_⟩:=I.list h'
  rw [e] at e'; cases e'
  rw [d] at d'
  injection d' with d1 _
  have:its=its':=by simpa using congrArg Array.toList d1
  subst this
  exact r.inj r'
theorem Inv.tuple_inj (I:Inv X pins σ H s) (h:SqT X.K H a xs) (h':SqT X.K H a ys):xs=ys:=by
  obtain ⟨its,r,⟨o,e,_,n,d⟩,_⟩:=I.tuple h
  obtain ⟨its',r',⟨o',e',_,n',d'⟩,_⟩:=I.tuple h'
  rw [e] at e'; cases e'
  rw [d] at d'
  injection d' with d1 _
  have:its=its':=by simpa using congrArg Array.toList d1
  subst this
  exact r.inj r'
end
abbrev Cx.wish (X:Cx) (E:Value→Shared→Prop):Cx:={ X with xe:=E }
abbrev Cx.nox (X:Cx):Cx:=X.wish fun _ _=>False
theorem Cx.Ok.wish {X:Cx} (ok:X.Ok) (E:Value→Shared→Prop):(X.wish E).Ok :=
  ⟨ok.mod,ok.kind,ok.glob,ok.blt,ok.above,ok.inj,ok.has,ok.cab,ok.hd,ok.frames,ok.stk,ok.exf,ok.bs,ok.bsz,ok.noex,ok.exfs,ok.funs,ok.frf⟩
theorem Cx.Ok.unwish {X:Cx} {E:Value→Shared→Prop} (ok:(X.wish E).Ok):X.Ok :=
  ⟨ok.mod,ok.kind,ok.glob,ok.blt,ok.above,ok.inj,ok.has,ok.cab,ok.hd,ok.frames,ok.stk,ok.exf,ok.bs,ok.bsz,ok.noex,ok.exfs,ok.funs,ok.frf⟩
section
variable {X:Cx} {pins:List (Addr × Obj)} {σ:St} {H:Hp} {s:Shared} {E:Value→Shared→Prop}
theorem Inv.wish (I:Inv X pins σ H s) (E:Value→Shared→Prop):Inv (X.wish E) pins σ H s:=⟨I.ok.wish E,I.os,I.bare,I.base,I.loc,I.cell,I.free,I.freeC,I.pin,I.hok,I.len⟩
theorem Inv.unwish (I:Inv (X.wish E) pins σ H s):Inv X pins σ H s:=⟨I.ok.unwish,I.os,I.bare,I.base,I.loc,I.cell,I.free,I.freeC,I.pin,I.hok,I.len⟩
theorem SP.unwish {D:Ends} {f:Flow} {s':Shared} (h:SP (X.wish E) pins D f s'):SP X pins D f s':=by
  cases f with
  | next=>obtain ⟨σ',H',I,q⟩:=h; exact ⟨σ',H',I.unwish,q⟩
  | brk=>obtain ⟨σ',H',I,q⟩:=h; exact ⟨σ',H',I.unwish,q⟩
  | cont=>obtain ⟨σ',H',I,q⟩:=h; exact ⟨σ',H',I.unwish,q⟩
  | ret u=>obtain ⟨v,σ',H',I,r,q⟩:=h; exact ⟨v,σ',H',I.unwish,r,q⟩
theorem PSs.nox {st:List Stmt} {t:TS} (h:PSs X.nox st t):PSs X st t:=fun pins s σ H D I hw =>
  wpAny_mono (h pins s σ H D (I.wish _) hw) (fun _ _ q=>q.unwish) fun _ _ z=>False.elim z
end
section
variable {X:Cx} {st:Stmt} {rest:List Stmt} {t u:TS} {e:Expr} {te:TE} {pos:Pos}
def tNext:TS:=fun D σ H=>D.nx σ H
def tSeq (t u:TS):TS:=fun D σ H=>t { D with nx:=u D } σ H
theorem aI:PSs X [] tNext:=fun _ _ σ H _ I h=>wpAny_execs_nil ⟨σ,H,I,h⟩
theorem ae (h1:PS X st t) (h2:PSs X rest u):PSs X (st :: rest) (tSeq t u):=by
  intro pins s σ H D I h
  refine wpAny_execs_cons (thn (h1 pins s σ H { D with nx:=u D } I h) fun f s1 q=>?_)
  cases f with
  | next =>
    obtain ⟨σ',H',I',q⟩:=q
    exact h2 pins s1 σ' H' D I' q
  | ret v=>exact q
  | brk=>exact q
  | cont=>exact q
theorem ag (h1:PS X st t):PSs X [st] t:=by
  intro pins s σ H D I h
  refine wpAny_execs_cons (thn (h1 pins s σ H D I h) fun f s1 q=>?_)
  cases f with
  | next=>exact wpAny_execs_nil q
  | ret v=>exact q
  | brk=>exact q
  | cont=>exact q
theorem Inv.quiet {pins:List (Addr × Obj)} {σ:St} {H:Hp} {s:Shared} (I:Inv X pins σ H s):interactive X.env=false:=by simp [interactive,I.ok.kind]
def tDrop (te:TE):TS:=fun D σ H=>te σ H fun _ H1=>D.nx σ H1
theorem bU (he:PE X e te) (hs:swapsWith e none pos.line X.env=pure false:=by rfl):PS X (.Expr e pos) (tDrop te):=by
  intro pins s σ H D I h
  exact wpAny_Expr_any (thn (he pins s σ H _ I h) fun v s1 ⟨x,H1,I1,r1,q1⟩=>⟨σ,H1,I1,q1⟩) I.quiet hs
def tRet (te:TE):TS:=fun D σ H=>te σ H D.rt
theorem au (he:PE X e te):PS X (.Return (some e) pos) (tRet te):=by
  intro pins s σ H D I h
  exact wpAny_Return_some (thn (he pins s σ H _ I h) fun v s1 ⟨x,H1,I1,r1,q1⟩=>⟨x,σ,H1,I1,r1,q1⟩)
def tIfS (c:TT) (t u:TS):TS:=fun D σ H=>c σ H fun b H1=>if b=true then t D σ H1 else u D σ H1
theorem aU {c:Expr} {a b:List Stmt} {tc:TT} (hc:PT X c tc) (ha:PSs X a t) (hb:PSs X b u):PS X (.If c a b pos) (tIfS tc t u):=by
  intro pins s σ H D I h
  refine wpAny_If (thn (hc pins s σ H _ I h) fun d s1 ⟨H1,I1,q1⟩=>?_)
  cases d with
  | true=>exact ha pins s1 σ H1 D I1 q1
  | false=>exact hb pins s1 σ H1 D I1 q1
end
abbrev TG:=V→St→Hp→(St→Hp→Prop)→Prop
abbrev TGs:=List V→St→Hp→(St→Hp→Prop)→Prop
def PG (X:Cx) (target:Expr) (t:TG):Prop :=
  ∀ (pins:List (Addr × Obj)) (s:Shared) (σ:St) (H:Hp) (v:V) (u:Value) (Q:St→Hp→Prop),Inv X pins σ H s→RelV v u→t v σ H Q →
    wpAny (model X.prog X.w) X.A (assign target X.env u) (fun _ s'=>∃ σ' H',Inv X pins σ' H' s'∧Q σ' H') X.xe s
def PGs (X:Cx) (ts:List Expr) (t:TGs):Prop :=
  ∀ (pins:List (Addr × Obj)) (s:Shared) (σ:St) (H:Hp) (vs:List V) (us:List Value) (Q:St→Hp→Prop),Inv X pins σ H s→Vals vs us→t vs σ H Q →
    wpAny (model X.prog X.w) X.A (assignInOrder ((assignEach ts X.env).map (·.2)) us) (fun _ s'=>∃ σ' H',Inv X pins σ' H' s'∧Q σ' H') X.xe s
abbrev TSet:=V→V→V→Hp→(Hp→Prop)→Prop
def PSet (X:Cx) (t:TSet):Prop :=
  ∀ (pins:List (Addr × Obj)) (s:Shared) (σ:St) (H:Hp) (o i v:V) (ov iv u:Value) (Q:Hp→Prop),Inv X pins σ H s→RelV o ov→RelV i iv→RelV v u→t o i v H Q →
    wpAny (model X.prog X.w) X.A (setItem ov iv u) (fun _ s'=>∃ H',Inv X pins σ H' s'∧Q H') X.xe s
section
variable {X:Cx} {pos:Pos}
def rN (i:Nat):TG:=fun v σ H Q=>Q (σ.set i (some v)) H
theorem aJ {i:Nat} {x:Str} (hN:X.N.Nodup) (hi:X.N[i]?=some x) (hx:Loc X.env.scope x) (hf:X.fn x=true∨X.env.scope.names.lookup x=some .local:=by first | exact .inl rfl | exact .inr rfl | assumption):PG X (.Name x pos) (rN i):=by
  intro pins s σ H v u Q I r h
  exact wpAny_assign_Name (qD I hN hi hx r (fun s' I'=>⟨_,H,I',h⟩) hf)
def gNil:TGs:=fun vs σ H Q=>vs=[]∧Q σ H
def gCons (t:TG) (u:TGs):TGs:=fun vs σ H Q=>∃ v r,vs=v :: r∧t v σ H fun σ' H'=>u r σ' H' Q
theorem dN:PGs X [] gNil:=by
  intro pins s σ H vs us Q I r h
  obtain ⟨e,h⟩:=h
  subst e
  cases r
  exact assignInOrder_nil ⟨σ,H,I,h⟩
theorem bd {e:Expr} {es:List Expr} {t:TG} {u:TGs} (h1:PG X e t) (h2:PGs X es u)
    (hs:(assignEach (e :: es) X.env).map (·.2)=assign e X.env :: (assignEach es X.env).map (·.2):=by rfl):PGs X (e :: es) (gCons t u):=by
  intro pins s σ H vs us Q I r h
  obtain ⟨v,vr,e1,h⟩:=h
  subst e1
  cases r with
  | cons r rr =>
    rw [hs]
    refine assignInOrder_cons (thn (h1 pins s σ H _ _ _ I r h) fun _ s1 ⟨σ1,H1,I1,q1⟩=>?_)
    exact h2 pins s1 σ1 H1 _ _ Q I1 rr q1
def gTup (K:PySem.W.Frag) (n:Nat) (t:TGs):TG:=fun v σ H Q=>∃ a xs,v=.ref a∧SqT K H a xs∧xs.length=n∧t xs σ H Q
theorem pg_tup {es:List Expr} {k:Nat} {t:TGs} {n:Nat} (hc:X.calm=true) (h:PGs X es t)
    (hn:(assignEach es X.env).length=n:=by rfl) (hst:(assignEach es X.env).findIdx? (·.1)=none:=by rfl):PG X (.Tuple es k pos) (gTup X.K n t):=by
  intro pins s σ H v u Q I r hw
  obtain ⟨a,xs,e1,hq,hl,hw⟩:=hw
  subst e1
  cases r
  obtain ⟨its,rv,ht,hz⟩:=I.tuple hq
  refine assign_Tuple_tuple (I.ok.hd hc) ht (by simp [hn,←hl,rv.length]) hst fun h' hx=>?_
  have I1:Inv X pins σ H { s with heap:=h' }:=I.kept (t':=s.toks) fun b o e=>hx b o (Nat.ne_of_lt (Heap.lt_size e)) e
  exact h pins _ σ H xs _ Q I1 (by simpa using rv) hw
def gSub (to ti:TE) (t:TSet):TG:=fun v σ H Q=>to σ H fun o H1=>ti σ H1 fun i H2=>t o i v H2 fun H3=>Q σ H3
theorem xk {o i:Expr} {to ti:TE} {t:TSet} (ho:PE X o to) (hi:PE X i ti) (hs:PSet X t)
    (ha:∀ v,assign (.Subscript o i pos) X.env v=(do
      let ov ← holding [v] (eval o X.env)
      let iv ← holding [v,ov] (eval i X.env)
      standAt pos
      holding [v,ov,iv] (setItem ov iv v)
      release [v,ov,iv] []):=by intro _; rfl):PG X (.Subscript o i pos) (gSub to ti t):=by
  intro pins s σ H v u Q I r h
  rw [ha]
  refine wpAny_bind (wpAny_holding (thn (ho pins s σ H _ I h) fun ov s1 ⟨x,H1,I1,r1,q1⟩=>?_))
  refine wpAny_bind (wpAny_holding (thn (hi pins s1 σ H1 _ I1 q1) fun iv s2 ⟨y,H2,I2,r2,q2⟩=>?_))
  refine wpAny_bind (wpAny_standAt (wpAny_bind (wpAny_holding (thn (hs pins s2 σ H2 x y v ov iv u _ I2 r1 r2 r q2) fun _ s3 ⟨H3,I3,q3⟩=>?_))))
  exact wpAny_release ⟨σ,H3,I3,q3⟩
def tAsg (te:TE) (g:TG):TS:=fun D σ H=>te σ H fun x H1=>g x σ H1 D.nx
theorem xg {tg e:Expr} {te:TE} {g:TG} (he:PE X e te) (hg:PG X tg g) (hs:swapsWithSole [tg] e pos.line X.env=pure false:=by rfl) (hw:swappedStores [tg] e X.env=pure none:=by rfl)
    (h1:(assignEach [tg] X.env).map (·.2)=[assign tg X.env]:=by rfl):PS X (.Assign [tg] e pos) (tAsg te g):=by
  intro pins s σ H D I h
  refine wpAny_Assign_stores (thn (he pins s σ H _ I h) fun v s1 ⟨x,H1,I1,r1,q1⟩=>?_) hs hw
  rw [h1]
  exact thn (hg pins s1 σ H1 x v _ I1 r1 q1) fun _ s2 q=>q
theorem aw {i:Nat} {x:Str} {e:Expr} {te:TE} {pos':Pos} (hN:X.N.Nodup) (hi:X.N[i]?=some x) (hx:Loc X.env.scope x) (he:PE X e te) (hs:swapsWith e (some (.Name x pos')) pos.line X.env=pure false:=by rfl) (hf:X.fn x=true∨X.env.scope.names.lookup x=some .local:=by first | exact .inl rfl | exact .inr rfl | assumption) :
    PS X (.Assign [.Name x pos'] e pos) (tAsg te (rN i)):=by
  intro pins s σ H D I h
  refine wpAny_Assign_Name (thn (he pins s σ H _ I h) fun v s1 ⟨y,H1,I1,r1,q1⟩=>?_) hs
  exact qD I1 hN hi hx r1 (fun s2 I2=>⟨_,H1,I2,q1⟩) hf
end
section
variable {X:Cx} {pos:Pos}
def wG (c:TT) (tb:TS):TS:=fun D σ H=>∃ W:Nat→St→Hp→Prop,(∃ m,W m σ H)∧∀ m σ H,W m σ H →
  c σ H fun b H1=>if b=true then ∃ N:St→Hp→Prop,(∀ σ' H',N σ' H'→∃ m',m' < m∧W m' σ' H')∧tb { D with nx:=N,ct:=N,bk:=D.nx } σ H1 else D.nx σ H1
theorem j1 {c:Expr} {body:List Stmt} {tc:TT} {tb:TS} (hp:PassesOwn (model X.prog X.w) X.A X.env X.xe) (hc:PT X c tc) (hb:PSs X body tb):PS X (.While c body [] pos) (wG tc tb):=by
  intro pins s σ H D I h
  obtain ⟨W,⟨m0,w0⟩,turn⟩:=h
  refine wpAny_While (codeAny_whileLoop (fun n s'=>∃ σ' H',Inv X pins σ' H' s'∧W n σ' H') ?_ m0 ⟨σ,H,I,w0⟩)
  rintro n s1 ⟨σ1,H1,I1,w1⟩
  refine wpAny_passesOwn hp (thn (hc pins s1 σ1 H1 _ I1 (turn n σ1 H1 w1)) fun b s2 ⟨H2,I2,q2⟩=>?_)
  cases b with
  | true =>
    obtain ⟨N,hN,q2⟩:=q2
    rw [if_pos rfl]
    refine wpAny_passesOwn hp (thn (hb pins s2 σ1 H2 _ I2 q2) fun f s3 q3=>?_)
    cases f with
    | next =>
      obtain ⟨σ3,H3,I3,n3⟩:=q3
      obtain ⟨m',hm,w3⟩:=hN σ3 H3 n3
      exact ⟨m',hm,σ3,H3,I3,w3⟩
    | cont =>
      obtain ⟨σ3,H3,I3,n3⟩:=q3
      obtain ⟨m',hm,w3⟩:=hN σ3 H3 n3
      exact ⟨m',hm,σ3,H3,I3,w3⟩
    | brk=>exact q3
    | ret v=>exact q3
  | false =>
    rw [if_neg Bool.false_ne_true]
    exact wpAny_execs_nil ⟨σ1,H2,I2,q2⟩
end
structure It where
  go:Nat→Hp→Prop
  yld:Nat→Hp→V→Hp→Prop
  stop:Nat→Hp→Prop
def FpOk (X:Cx) (pins:List (Addr × Obj)) (H:Hp) (b:Addr):Prop :=
  H b=none∧b≠X.env.locals∧b∉X.fs∧(b∈X.ex∨X.s_0.heap.objs.size≤b)∧(∀ x c,X.env.cells.lookup x=some c→c≠b)∧∀ p∈X.pn++pins,p.1≠b
theorem Inv.fpOk {X:Cx} {pins:List (Addr × Obj)} {σ:St} {H H':Hp} {s:Shared} {b:Addr} (I:Inv X pins σ H s) (hb:s.heap.objs.size≤b) (hn:H' b=none):FpOk X pins H' b:=by
  refine ⟨hn,Nat.ne_of_gt (Nat.lt_of_lt_of_le I.lt hb),I.nofs hb,.inr (Nat.le_trans I.sz hb),fun x c e z=>?_,fun p hp z=>?_⟩
  · obtain ⟨v,q⟩:=I.cell x c e
    exact absurd (Nat.lt_of_lt_of_le q.lt (by rw [z]; exact hb)) (Nat.lt_irrefl _)
  · exact absurd (Nat.lt_of_lt_of_le (Heap.lt_size (I.pin p hp).1) (by rw [z]; exact hb)) (Nat.lt_irrefl _)
structure Turn (P:Program) (w:World) (K:PySem.W.Frag) (tg:Expr) (J:It) (fp:List Addr) (it:Addr) (tn:Nat→Heap→Prop):Prop where
  mem:it∈fp
  obj:∀ i h,tn i h→∀ b∈fp,∃ o,h.get? b=some o∧∀ v,o.data≠.cell v
  keep:∀ i h h',tn i h→(∀ b∈fp,∀ o,h.get? b=some o→h'.get? b=some o)→tn i h'
  item:∀ (X:Cx),X.prog=P→X.w=w→X.K=K→X.calm=true→∀ (i:Nat) (pins:List (Addr × Obj)) (s:Shared) (σ:St) (H:Hp) (E:Value→Shared→Prop),Inv X pins σ H s→(∀ b∈fp,FpOk X pins H b)→tn i s.heap→J.go i H →
    wpAny (model P w) X.A (pyNext (.ref it)) (fun r s1=>∃ u,r=some u ∧
      wpAny (model P w) X.A (letOwnedTupleGo tg (.ref it) u) (fun _ s2=>∃ x H',Inv X pins σ H' s2∧RelV x u∧J.yld i H x H'∧tn (i + 1) s2.heap∧∀ b∈fp,H' b=none) E s1) E s
  done:∀ (X:Cx),X.prog=P→X.w=w→X.K=K→X.calm=true→∀ (i:Nat) (pins:List (Addr × Obj)) (s:Shared) (σ:St) (H:Hp) (E:Value→Shared→Prop),Inv X pins σ H s→(∀ b∈fp,FpOk X pins H b)→tn i s.heap→J.stop i H →
    wpAny (model P w) X.A (pyNext (.ref it)) (fun r s1=>r=none∧Inv X pins σ H s1) E s
  self:∀ (A:Around) (i:Nat) (s:Shared) (Q:Value→Shared→Prop) (E:Value→Shared→Prop),tn i s.heap→Q (.ref it) s→wpAny (model P w) A (pyIter (.ref it)) Q E s
abbrev TI:=St→Hp→(It→Hp→Prop)→Prop
def PIE (X:Cx) (pins:List (Addr × Obj)) (σ:St) (tg:Expr) (R:It→Hp→Prop) (itv:Value) (s2:Shared):Prop :=
  ∃ (it:Addr) (fp:List Addr) (tn:Nat→Heap→Prop) (J:It) (H':Hp),itv=.ref it∧Inv X pins σ H' s2∧Turn X.prog X.w X.K tg J fp it tn∧tn 0 s2.heap∧(∀ b∈fp,FpOk X pins H' b)∧R J H'
def PI (X:Cx) (tg iter:Expr) (wi:TI):Prop :=
  ∀ (pins:List (Addr × Obj)) (s:Shared) (σ:St) (H:Hp) (R:It→Hp→Prop),Inv X pins σ H s→wi σ H R →
    wpAny (model X.prog X.w) X.A (eval iter X.env) (fun v s1=>wpAny (model X.prog X.w) X.A (pyIter v) (PIE X pins σ tg R) X.xe s1) X.xe s
theorem rM {M:Model} {A:Around} {E:Value→Shared→Prop} {s:Shared} {tg:Expr} {it:Addr} {u:Value} {o:Obj} {n:String} {vs:Array Value} {Q:Unit→Shared→Prop} (ho:s.heap.get? it=some o) (hc:o.cls=.type n) (hd:o.data=.fields vs)
    (hn:["enumerate", "zip", "dict_itemiterator", "dict_reverseitemiterator", "odict_iterator", "itertools.zip_longest", "itertools.pairwise"].contains n=false) (hQ:Q () s):wpAny M A (letOwnedTupleGo tg (.ref it) u) Q E s:=by
  unfold letOwnedTupleGo
  cases tg <;> first
    | exact wpAny_pure hQ
    | (cases u <;> first
        | exact wpAny_pure hQ
        | (refine wpAny_bind (wpAny_load ho ?_)
           rw [hc,hd]
           show wpAny M A (if (["enumerate", "zip", "dict_itemiterator", "dict_reverseitemiterator", "odict_iterator", "itertools.zip_longest", "itertools.pairwise"].contains n && vs[0]? == some (rawInt _))=true then _ else _) Q E s
           rw [if_neg (by intro h; rw [hn,Bool.false_and] at h; cases h)]
           exact wpAny_pure hQ))
def Itl (K:PySem.W.Frag) (a:Addr):It :=
  ⟨fun i H=>∃ xs x,SqL K H a xs∧xs[i]?=some x,fun i H x H'=>H'=H∧∀ xs,SqL K H a xs→xs[i]?=some x,fun i H=>∃ xs,SqL K H a xs∧xs.length≤i⟩
def Itt (K:PySem.W.Frag) (a:Addr):It :=
  ⟨fun i H=>∃ xs x,SqT K H a xs∧xs[i]?=some x,fun i H x H'=>H'=H∧∀ xs,SqT K H a xs→xs[i]?=some x,fun i H=>∃ xs,SqT K H a xs∧xs.length≤i⟩
def Itr (lo:Int) (n:Nat):It:=⟨fun i _=>i < n,fun i H x H'=>H'=H∧x=.int (lo + i),fun i _=>n≤i⟩
theorem vj {P:Program} {w:World} {K:PySem.W.Frag} {tg:Expr} (a it:Addr):Turn P w K tg (Itl K a) [it] it (fun i h=>h.IsListIter it a i) where
  mem:=by simp
  obj:=fun i h st b hb=>by
    have e:b=it:=by simpa using hb
    subst e
    obtain ⟨o,e,c,d⟩:=st
    exact ⟨o,e,fun v z=>by rw [d] at z; cases z⟩
  keep:=fun i h h' st k=>st.at fun o e=>k it (by simp) o e
  item:=by
    intro X hP hw hK hc i pins s σ H E I hf st hg
    subst hP hw hK
    obtain ⟨xs,x,hq,hx⟩:=hg
    obtain ⟨its,rv,p,hz⟩:=I.list hq
    obtain ⟨u,hu,ru⟩:=rv.get hx
    obtain ⟨f0,f1,f2,f3,f4,f5⟩:=hf it (by simp)
    refine wpAny_pyNext_list_item st p.isList (x:=u) (by simpa using hu) fun h' st' sb=>?_
    have I1:Inv X pins σ H { s with heap:=h' }:=I.turned (t':=s.toks) (fun b o hb e=>(sb.2 b hb).trans e) f0 f1 f3 f4 f5
    obtain ⟨o,e,c,d⟩:=id st'
    exact ⟨u,rfl,rM (s:={ s with heap:=h' }) e c d (by decide) ⟨x,H,I1,ru,⟨rfl,fun ys hy=>by rw [I.list_inj hy hq]; exact hx⟩,st',fun b hb=>(hf b hb).1⟩⟩
  done:=by
    intro X hP hw hK hc i pins s σ H E I hf st hg
    subst hP hw hK
    obtain ⟨xs,hq,hx⟩:=hg
    obtain ⟨its,rv,p,hz⟩:=I.list hq
    obtain ⟨f0,f1,f2,f3,f4,f5⟩:=hf it (by simp)
    have hl:=rv.length
    exact wpAny_pyNext_list_end (I.ok.hd hc) st p.isList (by simp; omega) fun h' eb=>⟨rfl,I.turned (t':=s.toks) (fun b o hb e=>eb b o hb e) f0 f1 f3 f4 f5⟩
  self:=fun _ _ _ _ _ st h=>wpAny_pyIter_listiter st h
theorem sG {P:Program} {w:World} {K:PySem.W.Frag} {tg:Expr} (a it:Addr):Turn P w K tg (Itt K a) [it] it (fun i h=>h.IsTupleIter it a i) where
  mem:=by simp
  obj:=fun i h st b hb=>by
    have e:b=it:=by simpa using hb
    subst e
    obtain ⟨o,e,c,d⟩:=st
    exact ⟨o,e,fun v z=>by rw [d] at z; cases z⟩
  keep:=fun i h h' st k=>st.at fun o e=>k it (by simp) o e
  item:=by
    intro X hP hw hK hc i pins s σ H E I hf st hg
    subst hP hw hK
    obtain ⟨xs,x,hq,hx⟩:=hg
    obtain ⟨its,rv,p,hz⟩:=I.tuple hq
    obtain ⟨u,hu,ru⟩:=rv.get hx
    obtain ⟨f0,f1,f2,f3,f4,f5⟩:=hf it (by simp)
    refine wpAny_pyNext_tuple_item st (show s.heap.IsTuple a its.toArray from p) (x:=u) (by simpa using hu) fun h' st' sb=>?_
    have I1:Inv X pins σ H { s with heap:=h' }:=I.turned (t':=s.toks) (fun b o hb e=>(sb.2 b hb).trans e) f0 f1 f3 f4 f5
    obtain ⟨o,e,c,d⟩:=id st'
    exact ⟨u,rfl,rM (s:={ s with heap:=h' }) e c d (by decide) ⟨x,H,I1,ru,⟨rfl,fun ys hy=>by rw [I.tuple_inj hy hq]; exact hx⟩,st',fun b hb=>(hf b hb).1⟩⟩
  done:=by
    intro X hP hw hK hc i pins s σ H E I hf st hg
    subst hP hw hK
    obtain ⟨xs,hq,hx⟩:=hg
    obtain ⟨its,rv,p,hz⟩:=I.tuple hq
    obtain ⟨f0,f1,f2,f3,f4,f5⟩:=hf it (by simp)
    have hl:=rv.length
    exact wpAny_pyNext_tuple_end (I.ok.hd hc) st (show s.heap.IsTuple a its.toArray from p) (by simp; omega) fun h' eb=>⟨rfl,I.turned (t':=s.toks) (fun b o hb e=>eb b o hb e) f0 f1 f3 f4 f5⟩
  self:=fun _ _ _ _ _ st h=>wpAny_pyIter_tupleiter st h
theorem sI {P:Program} {w:World} {K:PySem.W.Frag} {tg:Expr} (it:Addr) (lo:Int) (n:Nat):Turn P w K tg (Itr lo n) [it] it (fun i h=>IsRangeIter h it (lo + (i:Nat) * 1) ((n:Int) - (i:Nat)) 1) where
  mem:=by simp
  obj:=fun i h st b hb=>by
    have e:b=it:=by simpa using hb
    subst e
    exact ⟨_,st,fun v z=>by
      have z':Data.fields _=Data.cell v:=z
      cases z'⟩
  keep:=fun i h h' st k=>k it (by simp) _ st
  item:=by
    intro X hP hw hK hc i pins s σ H E I hf st hg
    subst hP hw hK
    obtain ⟨f0,f1,f2,f3,f4,f5⟩:=hf it (by simp)
    have W:=Walks.range (prog:=X.prog) (w:=X.w) (I.ok.hd hc) it lo 1 n
    refine W.item i s _ _ hg st fun v h' tk hv st' kk=>?_
    obtain ⟨t,rfl⟩:=hv
    have I1:Inv X pins σ H { s with heap:=h',toks:=tk }:=I.turned (fun b o hb e=>kk b o (by simpa using hb) e) f0 f1 f3 f4 f5
    refine ⟨_,rfl,rM (s:={ s with heap:=h',toks:=tk }) (n := "range_iterator") st' rfl rfl (by decide) ⟨.int (lo + i),H,I1,⟨t,?_⟩,⟨rfl,rfl⟩,st',fun b hb=>(hf b hb).1⟩⟩
    rw [Int.mul_one]
  done:=by
    intro X hP hw hK hc i pins s σ H E I hf st hg
    subst hP hw hK
    obtain ⟨f0,f1,f2,f3,f4,f5⟩:=hf it (by simp)
    exact wpAny_pyNext_range_end (I.ok.hd hc) st (by have:n≤i:=hg; omega) fun h' eb=>⟨rfl,I.turned (t':=s.toks) (fun b o hb e=>eb b o hb e) f0 f1 f3 f4 f5⟩
  self:=fun _ _ _ _ _ st h=>wpAny_pyIter_rangeiter st h
end L2
namespace L2
open PySem PySem.Spec PyProof.Rows
section
variable {X:Cx} {tg:Expr}
def iList (K:PySem.W.Frag) (tl:TE):TI:=fun σ H R=>tl σ H fun x H1=>∃ a,x=.ref a∧(∃ xs,SqL K H1 a xs)∧R (Itl K a) H1
def iTup (K:PySem.W.Frag) (tl:TE):TI:=fun σ H R=>tl σ H fun x H1=>∃ a,x=.ref a∧(∃ xs,SqT K H1 a xs)∧R (Itt K a) H1
theorem bV {l:Expr} {tl:TE} (hl:PE X l tl):PI X tg l (iList X.K tl):=by
  intro pins s σ H R I h
  refine thn (hl pins s σ H _ I h) fun v s1 ⟨x,H1,I1,r1,q1⟩=>?_
  obtain ⟨a,e,⟨xs,hq⟩,q⟩:=q1
  subst e
  cases r1
  obtain ⟨its,rv,p,hz⟩:=I1.list hq
  refine wpAny_pyIter_list p.isList ?_
  refine ⟨s1.heap.objs.size,[s1.heap.objs.size],_,_,H1,rfl,I1.kept (t':=s1.toks) fun b o e=>Heap.get?_push_of_some _ e,vj a _,⟨_,Heap.get?_push_size _ rfl,rfl,rfl⟩,fun b hb=>?_,q⟩
  have e:b=s1.heap.objs.size:=by simpa using hb
  subst e
  exact I1.fpOk (Nat.le_refl _) (I1.hok.fresh (Nat.le_refl _))
theorem pi_tup {l:Expr} {tl:TE} (hl:PE X l tl):PI X tg l (iTup X.K tl):=by
  intro pins s σ H R I h
  refine thn (hl pins s σ H _ I h) fun v s1 ⟨x,H1,I1,r1,q1⟩=>?_
  obtain ⟨a,e,⟨xs,hq⟩,q⟩:=q1
  subst e
  cases r1
  obtain ⟨its,rv,p,hz⟩:=I1.tuple hq
  refine wpAny_pyIter_tuple (show s1.heap.IsTuple a its.toArray from p) ?_
  refine ⟨s1.heap.objs.size,[s1.heap.objs.size],_,_,H1,rfl,I1.kept (t':=s1.toks) fun b o e=>Heap.get?_push_of_some _ e,sG a _,⟨_,Heap.get?_push_size _ rfl,rfl,rfl⟩,fun b hb=>?_,q⟩
  have e:b=s1.heap.objs.size:=by simpa using hb
  subst e
  exact I1.fpOk (Nat.le_refl _) (I1.hok.fresh (Nat.le_refl _))
theorem xa {pins:List (Addr × Obj)} {σ:St} {H:Hp} {s:Shared} {R:It→Hp→Prop} {E:Value→Shared→Prop} {lo hi:Int} {t u v:Tok} {tk:Nat} (I:Inv X pins σ H s) (h1:-(2 ^ 62)≤lo) (h2:lo < 2 ^ 62) (h3:-(2 ^ 62)≤hi) (h4:hi < 2 ^ 62)
    (q:R (Itr lo (hi - lo).toNat) H):wpAny (model X.prog X.w) X.A (pyIter (.ref s.heap.objs.size)) (PIE X pins σ tg R) E { s with heap:=s.heap.push { cls:=.type "range",data:=.fields #[.int lo t,.int hi u,.int 1 v] },toks:=tk }:=by
  refine wpAny_pyIter_range (IsRange.new ..) (small_one h1 h2 h3 h4) ?_
  have I1:Inv X pins σ H { s with heap:=s.heap.push { cls:=.type "range",data:=.fields #[.int lo t,.int hi u,.int 1 v] },toks:=tk }:=I.kept fun b o e=>Heap.get?_push_of_some _ e
  refine ⟨(s.heap.push { cls:=.type "range",data:=.fields #[.int lo t,.int hi u,.int 1 v] }).objs.size,[(s.heap.push { cls:=.type "range",data:=.fields #[.int lo t,.int hi u,.int 1 v] }).objs.size],_,_,H,rfl,
    I1.kept (t':=tk) fun b o e=>Heap.get?_push_of_some _ e,sI _ lo (hi - lo).toNat,?_,fun b hb=>?_,q⟩
  · have e1:lo + ((0:Nat):Int) * 1=lo:=by simp
    have e2:(((hi - lo).toNat:Nat):Int) - ((0:Nat):Int)=Builtin.Range.rangeSize lo hi 1:=by rw [rangeSize_one]; split <;> omega
    show IsRangeIter _ _ (lo + ((0:Nat):Int) * 1) ((((hi - lo).toNat:Nat):Int) - ((0:Nat):Int)) 1
    rw [e1,e2]
    exact Heap.get?_push_size _ rfl
  · have e:b=(s.heap.push { cls:=.type "range",data:=.fields #[.int lo t,.int hi u,.int 1 v] }).objs.size:=by simpa using hb
    subst e
    exact I1.fpOk (Nat.le_refl _) (I1.hok.fresh (Nat.le_refl _))
def iRng1 (ta:TA):TI:=fun σ H R=>ta σ H fun vs H1=>∃ j:Int,vs=[.int j]∧-(2 ^ 62)≤j∧j < 2 ^ 62∧R (Itr 0 j.toNat) H1
theorem cI {a:Expr} {ta:TA} {p pos:Pos} (hg:Gl X "range") (hm:X.mg "range" = none) (ha:PA X [a] ta) (hs:starEach [a] X.env=[(false,eval a X.env)]:=by rfl):PI X tg (.Call (.Name "range" p) [a] [] pos) (iRng1 ta):=by
  intro pins s σ H R I h
  refine Call_ (gN I hg hm boot_range (PyProof.Rows.callWith_type1 (thn (ha pos pins s σ H _ I h) fun us s1 ⟨vs,H1,I1,r1,q1⟩=>?_) hs rfl))
  obtain ⟨j,e,q1,q2,q⟩:=q1
  subst e
  cases r1 with
  | cons r rr =>
    cases rr
    obtain ⟨t,rfl⟩:=r
    exact call_range_1 (xa I1 (by omega) (by omega) q1 q2 (by simpa using q))
def tFor (wi:TI) (g:TG) (tb:TS):TS:=fun D σ H=>wi σ H fun J H1=>∃ W:Nat→Nat→St→Hp→Prop,(∃ m,W 0 m σ H1)∧∀ i m σ H,W i m σ H →
  (J.stop i H∧D.nx σ H)∨(J.go i H∧∃ N:St→Hp→Prop,(∀ σ' H',N σ' H'→∃ m',m' < m∧W (i + 1) m' σ' H')∧∀ x H',J.yld i H x H'→g x σ H' fun σ2 H2=>tb { D with nx:=N,ct:=N,bk:=D.nx } σ2 H2)
def mM (fp:List Addr) (h:Heap):List (Addr × Obj):=fp.filterMap fun b=>(h.get? b).map fun o=>(b,o)
theorem jD {fp:List Addr} {h:Heap} {b:Addr} {o:Obj} (hb:b∈fp) (e:h.get? b=some o):(b,o)∈mM fp h:=List.mem_filterMap.mpr ⟨b,hb,by rw [e]; rfl⟩
theorem vE {fp:List Addr} {h:Heap} {p:Addr × Obj} (hp:p∈mM fp h):p.1∈fp∧h.get? p.1=some p.2:=by
  obtain ⟨b,hb,e⟩:=List.mem_filterMap.mp hp
  cases q:h.get? b with
  | none=>rw [q] at e; cases e
  | some o =>
    rw [q] at e
    have e':(b,o)=p:=Option.some.inj e
    subst e'
    exact ⟨hb,q⟩
theorem Inv.pinned {pins:List (Addr × Obj)} {σ:St} {H:Hp} {s:Shared} {fp:List Addr} (I:Inv X pins σ H s) (hf:∀ b∈fp,FpOk X pins H b) (ho:∀ b∈fp,∃ o,s.heap.get? b=some o∧∀ v,o.data≠.cell v):Inv X (pins++mM fp s.heap) σ H s :=
  I.pins_of fun p hp=>(List.mem_append.mp hp).elim (fun z=>I.pin p (List.mem_append_right _ z)) fun z=>by
    obtain ⟨hb,e⟩:=vE z
    obtain ⟨f0,f1,f2,_⟩:=hf p.1 hb
    obtain ⟨o,e',d⟩:=ho p.1 hb
    rw [e] at e'; cases e'
    exact ⟨e,f0,f1,f2,d⟩
theorem Inv.unpinned {pins pl:List (Addr × Obj)} {σ:St} {H:Hp} {s:Shared} (I:Inv X (pins++pl) σ H s):Inv X pins σ H s:=I.pins_of fun p hp=>I.pin p (List.mem_append_right _ (List.mem_append_left _ hp))
theorem bS {iter:Expr} {body:List Stmt} {wi:TI} {g:TG} {tb:TS} {pos:Pos} (hp:PassesOwn (model X.prog X.w) X.A X.env X.xe) (hc:X.calm=true) (hi:PI X tg iter wi) (hg:PG X tg g) (hb:PSs X body tb)
    (hs:∀ x,foldedSetIterable iter X.env x=pure x:=by intro _; rfl):PS X (.For tg iter body [] pos) (tFor wi g tb):=by
  intro pins s σ H D I h
  refine wpAny_For (thn (hi pins s σ H _ I h) fun v s1 h1=>thn h1 fun itv s2 h2=>?_) hs
  obtain ⟨it,fp,tn,J,H2,e,I2,T,st2,f2,W,⟨m0,w0⟩,turn⟩:=h2
  subst e
  have stat:∀ {H':Hp},(∀ b∈fp,H' b=none)→∀ b∈fp,FpOk X pins H' b:=fun hn b hb=>⟨hn b hb,(f2 b hb).2⟩
  refine codeAny_forLoop_any (fun n s'=>∃ i σ' H',Inv X pins σ' H' s'∧tn i s'.heap∧(∀ b∈fp,H' b=none)∧W i n σ' H') ?_ m0 ⟨0,σ,H2,I2,st2,fun b hb=>(f2 b hb).1,w0⟩
  rintro n s3 ⟨i,σ3,H3,I3,st3,fr3,w3⟩
  rcases turn i n σ3 H3 w3 with ⟨stop,qn⟩ | ⟨go,N,hN,step⟩
  · refine wpAny_passesOwn hp (thn (T.done X rfl rfl rfl hc i pins s3 σ3 H3 X.xe I3 (stat fr3) st3 stop) fun r s4 ⟨hr,I4⟩=>?_)
    subst hr
    exact wpAny_execs_nil ⟨σ3,H3,I4,qn⟩
  · refine wpAny_passesOwn hp (thn (T.item X rfl rfl rfl hc i pins s3 σ3 H3 X.xe I3 (stat fr3) st3 go) fun r s4 ⟨u,hr,h4⟩=>?_)
    subst hr
    refine wpAny_passesOwn hp (thn h4 fun _ s5 ⟨x,H5,I5,r5,y5,st5,fr5⟩=>?_)
    have I5':=I5.pinned (stat fr5) (T.obj _ _ st5)
    refine wpAny_passesOwn hp (thn (hg _ s5 σ3 H5 x u _ I5' r5 (step x H5 y5)) fun _ s6 ⟨σ6,H6,I6,q6⟩=>?_)
    refine wpAny_passesOwn hp (thn (hb _ s6 σ6 H6 _ I6 q6) fun f s7 q7=>?_)
    have again:∀ {σ7:St} {H7:Hp},Inv X (pins++mM fp s5.heap) σ7 H7 s7→N σ7 H7→∃ m,m < n∧∃ i σ' H',Inv X pins σ' H' s7∧tn i s7.heap∧(∀ b∈fp,H' b=none)∧W i m σ' H':=fun {σ7 H7} I7 n7=>by
      obtain ⟨m',hm,w7⟩:=hN σ7 H7 n7
      refine ⟨m',hm,i + 1,σ7,H7,I7.unpinned,T.keep _ _ _ st5 fun b hb o e=>(I7.pin (b,o) (List.mem_append_right _ (List.mem_append_right _ (jD hb e)))).1,fun b hb=>?_,w7⟩
      obtain ⟨o,e,d⟩:=T.obj _ _ st5 b hb
      exact (I7.pin (b,o) (List.mem_append_right _ (List.mem_append_right _ (jD hb e)))).2.1
    cases f with
    | next=>obtain ⟨σ7,H7,I7,n7⟩:=q7; exact again I7 n7
    | cont=>obtain ⟨σ7,H7,I7,n7⟩:=q7; exact again I7 n7
    | brk=>obtain ⟨σ7,H7,I7,q7⟩:=q7; exact ⟨σ7,H7,I7.unpinned,q7⟩
    | ret v=>obtain ⟨x7,σ7,H7,I7,r7,q7⟩:=q7; exact ⟨x7,σ7,H7,I7.unpinned,r7,q7⟩
end
theorem fe {K:PySem.W.Frag} {a:Addr} {xs:List V} {g:TG} {tb:TS} {D:Ends} {σ:St} {H:Hp} (Pv:Nat→St→Hp→Prop) (h0:Pv 0 σ H) (hl:∀ i σ H,i≤xs.length→Pv i σ H→SqL K H a xs)
    (hs:∀ i x σ H,xs[i]?=some x→Pv i σ H→g x σ H fun σ2 H2=>tb { D with nx:=Pv (i + 1),ct:=Pv (i + 1),bk:=D.nx } σ2 H2) (hd:∀ σ H,Pv xs.length σ H→D.nx σ H) :
    ∃ W:Nat→Nat→St→Hp→Prop,(∃ m,W 0 m σ H)∧∀ i m σ H,W i m σ H →
      ((Itl K a).stop i H∧D.nx σ H)∨((Itl K a).go i H∧∃ N:St→Hp→Prop,(∀ σ' H',N σ' H'→∃ m',m' < m∧W (i + 1) m' σ' H')∧∀ x H',(Itl K a).yld i H x H'→g x σ H' fun σ2 H2=>tb { D with nx:=N,ct:=N,bk:=D.nx } σ2 H2):=by
  refine ⟨fun i m σ H=>m=xs.length - i∧i≤xs.length∧Pv i σ H,⟨xs.length,by simp,Nat.zero_le _,h0⟩,?_⟩
  rintro i m σ H ⟨rfl,hi,p⟩
  have q:=hl i σ H hi p
  by_cases hlt:i < xs.length
  · refine .inr ⟨⟨xs,xs[i],q,by simp [hlt]⟩,Pv (i + 1),fun σ' H' p'=>⟨xs.length - (i + 1),by omega,rfl,hlt,p'⟩,fun x H' y=>?_⟩
    obtain ⟨e,y⟩:=y
    subst e
    exact hs i x σ _ (y xs q) p
  · have e:i=xs.length:=by omega
    subst e
    exact .inl ⟨⟨xs,q,Nat.le_refl _⟩,hd σ H p⟩
theorem iW {lo:Int} {n:Nat} {g:TG} {tb:TS} {D:Ends} {σ:St} {H:Hp} (Pv:Nat→St→Hp→Prop) (h0:Pv 0 σ H)
    (hs:∀ i σ H,i < n→Pv i σ H→g (.int (lo + i)) σ H fun σ2 H2=>tb { D with nx:=Pv (i + 1),ct:=Pv (i + 1),bk:=D.nx } σ2 H2) (hd:∀ σ H,Pv n σ H→D.nx σ H) :
    ∃ W:Nat→Nat→St→Hp→Prop,(∃ m,W 0 m σ H)∧∀ i m σ H,W i m σ H →
      ((Itr lo n).stop i H∧D.nx σ H)∨((Itr lo n).go i H∧∃ N:St→Hp→Prop,(∀ σ' H',N σ' H'→∃ m',m' < m∧W (i + 1) m' σ' H')∧∀ x H',(Itr lo n).yld i H x H'→g x σ H' fun σ2 H2=>tb { D with nx:=N,ct:=N,bk:=D.nx } σ2 H2):=by
  refine ⟨fun i m σ H=>m=n - i∧i≤n∧Pv i σ H,⟨n,by simp,Nat.zero_le _,h0⟩,?_⟩
  rintro i m σ H ⟨rfl,hi,p⟩
  by_cases hlt:i < n
  · refine .inr ⟨hlt,Pv (i + 1),fun σ' H' p'=>⟨n - (i + 1),by omega,rfl,hlt,p'⟩,fun x H' y=>?_⟩
    obtain ⟨e,y⟩:=y
    subst e y
    exact hs i σ _ hlt p
  · have e:i=n:=by omega
    subst e
    exact .inl ⟨Nat.le_refl _,hd σ H p⟩
theorem jR {c:TT} {tb:TS} {D:Ends} {σ:St} {H:Hp} (Pv:St→Hp→Prop) (μ:St→Hp→Nat) (h0:Pv σ H)
    (hs:∀ σ H,Pv σ H→c σ H fun b H1=>if b=true then tb { D with nx:=fun σ' H'=>Pv σ' H'∧μ σ' H' < μ σ H,ct:=fun σ' H'=>Pv σ' H'∧μ σ' H' < μ σ H,bk:=D.nx } σ H1 else D.nx σ H1)
    (mono:∀ σ H Q Q',(∀ b H1,Q b H1→Q' b H1)→c σ H Q→c σ H Q'):wG c tb D σ H:=by
  refine ⟨fun m σ H=>m=μ σ H∧Pv σ H,⟨_,rfl,h0⟩,?_⟩
  rintro m σ H ⟨rfl,p⟩
  refine mono σ H _ _ (fun b H1 q=>?_) (hs σ H p)
  cases b with
  | true=>exact ⟨_,fun σ' H' ⟨p',l⟩=>⟨_,l,rfl,p'⟩,q⟩
  | false=>exact q
end L2
namespace L2
open PySem PySem.Spec PyProof.Rows
abbrev R2:=V→V→Hp→VK→Prop
def OpR (X:Cx) (f:Value→Value→Sem Value) (r:R2):Prop :=
  ∀ (pins:List (Addr × Obj)) (s:Shared) (σ:St) (H:Hp) (x y:V) (v u:Value) (Q:VK),Inv X pins σ H s→RelV x v→RelV y u→r x y H Q →
    wpAny (model X.prog X.w) X.A (f v u) (EP X pins σ Q) X.xe s
def fF (X:Cx) (f:Value) (r:List V→Hp→VK→Prop):Prop :=
  ∀ (pins:List (Addr × Obj)) (s:Shared) (σ:St) (H:Hp) (xs:List V) (us:List Value) (Q:VK),Inv X pins σ H s→Vals xs us→r xs H Q →
    wpAny (model X.prog X.w) X.A (call f us) (EP X pins σ Q) X.xe s
def TruR (X:Cx) (r:V→Hp→(Bool→Hp→Prop)→Prop):Prop :=
  ∀ (pins:List (Addr × Obj)) (s:Shared) (σ:St) (H:Hp) (x:V) (v:Value) (Q:Bool→Hp→Prop),Inv X pins σ H s→RelV x v→r x H Q →
    wpAny (model X.prog X.w) X.A (truthy v) (TP X pins σ Q) X.xe s
def tOp (r:R2) (ta tb:TE):TE:=fun σ H Q=>ta σ H fun x H1=>tb σ H1 fun y H2=>r x y H2 Q
def rI (C:Int→Int→Prop) (g:Int→Int→V):R2:=fun x y H Q=>∃ i j,x=.int i∧y=.int j∧C i j∧Q (g i j) H
def rI0 (g:Int→Int→V):R2:=fun x y H Q=>∃ i j,x=.int i∧y=.int j∧Q (g i j) H
section
variable {X:Cx} {a b c:Expr} {ta tb tc:TE} {pos:Pos}
theorem binT (ha:PE X a ta) (hb:PE X b tb) {pins:List (Addr × Obj)} {s:Shared} {σ:St} {H:Hp} {R:V→V→Hp→Prop} (I:Inv X pins σ H s)
    (h:ta σ H fun x H1=>tb σ H1 fun y H2=>R x y H2) {Q:Value→Shared→Prop} {f:Value→Value→Sem Value}
    (hf:∀ v u s2 x y H2,Inv X pins σ H2 s2→RelV x v→RelV y u→R x y H2→wpAny (model X.prog X.w) X.A (f v u) Q X.xe s2) :
    wpAny (model X.prog X.w) X.A (eval a X.env) (fun v s₁=>wpAny (model X.prog X.w) X.A (eval b X.env) (fun u s₂=>wpAny (model X.prog X.w) X.A (f v u) Q X.xe s₂) X.xe s₁) X.xe s:=by
  refine thn (ha pins s σ H _ I h) fun v s1 ⟨x,H1,I1,r1,q1⟩=>?_
  refine thn (hb pins s1 σ H1 _ I1 q1) fun u s2 ⟨y,H2,I2,r2,q2⟩=>?_
  exact hf v u s2 x y H2 I2 r1 r2 q2
theorem aG {op:Operator} {r:R2} (ho:OpR X (binaryOp op) r) (ha:PE X a ta) (hb:PE X b tb):PE X (.BinOp a op b pos) (tOp r ta tb):=by
  intro pins s σ H Q I h
  exact wpAny_BinOp (binT ha hb I h fun v u s2 x y H2 I2 rx ry q=>ho pins s2 σ H2 x y v u Q I2 rx ry q)
theorem opI {f:Value→Value→Sem Value} {C:Int→Int→Prop} {g:Int→Int→Int}
    (rule:∀ (i j:Int) (t u:Tok) (s:Shared) (Q:Value→Shared→Prop) (E:Value→Shared→Prop),C i j→Q (.int (g i j) s.toks) { s with toks:=s.toks + 1 }→wpAny (model X.prog X.w) X.A (f (.int i t) (.int j u)) Q E s) :
    OpR X f (rI C fun i j=>.int (g i j)):=by
  intro pins s σ H x y v u Q I rx ry h
  obtain ⟨i,j,rfl,rfl,hc,q⟩:=h
  obtain ⟨t,rfl⟩:=rx
  obtain ⟨t',rfl⟩:=ry
  exact rule i j t t' s _ _ hc ⟨.int (g i j),H,I.tok _,⟨_,rfl⟩,q⟩
theorem opI0 {f:Value→Value→Sem Value} {g:Int→Int→Int}
    (rule:∀ (i j:Int) (t u:Tok) (s:Shared) (Q:Value→Shared→Prop) (E:Value→Shared→Prop),Q (.int (g i j) s.toks) { s with toks:=s.toks + 1 }→wpAny (model X.prog X.w) X.A (f (.int i t) (.int j u)) Q E s) :
    OpR X f (rI0 fun i j=>.int (g i j)):=by
  intro pins s σ H x y v u Q I rx ry h
  obtain ⟨i,j,rfl,rfl,q⟩:=h
  obtain ⟨t,rfl⟩:=rx
  obtain ⟨t',rfl⟩:=ry
  exact rule i j t t' s _ _ ⟨.int (g i j),H,I.tok _,⟨_,rfl⟩,q⟩
theorem opB0 {f:Value→Value→Sem Value} {g:Int→Int→Bool}
    (rule:∀ (i j:Int) (t u:Tok) (s:Shared) (Q:Value→Shared→Prop) (E:Value→Shared→Prop),Q (.bool (g i j)) s→wpAny (model X.prog X.w) X.A (f (.int i t) (.int j u)) Q E s) :
    OpR X f (rI0 fun i j=>.bl (g i j)):=by
  intro pins s σ H x y v u Q I rx ry h
  obtain ⟨i,j,rfl,rfl,q⟩:=h
  obtain ⟨t,rfl⟩:=rx
  obtain ⟨t',rfl⟩:=ry
  exact rule i j t t' s _ _ ⟨.bl (g i j),H,I,rfl,q⟩
def CMul (i j:Int):Prop:=(-(2 ^ 64) < i∧i < 2 ^ 64)∨(-(2 ^ 64) < j∧j < 2 ^ 64)
theorem CMul.ok {i j:Int} (h:CMul i j):IntMulOk i j:=by
  rcases h with ⟨h1,h2⟩ | ⟨h1,h2⟩
  · exact .of_left (intBits_le_64 h1 h2)
  · exact .of_right (intBits_le_64 h1 h2)
theorem bu:OpR X (binaryOp .Add) (rI0 fun i j=>.int (i + j)):=opI0 fun _ _ _ _ _ _ _ q=>add_int q
theorem cZ:OpR X (binaryOp .Sub) (rI0 fun i j=>.int (i - j)):=opI0 fun _ _ _ _ _ _ _ q=>sub_int q
theorem fS:OpR X (binaryOp .Mult) (rI CMul fun i j=>.int (i * j)):=opI fun _ _ _ _ _ _ _ hc q=>mul_int q hc.ok
theorem op_mod:OpR X (binaryOp .Mod) (rI (fun _ j=>0 < j) fun i j=>.int (i % j)):=opI fun i j _ _ _ _ _ hc q=>by
  have h1:(0:Int) < j:=hc
  exact mod_int' (by omega) (by rw [Int.fmod_eq_emod_of_nonneg i (by omega)]; exact q)
end
def scal:V→V→Bool
  | .non,.non=>true | .non,.int _=>true | .int _,.non=>true | .non,.bl _=>true | .bl _,.non=>true | .non,.str _=>true | .str _,.non=>true
  | .int _,.int _=>true | .bl _,.bl _=>true | .str _,.str _=>true | .byt _,.byt _=>true
  | .int _,.str _=>true | .str _,.int _=>true | .bl _,.str _=>true | .str _,.bl _=>true
  | _,_=>false
def rEq:R2:=fun x y H Q=>scal x y=true∧Q (.bl (decide (x=y))) H
def rNe:R2:=fun x y H Q=>scal x y=true∧Q (.bl (!decide (x=y))) H
theorem uX {i j:Int}:decide (V.int i=V.int j)=(i == j):=by
  rw [Bool.eq_iff_iff]
  simp
theorem x4 {i j:Bool}:decide (V.bl i=V.bl j)=(i == j):=by
  rw [Bool.eq_iff_iff]
  simp
theorem uW {i j:Str}:decide (V.str i=V.str j)=(i == j):=by
  rw [Bool.eq_iff_iff]
  simp
theorem uY {i j:Array UInt8}:decide (V.byt i=V.byt j)=(i.toList == j.toList):=by
  rw [Bool.eq_iff_iff]
  cases i
  cases j
  simp
section
variable {X:Cx} {a b c:Expr} {ta tb tc:TE} {pos:Pos}
theorem bb {pins:List (Addr × Obj)} {σ:St} {H:Hp} {s:Shared} {Q:VK} {k k':Bool} (I:Inv X pins σ H s) (q:Q (.bl k) H) (e:k=k'):EP X pins σ Q (.bool k') s:=by
  subst e
  exact ⟨.bl k,H,I,rfl,q⟩
theorem du:OpR X (compareOp .Eq) rEq:=by
  intro pins s σ H x y v u Q I rx ry h
  obtain ⟨hs,q⟩:=h
  cases x with
  | non =>
    cases rx
    cases y with
    | non=>cases ry; exact PySem.EqNone.eq_none_none (bb I q (by simp))
    | bl j=>cases ry; exact PySem.EqNone.eq_none_bool (bb I q (by simp))
    | int j=>obtain ⟨t',rfl⟩:=ry; exact PySem.EqNone.eq_none_int (bb I q (by simp))
    | str j=>obtain ⟨t',rfl⟩:=ry; exact PySem.EqNone.eq_none_str (bb I q (by simp))
    | _=>exact absurd (show false=true from hs) Bool.false_ne_true
  | bl i =>
    cases rx
    cases y with
    | non=>cases ry; exact PySem.EqNone.eq_bool_none (bb I q (by simp))
    | bl j=>cases ry; exact eq_bool (bb I q x4)
    | str j=>obtain ⟨t',rfl⟩:=ry; exact PySem.EqMixed.eq_bool_str (bb I q (by simp))
    | _=>exact absurd (show false=true from hs) Bool.false_ne_true
  | int i =>
    obtain ⟨t,rfl⟩:=rx
    cases y with
    | non=>cases ry; exact PySem.EqNone.eq_int_none (bb I q (by simp))
    | int j=>obtain ⟨t',rfl⟩:=ry; exact eq_int (bb I q uX)
    | str j=>obtain ⟨t',rfl⟩:=ry; exact PySem.EqMixed.eq_int_str (bb I q (by simp))
    | _=>exact absurd (show false=true from hs) Bool.false_ne_true
  | str i =>
    obtain ⟨t,rfl⟩:=rx
    cases y with
    | non=>cases ry; exact PySem.EqNone.eq_str_none (bb I q (by simp))
    | bl j=>cases ry; exact PySem.EqMixed.eq_str_bool (bb I q (by simp))
    | int j=>obtain ⟨t',rfl⟩:=ry; exact PySem.EqMixed.eq_str_int (bb I q (by simp))
    | str j=>obtain ⟨t',rfl⟩:=ry; exact eq_str (bb I q uW)
    | _=>exact absurd (show false=true from hs) Bool.false_ne_true
  | byt i =>
    obtain ⟨t,rfl⟩:=rx
    cases y with
    | byt j=>obtain ⟨t',rfl⟩:=ry; exact PySem.W.eq_bytes (bb I q uY)
    | _=>exact absurd (show false=true from hs) Bool.false_ne_true
  | _=>cases y <;> exact absurd (show false=true from hs) Bool.false_ne_true
theorem j5:OpR X (compareOp .NotEq) rNe:=by
  intro pins s σ H x y v u Q I rx ry h
  obtain ⟨hs,q⟩:=h
  cases x with
  | non =>
    cases rx
    cases y with
    | non=>cases ry; exact PySem.EqNone.ne_none_none (bb I q (by simp))
    | bl j=>cases ry; exact PySem.EqNone.ne_none_bool (bb I q (by simp))
    | int j=>obtain ⟨t',rfl⟩:=ry; exact PySem.EqNone.ne_none_int (bb I q (by simp))
    | str j=>obtain ⟨t',rfl⟩:=ry; exact PySem.EqNone.ne_none_str (bb I q (by simp))
    | _=>exact absurd (show false=true from hs) Bool.false_ne_true
  | bl i =>
    cases rx
    cases y with
    | non=>cases ry; exact PySem.EqNone.ne_bool_none (bb I q (by simp))
    | bl j=>cases ry; exact ne_bool (bb I q (congrArg not x4))
    | str j=>obtain ⟨t',rfl⟩:=ry; exact PySem.EqMixed.ne_bool_str (bb I q (by simp))
    | _=>exact absurd (show false=true from hs) Bool.false_ne_true
  | int i =>
    obtain ⟨t,rfl⟩:=rx
    cases y with
    | non=>cases ry; exact PySem.EqNone.ne_int_none (bb I q (by simp))
    | int j=>obtain ⟨t',rfl⟩:=ry; exact ne_int (bb I q (congrArg not uX))
    | str j=>obtain ⟨t',rfl⟩:=ry; exact PySem.EqMixed.ne_int_str (bb I q (by simp))
    | _=>exact absurd (show false=true from hs) Bool.false_ne_true
  | str i =>
    obtain ⟨t,rfl⟩:=rx
    cases y with
    | non=>cases ry; exact PySem.EqNone.ne_str_none (bb I q (by simp))
    | bl j=>cases ry; exact PySem.EqMixed.ne_str_bool (bb I q (by simp))
    | int j=>obtain ⟨t',rfl⟩:=ry; exact PySem.EqMixed.ne_str_int (bb I q (by simp))
    | str j=>obtain ⟨t',rfl⟩:=ry; exact ne_str (bb I q (congrArg not uW))
    | _=>exact absurd (show false=true from hs) Bool.false_ne_true
  | byt i =>
    obtain ⟨t,rfl⟩:=rx
    cases y with
    | byt j=>obtain ⟨t',rfl⟩:=ry; exact PySem.W.ne_bytes (bb I q (congrArg not uY))
    | _=>exact absurd (show false=true from hs) Bool.false_ne_true
  | _=>cases y <;> exact absurd (show false=true from hs) Bool.false_ne_true
theorem qX:OpR X (compareOp .Lt) (rI0 fun i j=>.bl (decide (i < j))):=opB0 fun _ _ _ _ _ _ _ q=>lt_int q
theorem cN:OpR X (compareOp .LtE) (rI0 fun i j=>.bl (decide (i≤j))):=opB0 fun _ _ _ _ _ _ _ q=>le_int q
theorem j6:OpR X (compareOp .Gt) (rI0 fun i j=>.bl (decide (j < i))):=opB0 fun _ _ _ _ _ _ _ q=>gt_int q
theorem xp:OpR X (compareOp .Is) (fun x y H Q=>y=.non∧Q (.bl (decide (x=.non))) H):=by
  intro pins s σ H x y v u Q I rx ry h
  obtain ⟨rfl,q⟩:=h
  cases ry
  refine is_none_gen (bb I q ?_)
  cases x <;> first
    | (cases rx; rfl)
    | (obtain ⟨t,rfl⟩:=rx; rfl)
theorem uA:OpR X (compareOp .IsNot) (fun x y H Q=>y=.non∧Q (.bl (!decide (x=.non))) H):=by
  intro pins s σ H x y v u Q I rx ry h
  obtain ⟨rfl,q⟩:=h
  cases ry
  refine isnot_none_gen (bb I q ?_)
  cases x <;> first
    | (cases rx; rfl)
    | (obtain ⟨t,rfl⟩:=rx; rfl)
theorem aP (b:Expr) {op:CmpOp} (h:op≠.In:=by decide) (h2:op≠.NotIn:=by decide):behindInMarks op b=false:=by
  have e1:(op == CmpOp.In)=false:=by cases op <;> first | rfl | exact absurd rfl h
  have e2:(op == CmpOp.NotIn)=false:=by cases op <;> first | rfl | exact absurd rfl h2
  cases b <;> simp [behindInMarks,e1,e2]
theorem dP {op:CmpOp} {r:R2} (ho:OpR X (compareOp op) r) (ha:PE X a ta) (hb:PE X b tb) (hm:behindInMarks op b=false):PE X (.Compare a [op] [b] pos) (tOp r ta tb):=by
  intro pins s σ H Q I h
  exact wpAny_Compare1 (binT ha hb I h fun v u s2 x y H2 I2 rx ry q=>ho pins s2 σ H2 x y v u Q I2 rx ry q) hm
def wH (t:TE):TT:=fun σ H Q=>t σ H fun x H'=>∃ k,x=.bl k∧Q k H'
theorem aM {op:CmpOp} {r:R2} (ho:OpR X (compareOp op) r) (ha:PE X a ta) (hb:PE X b tb) (hm:behindInMarks op b=false):PT X (.Compare a [op] [b] pos) (wH (tOp r ta tb)):=by
  intro pins s σ H Q I h
  refine wpAny_isTrue_Compare1 (thn (ha pins s σ H _ I h) fun v s1 ⟨x,H1,I1,r1,q1⟩=>thn (hb pins s1 σ H1 _ I1 q1) fun u s2 ⟨y,H2,I2,r2,q2⟩ =>
    thn (ho pins s2 σ H2 x y v u _ I2 r1 r2 q2) fun c s3 ⟨z,H3,I3,r3,k,e,q3⟩=>?_) hm
  subst e
  cases r3
  exact wpAny_truthy_bool ⟨H3,I3,q3⟩
def sK (r r':R2) (ta tb tc:TE):TE:=fun σ H Q=>ta σ H fun x H1=>tb σ H1 fun y H2=>r x y H2 fun z H3=>∃ k,z=.bl k ∧
  (if k=true then tc σ H3 fun w' H4=>r' y w' H4 Q else Q (.bl false) H3)
theorem mN {op op':CmpOp} {r r':R2} (ho:OpR X (compareOp op) r) (ho':OpR X (compareOp op') r') (ha:PE X a ta) (hb:PE X b tb) (hc:PE X c tc)
    (hm:lastMarks [op,op'] [b,c]=false:=by with_unfolding_all rfl):PE X (.Compare a [op,op'] [b,c] pos) (sK r r' ta tb tc):=by
  intro pins s σ H Q I h
  refine Compare_chain (thn (ha pins s σ H _ I h) fun v s1 ⟨x,H1,I1,r1,q1⟩=>chain_link (thn (hb pins s1 σ H1 _ I1 q1) fun u s2 ⟨y,H2,I2,r2,q2⟩ =>
    thn (ho pins s2 σ H2 x y v u _ I2 r1 r2 q2) fun d s3 ⟨z,H3,I3,r3,k,e,q3⟩=>?_)) hm
  subst e
  cases r3
  refine wpAny_truthy_bool ?_
  cases k with
  | false=>exact ite_ff ⟨.bl false,H3,I3,rfl,q3⟩
  | true=>exact ite_tt (chain_last (thn (hc pins s3 σ H3 _ I3 q3) fun w' s4 ⟨z',H4,I4,r4,q4⟩=>ho' pins s4 σ H4 y z' u w' Q I4 r2 r4 q4))
theorem eX {op op':CmpOp} {r r':R2} (ho:OpR X (compareOp op) r) (ho':OpR X (compareOp op') r') (ha:PE X a ta) (hb:PE X b tb) (hc:PE X c tc)
    (hm:lastMarks [op,op'] [b,c]=false:=by with_unfolding_all rfl):PT X (.Compare a [op,op'] [b,c] pos) (wH (sK r r' ta tb tc)):=by
  intro pins s σ H Q I h
  refine isTrue_chain (thn (ha pins s σ H _ I h) fun v s1 ⟨x,H1,I1,r1,q1⟩=>test_link (thn (hb pins s1 σ H1 _ I1 q1) fun u s2 ⟨y,H2,I2,r2,q2⟩ =>
    thn (ho pins s2 σ H2 x y v u _ I2 r1 r2 q2) fun d s3 ⟨z,H3,I3,r3,k,e,q3⟩=>?_)) hm
  subst e
  cases r3
  refine wpAny_truthy_bool ?_
  cases k with
  | false =>
    obtain ⟨k',e',q'⟩:=q3
    cases e'
    exact ite_ff ⟨H3,I3,q'⟩
  | true =>
    refine ite_tt (test_last (thn (hc pins s3 σ H3 _ I3 q3) fun w' s4 ⟨z',H4,I4,r4,q4⟩=>thn (ho' pins s4 σ H4 y z' u w' _ I4 r2 r4 q4) fun d' s5 ⟨z2,H5,I5,r5,k2,e2,q5⟩=>?_))
    subst e2
    cases r5
    exact wpAny_truthy_bool ⟨H5,I5,q5⟩
def TruV (K:PySem.W.Frag) (x:V) (H:Hp) (k:Bool):Prop :=
  match x with
  | .non=>k=false
  | .bl b=>k=b
  | .int i=>k=(i != 0)
  | .str y=>y.length≤sizeLine∧k=((y.length:Int) != 0)
  | .byt y=>y.size≤sizeLine∧k=((y.size:Int) != 0)
  | .ref p=>(∃ xs,SqL K H p xs∧k=!xs.isEmpty)∨(∃ xs,SqT K H p xs∧k=!xs.isEmpty)∨∃ kvs,H p=some (.dK kvs)∧k=!kvs.isEmpty
  | _=>False
theorem tM {κ:Type} {kvs:List (κ × V)} {vs:List (κ × Value)} (r:KV kvs vs):(!vs.isEmpty)=!kvs.isEmpty:=by
  cases r <;> rfl
theorem nt {xs:List V} {its:List Value} (r:Vals xs its):(!its.toArray.isEmpty)=!xs.isEmpty:=by
  cases r <;> simp
theorem jF:(sizeLine:Nat) < 2 ^ 63:=by rw [sizeLine_eq]; decide
theorem tru_ok:TruR X (fun x H Q=>∃ k,TruV X.K x H k∧Q k H):=by
  intro pins s σ H x v Q I rx h
  obtain ⟨k,e,q⟩:=h
  have hl:=jF
  have hs:sizeLine=16777216:=sizeLine_eq
  cases x with
  | non =>
    cases rx
    have e':k=false:=e
    subst e'
    exact truthy_none ⟨H,I,q⟩
  | bl b =>
    cases rx
    have e':k=b:=e
    subst e'
    exact wpAny_truthy_bool ⟨H,I,q⟩
  | int i =>
    obtain ⟨t,rfl⟩:=rx
    have e':k=(i != 0):=e
    subst e'
    exact PySem.P.truthy_int ⟨H,I,q⟩
  | str y =>
    obtain ⟨t,rfl⟩:=rx
    obtain ⟨hy,e'⟩:y.length≤sizeLine∧k=((y.length:Int) != 0):=e
    subst e'
    exact PySem.P.truthy_str (by omega) ⟨H,I.tok _,q⟩
  | byt y =>
    obtain ⟨t,rfl⟩:=rx
    obtain ⟨hy,e'⟩:y.size≤sizeLine∧k=((y.size:Int) != 0):=e
    subst e'
    exact PySem.W.truthy_bytes (by omega) ⟨H,I.tok _,q⟩
  | ref p =>
    cases rx
    have e':(∃ xs,SqL X.K H p xs∧k=!xs.isEmpty)∨(∃ xs,SqT X.K H p xs∧k=!xs.isEmpty)∨∃ kvs,H p=some (.dK kvs)∧k=!kvs.isEmpty:=e
    rcases e' with ⟨xs,hx,e'⟩ | ⟨xs,hx,e'⟩ | ⟨kvs,hx,e'⟩
    · subst e'
      obtain ⟨its,r,pl,hz⟩:=I.list hx
      have hlen:=r.length
      exact wpAny_truthy_list pl.isList (by simp only [List.size_toArray]; omega) ⟨H,I.tok _,by rw [nt r]; exact q⟩
    · subst e'
      obtain ⟨its,r,pl,hz⟩:=I.tuple hx
      have hlen:=r.length
      exact truthy_tuple pl (by simp only [List.size_toArray]; omega) ⟨H,I.tok _,by rw [nt r]; exact q⟩
    · subst e'
      obtain ⟨hz,hS,vs,r,m⟩:kvs.length≤sizeLine∧(p == sysModules)=false∧∃ vs,KV kvs vs∧s.heap.DictOf (cq X.prog X.w) p vs:=I.hok p _ hx
      have hlen:kvs.length=vs.length:=Paired.length r
      exact wpAny_truthy_dict hS m (by omega) ⟨H,I.tok _,by rw [tM r]; exact q⟩
  | _=>exact (show False from e).elim
theorem xf (ha:PE X a ta) (he:∀ whole,isTrue a X.env whole=(do let v ← whole; standAt a.pos; holding [v] (truthy v))) :
    PT X a (fun σ H Q=>ta σ H fun x H'=>∃ k,TruV X.K x H' k∧Q k H'):=by
  intro pins s σ H Q I h
  exact isTrue_plain (thn (ha pins s σ H _ I h) fun v s1 ⟨x,H1,I1,r1,q1⟩=>tru_ok pins s1 σ H1 x v Q I1 r1 q1) (he _)
theorem mR:OpR X (binaryOp .Add) (fun x y H Q=>∃ i j,x=.str i∧y=.str j∧i.length + j.length≤sizeLine∧Q (.str (i++j)) H):=by
  intro pins s σ H x y v u Q I rx ry h
  obtain ⟨i,j,rfl,rfl,hz,q⟩:=h
  obtain ⟨t,rfl⟩:=rx
  obtain ⟨t',rfl⟩:=ry
  exact add_str (fun t' tk=>⟨.str (i++j),H,I.tok _,⟨_,rfl⟩,q⟩) hz
theorem qx {x:V} {us:List Value} (r:Vals [x] us):∃ u,us=[u]∧RelV x u:=by
  cases r with
  | cons r1 r2=>cases r2; exact ⟨_,rfl,r1⟩
theorem vals2 {x y:V} {us:List Value} (r:Vals [x,y] us):∃ u w',us=[u,w']∧RelV x u∧RelV y w':=by
  cases r with
  | cons r1 r2 =>
    cases r2 with
    | cons r3 r4=>cases r4; exact ⟨_,_,rfl,r1,r3⟩
theorem o0 (hc:X.calm=true):fF X (.builtin "min") (fun xs H Q=>∃ i j,xs=[.int i,.int j]∧Q (.int (if j < i then j else i)) H):=by
  intro pins s σ H xs us Q I r h
  obtain ⟨i,j,rfl,q⟩:=h
  obtain ⟨u,w',rfl,⟨t,rfl⟩,⟨t',rfl⟩⟩:=vals2 r
  refine min_two_ints (I.ok.hd hc) fun h' tk k=>⟨_,H,I.kept k,?_,q⟩
  by_cases hj:j < i
  · rw [if_pos hj,if_pos hj]; exact ⟨_,rfl⟩
  · rw [if_neg hj,if_neg hj]; exact ⟨_,rfl⟩
theorem dB:fF X (.type "str") (fun xs H Q=>∃ i,xs=[.int i]∧i.natAbs.log2 < 1920∧Q (.str (toString i)) H):=by
  intro pins s σ H xs us Q I r h
  obtain ⟨i,rfl,hz,q⟩:=h
  obtain ⟨u,rfl,t,rfl⟩:=qx r
  exact PySem.P.str_of_int hz ⟨.str _,H,I.tok _,⟨_,rfl⟩,q⟩
theorem x6:fF X (.builtin "ord") (fun xs H Q=>∃ x,xs=[.str x]∧x.length=1∧Q (.int (x.cps.getD 0 0:Nat)) H):=by
  intro pins s σ H xs us Q I r h
  obtain ⟨x,rfl,hz,q⟩:=h
  obtain ⟨u,rfl,t,rfl⟩:=qx r
  exact ord_of_one hz ⟨.int _,H,I.tok _,⟨_,rfl⟩,q⟩
end
end L2
namespace L2
open PySem PySem.Spec PyProof.Rows
structure ObjM (h:Heap) (x dx C:Addr) (mA:Str→Option Value):Prop where
  obj:h.get? x=some (PySem.W.instObj C dx)
  ns:h.Ns1 dx mA
  ne:dx≠x
theorem vH {h:Heap} {dx:Addr} {mA:Str→Option Value} (n:h.Ns1 dx mA):∃ od,h.get? dx=some od∧∀ name,PySem.W.lookIn name od=some (mA name):=by
  obtain ⟨o,es,ep,ho,hd,hk,_,hm⟩:=n
  refine ⟨o,ho,fun name=>?_⟩
  have e:=hm name
  unfold nsFind findBy at e
  rw [←Array.find?_toList] at e
  unfold PySem.W.lookIn
  rw [hd]
  dsimp only
  split
  · rename_i y q
    rw [q] at e
    exact congrArg some e
  · rename_i q
    rw [q] at e
    have a:es.toList.any (·.refKey)=false:=by
      rw [List.any_eq_false]
      intro y hy
      obtain ⟨z,t,hkey⟩:=hk y (Array.mem_toList_iff.mp hy)
      simp [DictEntry.refKey,hkey]
    have a':¬ es.toList.any (·.refKey)=true:=by rw [a]; exact Bool.false_ne_true
    rw [if_neg a']
    exact congrArg some e
theorem ObjM.look {h:Heap} {x dx C:Addr} {mA:Str→Option Value} (I:ObjM h x dx C mA):∃ od,PySem.W.InstAt h x (PySem.W.instObj C dx) C (some od)∧∀ name,PySem.W.lookIn name od=some (mA name) :=
  let ⟨od,ho,hl⟩:=vH I.ns
  ⟨od,⟨I.obj,rfl,rfl,ho⟩,hl⟩
section
variable {prog:Program} {w:World} {A:Around} {E:Value→Shared→Prop} {s:Shared} {K:PySem.W.Frag} {x dx C f:Addr} {mA:Str→Option Value} {name:Str} {v:Value}
theorem y6 {expr:Bool} {Q:Value→Shared→Prop} (X:K.In s.heap) (I:ObjM s.heap x dx C mA) (hg:PySem.W.plainGet K C name=true) (hh:PySem.W.hasDictIn K C=true)
    (ha:PySem.W.findIn K (.ref C) name=some none) (hv:mA name=some v) (hv':PySem.W.handedIn v=true) (h:Q v { s with toks:=s.toks + 1 }) :
    wpAny (model prog w) A (getAttr (.ref x) name expr) Q E s:=by
  obtain ⟨od,J,hl⟩:=I.look
  exact PySem.W.get_value X J (PySem.W.plainGet_of hg).1 (PySem.W.findObj_own hh ha rfl (by rw [hl,hv])) hv' h
theorem xU {pl:Sem Bool} {Q:Value × List Value→Shared→Prop} (X:K.In s.heap) (I:ObjM s.heap x dx C mA) (hg:PySem.W.plainGet K C name=true)
    (hf:PySem.W.findIn K (.ref C) name=some (some (.ref f))) (ht:PySem.W.isFn K (.ref f)=true) (hv:mA name=none) (h:Q (.ref f,[.ref x]) s) :
    wpAny (model prog w) A (getMethod (.ref x) name pl) Q E s:=by
  obtain ⟨od,J,hl⟩:=I.look
  exact PySem.W.method_fn X J (PySem.W.plainGet_of hg).1 (PySem.W.plainGet_of hg).2 hf (beq_iff_eq.mp ht) (by show (PySem.W.lookIn name od).map (·.isSome)=some false; rw [hl,hv]; rfl) h
theorem yB {ns:List Str} {Q:Unit→Shared→Prop} (X:K.In s.heap) (I:ObjM s.heap x dx C mA)
    (hs:PySem.W.findIn K (.ref C) "__setattr__" = some (some (.builtin "object.__setattr__"))) (hp:PySem.W.plainOver K C=true) (ht:PySem.W.takerIn K C name=some none) (hh:PySem.W.hasDictIn K C=true)
    (hw:PySem.Within mA ns) (hsz:ns.length≤sizeLine)
    (h:∀ h',ObjM h' x dx C (fun y=>if y=name then some v else mA y)→Heap.SameBut dx s.heap h'→Q () { s with heap:=h',toks:=s.toks + 2 }) :
    wpAny (model prog w) A (setAttr (.ref x) name v) Q E s:=by
  obtain ⟨od,J,hl⟩:=I.look
  refine PySem.W.set_plain X J hs (PySem.W.osa_open (s:={ s with toks:=s.toks + 1 }) (r:=none) X J hp ht fun b=>?_)
  obtain ⟨cd,hc,hd'⟩:=PySem.W.any_some hh
  have hx:s.heap.get? x=some ⟨.ref C,some dx,.plain,#[]⟩:=I.obj
  refine wpAny_bind (wpAny_pure (wpAny_bind (wpAny_bind (wpAny_loadPart hx (wpAny_bind (PySem.W.Looks.here (s:={ s with toks:=s.toks + 1 }) (PySem.W.looks_clsIn X hc) ?_))))))
  rw [hd']
  refine wpAny_pure (a:=some dx) (wpAny_bind (wpAny_pure (wpAny_bind ?_)))
  refine wpAny_nsSet1 (s:={ s with toks:=s.toks + 1 }) I.ns fun h' hn2 hs2=>?_
  obtain ⟨oD,esD,epD,hoD,hdD,hcD⟩:=hn2.count (PySem.Within.cons name v hw)
  refine wpAny_bind (wpAny_lookBehind hoD (by rw [hdD]; exact pastItsLine_dict (Nat.le_trans hcD (by rw [List.length_cons]; omega))) ?_)
  exact wpAny_pure (h _ ⟨(hs2.2 _ (Ne.symm I.ne)).trans I.obj,hn2,I.ne⟩ hs2)
theorem xE {R:Result→Shared→Prop} {vs:List Value} {kw:List (Str × Value)} (X:K.In s.heap) (hm:PySem.W.makesIn K C=true)
    (hi:PySem.W.findIn K (.ref C) "__init__" = some (some (.ref f))) (hf:PySem.W.typeIn K (.ref f)=some (.type "function"))
    (h:codeAny (model prog w) (A.under (.builtin "type.__call__" ⟨.ref C :: vs,kw⟩)) (.call (.ref f) ⟨.ref (s.heap.objs.size + 1) :: vs,kw⟩) (PySem.W.InitBack (s.heap.objs.size + 1) R)
      { s with heap:=(s.heap.push PySem.W.emptyDict).push (PySem.W.instObj C s.heap.objs.size) }) :
    codeAny (model prog w) A (.call (.ref C) ⟨vs,kw⟩) R s:=by
  obtain ⟨hh,g,d,t,os⟩:=s
  exact PySem.W.make_core (PySem.W.makes_of X hm) (PySem.W.looks_findIn X hi) (fun self=>PySem.W.bind_fn X self hf) (.inl rfl) h
end
def putF (f:Str) (v:V):List (Str × V)→List (Str × V)
  | []=>[(f,v)]
  | (g,x) :: r=>if g=f then (g,v) :: r else (g,x) :: putF f v r
theorem lH (f g:Str) (v:V):∀ fs:List (Str × V),(putF f v fs).lookup g=if g=f then some v else fs.lookup g
  | []=>by
    show List.lookup g [(f,v)]=_
    by_cases h:g=f
    · have hb:(g == f)=true:=beq_iff_eq.mpr h
      simp only [List.lookup,hb,if_pos h]
    · have hb:(g == f)=false:=beq_eq_false_iff_ne.mpr h
      simp only [List.lookup,hb,if_neg h]
  | (k,x) :: r=>by
    have ih:=lH f g v r
    rw [show putF f v ((k,x) :: r)=(if k=f then (k,v) :: r else (k,x) :: putF f v r) from rfl]
    by_cases hk:k=f
    · rw [if_pos hk]
      by_cases h:g=k
      · have hb:(g == k)=true:=beq_iff_eq.mpr h
        simp only [List.lookup,hb,if_pos (h.trans hk)]
      · have hb:(g == k)=false:=beq_eq_false_iff_ne.mpr h
        simp only [List.lookup,hb,if_neg (fun e:g=f=>h (e.trans hk.symm))]
    · rw [if_neg hk]
      by_cases h:g=k
      · have hb:(g == k)=true:=beq_iff_eq.mpr h
        simp only [List.lookup,hb,if_neg (fun e:g=f=>hk (h.symm.trans e))]
      · have hb:(g == k)=false:=beq_eq_false_iff_ne.mpr h
        simp only [List.lookup,hb]
        exact ih
theorem ld (f:Str) (v:V):∀ fs:List (Str × V),f∈(putF f v fs).map (·.1)∧∀ g,g∈fs.map (·.1)→g∈(putF f v fs).map (·.1)
  | []=>⟨by simp [putF],fun g h=>by simp at h⟩
  | (k,x) :: r=>by
    obtain ⟨i1,i2⟩:=ld f v r
    rw [show putF f v ((k,x) :: r)=(if k=f then (k,v) :: r else (k,x) :: putF f v r) from rfl]
    by_cases hk:k=f
    · rw [if_pos hk]
      subst hk
      exact ⟨by simp,fun g h=>by simpa using h⟩
    · rw [if_neg hk]
      refine ⟨?_,fun g h=>?_⟩
      · rw [List.map_cons]
        exact List.mem_cons_of_mem _ i1
      · rw [List.map_cons] at h ⊢
        rcases List.mem_cons.mp h with e | e
        · exact List.mem_cons.mpr (.inl e)
        · exact List.mem_cons_of_mem _ (i2 g e)
theorem lJ (f:Str) (v:V):∀ fs:List (Str × V),(putF f v fs).length≤fs.length + 1
  | []=>by simp [putF]
  | (k,x) :: r=>by
    have ih:=lJ f v r
    rw [show putF f v ((k,x) :: r)=(if k=f then (k,v) :: r else (k,x) :: putF f v r) from rfl]
    by_cases hk:k=f
    · rw [if_pos hk,List.length_cons,List.length_cons]; omega
    · rw [if_neg hk,List.length_cons,List.length_cons]; omega
theorem RelO.some_of {v:V} {o:Option Value} (r:RelO (some v) o):∃ u,o=some u∧RelV v u:=by
  cases o with
  | none=>exact (show False from r).elim
  | some u=>exact ⟨u,rfl,r⟩
theorem RelO.none_of {o:Option Value} (r:RelO none o):o=none:=by
  cases o with
  | none=>rfl
  | some u=>exact (show False from r).elim
theorem vT {v:V} {u:Value} (r:RelV v u):PySem.W.handedIn u=true:=by
  cases v with
  | non=>cases (show u=Value.none from r); rfl
  | bl b=>cases (show u=Value.bool b from r); rfl
  | int i=>obtain ⟨t,e⟩:=(show ∃ t,u=Value.int i t from r); cases e; rfl
  | str x=>obtain ⟨t,e⟩:=(show ∃ t,u=Value.str x t from r); cases e; rfl
  | byt b=>obtain ⟨t,e⟩:=(show ∃ t,u=Value.bytes b t from r); cases e; rfl
  | flt b=>obtain ⟨t,e⟩:=(show ∃ t,u=Value.float b t from r); cases e; rfl
  | ref a=>cases (show u=Value.ref a from r); rfl
  | ty n=>cases (show u=Value.type n from r); rfl
section
variable {P:Program} {w:World} {H H':Hp} {h h':Heap} {a C dx:Addr} {fs fs':List (Str × V)}
theorem pZ (hok:HOk P w H h) (e:H a=some (.ins C dx fs)):∃ mA,ObjM h a dx C mA∧(∀ f,RelO (fs.lookup f) (mA f))∧PySem.Within mA (fs.map (·.1))∧fs.length≤1000∧H dx=some (.own a):=by
  obtain ⟨d,z,ne,ob,mA,n,r,q⟩:=(show bM P w H h a (.ins C dx fs) from hok a _ e)
  exact ⟨mA,⟨ob,n,ne⟩,r,q,z,d⟩
end
structure Cls (K:PySem.W.Frag) (C:Addr):Prop where
  pg:PySem.W.plainGet K C Str.empty=true
  hd:PySem.W.hasDictIn K C=true
  po:PySem.W.plainOver K C=true
  sa:PySem.W.findIn K (.ref C) "__setattr__" = some (some (.builtin "object.__setattr__"))
theorem Cls.get {K:PySem.W.Frag} {C:Addr} (c:Cls K C) (f:Str):PySem.W.plainGet K C f=true:=c.pg
def bc (K:PySem.W.Frag) (C:Addr) (f:Str):Prop:=PySem.W.findIn K (.ref C) f=some none
theorem bc.taker {K:PySem.W.Frag} {C:Addr} {f:Str} (n:bc K C f):PySem.W.takerIn K C f=some none:=by
  unfold PySem.W.takerIn
  rw [show PySem.W.findIn K (.ref C) f=some none from n]
  rfl
structure Meth (K:PySem.W.Frag) (C:Addr) (m:Str) (f:Addr):Prop where
  at_:PySem.W.findIn K (.ref C) m=some (some (.ref f))
  fn:PySem.W.isFn K (.ref f)=true
  kp:PySem.W.keepIn K (.ref f)=true
section
variable {X:Cx} {pins:List (Addr × Obj)} {σ:St} {H:Hp} {s:Shared} {a C dx:Addr} {fs:List (Str × V)} {f:Str} {v:V} {A:Around} {E:Value→Shared→Prop}
theorem tR {b:Bool} {Q:Value→Shared→Prop} (I:Inv X pins σ H s) (e:H a=some (.ins C dx fs)) (c:Cls X.K C) (n:bc X.K C f) (l:fs.lookup f=some v)
    (h:∀ u s',Inv X pins σ H s'→RelV v u→Q u s'):wpAny (model X.prog X.w) A (getAttr (.ref a) f b) Q E s:=by
  obtain ⟨mA,O,r,_,_,_⟩:=pZ I.hok e
  obtain ⟨u,hu,ru⟩:=RelO.some_of (v:=v) (o:=mA f) (by rw [←l]; exact r f)
  exact y6 I.kIn O (c.get f) c.hd n hu (vT ru) (h u _ (I.tok _) ru)
theorem tQ {m:Str} {g:Addr} {pl:Sem Bool} {Q:Value × List Value→Shared→Prop} (I:Inv X pins σ H s) (e:H a=some (.ins C dx fs)) (c:Cls X.K C) (k:Meth X.K C m g) (l:fs.lookup m=none)
    (h:Q (.ref g,[.ref a]) s):wpAny (model X.prog X.w) A (getMethod (.ref a) m pl) Q E s:=by
  obtain ⟨mA,O,r,_,_,_⟩:=pZ I.hok e
  have hn:mA m=none:=RelO.none_of (by rw [←l]; exact r m)
  exact xU I.kIn O (c.get m) k.at_ k.fn hn h
theorem sP {y:V} {u:Value} {Q:Unit→Shared→Prop} (I:Inv X pins σ H s) (e:H a=some (.ins C dx fs)) (c:Cls X.K C) (n:bc X.K C f) (hl:fs.length < 1000) (ry:RelV y u)
    (h:∀ s',Inv X pins σ (upd H a (.ins C dx (putF f y fs))) s'→Q () s'):wpAny (model X.prog X.w) A (setAttr (.ref a) f u) Q E s:=by
  obtain ⟨mA,O,r,wi,_,ho⟩:=pZ I.hok e
  have hz:(fs.map (·.1)).length≤sizeLine:=by rw [List.length_map,sizeLine_eq]; omega
  refine yB I.kIn O c.sa c.po n.taker c.hd wi hz fun h' O' sb=>h _ ?_
  have hd:∃ o,h'.get? dx=some o:=let ⟨o,_,_,e',_⟩:=O'.ns; ⟨o,e'⟩
  refine I.write (x:=a) (e:=dx) (by rw [e]; exact True.intro) (.inr ho) (fun b q hb z=>(sb.2 b hb).trans z) hd ?_
  refine ⟨by rw [ai O.ne]; exact ho,?_,O.ne,O'.obj,_,O'.ns,fun g=>?_,fun g hg=>?_⟩
  · have:=lJ f y fs; omega
  · show RelO ((putF f y fs).lookup g) (if g=f then some u else mA g)
    rw [lH]
    by_cases q:g=f
    · rw [if_pos q,if_pos q]; exact ry
    · rw [if_neg q,if_neg q]; exact r g
  · by_cases q:g=f
    · rw [q]; exact (ld f y fs).1
    · refine (ld f y fs).2 g (wi g fun z=>hg ?_)
      show (if g=f then some u else mA g)=none
      rw [if_neg q]; exact z
theorem Inv.made (I:Inv X pins σ H s):Inv X pins σ (upd (upd H s.heap.objs.size (.own (s.heap.objs.size + 1))) (s.heap.objs.size + 1) (.ins C s.heap.objs.size []))
    { s with heap:=(s.heap.push PySem.W.emptyDict).push (PySem.W.instObj C s.heap.objs.size) }:=by
  have e1:(s.heap.push PySem.W.emptyDict).get? s.heap.objs.size=some PySem.W.emptyDict:=Heap.get?_push_size s.heap rfl
  have e2:((s.heap.push PySem.W.emptyDict).push (PySem.W.instObj C s.heap.objs.size)).get? (s.heap.objs.size + 1)=some (PySem.W.instObj C s.heap.objs.size):=by
    have:=Heap.get?_push_size (s.heap.push PySem.W.emptyDict) (o:=PySem.W.instObj C s.heap.objs.size) rfl
    rwa [Heap.size_push] at this
  have e3:(s.heap.push PySem.W.emptyDict).Ns s.heap.objs.size (fun _=>none):=⟨PySem.W.emptyDict,#[],_,e1,rfl,(fun e he=>absurd he (by simp)),fun _=>rfl⟩
  have I1:=I.laid (a:=s.heap.objs.size) (o:=.own (s.heap.objs.size + 1)) (h':=s.heap.push PySem.W.emptyDict) (t':=s.toks) (fun b u q=>Heap.get?_push_of_some _ q) (Nat.le_refl _) ⟨_,e1⟩
  refine I1.laid (a:=s.heap.objs.size + 1) (o:=.ins C s.heap.objs.size []) (t':=s.toks) (fun b u q=>Heap.get?_push_of_some _ q) (Nat.le_of_eq (Heap.size_push _ _)) ?_
  have ne:s.heap.objs.size≠s.heap.objs.size + 1:=Nat.ne_of_lt (Nat.lt_succ_self _)
  refine ⟨by rw [ai ne,ac],Nat.zero_le _,ne,e2,fun _=>none,(Heap.Ns1.of_empty e3).at fun o q=>Heap.get?_push_of_some _ q,fun _=>True.intro,fun y hy=>absurd rfl hy⟩
theorem ze {prog:Program} {w:World} {env:Env} {e:Expr} {f:Str} {pos:Pos} {s:Shared} {Q:Value→Shared→Prop} (hb:attributeBase e f env (eval e env)=eval e env)
    (h:wpAny (model prog w) A (eval e env) (fun o s₁=>wpAny (model prog w) A (getAttr o f true) Q E s₁) E s):wpAny (model prog w) A (eval (.Attribute e f pos) env) Q E s :=
  Attribute_any_ h (by rw [arm_eval_Attribute,hb])
end
def tFld (K:PySem.W.Frag) (ta:TE) (f:Str):TE:=fun σ H Q=>ta σ H fun x H1=>∃ a C dx fs v,x=.ref a∧H1 a=some (.ins C dx fs)∧Cls K C∧bc K C f∧fs.lookup f=some v∧Q v H1
def sFld (K:PySem.W.Frag) (ta tv:TE) (f:Str):TS:=fun D σ H=>tv σ H fun y H1=>ta σ H1 fun x H2=>∃ a C dx fs,x=.ref a∧H2 a=some (.ins C dx fs)∧Cls K C∧bc K C f∧fs.length < 1000 ∧
  D.nx σ (upd H2 a (.ins C dx (putF f y fs)))
section
variable {X:Cx} {o e value:Expr} {f:Str} {pos pos' tpos:Pos} {ta tv:TE}
theorem pe_fld (he:PE X e ta) (hb:attributeBase e f X.env (eval e X.env)=eval e X.env):PE X (.Attribute e f pos) (tFld X.K ta f):=by
  intro pins s σ H Q I h
  refine ze hb (thn (he pins s σ H _ I h) fun u s1 ⟨x,H1,I1,rx,a,C,dx,fs,v,ex,ea,c,n,l,q⟩=>?_)
  subst ex
  obtain rfl:u=Value.ref a:=rx
  exact tR I1 ea c n l fun u' s2 I2 ru=>⟨v,H1,I2,ru,q⟩
theorem bT (ha:PE X o ta) (hv:PE X value tv) (hs:swapsWith value (some (.Attribute o f pos')) pos.line X.env=pure false):PS X (.Assign [.Attribute o f pos'] value pos) (sFld X.K ta tv f):=by
  intro pins s σ H D I h
  refine plainObj_wpAny_Assign_Attribute (thn (hv pins s σ H _ I h) fun u s1 ⟨y,H1,I1,ry,q⟩=>thn (ha pins s1 σ H1 _ I1 q) fun ov s2 ⟨x,H2,I2,rx,a,C,dx,fs,ex,ea,c,n,l,q2⟩=>?_) hs
  subst ex
  obtain rfl:ov=Value.ref a:=rx
  exact sP I2 ea c n l ry fun s3 I3=>⟨σ,_,I3,q2⟩
end
section
variable {X:Cx} {pins:List (Addr × Obj)} {σ:St} {H:Hp} {s:Shared} {A:Around} {E:Value→Shared→Prop} {Q:Value→Shared→Prop} {c:Value} {b:Bool}
end
end L2
namespace L2
open PySem PySem.Spec PyProof.Rows
structure Room (k:Nat) (A:Around):Prop where
  hd:A.handled=none
  dp:A.depth + 3 * k + 5 < recursionLimit
  un:A.units + 16 * k + 200 < cLine
theorem Room.mono {j k:Nat} {A:Around} (r:Room k A) (h:j≤k):Room j A:=⟨r.hd,by have:=r.dp; omega,by have:=r.un; omega⟩
theorem Room.deeper {k:Nat} {A:Around} (r:Room (k + 1) A) (env:Env):Room k (A.deeper env) :=
  ⟨r.hd,by have:=r.dp; show A.depth + 1 + 3 * k + 5 < _; omega,by have:=r.un; show A.units + 3 + 16 * k + 200 < _; omega⟩
theorem tH {A:Around} {C:Addr} {us:List Value} {kw:List (Str × Value)}:(A.under (.builtin "type.__call__" ⟨.ref C :: us,kw⟩)).depth=A.depth + 1:=by
  first | rfl | simp [Around.under,Code.weight,Code.isCreation,Code.isGuard,Code.isCaller,Code.frames,Code.isFrame,guardIds]
theorem tG {A:Around} {C:Addr} {us:List Value} {kw:List (Str × Value)}:(A.under (.builtin "type.__call__" ⟨.ref C :: us,kw⟩)).units=A.units + 1:=by
  first | rfl | simp [Around.under,Code.cUnits,Code.frames,Code.isFrame]
theorem Room.make {k:Nat} {A:Around} (r:Room (k + 1) A) (C:Addr) (us:List Value) (kw:List (Str × Value)):Room k (A.under (.builtin "type.__call__" ⟨.ref C :: us,kw⟩)) :=
  ⟨r.hd,by have:=r.dp; rw [tH]; omega,by have:=r.un; rw [tG]; omega⟩
theorem Room.depth {k:Nat} {A:Around} (r:Room k A):A.depth < recursionLimit:=by have:=r.dp; omega
theorem Room.units {k:Nat} {A:Around} (r:Room k A):A.units + 64 < cLine:=by have:=r.un; omega
def tNil:TA:=fun _ H Q=>Q [] H
def jW (ta:TE) (tr:TA):TA:=fun σ H Q=>ta σ H fun x H1=>tr σ H1 fun xs H2=>Q (x :: xs) H2
section
variable {X:Cx} {e:Expr} {es:List Expr} {te:TE} {t:TA} {pos:Pos}
theorem ad:PA X [] tNil:=fun _ _ _ _ H Q I h=>Calls.spliced_nil ⟨[],H,I,.nil,h⟩
theorem aa (ha:PE X e te) (hr:PA X es t) (hs:starEach (e :: es) X.env=(false,eval e X.env) :: starEach es X.env:=by rfl):PA X (e :: es) (jW te t):=by
  intro pos pins s σ H Q I h
  rw [hs]
  show wpAny _ _ (spliced ((false,eval e X.env) :: backTo pos (starEach es X.env))) _ _ s
  refine Calls.spliced_cons (thn (ha pins s σ H _ I h) fun u s1 ⟨x,H1,I1,r1,q1⟩=>?_)
  exact thn (hr pos pins s1 σ H1 _ I1 q1) fun us s2 ⟨xs,H2,I2,r2,q2⟩=>⟨x :: xs,H2,I2,.cons r1 r2,q2⟩
def tTup (t:TA):TE:=fun σ H Q=>t σ H fun xs H1=>xs.length≤sizeLine∧∀ p,H1 p=none→Q (.ref p) (upd H1 p (.tup xs))
def tLst (t:TA):TE:=fun σ H Q=>t σ H fun xs H1=>xs.length≤sizeLine∧∀ p,H1 p=none→Q (.ref p) (upd H1 p (.lst xs))
theorem gI {x1} (h:PA X es t):PE X (.Tuple es x1 pos) (tTup t):=by
  intro pins s σ H Q I hq
  refine wpAny_Tuple_spliced (thn (h pos pins s σ H _ I hq) fun us s1 ⟨xs,H1,I1,r,z,q⟩=>⟨by rw [←r.length]; exact z,?_⟩)
  have hf:H1 s1.heap.objs.size=none:=I1.hok.fresh (Nat.le_refl _)
  refine ⟨.ref s1.heap.objs.size,upd H1 s1.heap.objs.size (.tup xs),I1.laid (t':=s1.toks) (fun b u e=>Heap.get?_push_of_some _ e) (Nat.le_refl _) ?_,rfl,q _ hf⟩
  exact ⟨z,us,r,⟨_,Heap.get?_push_size _ rfl,rfl,_,rfl⟩⟩
theorem aE (h:PA X es t):PE X (.List es pos) (tLst t):=by
  intro pins s σ H Q I hq
  refine wpAny_List_spliced (thn (h pos pins s σ H _ I hq) fun us s1 ⟨xs,H1,I1,r,z,q⟩=>⟨by rw [←r.length]; exact z,?_⟩)
  have hf:H1 s1.heap.objs.size=none:=I1.hok.fresh (Nat.le_refl _)
  refine ⟨.ref s1.heap.objs.size,upd H1 s1.heap.objs.size (.lst xs),I1.laid (t':=s1.toks) (fun b u e=>Heap.get?_push_of_some _ e) (Nat.le_refl _) ?_,rfl,q _ hf⟩
  exact ⟨z,us,0,r,Heap.get?_push_size _ rfl⟩
end
abbrev Sp:=List V→Hp→VK→XK→Prop
abbrev CXT:=List Env→Hp→Shared→XK→Value→Shared→Prop
structure Env0 (P:Program) (w:World) (K:PySem.W.Frag) (mg:Str→Option Value) (base:Heap) (A:Around) (outer:List Env) (s:Shared) (H:Hp):Prop where
  frames:A.frames=some outer
  mod:Mod K mg base
  bs:∀ b o,base.get? b=some o→s.heap.get? b=some o∧H b=none
  bsz:base.objs.size≤s.heap.objs.size
  funs:s.heap.FunFrames base outer
  frf:∀ b∈frs outer,H b=none
  hok:HOk P w H s.heap
  bare:AllBare s.gens
def CE (outer:List Env) (P:Program) (w:World) (H:Hp) (s:Shared) (Q:VK) (u:Value) (s':Shared):Prop :=
  ∃ v H',s'.os=s.os∧AllBare s'.gens∧Un (frs outer) [] H H' s.heap s'.heap∧HOk P w H' s'.heap∧RelV v u∧Q v H'
def CR (CX:CXT) (outer:List Env) (P:Program) (w:World) (H:Hp) (s:Shared) (Q:VK) (E:XK) (r:Result) (s':Shared):Prop :=
  match r with
  | .ok (.ret u)=>CE outer P w H s Q u s'
  | .ok _=>False
  | .error e=>CX outer H s E e s'
structure FnOk (P:Program) (w:World) (K:PySem.W.Frag) (mg:Str→Option Value) (base:Heap) (CX:CXT) (k:Nat) (f:Addr) (fd:FuncData) (ps:List Str) (sp:Sp):Prop where
  len:∀ vs H Q E,sp vs H Q E→vs.length=ps.length
  run:∀ (A:Around) (outer:List Env) (s:Shared) (H:Hp) (args:Args) (us:List Value) (vs:List V) (Q:VK) (E:XK),Room k A→Env0 P w K mg base A outer s H→BindsTo s fd args (ps.zip us)→Vals vs us→sp vs H Q E →
    codeAny (model P w) A (.call (.ref f) args) (CR CX outer P w H s Q E) s
theorem FnOk.mono {P:Program} {w:World} {K:PySem.W.Frag} {mg:Str→Option Value} {base:Heap} {CX:CXT} {j k:Nat} {f:Addr} {fd:FuncData} {ps:List Str} {sp:Sp} (F:FnOk P w K mg base CX j f fd ps sp) (h:j≤k) :
    FnOk P w K mg base CX k f fd ps sp:=⟨F.len,fun A outer s H args us vs Q E hr=>F.run A outer s H args us vs Q E (hr.mono h)⟩
theorem Env0.make {P:Program} {w:World} {K:PySem.W.Frag} {mg:Str→Option Value} {base:Heap} {A:Around} {outer:List Env} {s:Shared} {H:Hp} (e:Env0 P w K mg base A outer s H) (C:Addr) (us:List Value) (kw:List (Str × Value)) :
    Env0 P w K mg base (A.under (.builtin "type.__call__" ⟨.ref C :: us,kw⟩)) outer s H:=⟨by first | exact e.frames | (simpa [Around.under,Code.envs,Code.isFrame,pushEnvs] using e.frames),e.mod,e.bs,e.bsz,e.funs,e.frf,e.hok,e.bare⟩
section
variable {X:Cx} {pins:List (Addr × Obj)} {σ:St} {H:Hp} {s s':Shared}
theorem Inv.env0 (I:Inv X pins σ H s):Env0 X.prog X.w X.K X.mg X.base X.A X.stack s H :=
  ⟨I.ok.frames,I.ok.mod,I.bs,Nat.le_trans I.ok.bsz I.sz,I.stack,I.stkFree,I.hok,I.bare⟩
theorem Inv.after {Q:VK} {u:Value} (I:Inv X pins σ H s) (h:CE X.stack X.prog X.w H s Q u s'):EP X pins σ Q u s':=by
  obtain ⟨v,H',os,bare,un,hok,r,q⟩:=h
  obtain ⟨hh,g,d,t,os'⟩:=s'
  obtain rfl:os'=s.os:=os
  exact ⟨v,H',I.call (h':=hh) (g':=g) (d':=d) (t':=t) (ch:=[]) un hok bare (fun b z=>absurd z (by simp)),r,q⟩
end
def tCall (sp:Sp) (dvs:List V) (E:XK) (t:TA):TE:=fun σ H Q=>t σ H fun vs H1=>sp (vs++dvs) H1 Q E
def tMeth (C:Addr) (m:Str) (sp:Sp) (dvs:List V) (E:XK) (ta:TE) (t:TA):TE:=fun σ H Q=>ta σ H fun x H1=>∃ a dx fs,x=.ref a∧H1 a=some (.ins C dx fs)∧fs.lookup m=none ∧
  t σ H1 fun vs H2=>sp (x :: (vs++dvs)) H2 Q E
def tMake (C:Addr) (sp:Sp) (dvs:List V) (E:XK) (t:TA):TE:=fun σ H Q=>t σ H fun vs H1=>∀ x dx,H1 x=none→H1 dx=none→dx≠x →
  sp (.ref x :: (vs++dvs)) (upd (upd H1 dx (.own x)) x (.ins C dx [])) (fun v H2=>v=.non∧Q (.ref x) H2) E
def aK (K:PySem.W.Frag) (fd:FuncData) (ps:List Str) (ds:List Value):Prop :=
  ∀ (s:Shared) (us:List Value),K.In s.heap→(us++ds).length=ps.length→BindsTo s fd ⟨us,[]⟩ (ps.zip (us++ds))
theorem aK.all {K:PySem.W.Frag} {fd:FuncData} {ps:List Str} (h:∀ us:List Value,us.length=ps.length→bindArgs fd ⟨us,[]⟩=pure (ps.zip us)):aK K fd ps []:=fun s us _ hl=>by
  rw [List.append_nil] at hl ⊢
  exact .of_eq (h us hl)
def jN (CX:CXT) (X:Cx) (E:XK):Prop:=∀ (pins:List (Addr × Obj)) (σ:St) (H:Hp) (s:Shared) (e:Value) (s':Shared),Inv X pins σ H s→CX X.stack H s E e s'→X.xe e s'
section
variable {X:Cx} {CX:CXT} {k:Nat} {f C:Addr} {fd:FuncData} {ps:List Str} {sp:Sp} {dvs:List V} {ds:List Value} {E:XK} {x m:Str} {p pos apos:Pos} {e o:Expr} {es:List Expr} {ta:TE} {t:TA}
theorem sV {pins:List (Addr × Obj)} {σ:St} {H:Hp} {s:Shared} {Q:VK} {us:List Value} {vs:List V} (F:FnOk X.prog X.w X.K X.mg X.base CX k f fd ps sp) (hr:Room k X.A) (hb:aK X.K fd ps ds) (hd:Vals dvs ds) (hx:jN CX X E)
    (I:Inv X pins σ H s) (r:Vals vs us) (h:sp (vs++dvs) H Q E):wpAny (model X.prog X.w) X.A (call (.ref f) us) (EP X pins σ Q) X.xe s:=by
  have r2:Vals (vs++dvs) (us++ds):=r.append hd
  have hl:(us++ds).length=ps.length:=by rw [←r2.length]; exact F.len _ _ _ _ h
  refine wpAny_call (codeAny_mono (F.run X.A X.stack s H ⟨us,[]⟩ (us++ds) (vs++dvs) Q E hr I.env0 (hb s us I.kIn hl) r2 h) fun r s' hq=>?_)
  cases r with
  | error e=>exact hx pins σ H s e s' I hq
  | ok fl =>
    cases fl with
    | ret u=>exact I.after hq
    | next=>exact False.elim hq
    | brk=>exact False.elim hq
    | cont=>exact False.elim hq
theorem yI (F:FnOk X.prog X.w X.K X.mg X.base CX k f fd ps sp) (hr:Room k X.A) (hg:Gl X x) (hm:X.mg x=some (.ref f)) (hk:PySem.W.keepIn X.K (.ref f)=true) (hb:aK X.K fd ps ds) (hd:Vals dvs ds) (hx:jN CX X E)
    (ha:PA X (e :: es) t) (hdb:(x == ("__debug__" : Str))=false:=by decide) (he:starEach (e :: es) X.env=(false,eval e X.env) :: starEach es X.env:=by rfl) (hpl:(backTo pos (starEach es X.env)).any (·.1)=false:=by rfl) :
    PE X (.Call (.Name x p) (e :: es) [] pos) (tCall sp dvs E t):=by
  intro pins s σ H Q I h
  refine wpAny_Call_Name_kw (l9 I hg hm ?_ hdb)
  refine PySem.W.callWith_K (h₀:=X.base) I.ok.mod.kin hk (thn (ha pos pins s σ H _ I h) fun us s1 ⟨vs,H1,I1,r,q⟩=>⟨I1.kIn,?_⟩) he hpl
  exact sV F hr hb hd hx I1 r q
theorem yG {pl:Sem Bool} (he:PE X o ta) (c:Cls X.K C) (hm:Meth X.K C m f) (F:FnOk X.prog X.w X.K X.mg X.base CX k f fd ps sp) (hr:Room k X.A) (hb:aK X.K fd ps ds) (hd:Vals dvs ds) (hx:jN CX X E) (ha:PA X (e :: es) t)
    (hst:starEach (e :: es) X.env=(false,eval e X.env) :: starEach es X.env:=by rfl) (hpl:(backTo pos (starEach es X.env)).any (·.1)=false:=by rfl)
    (ht:eval (.Call (.Attribute o m apos) (e :: es) [] pos) X.env=(do
      let ov ← eval o X.env
      standAt apos.atName
      let (f,first) ← holding [ov] (getMethod ov m pl)
      callWith pos f first (backTo pos (starEach (e :: es) X.env)) (backToKw pos (keywordEach [] X.env))):=by rfl) :
    PE X (.Call (.Attribute o m apos) (e :: es) [] pos) (tMeth C m sp dvs E ta t):=by
  intro pins s σ H Q I h
  refine PySem.W.methodCall_KW (pl:=pl) (thn (he pins s σ H _ I h) fun u s1 ⟨x,H1,I1,rx,a,dx,fs,ex,ea,l,q⟩=>?_) ht
  subst ex
  obtain rfl:u=Value.ref a:=rx
  refine tQ I1 ea c hm l ?_
  refine PySem.W.callWith_K (first:=[.ref a]) (h₀:=X.base) I.ok.mod.kin hm.kp (thn (ha pos pins s1 σ H1 _ I1 q) fun us s2 ⟨vs,H2,I2,r,q2⟩=>⟨I2.kIn,?_⟩) hst hpl
  exact sV (us:=.ref a :: us) (vs:=.ref a :: vs) F hr hb hd hx I2 (.cons rfl r) q2
structure Mk (K:PySem.W.Frag) (C f:Addr):Prop where
  makes:PySem.W.makesIn K C=true
  init:PySem.W.findIn K (.ref C) "__init__" = some (some (.ref f))
  fn:PySem.W.isFn K (.ref f)=true
  kp:PySem.W.keepIn K (.ref C)=true
theorem qL {pins:List (Addr × Obj)} {σ:St} {H:Hp} {s:Shared} {Q:VK} {us:List Value} {vs:List V} (M:Mk X.K C f) (F:FnOk X.prog X.w X.K X.mg X.base CX k f fd ps sp) (hr:Room (k + 1) X.A) (hb:aK X.K fd ps ds) (hd:Vals dvs ds)
    (hx:jN CX X E) (I:Inv X pins σ H s) (r:Vals vs us)
    (h:∀ x dx,H x=none→H dx=none→dx≠x→sp (.ref x :: (vs++dvs)) (upd (upd H dx (.own x)) x (.ins C dx [])) (fun v H2=>v=.non∧Q (.ref x) H2) E) :
    wpAny (model X.prog X.w) X.A (call (.ref C) us) (EP X pins σ Q) X.xe s:=by
  have hq:=h (s.heap.objs.size + 1) s.heap.objs.size (I.hok.fresh (Nat.le_succ _)) (I.hok.fresh (Nat.le_refl _)) (Nat.ne_of_lt (Nat.lt_succ_self _))
  have I2:=Inv.made (C:=C) I
  have r2:Vals (V.ref (s.heap.objs.size + 1) :: (vs++dvs)) (Value.ref (s.heap.objs.size + 1) :: (us++ds)):=.cons rfl (r.append hd)
  have hl:(Value.ref (s.heap.objs.size + 1) :: us++ds).length=ps.length:=by
    have e:=r2.length
    rw [F.len _ _ _ _ hq] at e
    exact e.symm
  refine wpAny_call (xE (f:=f) I.kIn M.makes M.init (beq_iff_eq.mp M.fn) (codeAny_mono (F.run _ X.stack _ _ ⟨Value.ref (s.heap.objs.size + 1) :: us,[]⟩ (Value.ref (s.heap.objs.size + 1) :: (us++ds)) _ _ E (hr.make C us [])
    (I2.env0.make C us []) (hb _ (Value.ref (s.heap.objs.size + 1) :: us) I2.kIn hl) r2 hq) fun r s' hq'=>?_))
  cases r with
  | error e=>exact hx pins σ _ _ e s' I2 hq'
  | ok fl =>
    cases fl with
    | ret u =>
      obtain ⟨v,H',I3,rv,ev,q3⟩:=I2.after hq'
      subst ev
      exact ⟨rv,⟨V.ref (s.heap.objs.size + 1),H',I3,rfl,q3⟩⟩
    | next=>exact False.elim hq'
    | brk=>exact False.elim hq'
    | cont=>exact False.elim hq'
theorem pN (M:Mk X.K C f) (F:FnOk X.prog X.w X.K X.mg X.base CX k f fd ps sp) (hr:Room (k + 1) X.A) (hg:Gl X x) (hm:X.mg x=some (.ref C)) (hb:aK X.K fd ps ds) (hd:Vals dvs ds) (hx:jN CX X E)
    (ha:PA X (e :: es) t) (hdb:(x == ("__debug__" : Str))=false:=by decide) (he:starEach (e :: es) X.env=(false,eval e X.env) :: starEach es X.env:=by rfl) (hpl:(backTo pos (starEach es X.env)).any (·.1)=false:=by rfl) :
    PE X (.Call (.Name x p) (e :: es) [] pos) (tMake C sp dvs E t):=by
  intro pins s σ H Q I h
  refine wpAny_Call_Name_kw (l9 I hg hm ?_ hdb)
  refine PySem.W.callWith_K (h₀:=X.base) I.ok.mod.kin M.kp (thn (ha pos pins s σ H _ I h) fun us s1 ⟨vs,H1,I1,r,q⟩=>⟨I1.kIn,?_⟩) he hpl
  exact qL M F hr hb hd hx I1 r q
theorem qR (M:Mk X.K C f) (F:FnOk X.prog X.w X.K X.mg X.base CX k f fd ps sp) (hr:Room (k + 1) X.A) (hg:Gl X x) (hm:X.mg x=some (.ref C)) (hb:aK X.K fd ps ds) (hd:Vals dvs ds) (hx:jN CX X E)
    (hdb:(x == ("__debug__" : Str))=false:=by decide):PE X (.Call (.Name x p) [] [] pos) (tMake C sp dvs E tNil):=by
  intro pins s σ H Q I h
  refine wpAny_Call_Name_kw (l9 I hg hm ?_ hdb)
  exact PySem.W.callWith_K0 I.kIn M.kp (qL (us:=[]) M F hr hb hd hx I .nil h)
end
section
variable {X:Cx} {CX:CXT} {k:Nat} {f C:Addr} {fd:FuncData} {ps ks:List Str} {sp:Sp} {E:XK} {x m:Str} {p pos apos kpos:Pos} {e o:Expr} {es:List Expr} {kws:List Keyword} {te ta:TE} {t tk:TA} {nm:Option Str}
variable {g:List Value→List Value→List Value} {gV:List V→List V→List V}
end
structure az (N P:List Str) (sc:Scope):Prop where
  kind:sc.kind=.function
  co:sc.isCoroutine=false
  gen:sc.isGenerator=false
  nd:N.Nodup
  pre:N.take P.length=P
  par:∀ x∈P,sc.names.lookup x=some .local∨sc.names.lookup x=some .cell
  nofree:∀ y∈sc.names,y.2≠.free
theorem pf {kindOf:Str→Option NameKind} {x:Str}:∀ {binds:List (Str × Value)} {m:Str→Option Value},(∀ v,(x,v)∉binds)→bindL kindOf binds m x=m x
  | [],_,_=>rfl
  | (n,v) :: r,m,h=>by
    unfold bindL
    rw [pf fun w hw=>h w (List.mem_cons_of_mem _ hw)]
    split
    · have:x≠n:=by rintro rfl; exact h v List.mem_cons_self
      simp [this]
    · rfl
theorem pi {kindOf:Str→Option NameKind} {x:Str}:∀ {binds:List (Str × Value)} {m:Str→Option Value},(∀ v,(x,v)∉binds)→bindC kindOf binds m x=m x
  | [],_,_=>rfl
  | (n,v) :: r,m,h=>by
    unfold bindC
    rw [pi fun w hw=>h w (List.mem_cons_of_mem _ hw)]
    split
    · rfl
    · have:x≠n:=by rintro rfl; exact h v List.mem_cons_self
      simp [this]
theorem ph {kindOf:Str→Option NameKind} {x:Str} {v:Value}:∀ {P:List Str} {vs:List Value} {i:Nat} {m:Str→Option Value},P.Nodup→P[i]?=some x→vs[i]?=some v→kindOf x=some .local →
    bindL kindOf (P.zip vs) m x=some v
  | [],_,_,_,_,h,_,_=>by simp at h
  | _ :: _,[],_,_,_,_,h,_=>by simp at h
  | p :: P,w :: vs,0,m,nd,h1,h2,hk=>by
    simp at h1 h2; subst h1; subst h2
    show bindL kindOf ((p,w) :: P.zip vs) m p=_
    unfold bindL
    rw [pf fun v hv=>(List.nodup_cons.mp nd).1 (List.of_mem_zip hv).1,if_pos hk]
    simp
  | p :: P,w :: vs,i + 1,m,nd,h1,h2,hk=>by
    show bindL kindOf ((p,w) :: P.zip vs) m x=_
    unfold bindL
    exact ph (i:=i) (List.nodup_cons.mp nd).2 (by simpa using h1) (by simpa using h2) hk
theorem pj {kindOf:Str→Option NameKind} {x:Str} {v:Value}:∀ {P:List Str} {vs:List Value} {i:Nat} {m:Str→Option Value},P.Nodup→P[i]?=some x→vs[i]?=some v→kindOf x≠some .local →
    bindC kindOf (P.zip vs) m x=some v
  | [],_,_,_,_,h,_,_=>by simp at h
  | _ :: _,[],_,_,_,_,h,_=>by simp at h
  | p :: P,w :: vs,0,m,nd,h1,h2,hk=>by
    simp at h1 h2; subst h1; subst h2
    show bindC kindOf ((p,w) :: P.zip vs) m p=_
    unfold bindC
    rw [pi fun v hv=>(List.nodup_cons.mp nd).1 (List.of_mem_zip hv).1,if_neg hk]
    simp
  | p :: P,w :: vs,i + 1,m,nd,h1,h2,hk=>by
    show bindC kindOf ((p,w) :: P.zip vs) m x=_
    unfold bindC
    exact pj (i:=i) (List.nodup_cons.mp nd).2 (by simpa using h1) (by simpa using h2) hk
def start (N:List Str) (vs:List V):St:=vs.map some++List.replicate (N.length - vs.length) none
def cxOf (CX:CXT) (P:Program) (w:World) (K:PySem.W.Frag) (mg:Str→Option Value) (base:Heap) (N:List Str) (qual:Str) (scope:Scope) (f:Addr) (cd:Value) (A:Around) (outer:List Env) (s:Shared) (H:Hp) (E:XK):Cx where
  prog:=P
  w:=w
  K:=K
  mg:=mg
  base:=base
  A:=A.deeper (envOfC qual scope s.heap.objs.size f cd)
  N:=N
  s_0:=s
  H_0:=H
  env:=envOfC qual scope s.heap.objs.size f cd
  outer:=outer
  stack:=envOfC qual scope s.heap.objs.size f cd :: outer
  ex:=[]
  calm:=true
  fn:=fun _=>true
  pn:=[]
  xe:=fun e s'=>wpAny (model P w) (A.deeper (envOfC qual scope s.heap.objs.size f cd)) (leaving (envOfC qual scope s.heap.objs.size f cd) e) (fun _ s''=>CX outer H s E e s'') (fun e' s''=>CX outer H s E e' s'') s'
theorem rX {sc:Scope} {n:Nat} {x:Str} (h:sc.names.lookup x=some .cell):∃ c,(cellsFrom n sc.names []).lookup x=some c:=by
  have q:=PySem.W.cellsFrom_some sc.names n [] (.inl h)
  exact Option.isSome_iff_exists.mp q
theorem vM {CX:CXT} {P:Program} {w:World} {K:PySem.W.Frag} {mg:Str→Option Value} {base:Heap} {N ps:List Str} {qual:Str} {scope:Scope} {f:Addr} {cd:Value} {A:Around} {outer:List Env} {s s1:Shared} {H:Hp} {E:XK} {us:List Value} {vs:List V}
    (S:az N ps scope) (hd:A.handled=none) (e0:Env0 P w K mg base A outer s H) (hl:vs.length=ps.length) (r:Vals vs us)
    (x:InCallC s s.heap.objs.size (bindL (envOfC qual scope s.heap.objs.size f cd).kindOf (ps.zip us) fun _=>none) (cellsFrom (s.heap.objs.size + 1) scope.names []) (bindC (envOfC qual scope s.heap.objs.size f cd).kindOf (ps.zip us) fun _=>none) s1) :
    Inv (cxOf CX P w K mg base N qual scope f cd A outer s H E) [] (start N vs) H s1:=by
  have hpl:ps.length≤N.length:=by have:=congrArg List.length S.pre; rw [List.length_take] at this; omega
  obtain ⟨h1,tk,rfl,hk⟩:=x.done
  have noA:∀ b:Addr,b∉(cxOf CX P w K mg base N qual scope f cd A outer s H E).ex:=fun b z=>absurd (show b∈([]:List Addr) from z) (by simp)
  refine ⟨⟨e0.mod,S.kind,rfl,rfl,Nat.le_refl _,fun y z c h1 h2=>?_,fun y hy=>?_,fun y c _ h=>?_,fun _=>hd,Around.frames_deeper e0.frames,.inr ⟨rfl,rfl⟩,fun b z=>absurd z (noA b),e0.bs,e0.bsz,fun b _ _=>noA b,fun b z=>absurd z (noA b),e0.funs,e0.frf⟩,
    rfl,e0.bare,Un.kept hk,⟨_,x.toInCall.ns,fun i y v h1 h2 h3=>?_⟩,fun y c h=>⟨_,x.cell y c h⟩,e0.hok.fresh (Nat.le_refl _),fun y c h=>?_,fun p hp=>absurd (show p∈([]:List (Addr × Obj)) from hp) (by simp),e0.hok.kept hk,?_⟩
  · exact name_of_addr x.apart (PySem.mem_of_lookup h1) (PySem.mem_of_lookup h2)
  · have hy:scope.names.lookup y=some .cell∨scope.names.lookup y=some .free:=hy
    rcases hy with hy | hy
    · exact rX hy
    · exact absurd rfl (S.nofree _ (PySem.mem_of_lookup hy))
  · exact Nat.le_of_lt (x.above y c (PySem.mem_of_lookup h))
  · have hi:i < vs.length:=by
      unfold start at h2
      by_cases hi:i < vs.length
      · exact hi
      · rw [List.getElem?_append_right (by simpa using hi)] at h2
        rw [List.getElem?_replicate] at h2
        split at h2 <;> cases h2
    have ha:vs[i]?=some v:=by
      unfold start at h2
      rw [List.getElem?_append_left (by simpa using hi),List.getElem?_map] at h2
      cases e:vs[i]? with
      | none=>rw [e] at h2; cases h2
      | some a=>rw [e] at h2; cases h2; rfl
    obtain ⟨u,hu,rv⟩:=r.get ha
    have hp:ps[i]?=some y:=by
      rw [←S.pre,List.getElem?_take_of_lt (by omega)]; exact h1
    have ndP:ps.Nodup:=by rw [←S.pre]; exact S.nd.sublist (List.take_sublist _ _)
    refine ⟨u,rv,?_⟩
    rcases S.par y (List.mem_of_getElem? hp) with k | k
    · exact .inl ⟨k,ph ndP hp hu k⟩
    · obtain ⟨c,e⟩:=rX (n:=s.heap.objs.size + 1) k
      refine .inr ⟨.inl k,c,e,?_⟩
      have q:=x.cell y c e
      rw [pj ndP hp hu (by show scope.names.lookup y≠_; rw [k]; decide)] at q
      exact q
  · exact e0.hok.fresh (Nat.le_of_lt (x.above y c (PySem.mem_of_lookup h)))
  · unfold start
    show _=N.length
    rw [List.length_append,List.length_map,List.length_replicate]
    omega
theorem fn_of {CX:CXT} {P:Program} {w:World} {K:PySem.W.Frag} {mg:Str→Option Value} {base:Heap} {k:Nat} {f:Addr} {name qual:Str} {params:Arguments} {body:List Stmt} {scope:Scope} {dV kV doc pm cdv ct oc:Value} {an od:Option Addr}
    {osl:Array (Option Value)} {N ps:List Str} {sp:Sp} (lk:K.lookup f=some ⟨oc,od,.func (PySem.W.fnOf name qual params body scope dV kV doc pm an cdv ct),osl⟩) (hcd:PySem.W.codeIn K cdv qual=true) (S:az N ps scope)
    (len:∀ vs H Q E,sp vs H Q E→vs.length=ps.length)
    (hbody:∀ (A:Around) (outer:List Env) (s:Shared) (H:Hp) (vs:List V) (Q:VK) (E:XK),Room k (A.deeper (envOfC qual scope s.heap.objs.size f cdv))→sp vs H Q E →
      ∃ t,PSs (cxOf CX P w K mg base N qual scope f cdv A outer s H E) body t∧t { nx:=fun _ H'=>Q .non H',rt:=Q } (start N vs) H) :
    FnOk P w K mg base CX (k + 1) f (PySem.W.fnOf name qual params body scope dV kV doc pm an cdv ct) ps sp:=by
  refine ⟨len,fun A outer s H args us vs Q E hr e0 hb r hsp=>?_⟩
  have hl:=len _ _ _ _ hsp
  have KX:K.In s.heap:=e0.mod.kin.keeps fun b o e=>(e0.bs b o e).1
  have lim:s.heap.NoLimit:=e0.mod.nolimit.keeps fun b o e=>(e0.bs b o e).1
  have hkind:∀ y∈ps.zip us,scope.names.lookup y.1=some .local∨(scope.names.lookup y.1=some .cell∧((cellsFrom (s.heap.objs.size + 1) scope.names []).lookup y.1).isSome=true):=fun ⟨n,v⟩ hy=>by
    rcases S.par n (List.of_mem_zip hy).1 with q | q
    · exact .inl q
    · exact .inr ⟨q,PySem.W.cellsFrom_some _ _ _ (.inl q)⟩
  refine codeAny_call_function hr.depth (KX _ _ lk) rfl S.co S.gen rfl (PySem.W.codeRec_of KX hcd) (hb _ _ _ _ ?_)
  refine wpAny_newFunctionEnv_cells S.kind hkind fun env he s1 x=>?_
  subst he
  refine ⟨lim.keeps x.toInCall.keep,codeAny_func ?_⟩
  obtain ⟨t,ht,hq⟩:=hbody A outer s H vs Q E (hr.deeper _) hsp
  have I:Inv (cxOf CX P w K mg base N qual scope f cdv A outer s H E) [] (start N vs) H s1:=vM S hr.hd e0 hl r x
  refine wpAny_mono (ht [] s1 (start N vs) H _ I hq) (fun fl s' hs=>?_) fun e s' hs=>hs
  have fin:∀ {σ':St} {H':Hp} {v:V} {u:Value},Inv (cxOf CX P w K mg base N qual scope f cdv A outer s H E) [] σ' H' s'→RelV v u→Q v H'→CE outer P w H s Q u s' :=
    fun {σ' H' v u} J rv q=>⟨v,H',J.os,J.bare,J.base,J.hok,rv,q⟩
  cases fl with
  | ret u =>
    obtain ⟨v,σ',H',J,rv,q⟩:=hs
    exact fin J rv q
  | next =>
    obtain ⟨σ',H',J,q⟩:=hs
    exact fin (v:=V.non) (u:=Value.none) J rfl q
  | brk =>
    obtain ⟨_,_,_,q⟩:=hs
    exact False.elim q
  | cont =>
    obtain ⟨_,_,_,q⟩:=hs
    exact False.elim q
end L2
namespace L2
open PySem PySem.Spec PyProof.Rows
section
variable {X:Cx} {x:Str} {p pos:Pos} {e:Expr} {es:List Expr} {t:TA} {id T:String} {r:List V→Hp→VK→Prop}
def tCB (r:List V→Hp→VK→Prop) (t:TA):TE:=fun σ H Q=>t σ H fun vs H1=>r vs H1 Q
theorem aF (hc:fF X (.builtin id) r) (hg:Gl X x) (hm:X.mg x=none) (hv:bootBuiltins x=some (.builtin id)) (ha:PA X (e :: es) t) (hn:x ≠ "__name__" := by decide) (hdb:(x == ("__debug__" : Str))=false:=by decide)
    (he:starEach (e :: es) X.env=(false,eval e X.env) :: starEach es X.env:=by rfl) (hpl:(backTo pos (starEach es X.env)).any (·.1)=false:=by rfl):PE X (.Call (.Name x p) (e :: es) [] pos) (tCB r t):=by
  intro pins s σ H Q I h
  refine wpAny_Call_Name_kw (gN I hg hm hv ?_ hn hdb)
  exact PyProof.Rows.callWith_builtin1 (thn (ha pos pins s σ H _ I h) fun us s1 ⟨vs,H1,I1,r1,q1⟩=>hc pins s1 σ H1 vs us Q I1 r1 q1) he hpl
theorem cJ (hc:fF X (.type T) r) (hg:Gl X x) (hm:X.mg x=none) (hv:bootBuiltins x=some (.type T)) (ha:PA X (e :: es) t) (hn:x ≠ "__name__" := by decide) (hdb:(x == ("__debug__" : Str))=false:=by decide)
    (he:starEach (e :: es) X.env=(false,eval e X.env) :: starEach es X.env:=by rfl) (hpl:(backTo pos (starEach es X.env)).any (·.1)=false:=by rfl):PE X (.Call (.Name x p) (e :: es) [] pos) (tCB r t):=by
  intro pins s σ H Q I h
  refine wpAny_Call_Name_kw (gN I hg hm hv ?_ hn hdb)
  exact PyProof.Rows.callWith_type1 (thn (ha pos pins s σ H _ I h) fun us s1 ⟨vs,H1,I1,r1,q1⟩=>hc pins s1 σ H1 vs us Q I1 r1 q1) he hpl
end
end L2
namespace HT
open PySem PyProof.Rows
section
open PySem.SeqAt
open PySem.AutoSeq1 (wpAny_loadPart')
open PySem.MeetsSeq PySem.MeetsSeq2 PySem.MeetsSeq3
end
section
variable {prog:Program} {w:World} {A:Around} {E:Value→Shared→Prop} {s:Shared}
def sIx (n d:Nat):Option Int→Nat
  | none=>d
  | some v=>if v < 0 then (v + (n:Int)).toNat else min v.toNat n
end
end HT
namespace L2
open PySem PySem.Spec PyProof.Rows
abbrev TO:=St→Hp→(Option Int→Hp→Prop)→Prop
def PO (X:Cx) (e:Option Expr) (t:TO):Prop :=
  ∀ (pins:List (Addr × Obj)) (s:Shared) (σ:St) (H:Hp) (Q:Option Int→Hp→Prop),Inv X pins σ H s→t σ H Q →
    wpAny (model X.prog X.w) X.A (evalPart e X.env) (fun u s'=>∃ o H',Inv X pins σ H' s'∧IsPart u o∧Q o H') X.xe s
def tPart (t:TE):TO:=fun σ H Q=>t σ H fun x H1=>∃ i,x=.int i∧Q (some i) H1
section
variable {X:Cx} {e:Expr} {te:TE} {lo hi:Option Expr} {tl th:TO} {pos p2:Pos}
theorem l7 (h:PE X e te):PO X (some e) (tPart te):=by
  intro pins s σ H Q I hw
  rw [evalPart_some]
  refine thn (h pins s σ H _ I hw) fun u s1 ⟨x,H1,I1,r1,q1⟩=>?_
  obtain ⟨i,rfl,q⟩:=q1
  obtain ⟨t,rfl⟩:=r1
  exact ⟨some i,H1,I1,.int i t,q⟩
def SlR (X:Cx) (r:V→Option Int→Option Int→Hp→VK→Prop):Prop :=
  ∀ (pins:List (Addr × Obj)) (s:Shared) (σ:St) (H:Hp) (x:V) (v vl vu:Value) (lo hi:Option Int) (sl:Addr) (Q:VK),Inv X pins σ H s→RelV x v→s.heap.IsSliceOf sl vl vu .none→IsPart vl lo→IsPart vu hi→r x lo hi H Q →
    ∃ T id,typeLookup (.type T) "__getitem__" = pure (some (.builtin id))∧s.TypeIs v T∧wpAny (model X.prog X.w) X.A (getItem v (.ref sl)) (EP X pins σ Q) X.xe s
def tSl (r:V→Option Int→Option Int→Hp→VK→Prop) (te:TE) (tl th:TO):TE:=fun σ H Q=>te σ H fun x H1=>tl σ H1 fun l H2=>th σ H2 fun u H3=>r x l u H3 Q
theorem qQ {r:V→Option Int→Option Int→Hp→VK→Prop} (hr:SlR X r) (he:PE X e te) (hl:PO X lo tl) (hu:PO X hi th):PE X (.Subscript e (.Slice lo hi none p2) pos) (tSl r te tl th):=by
  intro pins s σ H Q I h
  refine Subscript_ (thn (he pins s σ H _ I h) fun v s1 ⟨x,H1,I1,r1,q1⟩=>?_)
  refine wpAny_Slice (thn (hl pins s1 σ H1 _ I1 q1) fun vl s2 ⟨l,H2,I2,pl,q2⟩=>thn (hu pins s2 σ H2 _ I2 q2) fun vu s3 ⟨u,H3,I3,pu,q3⟩=>?_)
  rw [evalPart_none]
  refine wpAny_pure ?_
  have I4:Inv X pins σ H3 { s3 with heap:=s3.heap.push { cls:=.type "slice",data:=.fields #[vl,vu,.none] } }:=I3.kept (t':=s3.toks) fun b ob q=>Heap.get?_push_of_some _ q
  obtain ⟨T,id,hT,ht,hg⟩:=hr pins { s3 with heap:=s3.heap.push { cls:=.type "slice",data:=.fields #[vl,vu,.none] } } σ H3 x v vl vu l u s3.heap.objs.size Q I4 r1 (Heap.IsSliceOf.new ..) pl pu q3
  show wpAny (model X.prog X.w) X.A (subscriptTail e (.Slice lo hi none p2) v (.ref s3.heap.objs.size)) (EP X pins σ Q) X.xe { s3 with heap:=s3.heap.push { cls:=.type "slice",data:=.fields #[vl,vu,.none] } }
  exact tail_any (ops:=[.ref s3.heap.objs.size,v]) ht hT hg (by with_unfolding_all rfl)
def cutV (xs:List V) (lo hi:Option Int):List V:=(xs.drop (HT.sIx xs.length 0 lo)).take (HT.sIx xs.length xs.length hi - HT.sIx xs.length 0 lo)
theorem rV (xs:List V) (lo hi:Option Int):(cutV xs lo hi).length≤xs.length:=by
  unfold cutV
  rw [List.length_take,List.length_drop]
  omega
end
end L2
namespace L2
open PySem PySem.Spec PyProof.Rows
def ixN (n:Nat) (i:Int):Option Nat:=if 0≤i then (if i < n then some i.toNat else none) else if -(n:Int)≤i then some (i + n).toNat else none
def atI {α:Type} (xs:List α) (i:Int):Option α:=(ixN xs.length i).bind fun j=>xs[j]?
theorem uO {n:Nat} {i:Int} {j:Nat} (h:ixN n i=some j):seqIndex? i n=some j∧j < n∧-(n:Int)≤i∧i < n:=by
  unfold ixN at h
  by_cases h0:0≤i
  · rw [if_pos h0] at h
    by_cases h1:i < n
    · rw [if_pos h1] at h
      have e:i.toNat=j:=Option.some.inj h
      exact ⟨by rw [seqIndex_of h0 h1,e],by omega,by omega,h1⟩
    · rw [if_neg h1] at h; cases h
  · rw [if_neg h0] at h
    by_cases h1:-(n:Int)≤i
    · rw [if_pos h1] at h
      have e:(i + n).toNat=j:=Option.some.inj h
      exact ⟨by rw [seqIndex_neg (by omega) h1,e],by omega,h1,by omega⟩
    · rw [if_neg h1] at h; cases h
theorem qm {α:Type} {xs:List α} {i:Int} {v:α} (h:atI xs i=some v):∃ j,seqIndex? i xs.length=some j∧xs[j]?=some v∧j < xs.length∧-(xs.length:Int)≤i∧i < xs.length:=by
  unfold atI at h
  cases e:ixN xs.length i with
  | none=>rw [e] at h; cases h
  | some j =>
    rw [e] at h
    obtain ⟨h1,h2,h3,h4⟩:=uO e
    exact ⟨j,h1,h,h2,h3,h4⟩
theorem aX {α:Type} {xs:List α} {j:Nat} {v:α} (h:xs[j]?=some v):atI xs (j:Int)=some v:=by
  have hj:j < xs.length:=(List.getElem?_eq_some_iff.mp h).1
  have e:ixN xs.length (j:Int)=some j:=by
    unfold ixN
    rw [if_pos (by omega),if_pos (by omega)]; simp
  unfold atI; rw [e]; exact h
def zg (b:Expr):Prop:=∀ o i,subscripted b false o i=operate [o,i] (getItem o i)
def IxR (X:Cx) (r:R2):Prop :=
  ∀ (value slice:Expr) (pins:List (Addr × Obj)) (s:Shared) (σ:St) (H:Hp) (x y:V) (v u:Value) (Q:VK),Inv X pins σ H s→RelV x v→RelV y u→r x y H Q →
    subscripted slice false v u=operate [v,u] (getItem v u)→wpAny (model X.prog X.w) X.A (subscriptTail value slice v u) (EP X pins σ Q) X.xe s
def MtR (X:Cx) (id:String) (r:V→List V→Hp→VK→Prop):Prop :=
  ∀ (pins:List (Addr × Obj)) (s:Shared) (σ:St) (H:Hp) (x:V) (xs:List V) (v:Value) (us:List Value) (Q:VK),Inv X pins σ H s→RelV x v→Vals xs us→r x xs H Q →
    wpAny (model X.prog X.w) X.A (call (.builtin id) (v :: us)) (EP X pins σ Q) X.xe s
section
variable {X:Cx} {a b:Expr} {ta tb:TE} {pos:Pos}
theorem ay {r:R2} (hr:IxR X r) (ha:PE X a ta) (hb:PE X b tb) (hs:zg b):PE X (.Subscript a b pos) (tOp r ta tb):=by
  intro pins s σ H Q I h
  exact Subscript_ (binT ha hb I h fun v u s2 x y H2 I2 rx ry q=>hr a b pins s2 σ H2 x y v u Q I2 rx ry q (hs _ _))
def rIxL (K:PySem.W.Frag):R2:=fun x y H Q=>∃ p xs i v,x=.ref p∧y=.int i∧SqL K H p xs∧atI xs i=some v∧Q v H
def rIxT (K:PySem.W.Frag):R2:=fun x y H Q=>∃ p xs i v,x=.ref p∧y=.int i∧SqT K H p xs∧atI xs i=some v∧Q v H
def rIxS:R2:=fun x y H Q=>∃ z i c,x=.str z∧y=.int i∧z.length≤sizeLine∧atI z.cps.toList i=some c∧Q (.str ⟨#[c]⟩) H
theorem yY:IxR X (rIxL X.K):=by
  intro value slice pins s σ H x y v u Q I rx ry h hs
  obtain ⟨p,xs,i,z,rfl,rfl,hq,he,q⟩:=h
  cases rx
  obtain ⟨t,rfl⟩:=ry
  obtain ⟨its,r,pl,hz⟩:=I.list hq
  obtain ⟨j,h1,h2,h3,h4,h5⟩:=qm he
  obtain ⟨w,ew,rw'⟩:=r.get h2
  have hl:=r.length
  have hn:=jF
  have fin:EP X pins σ Q w s:=⟨z,H,I,rw',q⟩
  by_cases h0:0≤i
  · have hj:i.toNat=j:=by
      rw [seqIndex_of h0 h5] at h1
      exact Option.some.inj h1
    exact item_listR pl.isList h0 (by omega) (by rw [hj]; simpa using ew) fin hs
  · have hj:(i + (its.toArray.size:Int)).toNat=j:=by
      rw [seqIndex_neg (by omega) h4] at h1
      rw [List.size_toArray,←hl]
      exact Option.some.inj h1
    exact subscriptTail_builtinR (x:=w) pl.isList.typeIs slot_list_getitem.lookup
      (wpAny_getItem_list_neg (Q:=fun r s'=>r=w∧EP X pins σ Q r s') pl.isList (by omega) (by rw [List.size_toArray] <;> omega) (by omega) (by rw [hj]; simpa using ew) ⟨rfl,fin⟩) hs
theorem ix_tup:IxR X (rIxT X.K):=by
  intro value slice pins s σ H x y v u Q I rx ry h hs
  obtain ⟨p,xs,i,z,rfl,rfl,hq,he,q⟩:=h
  cases rx
  obtain ⟨t,rfl⟩:=ry
  obtain ⟨its,r,pl,hz⟩:=I.tuple hq
  obtain ⟨j,h1,h2,h3,h4,h5⟩:=qm he
  obtain ⟨w,ew,rw'⟩:=r.get h2
  have hl:=r.length
  have hn:=jF
  have fin:EP X pins σ Q w s:=⟨z,H,I,rw',q⟩
  exact subscriptTail_builtinR (x:=w) pl.typeIs slot_tuple_getitem.lookup
    (getItem_tuple (j:=j) (Q:=fun r s'=>r=w∧EP X pins σ Q r s') pl (by omega) (by omega) (by rw [List.size_toArray,←hl]; exact h1) (by simpa using ew) ⟨rfl,fin⟩) hs
theorem tL:IxR X rIxS:=by
  intro value slice pins s σ H x y v u Q I rx ry h hs
  obtain ⟨z,i,c,rfl,rfl,hz,he,q⟩:=h
  obtain ⟨t,rfl⟩:=rx
  obtain ⟨t',rfl⟩:=ry
  obtain ⟨j,h1,h2,h3,h4,h5⟩:=qm he
  have hl:z.cps.toList.length=z.length:=by simp [Str.length]
  rw [hl] at h1 h4 h5
  have hn:=jF
  exact tail_any (typeIs_str s z t) slot_str_getitem.lookup (getItem_str (c:=c) (by
    have e1:decide (i < -(2 ^ 63:Int))=false:=decide_eq_false (by omega)
    have e2:decide (i ≥ 2 ^ 63)=false:=decide_eq_false (by omega)
    rw [e1,e2,Bool.or_false]) (by rw [h1]; simpa using h2) ⟨.str ⟨#[c]⟩,H,I.tok _,⟨_,rfl⟩,q⟩) hs
theorem tF (its:List Value) (n j:Nat) (u:Value):Obj.mapSeq (·.setIfInBounds j u) { cls:=.type "list",data:=.seq its.toArray n }={ cls:=.type "list",data:=.seq (its.set j u).toArray n }:=by
  simp [Obj.mapSeq]
theorem Inv.lst {pins:List (Addr × Obj)} {σ:St} {H:Hp} {s:Shared} {p:Addr} {xs:List V} (I:Inv X pins σ H s) (h:H p=some (.lst xs)) :
    ∃ (its:List Value) (n:Nat),Vals xs its∧s.heap.get? p=some { cls:=.type "list",data:=.seq its.toArray n }∧xs.length≤sizeLine:=by
  obtain ⟨z,its,n,r,e⟩:=I.hok p _ h
  exact ⟨its,n,r,e,z⟩
theorem Inv.lstUpd {pins:List (Addr × Obj)} {σ:St} {H:Hp} {s:Shared} {p:Addr} {xs ys:List V} {its its':List Value} {n n':Nat} {f:Obj→Obj} (I:Inv X pins σ H s) (h:H p=some (.lst xs))
    (ho:s.heap.get? p=some { cls:=.type "list",data:=.seq its.toArray n }) (hf:f { cls:=.type "list",data:=.seq its.toArray n }={ cls:=.type "list",data:=.seq its'.toArray n' }) (r:Vals ys its') (hz:ys.length≤sizeLine) (t:Nat) :
    Inv X pins σ (upd H p (.lst ys)) { s with heap:=s.heap.update p f,toks:=t }:=by
  have e:(s.heap.update p f).get? p=some { cls:=.type "list",data:=.seq its'.toArray n' }:=by
    rw [Heap.get?_update_self f ho (by rw [hf] <;> rfl),hf]
  refine I.write (x:=p) (e:=p) (by rw [h]; trivial) (.inl rfl) (fun b u hb q=>(Heap.get?_update_other _ _ (Ne.symm hb)).trans q) ⟨_,e⟩ ?_
  exact ⟨hz,its',n',r,e⟩
def rSetL:V→V→V→Hp→(Hp→Prop)→Prop:=fun o i v H Q=>∃ p xs k j,o=.ref p∧i=.int k∧H p=some (.lst xs)∧ixN xs.length k=some j∧Q (upd H p (.lst (xs.set j v)))
theorem qG:PSet X rSetL:=by
  intro pins s σ H o i v ov iv u Q I ro ri rv h
  obtain ⟨p,xs,k,j,rfl,rfl,hp,hj,q⟩:=h
  cases ro
  obtain ⟨t,rfl⟩:=ri
  obtain ⟨its,n,r,ho,hz⟩:=I.lst hp
  obtain ⟨h1,h2,h3,h4⟩:=uO hj
  have hl:=r.length
  have hn:=jF
  have I':Inv X pins σ (upd H p (.lst (xs.set j v))) { s with heap:=s.heap.update p (Obj.mapSeq (·.setIfInBounds j u)) } :=
    I.lstUpd hp ho (tF its n j u) (r.set rv j) (by rw [List.length_set]; exact hz) s.toks
  by_cases h0:0≤k
  · have hk:k.toNat=j:=by
      rw [seqIndex_of h0 h4] at h1
      exact Option.some.inj h1
    exact PySem.W.ki_setAt ho h0 (by omega) (by rw [List.size_toArray,←hl]; exact h4) (by rw [hk]; exact ⟨_,I',q⟩)
  · have hk:(k + (its.toArray.size:Int)).toNat=j:=by
      rw [seqIndex_neg (by omega) h3] at h1
      rw [List.size_toArray,←hl]
      exact Option.some.inj h1
    exact PySem.W.ki_setBack ho (by omega) (by rw [List.size_toArray,←hl]; exact h3) (by omega) (by rw [hk]; exact ⟨_,I',q⟩)
theorem pD (lo hi:Option Int) (n:Nat):(sliceBounds lo hi none n).1=((HT.sIx n 0 lo:Nat):Int)∧(sliceBounds lo hi none n).2.1=((HT.sIx n n hi:Nat):Int)∧(sliceBounds lo hi none n).2.2=1:=by
  refine ⟨?_,?_,rfl⟩
  · cases lo with
    | none=>simp [sliceBounds,HT.sIx]
    | some i =>
      simp only [sliceBounds,HT.sIx,Option.getD_none,show (1:Int) > 0 by decide,if_true]
      by_cases h:i < 0
      · simp only [h,if_true] <;> omega
      · simp only [h,if_false] <;> omega
  · cases hi with
    | none=>simp [sliceBounds,HT.sIx]
    | some i =>
      simp only [sliceBounds,HT.sIx,Option.getD_none,show (1:Int) > 0 by decide,if_true]
      by_cases h:i < 0
      · simp only [h,if_true] <;> omega
      · simp only [h,if_false] <;> omega
theorem nU (its:List Value) (lo hi:Option Int):slicePick its.toArray lo hi none=((its.drop (HT.sIx its.length 0 lo)).take (HT.sIx its.length its.length hi - HT.sIx its.length 0 lo)).toArray:=by
  obtain ⟨h1,h2,h3⟩:=pD lo hi its.toArray.size
  unfold slicePick
  rw [h1,h2,h3]
  simp only [sliceRange_one,pick_run,List.size_toArray] <;> rfl
def rSlL (K:PySem.W.Frag):V→Option Int→Option Int→Hp→VK→Prop:=fun x lo hi H Q=>∃ a xs,x=.ref a∧SqL K H a xs∧∀ p,H p=none→Q (.ref p) (upd H p (.lst (cutV xs lo hi)))
theorem uo:SlR X (rSlL X.K):=by
  intro pins s σ H x v vl vu lo hi sl Q I rx hs pl pu h
  obtain ⟨a,xs,rfl,hx,q⟩:=h
  cases rx
  obtain ⟨its,r,ht,hz⟩:=I.list hx
  have hlen:=r.length
  refine ⟨"list",_,slot_list_getitem.lookup,ht.isList.typeIs,?_⟩
  refine wpAny_getItem_list_slice ht.isList hs pl pu .none (by simp) ?_ (by rw [List.size_toArray] <;> omega)
  rw [nU,←hlen]
  refine ⟨.ref s.heap.objs.size,_,I.laid (t':=s.toks) (o:=.lst (cutV xs lo hi)) (fun b ob q=>Heap.get?_push_of_some _ q) (Nat.le_refl _) ?_,rfl,q _ (I.hok.fresh (Nat.le_refl _))⟩
  exact ⟨Nat.le_trans (rV xs lo hi) hz,_,0,(r.drop (HT.sIx xs.length 0 lo)).take (HT.sIx xs.length xs.length hi - HT.sIx xs.length 0 lo),Heap.get?_push_size _ rfl⟩
def lM:V→Bool
  | .non=>true
  | .bl _=>true
  | .int _=>true
  | .str _=>true
  | _=>false
def eqV:V→V→Bool
  | .non,.non=>true
  | .bl a,.bl b=>a == b
  | .bl a,.int b=>(if a then 1 else 0) == b
  | .int a,.bl b=>a == (if b then 1 else 0)
  | .int a,.int b=>a == b
  | .str a,.str b=>a == b
  | _,_=>false
theorem eqAt_V {A:Around} {s:Shared} {y x:V} {u v:Value} (ry:RelV y u) (rx:RelV x v) (fy:lM y=true) (fx:lM x=true):SeqAt.EqAt A s u v (eqV y x):=by
  cases y with
  | non =>
    cases ry
    cases x with
    | non=>cases rx; exact SeqAt.EqAt.same _
    | bl b=>cases rx; exact SeqAt.EqAt.none_bool b
    | int b=>obtain ⟨t,rfl⟩:=rx; exact SeqAt.EqAt.none_int b t
    | str b=>obtain ⟨t,rfl⟩:=rx; exact SeqAt.EqAt.none_str b t
    | _=>exact absurd (show false=true from fx) Bool.false_ne_true
  | bl a =>
    cases ry
    cases x with
    | non=>cases rx; exact SeqAt.EqAt.bool_none a
    | bl b=>cases rx; exact SeqAt.EqAt.bool_bool a b
    | int b=>obtain ⟨t,rfl⟩:=rx; exact SeqAt.EqAt.bool_int a b t
    | str b=>obtain ⟨t,rfl⟩:=rx; exact SeqAt.EqAt.bool_str a b t
    | _=>exact absurd (show false=true from fx) Bool.false_ne_true
  | int a =>
    obtain ⟨t',rfl⟩:=ry
    cases x with
    | non=>cases rx; exact SeqAt.EqAt.int_none a t'
    | bl b=>cases rx; exact SeqAt.EqAt.int_bool a t' b
    | int b=>obtain ⟨t,rfl⟩:=rx; exact SeqAt.EqAt.int_int a t' b t
    | str b=>obtain ⟨t,rfl⟩:=rx; exact SeqAt.EqAt.int_str a t' b t
    | _=>exact absurd (show false=true from fx) Bool.false_ne_true
  | str a =>
    obtain ⟨t',rfl⟩:=ry
    cases x with
    | non=>cases rx; exact SeqAt.EqAt.str_none a t'
    | bl b=>cases rx; exact SeqAt.EqAt.str_bool a t' b
    | int b=>obtain ⟨t,rfl⟩:=rx; exact SeqAt.EqAt.str_int a t' b t
    | str b=>obtain ⟨t,rfl⟩:=rx; exact SeqAt.EqAt.str_str a t' b t
    | _=>exact absurd (show false=true from fx) Bool.false_ne_true
  | _=>exact absurd (show false=true from fy) Bool.false_ne_true
def eqU (x:V) (u:Value):Bool:=match u with
  | .none=>eqV .non x
  | .bool b=>eqV (.bl b) x
  | .int i _=>eqV (.int i) x
  | .str z _=>eqV (.str z) x
  | _=>false
theorem xW {x y:V} {u:Value} (r:RelV y u) (f:lM y=true):eqU x u=eqV y x:=by
  cases y with
  | non=>cases r; rfl
  | bl b=>cases r; rfl
  | int i=>obtain ⟨t,rfl⟩:=r; rfl
  | str z=>obtain ⟨t,rfl⟩:=r; rfl
  | _=>exact absurd (show false=true from f) Bool.false_ne_true
theorem qp {x:V}:∀ {xs:List V} {us:List Value},Vals xs us→xs.all lM=true→us.any (eqU x)=xs.any fun y=>eqV y x
  | _,_,.nil,_=>rfl
  | y :: xs,u :: us,.cons r t,f=>by
    rw [List.all_cons,Bool.and_eq_true] at f
    rw [List.any_cons,List.any_cons,xW r f.1,qp t f.2]
theorem m9 {A:Around} {s:Shared} {x:V} {v:Value} (rx:RelV x v) (fx:lM x=true):∀ {xs:List V} {us:List Value},Vals xs us→xs.all lM=true→∀ u∈us,SeqAt.EqAt A s u v (eqU x u)
  | _,_,.nil,_=>fun u hu=>by cases hu
  | y :: xs,u :: us,.cons r t,f=>fun u' hu=>by
    rw [List.all_cons,Bool.and_eq_true] at f
    rcases List.mem_cons.mp hu with rfl | hu
    · rw [xW r f.1]; exact eqAt_V r rx f.1 fx
    · exact m9 rx fx t f.2 u' hu
def inV (x:V) (xs:List V):Bool:=xs.any fun y=>eqV y x
def rIn (K:PySem.W.Frag) (neg:Bool):R2:=fun x y H Q=>∃ p xs,y=.ref p∧(SqL K H p xs∨SqT K H p xs)∧lM x=true∧xs.all lM=true∧Q (.bl (if neg then !inV x xs else inV x xs)) H
theorem vB:OpR X (compareOp .In) (rIn X.K false):=by
  intro pins s σ H x y v u Q I rx ry h
  obtain ⟨p,xs,rfl,hq,fx,fs,q⟩:=h
  cases ry
  rcases hq with hq | hq
  · obtain ⟨its,r,pl,hz⟩:=I.list hq
    refine SeqAt.in_listAt (eqU x) pl.isList (fun w hw=>m9 rx fx r fs w (by simpa using hw)) ⟨.bl _,H,I,rfl,?_⟩
    rw [show its.toArray.any (eqU x)=its.any (eqU x) by simp,qp r fs]
    exact q
  · obtain ⟨its,r,pl,hz⟩:=I.tuple hq
    refine SeqAt.in_tupleAt (eqU x) pl (fun w hw=>m9 rx fx r fs w (by simpa using hw)) ⟨.bl _,H,I,rfl,?_⟩
    rw [show its.toArray.any (eqU x)=its.any (eqU x) by simp,qp r fs]
    exact q
theorem p9:fF X (.builtin "len") (fun xs H Q=>∃ p ys,xs=[.ref p]∧(SqL X.K H p ys∨SqT X.K H p ys)∧Q (.int ys.length) H):=by
  intro pins s σ H xs us Q I r h
  obtain ⟨p,ys,rfl,hq,q⟩:=h
  obtain ⟨u,rfl,rx⟩:=qx r
  cases rx
  have hn:=jF
  rcases hq with hq | hq
  · obtain ⟨its,r',pl,hz⟩:=I.list hq
    have hlen:=r'.length
    exact Calls.call_len_list pl.isList (by simp only [List.size_toArray] <;> omega) ⟨.int ys.length,H,I.tok _,⟨s.toks + 1,by rw [List.size_toArray,hlen]⟩,q⟩
  · obtain ⟨its,r',pl,hz⟩:=I.tuple hq
    have hlen:=r'.length
    exact len_tuple pl (by simp only [List.size_toArray] <;> omega) ⟨.int ys.length,H,I.tok _,⟨s.toks + 1,by rw [List.size_toArray,hlen]⟩,q⟩
theorem kn:fF X (.builtin "len") (fun xs H Q=>∃ z,xs=[.str z]∧z.length≤sizeLine∧Q (.int z.length) H):=by
  intro pins s σ H xs us Q I r h
  obtain ⟨z,rfl,hz,q⟩:=h
  obtain ⟨u,rfl,t,rfl⟩:=qx r
  have hn:=jF
  exact len_str (by omega) ⟨.int z.length,H,I.tok _,⟨_,rfl⟩,q⟩
theorem km:fF X (.type "list") (fun xs H Q=>∃ p ys,xs=[.ref p]∧(SqL X.K H p ys∨SqT X.K H p ys)∧∀ l,H l=none→Q (.ref l) (upd H l (.lst ys))):=by
  intro pins s σ H xs us Q I r h
  obtain ⟨p,ys,rfl,hq,q⟩:=h
  obtain ⟨u,rfl,rx⟩:=qx r
  cases rx
  have fin:∀ (its:List Value),Vals ys its→ys.length≤sizeLine→∀ (h':Heap) (c':Nat),(∀ b o',s.heap.get? b=some o'→h'.get? b=some o') →
      h'.get? s.heap.objs.size=some { cls:=.type "list",dict:=none,data:=.seq its.toArray c',slots:=#[] }→EP X pins σ Q (.ref s.heap.objs.size) { s with heap:=h' }:=fun its r' hz h' c' kp e =>
    ⟨.ref s.heap.objs.size,_,I.laid (t':=s.toks) kp (Nat.le_refl _) (show bM X.prog X.w _ h' _ (.lst ys) from ⟨hz,its,c',r',e⟩),rfl,q _ (I.hok.fresh (Nat.le_refl _))⟩
  rcases hq with hq | hq
  · obtain ⟨its,r',pl,hz⟩:=I.list hq
    have hlen:=r'.length
    obtain ⟨o,ho,hc,n,hd⟩:=pl.isList
    exact call_list_seq p (.inl rfl) ho hc hd (fun h' c' kp e=>fin its r' hz h' c' kp e) (by simp only [List.size_toArray] <;> omega)
  · obtain ⟨its,r',pl,hz⟩:=I.tuple hq
    have hlen:=r'.length
    obtain ⟨o,ho,hc,n,hd⟩:=pl
    exact call_list_seq p (.inr rfl) ho hc hd (fun h' c' kp e=>fin its r' hz h' c' kp e) (by simp only [List.size_toArray] <;> omega)
def tyV (K:PySem.W.Frag) (T:String) (x:V) (H:Hp):Prop:=match x with
  | .str _=>T = "str"
  | .int _=>T = "int"
  | .ref p=>(T = "list" ∧ ∃ xs,SqL K H p xs)∨(T = "tuple" ∧ ∃ o,K.lookup p=some o∧o.cls=.type "tuple" ∧ o.dict=none) ∨
      (T = "dict" ∧ ((∃ kvs,H p=some (.dK kvs))∨∃ kvs,H p=some (.dT kvs)))∨(T = "set" ∧ ∃ S n,H p=some (.set S n))
  | _=>False
theorem wB {pins:List (Addr × Obj)} {σ:St} {H:Hp} {s:Shared} {T:String} {x:V} {v:Value} (I:Inv X pins σ H s) (r:RelV x v) (ty:tyV X.K T x H) :
    s.TypeIs v T∧∀ a,v=.ref a→∃ ob,s.heap.get? a=some ob∧ob.dict=none:=by
  cases x with
  | str z =>
    obtain ⟨t,rfl⟩:=r
    cases (show T = "str" from ty)
    exact ⟨typeIs_str s z t,fun _ e=>nomatch e⟩
  | int i =>
    obtain ⟨t,rfl⟩:=r
    cases (show T = "int" from ty)
    exact ⟨typeIs_int s i t,fun _ e=>nomatch e⟩
  | ref p =>
    cases r
    rcases ty with ⟨rfl,xs,hq⟩ | ⟨rfl,o,hk,hc,hd⟩ | ⟨rfl,hk⟩ | ⟨rfl,S,n,hk⟩
    · obtain ⟨its,_,pl,_⟩:=I.list hq
      refine ⟨pl.isList.typeIs,fun a e=>?_⟩
      cases e
      obtain ⟨o,n,e,c,hd,_⟩:=pl
      exact ⟨o,e,hd⟩
    · refine ⟨⟨o,I.kIn p o hk,hc⟩,fun a e=>?_⟩
      cases e
      exact ⟨o,I.kIn _ o hk,hd⟩
    · have z:∃ o,s.heap.get? p=some o∧o.ExactDict:=by
        rcases hk with ⟨kvs,hk⟩ | ⟨kvs,hk⟩
        · obtain ⟨_,_,_,_,o,_,_,e,ex,_⟩:=I.hok p _ hk
          exact ⟨o,e,ex⟩
        · obtain ⟨_,_,_,_,o,_,_,e,ex,_⟩:=I.hok p _ hk
          exact ⟨o,e,ex⟩
      obtain ⟨o,e,ex⟩:=z
      refine ⟨⟨o,e,ex.1⟩,fun a e2=>?_⟩
      cases e2
      exact ⟨o,e,ex.2.1⟩
    · obtain ⟨o,_,_,_,e,ex,_⟩:=I.hok p _ hk
      refine ⟨⟨o,e,ex.1⟩,fun a e2=>?_⟩
      cases e2
      exact ⟨o,e,ex.2.1⟩
  | _=>exact False.elim ty
def tBM0 (K:PySem.W.Frag) (T:String) (r:V→List V→Hp→VK→Prop) (to:TE):TE:=fun σ H Q=>to σ H fun x H1=>tyV K T x H1∧r x [] H1 Q
def tBM (K:PySem.W.Frag) (T:String) (r:V→List V→Hp→VK→Prop) (to:TE) (t:TA):TE:=fun σ H Q=>to σ H fun x H1=>tyV K T x H1∧t σ H1 fun xs H2=>r x xs H2 Q
variable {o e:Expr} {es:List Expr} {to:TE} {t:TA} {name:Str} {apos cpos:Pos} {T id:String} {r:V→List V→Hp→VK→Prop}
theorem pe_bm0 (pa:PlainAttrs T) (slot:Slot T name id) (hty:typeOf (.builtin id)=pure (.type "method_descriptor")) (hm:MtR X id r) (ho:PE X o to)
    (hbase:attributeBase o name X.env (eval o X.env)=eval o X.env:=by rfl) (hline:(apos.endLine == cpos.line)=true:=by rfl):PE X (.Call (.Attribute o name apos) [] [] cpos) (tBM0 X.K T r to):=by
  intro pins s σ H Q I h
  refine wpAny_Call_method0_late hbase hline (thn (ho pins s σ H _ I h) fun v s1 ⟨x,H1,I1,r1,ty,q1⟩=>?_)
  obtain ⟨h1,h2⟩:=wB I1 r1 ty
  exact ⟨T,id,pa,slot,hty,h1,h2,Calls.callWith_builtin rfl (PySem.evalArgs_none (hm pins s1 σ H1 x [] v [] Q I1 r1 .nil q1))⟩
theorem fo (pa:PlainAttrs T) (slot:Slot T name id) (hty:typeOf (.builtin id)=pure (.type "method_descriptor")) (hm:MtR X id r) (ho:PE X o to) (ha:PA X (e :: es) t)
    (hbase:attributeBase o name X.env (eval o X.env)=eval o X.env:=by rfl)
    (hfew:((backTo cpos (starEach (e :: es) X.env)).all (fun x=>!x.1) && (backToKw cpos (keywordEach [] X.env)).all (fun x=>x.1.isSome)
      && decide ((e :: es).length + ([]:List Keyword).length + (if ([]:List Keyword).isEmpty then 0 else 1) < 30))=true:=by rfl)
    (hline:(apos.endLine == cpos.line)=true:=by rfl) (hs:starEach (e :: es) X.env=(false,eval e X.env) :: starEach es X.env:=by rfl) (hplain:(backTo cpos (starEach es X.env)).any (·.1)=false:=by rfl) :
    PE X (.Call (.Attribute o name apos) (e :: es) [] cpos) (tBM X.K T r to t):=by
  intro pins s σ H Q I h
  refine wpAny_Call_method_late hbase hfew hline rfl (thn (ho pins s σ H _ I h) fun v s1 ⟨x,H1,I1,r1,ty,q1⟩=>?_)
  obtain ⟨h1,h2⟩:=wB I1 r1 ty
  refine ⟨T,id,pa,slot,hty,h1,h2,?_⟩
  have hA:=ha cpos pins s1 σ H1 _ I1 q1
  rw [hs] at hA ⊢
  refine Calls.callWith_builtin (by show (false || (backTo cpos (starEach es X.env)).any (·.1))=false; rw [hplain] <;> rfl) (Calls.evalArgs_plain ?_)
  exact thn hA fun us s2 ⟨vs,H2,I2,r2,q2⟩=>hm pins s2 σ H2 x vs v us Q I2 r1 r2 q2
end
end L2
namespace L2
open PySem PySem.Spec PyProof.Rows
def MtM (X:Cx) (id:String) (r:V→List V→Hp→VK→Prop):Prop :=
  ∀ (pins:List (Addr × Obj)) (s:Shared) (σ:St) (H:Hp) (x:V) (xs:List V) (v:Value) (us:List Value) (Q:VK),Inv X pins σ H s→RelV x v→Vals xs us→r x xs H Q →
    wpAny (model X.prog X.w) X.A (call (.builtin id) (v :: us)) (EP X pins σ Q) X.xe s
theorem Vals.one:∀ {x:V} {us:List Value},Vals [x] us→∃ u,us=[u]∧RelV x u
  | _,_,.cons r .nil=>⟨_,rfl,r⟩
theorem Vals.zero:∀ {us:List Value},Vals [] us→us=[]
  | _,.nil=>rfl
theorem Vals.dropLast {xs:List V} {us:List Value} (h:Vals xs us):Vals xs.dropLast us.dropLast:=by
  induction h with
  | nil=>exact .nil
  | cons r t ih =>
    cases t with
    | nil=>exact .nil
    | cons q t'=>exact .cons r ih
theorem Vals.reverse {xs:List V} {us:List Value} (h:Vals xs us):Vals xs.reverse us.reverse:=by
  induction h with
  | nil=>exact .nil
  | cons r t ih=>rw [List.reverse_cons,List.reverse_cons]; exact Vals.append ih (.cons r .nil)
theorem Vals.rep {xs:List V} {us:List Value} (h:Vals xs us):∀ k:Nat,Vals (List.replicate k xs).flatten (List.replicate k us).flatten
  | 0=>.nil
  | k + 1=>by
    rw [List.replicate_succ,List.replicate_succ,List.flatten_cons,List.flatten_cons]
    exact Vals.append h (Vals.rep h k)
theorem tU {α:Type} (l:List α):l.eraseIdx (l.length - 1)=l.dropLast:=by
  induction l with
  | nil=>rfl
  | cons a r ih =>
    cases r with
    | nil=>rfl
    | cons b r =>
      have e:(a :: b :: r).length - 1=((b :: r).length - 1) + 1:=by
        have h1:(a :: b :: r).length=r.length + 2:=rfl
        have h2:(b :: r).length=r.length + 1:=rfl
        omega
      rw [e,List.eraseIdx_cons_succ,ih]
      all_goals rfl
theorem oU (its:List Value):∀ (k:Nat) (acc:List Value),
    List.foldl (fun x1 x2=>x1++x2) acc.toArray (List.replicate k its.toArray)=(acc++(List.replicate k its).flatten).toArray
  | 0,acc=>by simp
  | k + 1,acc=>by
    have e:acc.toArray++its.toArray=(acc++its).toArray:=by simp
    have e2:(acc++its)++(List.replicate k its).flatten=acc++(List.replicate (k + 1) its).flatten:=by
      rw [List.replicate_succ,List.flatten_cons,List.append_assoc]
    rw [←e2,←oU its k (acc++its),←e,List.replicate_succ,List.foldl_cons]
section
variable {X:Cx} {pins:List (Addr × Obj)} {σ:St} {H:Hp} {s:Shared} {l b:Addr} {xs ys zs:List V}
theorem Inv.lset {its its':List Value} {n:Nat} {f:Array Value→Array Value} {t':Nat} (I:Inv X pins σ H s) (hH:H l=some (.lst xs))
    (e:s.heap.get? l=some { cls:=.type "list",data:=.seq its.toArray n }) (hf:f its.toArray=its'.toArray) (hv:Vals ys its') (hz:ys.length≤sizeLine) :
    Inv X pins σ (upd H l (.lst ys)) { s with heap:=s.heap.update l (Obj.mapSeq f),toks:=t' }:=by
  have q:=PySem.IsL.update e f
  rw [hf] at q
  refine I.write (x:=l) (e:=l) (by rw [hH]; exact trivial) (.inl rfl) (fun b' u hb hu=>(Heap.get?_update_other s.heap (Obj.mapSeq f) (Ne.symm hb)).trans hu) ⟨_,q⟩ ?_
  exact ⟨hz,its',_,hv,q⟩
theorem Inv.lnew {its:List Value} {t':Nat} (I:Inv X pins σ H s) (hv:Vals ys its) (hz:ys.length≤sizeLine) :
    Inv X pins σ (upd H s.heap.objs.size (.lst ys)) { s with heap:=s.heap.push { cls:=.type "list",data:=.seq its.toArray },toks:=t' } :=
  I.laid (fun _ _ q=>Heap.get?_push_of_some _ q) (Nat.le_refl _) ⟨hz,its,0,hv,Heap.get?_push_size _ rfl⟩
theorem Inv.fresh (I:Inv X pins σ H s):H s.heap.objs.size=none:=I.hok.fresh (Nat.le_refl _)
theorem Inv.lstM (I:Inv X pins σ H s) (hH:H l=some (.lst xs)):xs.length≤sizeLine∧∃ (its:List Value) (n:Nat),Vals xs its∧xs.length=its.length∧s.heap.get? l=some { cls:=.type "list",data:=.seq its.toArray n }:=by
  obtain ⟨z,its,n,r,e⟩:=I.hok l _ hH
  exact ⟨z,its,n,r,r.length,e⟩
theorem rm {n:Nat} (h:n≤sizeLine):Builtin.List.listTooLong n=false:=by
  unfold Builtin.List.listTooLong
  exact decide_eq_false (by omega)
end
section
variable {X:Cx}
def yD:V→List V→Hp→VK→Prop:=fun x vs H Q=>∃ l xs y,x=.ref l∧vs=[y]∧H l=some (.lst xs)∧xs.length < sizeLine∧Q .non (upd H l (.lst (xs++[y])))
theorem cM:MtM X "list.append" yD:=by
  intro pins s σ H x vs v us Q I rx rv h
  obtain ⟨l,xs,y,rfl,rfl,hH,hz,q⟩:=h
  cases rx
  obtain ⟨u,rfl,ru⟩:=rv.one
  obtain ⟨z,its,n,r,hl,e⟩:=I.lstM hH
  refine call_meets F.slot_list_append ⟨_,e,rfl⟩ F.entry_list_append (F.args_list_append_2 _ _) (PySem.list_append l its.toArray n u (by rw [List.size_toArray]; omega)) ⟨e,?_⟩
  refine ⟨.non,_,I.lset (its':=its++[u]) hH e (by simp) (r.append (.cons ru .nil)) ?_,rfl,q⟩
  rw [List.length_append,List.length_singleton]
  omega
def yC:V→List V→Hp→VK→Prop:=fun x vs H Q=>∃ l b xs zs,x=.ref l∧vs=[.ref b]∧H l=some (.lst xs)∧H b=some (.lst zs)∧xs.length + zs.length≤sizeLine∧Q .non (upd H l (.lst (xs++zs)))
theorem gl:MtM X "list.extend" yC:=by
  intro pins s σ H x vs v us Q I rx rv h
  obtain ⟨l,b,xs,zs,rfl,rfl,hH,hB,hz,q⟩:=h
  cases rx
  obtain ⟨u,rfl,ru⟩:=rv.one
  cases ru
  obtain ⟨z,its,n,r,hl,e⟩:=I.lstM hH
  obtain ⟨z2,its2,n2,r2,hl2,e2⟩:=I.lstM hB
  have hsz:its.toArray.size + its2.toArray.size≤sizeLine:=by rw [List.size_toArray,List.size_toArray]; omega
  have hlong:¬ (!its.toArray.isEmpty && Builtin.List.listTooLong (its.toArray.size + its2.toArray.size))=true:=by
    rw [rm hsz,Bool.and_false]
    exact Bool.false_ne_true
  refine call_meets F.slot_list_extend ⟨_,e,rfl⟩ F.entry_list_extend (F.args_list_extend_2 _ _)
    (AutoSeq1.list_extend_list_list_0 l its.toArray n b its2.toArray n2 hlong (by rw [List.size_toArray]; omega) (by omega)) ⟨e,e2,?_⟩
  refine ⟨.non,_,I.lset (its':=its++its2) hH e (by simp) (r.append r2) ?_,rfl,q⟩
  rw [List.length_append]
  omega
def rPop:V→List V→Hp→VK→Prop:=fun x vs H Q=>∃ l xs y,x=.ref l∧vs=[]∧H l=some (.lst xs)∧xs[xs.length - 1]?=some y∧Q y (upd H l (.lst xs.dropLast))
theorem mt_pop:MtM X "list.pop" rPop:=by
  intro pins s σ H x vs v us Q I rx rv h
  obtain ⟨l,xs,y,rfl,rfl,hH,hy,q⟩:=h
  cases rx
  have hus:=rv.zero
  subst hus
  obtain ⟨z,its,n,r,hl,e⟩:=I.lstM hH
  obtain ⟨u,hu,ru⟩:=r.get hy
  have hy':its.toArray[its.toArray.size - 1]?=some u:=by
    show its.toArray[its.length - 1]?=some u
    rw [←Array.getElem?_toList,←hl]
    exact hu
  refine call_meets F.slot_list_pop ⟨_,e,rfl⟩ F.entry_list_pop (F.args_list_pop_1 _) (MeetsSeq.list_pop_last l its.toArray n u hy' (by rw [List.size_toArray]; omega)) ⟨e,?_⟩
  refine ⟨y,_,I.lset (its':=its.dropLast) hH e ?_ r.dropLast ?_,ru,q⟩
  · show its.toArray.eraseIdxIfInBounds (its.toArray.size - 1)=its.dropLast.toArray
    rw [List.size_toArray,List.eraseIdxIfInBounds_toArray,tU]
  · rw [List.length_dropLast]
    omega
def rCat:R2:=fun x y H Q=>∃ l b xs zs,x=.ref l∧y=.ref b∧H l=some (.lst xs)∧H b=some (.lst zs)∧xs.length + zs.length≤sizeLine∧∀ p,H p=none→Q (.ref p) (upd H p (.lst (xs++zs)))
theorem dw:OpR X (binaryOp .Add) rCat:=by
  intro pins s σ H x y v u Q I rx ry h
  obtain ⟨l,b,xs,zs,rfl,rfl,hH,hB,hz,q⟩:=h
  cases rx
  cases ry
  obtain ⟨z,its,n,r,hl,e⟩:=I.lstM hH
  obtain ⟨z2,its2,n2,r2,hl2,e2⟩:=I.lstM hB
  refine PySem.P.add_list e e2 ?_ (by rw [List.size_toArray,List.size_toArray]; omega)
  have ea:its.toArray++its2.toArray=(its++its2).toArray:=by simp
  rw [ea]
  exact ⟨.ref _,_,I.lnew (t':=s.toks) (r.append r2) (by rw [List.length_append]; omega),rfl,q _ I.fresh⟩
def rRep:R2:=fun x y H Q=>∃ l k xs,x=.ref l∧y=.int k∧H l=some (.lst xs)∧-(2 ^ 63)≤k∧k < 2 ^ 63∧xs.length * k.toNat≤sizeLine ∧
  ∀ p,H p=none→Q (.ref p) (upd H p (.lst (List.replicate k.toNat xs).flatten))
theorem yW {α:Type} (xs:List α) (k:Nat):(List.replicate k xs).flatten.length=k * xs.length:=by
  induction k with
  | zero=>simp
  | succ k ih=>rw [List.replicate_succ,List.flatten_cons,List.length_append,ih,Nat.succ_mul,Nat.add_comm]
theorem xo:OpR X (binaryOp .Mult) rRep:=by
  intro pins s σ H x y v u Q I rx ry h
  obtain ⟨l,k,xs,rfl,rfl,hH,h1,h2,hz,q⟩:=h
  cases rx
  obtain ⟨t,rfl⟩:=ry
  obtain ⟨z,its,n,r,hl,e⟩:=I.lstM hH
  have hlen:its.toArray.size * k.toNat≤sizeLine:=by rw [List.size_toArray,←hl]; exact hz
  have hcap:¬ its.toArray.size * k.toNat > (2 ^ 63 - 1) / 8:=by
    have:(sizeLine:Nat)≤(2 ^ 63 - 1) / 8:=by decide
    omega
  have hfit:¬ (!Builtin.List.listFitsIndex k)=true:=by
    rw [fitsIndex_both h1 h2]
    exact Bool.false_ne_true
  have hlong:¬ Builtin.List.listTooLong (its.toArray.size * k.toNat)=true:=by
    rw [rm hlen]
    exact Bool.false_ne_true
  have hnew:List.foldl (fun x1 x2=>x1++x2) #[] (List.replicate (if its.toArray.isEmpty=true then 0 else k.toNat) its.toArray)=(List.replicate k.toNat its).flatten.toArray:=by
    have f0:∀ m:Nat,List.foldl (fun x1 x2=>x1++x2) #[] (List.replicate m its.toArray)=(List.replicate m its).flatten.toArray:=fun m=>by
      have:=oU its m []
      rw [List.nil_append] at this
      exact this
    rw [f0]
    cases its with
    | nil=>simp
    | cons a r'=>rw [if_neg (by simp)]
  refine wpAny_binaryOp_repeat_ref (T := "list") (U := "int") (by decide) ⟨_,e,rfl⟩ (fun s'=>typeIs_int s' k t) noFill_list_mul F.fills_int_mul F.slot_int_rmul repeat_list F.slot_int_index.lookup
    (call_meets F.slot_int_rmul (typeIs_int s k t) F.entry_int_rmul (F.args_int_rmul_2 _ _) (int___rmul___int_list k t l its.toArray n)
      ⟨e,rfl,⟨_,e,rfl⟩,call_meets F.slot_list_mul ⟨_,e,rfl⟩ F.entry_list_mul (F.args_list_mul_2 _ _) (AutoListH.list___mul___list_int_3 l its.toArray n k t hfit hcap hlong) ⟨e,?_⟩⟩)
  rw [hnew]
  exact ⟨.ref _,_,I.lnew (t':=s.toks) (r.rep k.toNat) (by rw [yW,Nat.mul_comm]; exact hz),rfl,q _ I.fresh⟩
end
section
variable {prog:Program} {w:World} {A:Around} {E:Value→Shared→Prop} {s:Shared}
set_option maxRecDepth 100000 in
end
section
variable {X:Cx}
end
end L2
namespace L2
open PySem PySem.Spec PyProof.Rows
theorem Vals.ints:∀ {ns:List Int} {us:List Value},Vals (ns.map V.int) us→IntsAre us ns
  | [],us,h=>by
    rw [List.map_nil] at h
    cases h
    exact IntsAre.nil
  | n :: ns,us,h=>by
    rw [List.map_cons] at h
    cases h with
    | cons r t =>
      obtain ⟨k,rfl⟩:=r
      exact IntsAre.cons n k (Vals.ints t)
theorem Vals.bls:∀ {bs:List Bool} {us:List Value},Vals (bs.map V.bl) us→us=bs.map Value.bool
  | [],us,h=>by
    rw [List.map_nil] at h
    cases h
    rfl
  | b :: bs,us,h=>by
    rw [List.map_cons] at h
    cases h with
    | cons r t =>
      cases r
      rw [Vals.bls t,List.map_cons]
theorem Vals.ref1 {a:Addr} {us:List Value} (r:Vals [V.ref a] us):us=[Value.ref a]:=by
  cases r with
  | cons r t =>
    cases t
    cases r
    rfl
section
variable {prog:Program} {w:World} {A:Around} {E:Value→Shared→Prop} {s:Shared} {l:Addr} {its:List Value} {ns:List Int} {Q:Value→Shared→Prop}
theorem ym (hh:A.handled=none) (hl:s.heap.IsList l its.toArray) (hi:IntsAre its ns)
    (h:∀ h' tk t',(∀ b o,s.heap.get? b=some o→h'.get? b=some o)→Q (.int ns.sum t') { s with heap:=h',toks:=tk }):wpAny (model prog w) A (call (.builtin "sum") [.ref l]) Q E s:=by
  obtain ⟨xs,e⟩:=hi.allInts.items
  have hn:numsOf (intItems xs).toList=ns:=by rw [←e]; exact hi.numsOf
  rw [nums_intItems] at hn
  rw [e] at hl
  refine PySem.sum_intListG hh hl fun h' tk t' hk=>?_
  have:=h h' tk t' hk
  rw [preSum_eq,List.take_of_length_le (by simp),hn]; exact this
end
section
variable {X:Cx}
def rSum (K:PySem.W.Frag):List V→Hp→VK→Prop:=fun vs H Q=>∃ (a:Addr) (ns:List Int),vs=[V.ref a]∧SqL K H a (ns.map V.int)∧Q (.int ns.sum) H
theorem cr_sum (hc:X.calm=true):fF X (.builtin "sum") (rSum X.K):=by
  intro pins s σ H vs us Q I r h
  obtain ⟨a,ns,rfl,hs,q⟩:=h
  obtain ⟨its,rv,hl,_⟩:=I.list hs
  rw [Vals.ref1 r]
  exact ym (I.ok.hd hc) hl.isList rv.ints fun h' tk t' hk=>⟨.int _,H,I.kept hk,⟨_,rfl⟩,q⟩
end
section
variable {X:Cx}
end
section
variable {X:Cx}
end
theorem xL {prog:Program} {w:World} {A:Around} {E:Value→Shared→Prop} {s:Shared} {l:Addr} {items:Array Value} {Q:Value→Shared→Prop} (hl:s.heap.IsList l items)
    (h:∀ s₂:Shared,s₂={ s with heap:=s.heap.push { cls:=.type "list_iterator",data:=.fields #[.ref l,.int 0 0] } } →
      (s₂.heap.IsListIter s.heap.objs.size l 0∧s₂.heap.IsList l items)→l≠s.heap.objs.size→Q (.ref s.heap.objs.size) s₂):wpAny (model prog w) A (pyIter (.ref l)) Q E s:=by
  have hlt:l < s.heap.objs.size:=by obtain ⟨_,e,_⟩:=hl; exact Heap.lt_size e
  exact wpAny_pyIter_list hl (h _ rfl ⟨⟨_,Heap.get?_push_size _ rfl,rfl,rfl⟩,hl.push _⟩ (Nat.ne_of_lt hlt))
theorem qC {prog:Program} {w:World} {A:Around} {bs:List Bool} {its:List Value} (e:its=bs.map Value.bool) :
    TruthOf prog w A (fun i v=>its.toArray[i]?=some v) (fun i=>bs.getD i false):=fun i v s Q E hv hq=>by
  have hv':its[i]?=some v:=by simpa using hv
  rw [e,List.getElem?_map] at hv'
  obtain ⟨b,hb,rfl⟩:=Option.map_eq_some_iff.mp hv'
  have hg:bs.getD i false=b:=by rw [List.getD_eq_getElem?_getD,hb] <;> rfl
  have hq':Q (bs.getD i false) s:=hq
  rw [hg] at hq'
  exact wpAny_truthy_bool hq'
theorem pr:∀ bs:List Bool,(List.range bs.length).all (fun i=>bs.getD i false)=bs.all id
  | []=>rfl
  | b :: bs=>by
    rw [List.length_cons,List.range_succ_eq_map,List.all_cons,List.all_map,List.all_cons,←pr bs]
    all_goals rfl
section
variable {X:Cx}
def rAll (K:PySem.W.Frag):List V→Hp→VK→Prop:=fun vs H Q=>∃ (a:Addr) (bs:List Bool),vs=[V.ref a]∧SqL K H a (bs.map V.bl)∧Q (.bl (bs.all id)) H
theorem cr_all (hc:X.calm=true):fF X (.builtin "all") (rAll X.K):=by
  intro pins s σ H vs us Q I r h
  obtain ⟨a,bs,rfl,hs,q⟩:=h
  obtain ⟨its,rv,hl,_⟩:=I.list hs
  rw [Vals.ref1 r]
  have hb:=rv.bls
  refine call_all_walk (xL hl.isList fun s₂ e2 st hne=>?_)
  subst e2
  refine ⟨_,_,_,_,_,_,_,rfl,Walks.list (A:=X.A.in1) (I.ok.hd hc) _ a hne its.toArray,st,qC hb,fun h' tk hk=>?_⟩
  refine ⟨.bl _,H,I.kept fun b o eo=>hk b o (fun hmem=>?_) (Heap.get?_push_of_some _ eo),?_,q⟩
  · rcases List.mem_cons.mp hmem with e1 | hmem
    · exact absurd (e1 ▸ Heap.lt_size eo) (Nat.lt_irrefl _)
    · cases hmem
  · show Value.bool _=Value.bool _
    rw [←pr,hb,List.size_toArray,List.length_map]
end
section
variable {X:Cx} {pins:List (Addr × Obj)} {σ:St} {H:Hp} {s:Shared}
end
section
variable {X:Cx}
end
end L2
namespace L2
open PySem PySem.Spec PyProof.Rows
abbrev ye (h:Heap) (c:Addr) (v:Option Value):Prop:=h.IsCell c v
def relS (scope sc:Scope):Scope :=
  { scope with names:=scope.names.map fun (n,k)=>if (k == .free && sc.kind == .function && sc.names.lookup n == some .cell) then (n,.cell) else (n,k) }
def bj (cells:List (Str × Addr)):List (Str × NameKind)→List (Str × Addr)→List (Str × Addr)
  | [],acc=>acc
  | (n,k) :: r,acc=>if k == .free then bj cells r ((n,(cells.lookup n).getD 0) :: acc) else bj cells r acc
theorem kj (env:Env) (f:Str × NameKind→List (Str × Addr)→Sem (ForInStep (List (Str × Addr))))
    (hf:∀ n k c,f (n,k) c=if k == .free then (do let a ← cellOf env n; pure (.yield ((n,a) :: c))) else pure (.yield c)) :
    ∀ (names:List (Str × NameKind)) (acc:List (Str × Addr)),(∀ y∈names,y.2=.free→∃ c,env.cells.lookup y.1=some c)→forIn names acc f=pure (bj env.cells names acc)
  | [],acc,_=>by rw [List.forIn_nil]; rfl
  | (n,k) :: r,acc,h=>by
    rw [List.forIn_cons,hf]
    have ih:=fun acc=>kj env f hf r acc fun y hy=>h y (List.mem_cons_of_mem _ hy)
    unfold bj
    by_cases hk:(k == NameKind.free)=true
    · rw [if_pos hk,if_pos hk]
      obtain ⟨c,hc⟩:=h (n,k) List.mem_cons_self (by simpa using hk)
      have e:cellOf env n=pure c:=by unfold cellOf; rw [hc]
      rw [e]
      have e2:(env.cells.lookup n).getD 0=c:=by rw [hc]; rfl
      rw [e2]
      exact ih _
    · rw [if_neg hk,if_neg hk]
      exact ih _
theorem tX {scope:Scope} {env:Env} (h:∀ y∈scope.names,y.2=.free→∃ c,env.cells.lookup y.1=some c):closureFor scope env=pure (bj env.cells scope.names []):=by
  simp only [closureFor]
  rw [kj env _ (fun n k c=>rfl) scope.names [] h]
  rfl
theorem jE {α:Type}:∀ {l:List (Str × α)} {n:Str} {c:α},(n,c)∈l→∃ c',l.lookup n=some c'
  | (k,v) :: r,n,c,h=>by
    rw [List.lookup_cons]
    cases hb:n == k with
    | true=>exact ⟨_,rfl⟩
    | false =>
      rcases List.mem_cons.mp h with e | h
      · cases e; simp at hb
      · exact jE h
theorem fA {cells:List (Str × Addr)}:∀ {names:List (Str × NameKind)} {acc:List (Str × Addr)} {n:Str} {c:Addr},(n,c)∈bj cells names acc→(n,c)∈acc∨((n,.free)∈names∧c=(cells.lookup n).getD 0)
  | [],_,_,_,h=>.inl h
  | (m,k) :: r,acc,n,c,h=>by
    unfold bj at h
    split at h
    · rename_i hk
      have hk:k=.free:=by simpa using hk
      rcases fA h with h | ⟨h1,h2⟩
      · rcases List.mem_cons.mp h with e | h
        · cases e; exact .inr ⟨hk ▸ List.mem_cons_self,rfl⟩
        · exact .inl h
      · exact .inr ⟨List.mem_cons_of_mem _ h1,h2⟩
    · rcases fA h with h | ⟨h1,h2⟩
      · exact .inl h
      · exact .inr ⟨List.mem_cons_of_mem _ h1,h2⟩
theorem iD {cells:List (Str × Addr)}:∀ {names:List (Str × NameKind)} {acc:List (Str × Addr)} {p:Str × Addr},p∈acc→p∈bj cells names acc
  | [],_,_,h=>h
  | (m,k) :: r,acc,p,h=>by
    unfold bj
    split
    · exact iD (List.mem_cons_of_mem _ h)
    · exact iD h
theorem iC {cells:List (Str × Addr)}:∀ {names:List (Str × NameKind)} {acc:List (Str × Addr)} {n:Str},(n,.free)∈names→(n,(cells.lookup n).getD 0)∈bj cells names acc
  | (m,k) :: r,acc,n,h=>by
    unfold bj
    rcases List.mem_cons.mp h with e | h
    · cases e
      exact iD List.mem_cons_self
    · split
      · exact iC h
      · exact iC h
theorem gn:∀ {names:List (Str × NameKind)} {h:Heap} {acc:List (Str × Addr)} {x:Str} {c:Addr},(x,c)∈cellsFrom h.objs.size names acc →
    (x,c)∈acc∨((x,.cell)∈names∧h.objs.size≤c∧ye (pushCells h names) c none)
  | [],_,_,_,_,h=>.inl h
  | (n,k) :: r,h,acc,x,c,hm=>by
    unfold cellsFrom at hm
    unfold pushCells
    split at hm
    · rename_i hk
      rw [if_pos hk]
      have hk:k=.cell:=by simpa using hk
      rw [←Heap.size_push h { cls:=.type "cell",data:=.cell none }] at hm
      rcases gn hm with hm | ⟨h1,h2,h3⟩
      · rcases List.mem_cons.mp hm with e | hm
        · cases e
          exact .inr ⟨hk ▸ List.mem_cons_self,Nat.le_refl _,_,pushCells_keeps r _ _ _ (Heap.get?_push_size _ rfl),rfl⟩
        · exact .inl hm
      · rw [Heap.size_push] at h2
        exact .inr ⟨List.mem_cons_of_mem _ h1,Nat.le_of_succ_le h2,h3⟩
    · rename_i hk
      rw [if_neg hk]
      rcases gn hm with hm | ⟨h1,h2,h3⟩
      · exact .inl hm
      · exact .inr ⟨List.mem_cons_of_mem _ h1,h2,h3⟩
theorem iX:∀ {names:List (Str × NameKind)} {n:Nat} {acc:List (Str × Addr)} {p:Str × Addr},p∈acc→p∈cellsFrom n names acc
  | [],_,_,_,h=>h
  | (m,k) :: r,n,acc,p,h=>by
    unfold cellsFrom
    split
    · exact iX (List.mem_cons_of_mem _ h)
    · exact iX h
theorem lj:∀ {names:List (Str × NameKind)} {n:Nat} {acc:List (Str × Addr)} {x:Str},(x,.cell)∈names→∃ c,(x,c)∈cellsFrom n names acc
  | (m,k) :: r,n,acc,x,h=>by
    unfold cellsFrom
    rcases List.mem_cons.mp h with e | h
    · cases e
      exact ⟨n,iX List.mem_cons_self⟩
    · split
      · exact lj h
      · exact lj h
theorem li:∀ {names:List (Str × NameKind)} {h:Heap} {acc:List (Str × Addr)} {x y:Str} {c:Addr},(∀ p∈acc,p.2 < h.objs.size)→(∀ x y c,(x,c)∈acc→(y,c)∈acc→x=y) →
    (x,c)∈cellsFrom h.objs.size names acc→(y,c)∈cellsFrom h.objs.size names acc→x=y
  | [],_,_,_,_,_,_,hi,h1,h2=>hi _ _ _ h1 h2
  | (n,k) :: r,h,acc,x,y,c,hl,hi,h1,h2=>by
    unfold cellsFrom at h1 h2
    split at h1
    · rename_i hk
      rw [if_pos hk] at h2
      rw [←Heap.size_push h { cls:=.type "cell",data:=.cell none }] at h1 h2
      refine li (h:=h.push _) (fun p hp=>?_) (fun x y c a b=>?_) h1 h2
      · rw [Heap.size_push]
        rcases List.mem_cons.mp hp with rfl | hp
        · exact Nat.lt_succ_self _
        · exact Nat.lt_succ_of_lt (hl p hp)
      · rcases List.mem_cons.mp a with e | a <;> rcases List.mem_cons.mp b with e' | b
        · cases e; cases e'; rfl
        · cases e; exact absurd (hl _ b) (Nat.lt_irrefl _)
        · cases e'; exact absurd (hl _ a) (Nat.lt_irrefl _)
        · exact hi _ _ _ a b
    · rename_i hk
      rw [if_neg hk] at h2
      exact li hl hi h1 h2
theorem rn {M:Model} {A:Around} {E:Value→Shared→Prop} {s:Shared} {scope:Scope} {globals:Addr} {closure:List (Str × Addr)} {qual:Str} {func:Option Addr} {code:Value} {around:Env} {builtins:Addr} {Q:Env→Shared→Prop}
    (h:Q (newEnv scope s.heap.objs.size globals (cellsFrom (s.heap.objs.size + 1) scope.names closure) qual func code (some around) builtins)
      { s with heap:=pushCells (s.heap.push { cls:=.type "dict",data:=.dict #[] }) scope.names }) :
    wpAny M A (newFunctionEnv scope globals closure [] qual func code (some around) builtins) Q E s:=by
  simp only [newFunctionEnv,Option.isSome_some,if_true]
  refine wpAny_bind (wpAny_alloc ?_)
  refine wpAny_bind (wpAny_layCells _ (fun n k c=>rfl) scope.names closure _ _ ?_)
  rw [show ({ s with heap:=s.heap.push { cls:=.type "dict",data:=.dict #[] } }:Shared).heap.objs.size=s.heap.objs.size + 1 from Heap.size_push ..]
  rw [List.forIn_nil]
  exact wpAny_bind (wpAny_pure (wpAny_pure h))
theorem ir {sc:Scope}:∀ {names:List (Str × NameKind)} {x:Str} {k:NameKind},
    (names.map fun (n,k)=>if (k == NameKind.free && sc.kind == .function && sc.names.lookup n == some .cell) then (n,NameKind.cell) else (n,k)).lookup x=some k →
    ∃ k',names.lookup x=some k'∧(k=k'∨(k'=.free∧k=.cell))
  | [],_,_,h=>by simp at h
  | (n,k₀) :: r,x,k,h=>by
    have ih:=@ir sc r x k
    have h':List.lookup x ((if (k₀ == NameKind.free && sc.kind == .function && sc.names.lookup n == some .cell)=true then (n,NameKind.cell) else (n,k₀)) :: (r.map _))=some k:=h
    cases hx:x == n with
    | true =>
      simp only [List.lookup_cons,hx]
      by_cases hc:(k₀ == NameKind.free && sc.kind == .function && sc.names.lookup n == some .cell)=true
      · rw [if_pos hc] at h'
        simp only [List.lookup_cons,hx] at h'
        cases h'
        simp only [Bool.and_eq_true,beq_iff_eq] at hc
        exact ⟨k₀,rfl,.inr ⟨hc.1.1,rfl⟩⟩
      · rw [if_neg hc] at h'
        simp only [List.lookup_cons,hx] at h'
        cases h'
        exact ⟨_,rfl,.inl rfl⟩
    | false =>
      simp only [List.lookup_cons,hx]
      by_cases hc:(k₀ == NameKind.free && sc.kind == .function && sc.names.lookup n == some .cell)=true
      · rw [if_pos hc] at h'
        simp only [List.lookup_cons,hx] at h'
        exact ih h'
      · rw [if_neg hc] at h'
        simp only [List.lookup_cons,hx] at h'
        exact ih h'
structure sv (N:List Str) (sc scope:Scope) (own:List (Str × Nat)):Prop where
  kind:scope.kind=.function
  uniq:∀ y∈scope.names,scope.names.lookup y.1=some y.2
  ix:∀ p∈own,N[p.2]?=some p.1
  free:∀ y∈scope.names,y.2=.free→sc.names.lookup y.1=some .cell∨sc.names.lookup y.1=some .free
  own:∀ y∈scope.names,y.2=.local∨y.2=.cell→y.1∈own.map (·.1)∨y.1∉N
def wipe (σ:St):List Nat→St
  | []=>σ
  | v :: vs=>(wipe σ vs).set v none
theorem g5 (σ:St):∀ vs:List Nat,(wipe σ vs).length=σ.length
  | []=>rfl
  | v :: vs=>by unfold wipe; rw [List.length_set,g5 σ vs]
theorem kI {σ:St} {i:Nat} {x:V}:∀ {vs:List Nat},(wipe σ vs)[i]?=some (some x)→σ[i]?=some (some x)∧i∉vs
  | [],h=>⟨h,by simp⟩
  | v :: vs,h=>by
    unfold wipe at h
    by_cases hi:v=i
    · subst hi
      by_cases hv:v < (wipe σ vs).length
      · rw [List.getElem?_set_self hv] at h; cases h
      · rw [List.getElem?_eq_none (by simpa using hv)] at h; cases h
    · rw [List.getElem?_set_ne hi] at h
      obtain ⟨h1,h2⟩:=kI h
      exact ⟨h1,by simp only [List.mem_cons,not_or]; exact ⟨fun e=>hi e.symm,h2⟩⟩
abbrev Cx.blk (X:Cx) (s:Shared) (H:Hp) (scope:Scope) (cenv:Env) (fp:List Addr):Cx:={ X with s_0:=s,H_0:=H,env:=cenv,outer:=X.stack,ex:=fp,fn:=fun x=>scope.names.lookup x == some .cell,pn:=[],xe:=fun _ _=>False }
section
variable {X:Cx} {pins:List (Addr × Obj)} {σ:St} {H:Hp} {s:Shared}
theorem sf {scope:Scope} {own:List (Str × Nat)} {fp:List Addr} (I:Inv X pins σ H s) (ok:sv X.N X.env.scope scope own) (hN:X.N.Nodup) (hfp:∀ b∈fp,FpOk X pins H b∧b < s.heap.objs.size) :
    Inv (X.blk s H scope (compEnvC scope (cellsFrom (s.heap.objs.size + 1) scope.names (bj X.env.cells scope.names [])) s.heap.objs.size X.env) fp) [] (wipe σ (own.map (·.2))) H { s with heap:=pushCells (s.heap.push { cls:=.type "dict",data:=.dict #[] }) scope.names }:=by
  have hfree:∀ y∈scope.names,y.2=.free→∃ c,X.env.cells.lookup y.1=some c:=fun y hy e=>by
    rcases ok.free y hy e with k | k
    · exact I.ok.has _ (.inl k)
    · exact I.ok.has _ (.inr k)
  generalize hcenv:compEnvC scope (cellsFrom (s.heap.objs.size + 1) scope.names (bj X.env.cells scope.names [])) s.heap.objs.size X.env=cenv
  have kp:∀ b o,s.heap.get? b=some o→(pushCells (s.heap.push { cls:=.type "dict",data:=.dict #[] }) scope.names).get? b=some o:=fun b o e=>pushCells_keeps _ _ _ _ (Heap.get?_push_of_some _ e)
  have hL:cenv.locals=s.heap.objs.size:=by rw [←hcenv]; rfl
  have hcl:cenv.cells=cellsFrom (s.heap.objs.size + 1) scope.names (bj X.env.cells scope.names []):=by rw [←hcenv]; rfl
  have hsc:cenv.scope=relS scope X.env.scope:=by rw [←hcenv]; rfl
  rw [←Heap.size_push s.heap { cls:=.type "dict",data:=.dict #[] }] at hcl
  have cm:∀ {y c},(y,c)∈bj X.env.cells scope.names []→X.env.cells.lookup y=some c∧c < s.heap.objs.size:=fun {y c} hm=>by
    rcases fA hm with hm | ⟨h1,rfl⟩
    · cases hm
    · obtain ⟨c,hc⟩:=hfree _ h1 rfl
      rw [hc]
      obtain ⟨w,z⟩:=I.cell _ _ hc
      exact ⟨rfl,z.lt⟩
  have mem:∀ {y c},cenv.cells.lookup y=some c→(X.env.cells.lookup y=some c∧c < s.heap.objs.size)∨(s.heap.objs.size + 1≤c∧ye (pushCells (s.heap.push { cls:=.type "dict",data:=.dict #[] }) scope.names) c none):=fun {y c} e=>by
    rw [hcl] at e
    rcases gn (PySem.mem_of_lookup e) with hm | ⟨_,h2,h3⟩
    · exact .inl (cm hm)
    · rw [Heap.size_push] at h2; exact .inr ⟨h2,h3⟩
  have look:∀ {y},scope.names.lookup y=some .free→∃ c,cenv.cells.lookup y=some c∧X.env.cells.lookup y=some c:=fun {y} hl=>by
    have hy:(y,NameKind.free)∈scope.names:=PySem.mem_of_lookup hl
    obtain ⟨c',e'⟩:=jE (iX (names:=scope.names) (n:=(s.heap.push { cls:=.type "dict",data:=.dict #[] }).objs.size) (iC (cells:=X.env.cells) (acc:=[]) hy))
    rw [←hcl] at e'
    refine ⟨c',e',?_⟩
    rw [hcl] at e'
    rcases gn (PySem.mem_of_lookup e') with hm | ⟨h1,_,_⟩
    · exact (cm hm).1
    · have:=ok.uniq _ h1
      rw [hl] at this; cases this
  have okB:(X.blk s H scope cenv fp).Ok:=by
    refine ⟨I.ok.mod,by show cenv.scope.kind=_; rw [hsc]; exact ok.kind,by show cenv.globals=_; rw [←hcenv]; exact I.ok.glob,by show cenv.builtins=_; rw [←hcenv]; exact I.ok.blt,by show s.heap.objs.size≤cenv.locals; rw [hL]; exact Nat.le_refl _,
      fun y z c e1 e2=>?_,fun y hy=>?_,fun y c z e=>?_,I.ok.hd,I.ok.frames,.inl rfl,fun b hb=>⟨?_,fun y c e z=>?_⟩,I.bs,Nat.le_trans I.ok.bsz I.sz,fun b o e hb=>?_,fun b hb z=>?_,I.stack,I.stkFree⟩
    · have e1:cenv.cells.lookup y=some c:=e1
      have e2:cenv.cells.lookup z=some c:=e2
      rw [hcl] at e1 e2
      refine li (fun p hp=>?_) (fun y z c a b=>I.ok.inj y z c (cm a).1 (cm b).1) (PySem.mem_of_lookup e1) (PySem.mem_of_lookup e2)
      rw [Heap.size_push]
      exact Nat.lt_succ_of_lt (cm (y:=p.1) (c:=p.2) hp).2
    · show ∃ c,cenv.cells.lookup y=some c
      have key:∀ k,cenv.kindOf y=some k→(k=.cell∨k=.free)→∃ c,cenv.cells.lookup y=some c:=fun k hk hk'=>by
        unfold Env.kindOf at hk
        rw [hsc] at hk
        obtain ⟨k',e,r⟩:=ir hk
        have:k'=.cell∨k'=.free:=by
          rcases r with rfl | ⟨rfl,_⟩
          · exact hk'
          · exact .inr rfl
        rcases this with rfl | rfl
        · obtain ⟨c,hm⟩:=lj (n:=(s.heap.push { cls:=.type "dict",data:=.dict #[] }).objs.size) (acc:=bj X.env.cells scope.names []) (PySem.mem_of_lookup e)
          obtain ⟨c',e'⟩:=jE hm
          exact ⟨c',by rw [hcl]; exact e'⟩
        · obtain ⟨c,h1,_⟩:=look e
          exact ⟨c,h1⟩
      rcases hy with hy | hy
      · exact key _ hy (.inl rfl)
      · exact key _ hy (.inr rfl)
    · have z:(scope.names.lookup y == some NameKind.cell)=true:=z
      have z:scope.names.lookup y=some .cell:=by simpa using z
      have e:cenv.cells.lookup y=some c:=e
      rw [hcl] at e
      rcases gn (PySem.mem_of_lookup e) with hm | ⟨_,h2,_⟩
      · rcases fA hm with hm | ⟨h1,_⟩
        · cases hm
        · have q:=ok.uniq _ h1
          rw [z] at q; cases q
      · rw [Heap.size_push] at h2
        exact Nat.le_of_succ_le h2
    · show b≠cenv.locals
      rw [hL]; exact Nat.ne_of_lt (hfp b hb).2
    · have e:cenv.cells.lookup y=some c:=e
      rcases mem e with ⟨h1,_⟩ | ⟨h1,_⟩
      · exact (hfp b hb).1.2.2.2.2.1 y c h1 z
      · have h2:s.heap.objs.size + 1≤b:=by rw [←z]; exact h1
        exact absurd (Nat.lt_of_lt_of_le (hfp b hb).2 (Nat.le_of_succ_le h2)) (Nat.lt_irrefl _)
    · rcases (hfp b hb).1.2.2.2.1 with z | z
      · exact I.ok.noex b o e z
      · exact absurd (Nat.lt_of_lt_of_le (Heap.lt_size e) (Nat.le_trans I.ok.bsz z)) (Nat.lt_irrefl _)
    · rcases List.mem_cons.mp (I.stkSub b z) with z | z
      · exact (hfp b hb).1.2.1 z
      · exact (hfp b hb).1.2.2.1 z
  refine ⟨okB,rfl,I.bare,Un.kept kp,⟨fun _=>none,?_,fun i y av e1 e2 e3=>?_⟩,fun y c e=>?_,?_,fun y c e=>?_,fun p hp=>?_,I.hok.kept kp,by rw [g5]; exact I.len⟩
  · show Heap.Ns _ cenv.locals _
    rw [hL]
    exact Heap.Ns.keeps (Heap.Ns.new ..) fun b o e=>pushCells_keeps _ _ _ _ e
  · obtain ⟨e2,hne⟩:=kI e2
    have hfr:scope.names.lookup y=some .free∧(cenv.kindOf y=some .cell∨cenv.kindOf y=some .free):=by
      have key:∀ k,cenv.scope.names.lookup y=some k→k=.local∨k=.cell∨k=.free→scope.names.lookup y=some .free∧(cenv.kindOf y=some .cell∨cenv.kindOf y=some .free):=fun k hk hk'=>by
        have hk0:=hk
        rw [hsc] at hk
        obtain ⟨k',e,r⟩:=ir hk
        have no:¬ (k'=.local∨k'=.cell):=fun hh=>by
          rcases ok.own _ (PySem.mem_of_lookup e) hh with e' | e'
          · obtain ⟨p,hp,hpy⟩:=List.mem_map.mp e'
            have e3:=ok.ix p hp
            have:p.1=y:=hpy
            rw [this] at e3
            exact hne (List.mem_map.mpr ⟨p,hp,m5 hN e3 e1⟩)
          · exact e' (List.mem_of_getElem? e1)
        rcases r with rfl | ⟨rfl,rfl⟩
        · rcases hk' with rfl | rfl | rfl
          · exact absurd (.inl rfl) no
          · exact absurd (.inr rfl) no
          · exact ⟨e,.inr hk0⟩
        · exact ⟨e,.inl hk0⟩
      have e3:Vis cenv.scope y:=e3
      rcases e3 with e3 | e3 | e3
      · exact key _ e3 (.inl rfl)
      · exact key _ e3 (.inr (.inl rfl))
      · exact key _ e3 (.inr (.inr rfl))
    obtain ⟨m,hn,hl⟩:=I.loc
    have hvis:Vis X.env.scope y:=(ok.free _ (PySem.mem_of_lookup hfr.1) rfl).elim (fun k=>.inr (.inl k)) (fun k=>.inr (.inr k))
    obtain ⟨w,r,q⟩:=hl i y av e1 e2 hvis
    refine ⟨w,r,.inr ⟨hfr.2,?_⟩⟩
    obtain ⟨c,h1,h2⟩:=look hfr.1
    rcases q with ⟨k,_⟩ | ⟨_,c',e',z⟩
    · have k:X.env.scope.names.lookup y=some .local:=k
      rcases ok.free _ (PySem.mem_of_lookup hfr.1) rfl with k' | k' <;> rw [show X.env.scope.names.lookup y=_ from k'] at k <;> cases k
    · rw [h2] at e'; cases e'
      exact ⟨c,h1,z.keeps kp⟩
  · have e:cenv.cells.lookup y=some c:=e
    rcases mem e with ⟨h1,_⟩ | ⟨_,z⟩
    · obtain ⟨w,z⟩:=I.cell y c h1
      exact ⟨w,z.keeps kp⟩
    · exact ⟨_,z⟩
  · show H cenv.locals=none
    rw [hL]; exact I.hok.fresh (Nat.le_refl _)
  · have e:cenv.cells.lookup y=some c:=e
    rcases mem e with ⟨h1,_⟩ | ⟨h1,_⟩
    · exact I.freeC y c h1
    · exact I.hok.fresh (Nat.le_of_succ_le h1)
  · exact absurd (show p∈([]:List (Addr × Obj))++[] from hp) (by simp)
theorem app_ok {E:Value→Shared→Prop} {D:Addr} {xs:List V} {y:V} {v:Value} {Q:Value→Shared→Prop} (I:Inv X pins σ H s) (hD:H D=some (.lst xs)) (hz:xs.length < sizeLine) (r:RelV y v)
    (h:∀ s',Inv X pins σ (upd H D (.lst (xs++[y]))) s'→Q .none s'):wpAny (model X.prog X.w) X.A (call (.builtin "list.append") [.ref D,v]) Q E s:=by
  obtain ⟨hz',its,n,ri,e⟩:=I.hok D _ hD
  have hl:=ri.length
  refine append_at (hsz:=by rw [List.size_toArray]; omega) e fun h' sb ho'=>?_
  refine h { s with heap:=h' } (I.write (t':=s.toks) (by rw [hD]; trivial) (.inl rfl) (fun b u hb q=>(sb.2 b hb).trans q) ⟨_,ho'⟩ ⟨by rw [List.length_append]; exact hz,its++[v],n + 1,ri.append (.cons r .nil),?_⟩)
  rw [ho']
  simp
def PTs (X:Cx) (ifs:List Expr) (t:TT):Prop :=
  ∀ (pins:List (Addr × Obj)) (s:Shared) (σ:St) (H:Hp) (Q:Bool→Hp→Prop),Inv X pins σ H s→t σ H Q →
    wpAny (model X.prog X.w) X.A (forIn ifs true fun c r=>if r=true then do let ok ← isTrue c X.env (eval c X.env); pure (ForInStep.yield ok) else pure (ForInStep.yield r)) (TP X pins σ Q) X.xe s
def tYes:TT:=fun _ H Q=>Q true H
theorem bI:PTs X [] tYes:=fun _ _ _ H _ I h=>wpAny_tests_nil ⟨H,I,h⟩
theorem uu {c:Expr} {t:TT} (h:PT X c t):PTs X [c] t:=fun pins s σ H Q I hw=>wpAny_tests_one (h pins s σ H Q I hw)
end
theorem thnF {α:Type} {t:Sem α} {Q Q':α→Shared→Prop} {M:Model} {A:Around} {E:Value→Shared→Prop} {s:Shared} (h:wpAny M A t Q (fun _ _=>False) s) (hQ:∀ a s,Q a s→Q' a s):wpAny M A t Q' E s:=wpAny_mono h hQ fun _ _ z=>False.elim z
theorem p7 {prog:Program} {w:World} {A:Around} {R:Result→Shared→Prop} {s:Shared} {elt target iter:Expr} {ifs:List Expr} {scope:Scope} {pos:Pos} {it acc:Value} {env:Env} (I:Nat→Shared→Prop)
    (turn:∀ n s,I n s→wpAny (model prog w) A (pyNext it) (fun r s₁=>match r with
      | none=>R (.ok .next) s₁
      | some v=>wpAny (model prog w) A (letOwnedTupleGo target it v) (fun _ s₁'=>wpAny (model prog w) A (assign target env v) (fun _ s₂ =>
          wpAny (model prog w) A (forIn ifs true fun c r=>if r=true then do let ok ← isTrue c env (eval c env); pure (ForInStep.yield ok) else pure (ForInStep.yield r)) (fun ok s₃ =>
            if ok=true then wpAny (model prog w) A (eval elt env) (fun x s₄ =>
              wpAny (model prog w) A (call (.builtin "list.append") [acc,x]) (fun _ s₅=>∃ m,m < n∧I m s₅) (notedBy (model prog w) A env fun e s'=>R (.error e) s') s₄) (notedBy (model prog w) A env fun e s'=>R (.error e) s') s₃
            else ∃ m,m < n∧I m s₃) (notedBy (model prog w) A env fun e s'=>R (.error e) s') s₂) (notedBy (model prog w) A env fun e s'=>R (.error e) s') s₁') (notedBy (model prog w) A env fun e s'=>R (.error e) s') s₁) (notedBy (model prog w) A env fun e s'=>R (.error e) s') s)
    (n:Nat) (h:I n s) :
    codeAny (model prog w) A (.compLoop (.ListComp elt [⟨target,iter,ifs,0⟩] scope pos) 0 it acc env) R s:=by
  refine codeAny_loop rfl I (fun n s hI=>?_) n h
  show wpAny _ A ((compTurn (.ListComp elt [⟨target,iter,ifs,0⟩] scope pos) 0 it acc env).onRaise (fun x=>do noteFrame x env; theTreesLotGoes x)) _ _ s
  refine wpAny_noted ?_
  rw [compTurn_list]
  refine wpAny_bind (wpAny_standAt (wpAny_bind (wpAny_mono (turn n s hI) (fun r s₁ h₁=>?_) fun _ _ h'=>h')))
  cases r with
  | none=>exact wpAny_pure h₁
  | some v =>
    refine wpAny_bind (wpAny_mono h₁ (fun _ s₁' h₁'=>?_) fun _ _ h'=>h')
    refine wpAny_bind (wpAny_mono h₁' (fun _ s₂ h₂=>wpAny_bind (wpAny_mono h₂ (fun ok s₃ h₃=>?_) fun _ _ h'=>h')) fun _ _ h'=>h')
    cases ok with
    | false=>exact wpAny_pure ⟨rfl,h₃⟩
    | true =>
      exact wpAny_bind (wpAny_bind (wpAny_mono h₃ (fun x s₄ h₄=>wpAny_bind (wpAny_mono h₄ (fun _ s₅ h₅=>wpAny_pure (wpAny_pure ⟨rfl,h₅⟩)) fun _ _ h'=>h')) fun _ _ h'=>h'))
section
variable {X:Cx}
def tLc (wi:TI) (g:TG) (tt:TT) (te:TE) (vs:List Nat):TE:=fun σ H Q=>wi σ H fun J H1=>∀ D,H1 D=none→∃ W:Nat→Nat→Hp→Prop,(∃ m,W 0 m (upd H1 D (.lst [])))∧∀ i m H,W i m H →
  (J.stop i H∧Q (.ref D) H)∨(J.go i H∧∃ Nx:Hp→Prop,(∀ H',Nx H'→∃ m',m' < m∧W (i + 1) m' H')∧∀ x H',J.yld i H x H'→g x (wipe σ vs) H' fun σ2 H2=>wipe σ2 vs=wipe σ vs∧tt σ2 H2 fun b H3 =>
    if b=true then te σ2 H3 fun y H4=>∃ acc,H4 D=some (.lst acc)∧acc.length < sizeLine∧Nx (upd H4 D (.lst (acc++[y]))) else Nx H3)
theorem uI {pins:List (Addr × Obj)} {s:Shared} {σ:St} {H:Hp} {Q:VK} {elt tg iter:Expr} {ifs:List Expr} {scope:Scope} {own:List (Str × Nat)} {pos pos':Pos} {wi:TI} {g:TG} {tt:TT} {te:TE} {use:Option (Value→Sem Unit)} {Qf:Value→Shared→Prop}
    (hc:X.calm=true) (hN:X.N.Nodup) (I:Inv X pins σ H s) (hi:PI X tg iter wi) (ok:sv X.N X.env.scope scope own)
    (hg:∀ (s:Shared) (H:Hp) (C:Addr) (cl:List (Str × Addr)) (fp:List Addr),PG (X.blk s H scope (compEnvC scope cl C X.env) fp) tg g) (ht:∀ (s:Shared) (H:Hp) (C:Addr) (cl:List (Str × Addr)) (fp:List Addr),PTs (X.blk s H scope (compEnvC scope cl C X.env) fp) ifs tt)
    (he:∀ (s:Shared) (H:Hp) (C:Addr) (cl:List (Str × Addr)) (fp:List Addr),PE (X.blk s H scope (compEnvC scope cl C X.env) fp) elt te) (hs:∀ x,foldedSetIterable iter X.env x=pure x)
    (h:tLc wi g tt te (own.map (·.2)) σ H Q)
    (hRR:∀ D C s' m H',Inv X pins σ H' s'→Q (.ref D) H'→s'.heap.Ns C m→FpOk X pins H' C→compPost (model X.prog X.w) X.A X.xe use Qf (.ref D) C (.ok .next) s') :
    wpAny (model X.prog X.w) X.A (comprehension (.ListComp elt [⟨tg,iter,ifs,0⟩] scope pos) scope X.env pos' (newList []) false (eval iter X.env) use) Qf X.xe s:=by
  have hfree:∀ y∈scope.names,y.2=.free→∃ c,X.env.cells.lookup y.1=some c:=fun y hy e=>by
    rcases ok.free y hy e with k | k
    · exact I.ok.has _ (.inl k)
    · exact I.ok.has _ (.inr k)
  refine wpAny_comprehension_free (use:=use) rfl hs (tX hfree) ok.kind (fun y hy e=>by rw [ok.uniq y hy,e])
    (thn (hi pins s σ H _ I h) fun xv s1 hx=>thn hx fun itv s2 h2=>?_)
  obtain ⟨it,fp,tn,J,H2,e,I2,T,st2,f2,q⟩:=h2
  subst e
  refine wpAny_newObj_type (rn ?_) (by show 0≤sizeLine; decide)
  generalize hD:s2.heap.objs.size=D
  have hDn:H2 D=none:=I2.hok.fresh (Nat.le_of_eq hD)
  obtain ⟨W,⟨m0,w0⟩,turn⟩:=q D hDn
  generalize hs3:({ s2 with heap:=s2.heap.push { cls:=.type "list",data:=.seq ([]:List Value).toArray } }:Shared)=s3
  have I3:Inv X pins σ (upd H2 D (.lst [])) s3:=by
    rw [←hs3]
    refine I2.laid (t':=s2.toks) (fun b o e=>Heap.get?_push_of_some _ e) (Nat.le_of_eq hD) ⟨Nat.zero_le _,[],0,.nil,?_⟩
    rw [←hD]
    exact Heap.get?_push_size _ rfl
  have h3:s3.heap=s2.heap.push { cls:=.type "list",data:=.seq ([]:List Value).toArray }:=by rw [←hs3]
  have sz:∀ b∈fp,b < s2.heap.objs.size:=fun b hb=>by
    obtain ⟨o,e,_⟩:=T.obj _ _ st2 b hb
    exact Heap.lt_size e
  have f3:∀ b∈fp,FpOk X pins (upd H2 D (.lst [])) b∧b < s3.heap.objs.size:=fun b hb=>by
    have hlt:=sz b hb
    refine ⟨⟨?_,(f2 b hb).2⟩,by rw [h3,Heap.size_push]; exact Nat.lt_succ_of_lt hlt⟩
    rw [ai (by rw [←hD]; exact Nat.ne_of_lt hlt)]
    exact (f2 b hb).1
  have st3:tn 0 s3.heap:=T.keep _ _ _ st2 fun b _ o e=>by rw [h3]; exact Heap.get?_push_of_some _ e
  have I4:=sf I3 ok hN f3
  have pg:=hg s3 (upd H2 D (.lst [])) s3.heap.objs.size (cellsFrom (s3.heap.objs.size + 1) scope.names (bj X.env.cells scope.names [])) fp
  have pt:=ht s3 (upd H2 D (.lst [])) s3.heap.objs.size (cellsFrom (s3.heap.objs.size + 1) scope.names (bj X.env.cells scope.names [])) fp
  have pe:=he s3 (upd H2 D (.lst [])) s3.heap.objs.size (cellsFrom (s3.heap.objs.size + 1) scope.names (bj X.env.cells scope.names [])) fp
  show codeAny _ _ (.compStart (.ListComp elt [⟨tg,iter,ifs,0⟩] scope pos) 0 (.ref it) (.ref D) (compEnvC scope (cellsFrom (s3.heap.objs.size + 1) scope.names (bj X.env.cells scope.names [])) s3.heap.objs.size X.env)) (compPost (model X.prog X.w) X.A X.xe use Qf (.ref D) s3.heap.objs.size) { s3 with heap:=pushCells (s3.heap.push { cls:=.type "dict",data:=.dict #[] }) scope.names }
  have nfp:∀ b∈fp,(upd H2 D (.lst [])) b=none:=fun b hb=>(f3 b hb).1.1
  generalize hce:compEnvC scope (cellsFrom (s3.heap.objs.size + 1) scope.names (bj X.env.cells scope.names [])) s3.heap.objs.size X.env=ce at I4 pg pt pe ⊢
  have cL:ce.locals=s3.heap.objs.size:=by subst hce; rfl
  generalize hH3:upd H2 D (.lst [])=H3 at I3 I4 pg pt pe w0 nfp f3
  generalize hs4:({ s3 with heap:=pushCells (s3.heap.push { cls:=.type "dict",data:=.dict #[] }) scope.names }:Shared)=s4 at I4 ⊢
  have st4:tn 0 s4.heap:=T.keep _ _ _ st3 fun b _ o e=>by rw [←hs4]; exact pushCells_keeps _ _ _ _ (Heap.get?_push_of_some _ e)
  have stat:∀ {σ':St} {H':Hp} {s':Shared},Inv (X.blk s3 H3 scope ce fp) [] σ' H' s'→(∀ b∈fp,H' b=none)→∀ b∈fp,FpOk (X.blk s3 H3 scope ce fp) [] H' b:=fun {σ' H' s'} I' hn b hb =>
    ⟨hn b hb,(I'.ok.exf b hb).1,I'.ok.exfs b hb,.inl hb,fun x c e=>(I'.ok.exf b hb).2 x c e,fun p hp=>absurd (show p∈([]:List (Addr × Obj))++[] from hp) (by simp)⟩
  have loop:codeAny (model X.prog X.w) X.A (.compLoop (.ListComp elt [⟨tg,iter,ifs,0⟩] scope pos) 0 (.ref it) (.ref D) ce) (compPost (model X.prog X.w) X.A X.xe use Qf (.ref D) s3.heap.objs.size) s4:=by
    refine p7 (fun n s'=>∃ i H',Inv (X.blk s3 H3 scope ce fp) [] (wipe σ (own.map (·.2))) H' s'∧tn i s'.heap∧(∀ b∈fp,H' b=none)∧W i n H') ?_ m0 ⟨0,H3,I4,st4,nfp,w0⟩
    rintro n s5 ⟨i,H5,I5,st5,n5,w5⟩
    rcases turn i n H5 w5 with ⟨stop,qq⟩ | ⟨go,Nx,hNx,step⟩
    · have td:=T.done (X.blk s3 H3 scope ce fp) rfl rfl rfl hc i [] s5 _ H5 (fun _ _=>False) I5 (stat I5 n5) st5 stop
      refine thnF td fun r s6 ⟨hr,I6⟩=>?_
      subst hr
      have I7:Inv X pins σ H5 s6:=I3.call' (ch:=fp) I6.os I6.base I6.hok I6.bare fun b hb=>⟨(f3 b hb).1.2.2.2.1,(f3 b hb).1.2.1,(f3 b hb).1.2.2.2.2.1,(f3 b hb).1.2.2.2.2.2⟩
      have nC:H5 s3.heap.objs.size=none:=by
        have z:H5 ce.locals=none:=I6.free
        rw [cL] at z
        exact z
      obtain ⟨m,hn,_⟩:=I6.loc
      have hn:s6.heap.Ns ce.locals m:=hn
      rw [cL] at hn
      exact hRR D s3.heap.objs.size s6 m H5 I7 qq hn (I3.fpOk (Nat.le_refl _) nC)
    · have ti:=T.item (X.blk s3 H3 scope ce fp) rfl rfl rfl hc i [] s5 _ H5 (fun _ _=>False) I5 (stat I5 n5) st5 go
      refine thnF ti fun r s6 ⟨u,hr,h6⟩=>?_
      subst hr
      refine thnF h6 fun _ s7 ⟨x,H7,I7,r7,y7,st7,n7⟩=>?_
      have I7':=I7.pinned (stat I7 n7) (T.obj _ _ st7)
      refine thnF (pg _ s7 _ H7 x u _ I7' r7 (step x H7 y7)) fun _ s8 ⟨σ8,H8,I8,hw8,q8⟩=>?_
      refine thnF (pt _ s8 σ8 H8 _ I8 q8) fun b s9 ⟨H9,I9,q9⟩=>?_
      have fin:∀ {s':Shared} {H':Hp},Inv (X.blk s3 H3 scope ce fp) ([]++mM fp s7.heap) σ8 H' s'→Nx H'→∃ m,m < n∧∃ i H',Inv (X.blk s3 H3 scope ce fp) [] (wipe σ (own.map (·.2))) H' s'∧tn i s'.heap∧(∀ b∈fp,H' b=none)∧W i m H':=fun {s' H'} I' nx=>by
        obtain ⟨m',hm,w'⟩:=hNx H' nx
        have pin':∀ b∈fp,∀ o,s7.heap.get? b=some o→s'.heap.get? b=some o∧H' b=none:=fun b hb o e =>
          let z:=I'.pin (b,o) (List.mem_append_right _ (List.mem_append_right _ (jD hb e)))
          ⟨z.1,z.2.1⟩
        have hl:(wipe σ (own.map (·.2))).length=σ8.length:=by rw [←hw8,g5]
        refine ⟨m',hm,i + 1,H',(I'.unpinned (pins:=[])).weak hl (fun j v e=>?_),T.keep _ _ _ st7 fun b hb o e=>(pin' b hb o e).1,fun b hb=>?_,w'⟩
        · rw [←hw8] at e
          exact (kI e).1
        · obtain ⟨o,e,_⟩:=T.obj _ _ st7 b hb
          exact (pin' b hb o e).2
      cases b with
      | false =>
        simp only [Bool.false_eq_true,if_false] at q9 ⊢
        exact fin I9 q9
      | true =>
        simp only [if_true] at q9 ⊢
        refine thnF (pe _ s9 σ8 H9 _ I9 q9) fun z s10 ⟨yv,H10,I10,r10,acc,hD10,hz10,nx⟩=>?_
        exact app_ok (X:=X.blk s3 H3 scope ce fp) I10 hD10 hz10 r10 fun s11 I11=>fin I11 nx
  exact codeAny_compStart_list loop (T.self X.A 0 _ _ _ st4 loop)
theorem gg {elt tg iter:Expr} {ifs:List Expr} {scope:Scope} {own:List (Str × Nat)} {pos:Pos} {wi:TI} {g:TG} {tt:TT} {te:TE} (hc:X.calm=true) (hN:X.N.Nodup) (hi:PI X tg iter wi) (ok:sv X.N X.env.scope scope own)
    (hg:∀ (s:Shared) (H:Hp) (C:Addr) (cl:List (Str × Addr)) (fp:List Addr),PG (X.blk s H scope (compEnvC scope cl C X.env) fp) tg g) (ht:∀ (s:Shared) (H:Hp) (C:Addr) (cl:List (Str × Addr)) (fp:List Addr),PTs (X.blk s H scope (compEnvC scope cl C X.env) fp) ifs tt)
    (he:∀ (s:Shared) (H:Hp) (C:Addr) (cl:List (Str × Addr)) (fp:List Addr),PE (X.blk s H scope (compEnvC scope cl C X.env) fp) elt te) (hs:∀ x,foldedSetIterable iter X.env x=pure x:=by intro _; rfl) :
    PE X (.ListComp elt [⟨tg,iter,ifs,0⟩] scope pos) (tLc wi g tt te (own.map (·.2))):=by
  intro pins s σ H Q I h
  rw [eval_ListComp]
  refine uI hc hN I hi ok hg ht he hs h fun D C s' m H' I' q hn f=>⟨m,hn,fun h'' sb=>?_⟩
  obtain ⟨f0,f1,f2,f3,f4,f5⟩:=f
  exact ⟨.ref D,H',I'.turned (t':=s'.toks) (fun b o hb e=>(sb.2 b hb).trans e) f0 f1 f3 f4 f5,rfl,q⟩
theorem ig {i:Nat} {y:Str} {py:Pos} {elt tg iter:Expr} {ifs:List Expr} {scope:Scope} {own:List (Str × Nat)} {pos spos:Pos} {wi:TI} {g:TG} {tt:TT} {te:TE} (hc:X.calm=true) (hN:X.N.Nodup) (hy:X.N[i]?=some y) (hyl:X.env.scope.names.lookup y=some .local)
    (hsw:swapsWith (.ListComp elt [⟨tg,iter,ifs,0⟩] scope pos) (some (.Name y py)) spos.line X.env=pure true) (hi:PI X tg iter wi) (ok:sv X.N X.env.scope scope own)
    (hg:∀ (s:Shared) (H:Hp) (C:Addr) (cl:List (Str × Addr)) (fp:List Addr),PG (X.blk s H scope (compEnvC scope cl C X.env) fp) tg g) (ht:∀ (s:Shared) (H:Hp) (C:Addr) (cl:List (Str × Addr)) (fp:List Addr),PTs (X.blk s H scope (compEnvC scope cl C X.env) fp) ifs tt)
    (he:∀ (s:Shared) (H:Hp) (C:Addr) (cl:List (Str × Addr)) (fp:List Addr),PE (X.blk s H scope (compEnvC scope cl C X.env) fp) elt te) (hs:∀ x,foldedSetIterable iter X.env x=pure x:=by intro _; rfl) :
    PS X (.Assign [.Name y py] (.ListComp elt [⟨tg,iter,ifs,0⟩] scope pos) spos) (tAsg (tLc wi g tt te (own.map (·.2))) (rN i)):=by
  intro pins s σ H D I h
  rw [exec_Assign_Name_used _ _ _ _ hsw]
  refine wpAny_bind (wpAny_standAt (wpAny_bind ?_))
  show wpAny _ X.A (do let _ ← comprehension (.ListComp elt [⟨tg,iter,ifs,0⟩] scope pos) scope X.env (firstIterPos [⟨tg,iter,ifs,0⟩] pos) (newList []) false (eval iter X.env) (some (assign (.Name y py) X.env))) _ _ s
  have h:tLc wi g tt te (own.map (·.2)) σ H (fun x H1=>rN i x σ H1 D.nx):=h
  refine wpAny_bind (thn (uI (Qf:=fun _ s'=>SP X pins D .next s') hc hN I hi ok hg ht he hs h fun L C s' m H' I' q hn f=>?_) fun _ s' hq=>wpAny_pure (wpAny_pure hq))
  show wpAny _ _ (assign (.Name y py) X.env (.ref L)) _ _ _
  refine wpAny_assign_Name (oE (v:=V.ref L) I' hN hy (.inl hyl) rfl (fun s2 I2 ⟨a,sb,ha⟩=>?_) (.inr hyl))
  obtain ⟨f0,f1,f2,f3,f4,f5⟩:=f
  have haC:C≠a:=by
    rcases ha with z | z
    · rw [z]; exact f1
    · exact fun e=>f4 y a z e.symm
  refine ⟨m,hn.sameBut sb haC,fun h3 sb3=>?_⟩
  exact ⟨_,H',I2.turned (t':=s2.toks) (fun b o hb e=>(sb3.2 b hb).trans e) f0 f1 f3 f4 f5,q⟩
theorem jX {elt:Expr} {gs:List Comprehension} {scope:Scope} {pos py:Pos} {y:Str} {l:Nat} {env:Env} (hk:env.scope.kind=.function) (hy:env.scope.names.lookup y=some .local) (hl:(py.line == pos.line)=true)
    (ha:(scope.names.any fun (n,k)=>n == y && (k == .local || k == .cell))=false):swapsWith (.ListComp elt gs scope pos) (some (.Name y py)) l env=pure true:=by
  have ky:env.kindOf y=some .local:=hy
  have hb:env.blockKind=.function:=by unfold Env.blockKind; rw [hk]; rfl
  unfold swapsWith
  simp only [hb,ky,ha,Expr.pos,hl]
  rfl
end
theorem nj {lo:Int} {n:Nat} {g:TG} {tt:TT} {te:TE} {vs:List Nat} {σ:St} {H1:Hp} {D:Addr} {Qd:Hp→Prop} (Pv:Nat→Hp→Prop) (h0:Pv 0 (upd H1 D (.lst [])))
    (hs:∀ i H,i < n→Pv i H→g (.int (lo + i)) (wipe σ vs) H fun σ2 H2=>wipe σ2 vs=wipe σ vs∧tt σ2 H2 fun b H3 =>
      if b=true then te σ2 H3 fun y H4=>∃ acc,H4 D=some (.lst acc)∧acc.length < sizeLine∧Pv (i + 1) (upd H4 D (.lst (acc++[y]))) else Pv (i + 1) H3) (hd:∀ H,Pv n H→Qd H) :
    ∃ W:Nat→Nat→Hp→Prop,(∃ m,W 0 m (upd H1 D (.lst [])))∧∀ i m H,W i m H →
      ((Itr lo n).stop i H∧Qd H)∨((Itr lo n).go i H∧∃ Nx:Hp→Prop,(∀ H',Nx H'→∃ m',m' < m∧W (i + 1) m' H')∧∀ x H',(Itr lo n).yld i H x H'→g x (wipe σ vs) H' fun σ2 H2=>wipe σ2 vs=wipe σ vs∧tt σ2 H2 fun b H3 =>
        if b=true then te σ2 H3 fun y H4=>∃ acc,H4 D=some (.lst acc)∧acc.length < sizeLine∧Nx (upd H4 D (.lst (acc++[y]))) else Nx H3):=by
  refine ⟨fun i m H=>m=n - i∧i≤n∧Pv i H,⟨n,by simp,Nat.zero_le _,h0⟩,?_⟩
  rintro i m H ⟨rfl,hi,p⟩
  by_cases hlt:i < n
  · refine .inr ⟨hlt,Pv (i + 1),fun H' p'=>⟨n - (i + 1),by omega,rfl,hlt,p'⟩,fun x H' y=>?_⟩
    obtain ⟨e,y⟩:=y
    subst e y
    exact hs i _ hlt p
  · have e:i=n:=by omega
    subst e
    exact .inl ⟨Nat.le_refl _,hd H p⟩
theorem uH {K:PySem.W.Frag} {a:Addr} {xs:List V} {g:TG} {tt:TT} {te:TE} {vs:List Nat} {σ:St} {H1:Hp} {D:Addr} {Qd:Hp→Prop} (Pv:Nat→Hp→Prop) (h0:Pv 0 (upd H1 D (.lst []))) (hl:∀ i H,i≤xs.length→Pv i H→SqL K H a xs)
    (hs:∀ i x H,xs[i]?=some x→Pv i H→g x (wipe σ vs) H fun σ2 H2=>wipe σ2 vs=wipe σ vs∧tt σ2 H2 fun b H3 =>
      if b=true then te σ2 H3 fun y H4=>∃ acc,H4 D=some (.lst acc)∧acc.length < sizeLine∧Pv (i + 1) (upd H4 D (.lst (acc++[y]))) else Pv (i + 1) H3) (hd:∀ H,Pv xs.length H→Qd H) :
    ∃ W:Nat→Nat→Hp→Prop,(∃ m,W 0 m (upd H1 D (.lst [])))∧∀ i m H,W i m H →
      ((Itl K a).stop i H∧Qd H)∨((Itl K a).go i H∧∃ Nx:Hp→Prop,(∀ H',Nx H'→∃ m',m' < m∧W (i + 1) m' H')∧∀ x H',(Itl K a).yld i H x H'→g x (wipe σ vs) H' fun σ2 H2=>wipe σ2 vs=wipe σ vs∧tt σ2 H2 fun b H3 =>
        if b=true then te σ2 H3 fun y H4=>∃ acc,H4 D=some (.lst acc)∧acc.length < sizeLine∧Nx (upd H4 D (.lst (acc++[y]))) else Nx H3):=by
  refine ⟨fun i m H=>m=xs.length - i∧i≤xs.length∧Pv i H,⟨xs.length,by simp,Nat.zero_le _,h0⟩,?_⟩
  rintro i m H ⟨rfl,hi,p⟩
  have q:=hl i H hi p
  by_cases hlt:i < xs.length
  · refine .inr ⟨⟨xs,xs[i],q,by simp [hlt]⟩,Pv (i + 1),fun H' p'=>⟨xs.length - (i + 1),by omega,rfl,hlt,p'⟩,fun x H' y=>?_⟩
    obtain ⟨e,y⟩:=y
    subst e
    exact hs i x _ (y xs q) p
  · have e:i=xs.length:=by omega
    subst e
    exact .inl ⟨⟨xs,q,Nat.le_refl _⟩,hd H p⟩
theorem lc_tup {K:PySem.W.Frag} {a:Addr} {xs:List V} {g:TG} {tt:TT} {te:TE} {vs:List Nat} {σ:St} {H1:Hp} {D:Addr} {Qd:Hp→Prop} (Pv:Nat→Hp→Prop) (h0:Pv 0 (upd H1 D (.lst []))) (hl:∀ i H,i≤xs.length→Pv i H→SqT K H a xs)
    (hs:∀ i x H,xs[i]?=some x→Pv i H→g x (wipe σ vs) H fun σ2 H2=>wipe σ2 vs=wipe σ vs∧tt σ2 H2 fun b H3 =>
      if b=true then te σ2 H3 fun y H4=>∃ acc,H4 D=some (.lst acc)∧acc.length < sizeLine∧Pv (i + 1) (upd H4 D (.lst (acc++[y]))) else Pv (i + 1) H3) (hd:∀ H,Pv xs.length H→Qd H) :
    ∃ W:Nat→Nat→Hp→Prop,(∃ m,W 0 m (upd H1 D (.lst [])))∧∀ i m H,W i m H →
      ((Itt K a).stop i H∧Qd H)∨((Itt K a).go i H∧∃ Nx:Hp→Prop,(∀ H',Nx H'→∃ m',m' < m∧W (i + 1) m' H')∧∀ x H',(Itt K a).yld i H x H'→g x (wipe σ vs) H' fun σ2 H2=>wipe σ2 vs=wipe σ vs∧tt σ2 H2 fun b H3 =>
        if b=true then te σ2 H3 fun y H4=>∃ acc,H4 D=some (.lst acc)∧acc.length < sizeLine∧Nx (upd H4 D (.lst (acc++[y]))) else Nx H3):=by
  refine ⟨fun i m H=>m=xs.length - i∧i≤xs.length∧Pv i H,⟨xs.length,by simp,Nat.zero_le _,h0⟩,?_⟩
  rintro i m H ⟨rfl,hi,p⟩
  have q:=hl i H hi p
  by_cases hlt:i < xs.length
  · refine .inr ⟨⟨xs,xs[i],q,by simp [hlt]⟩,Pv (i + 1),fun H' p'=>⟨xs.length - (i + 1),by omega,rfl,hlt,p'⟩,fun x H' y=>?_⟩
    obtain ⟨e,y⟩:=y
    subst e
    exact hs i x _ (y xs q) p
  · have e:i=xs.length:=by omega
    subst e
    exact .inl ⟨⟨xs,q,Nat.le_refl _⟩,hd H p⟩
def blkC (N:List Str) (sc scope:Scope) (own:List (Str × Nat)):Bool :=
  (match scope.kind with | .function=>true | _=>false) && (scope.names.all fun y=>decide (scope.names.lookup y.1=some y.2)) && (own.all fun p=>decide (N[p.2]?=some p.1)) &&
    (scope.names.all fun y=>match y.2 with
      | .free=>(match sc.names.lookup y.1 with | some .cell=>true | some .free=>true | _=>false)
      | .local=>decide (y.1∈own.map (·.1)) || decide (y.1∉N)
      | .cell=>decide (y.1∈own.map (·.1)) || decide (y.1∉N)
      | _=>true)
theorem bh {N:List Str} {sc scope:Scope} {own:List (Str × Nat)} (h:blkC N sc scope own=true):sv N sc scope own:=by
  unfold blkC at h
  simp only [Bool.and_eq_true,List.all_eq_true,decide_eq_true_eq] at h
  obtain ⟨⟨⟨h1,h2⟩,h3⟩,h4⟩:=h
  refine ⟨?_,h2,h3,fun y hy e=>?_,fun y hy e=>?_⟩
  · split at h1
    · assumption
    · cases h1
  · have q:=h4 y hy
    simp only [e] at q
    split at q <;> first | exact .inl (by assumption) | exact .inr (by assumption) | cases q
  · have q:=h4 y hy
    rcases e with e | e <;> (simp only [e,Bool.or_eq_true,decide_eq_true_eq] at q; exact q)
end L2
namespace L2
open PySem PySem.Spec PyProof.Rows
section
variable {prog:Program} {w:World} {A:Around} {R:Result→Shared→Prop} {s:Shared} {elt t0 i0 t1 i1:Expr} {ifs0 ifs1:List Expr} {scope:Scope} {pos:Pos} {it acc:Value} {env:Env}
end
section
variable {X:Cx}
end
end L2
namespace L2
open PySem PySem.Spec PyProof.Rows
section
variable {κ:Type} [DecidableEq κ]
def valV (kvs:List (κ × V)) (k:κ):Option V:=(kvs.find? fun kv=>decide (kv.1=k)).map (·.2)
def putK (kvs:List (κ × V)) (k:κ) (v:V):List (κ × V) :=
  if (kvs.any fun kv=>decide (kv.1=k))=true then kvs.map (fun kv=>if kv.1=k then (kv.1,v) else kv) else kvs++[(k,v)]
theorem cu {p:κ × V} {r:List (κ × V)} {k:κ} (e:p.1=k):valV (p :: r) k=some p.2:=by simp [valV,List.find?_cons,e]
theorem cv {p:κ × V} {r:List (κ × V)} {k:κ} (e:¬ p.1=k):valV (p :: r) k=valV r k:=by simp [valV,List.find?_cons,e]
theorem jT (k:κ):∀ kvs:List (κ × V),(kvs.any fun kv=>decide (kv.1=k))=(valV kvs k).isSome
  | []=>rfl
  | p :: r=>by
    rw [List.any_cons]
    by_cases e:p.1=k
    · simp only [cu e,decide_eq_true e,Bool.true_or,Option.isSome_some]
    · rw [cv e,decide_eq_false e,Bool.false_or]; exact jT k r
theorem qy (k j:κ) (y:V):∀ kvs:List (κ × V),valV (kvs.map fun kv=>if kv.1=k then (kv.1,y) else kv) j=(valV kvs j).map fun x=>if j=k then y else x
  | []=>rfl
  | p :: r=>by
    have ih:=qy k j y r
    rw [List.map_cons]
    by_cases h:p.1=k
    · rw [if_pos h]
      by_cases e:p.1=j
      · rw [cu (p:=(p.1,y)) e,cu e,Option.map_some,if_pos (e.symm.trans h)]
      · rw [cv (p:=(p.1,y)) e,cv e,ih]
    · rw [if_neg h]
      by_cases e:p.1=j
      · rw [cu (p:=p) e,cu e,Option.map_some,if_neg (fun z=>h (e.trans z))]
      · rw [cv (p:=p) e,cv e,ih]
theorem oA (k j:κ) (y:V):∀ kvs:List (κ × V),valV kvs k=none→valV (kvs++[(k,y)]) j=if j=k then some y else valV kvs j
  | [],_=>by
    by_cases e:k=j
    · rw [if_pos e.symm]; exact cu (p:=(k,y)) e
    · rw [if_neg (fun z=>e z.symm)]; exact cv (p:=(k,y)) e
  | p :: r,hn=>by
    rw [List.cons_append]
    have hk:¬ p.1=k:=fun z=>by rw [cu z] at hn; cases hn
    rw [cv hk] at hn
    have ih:=oA k j y r hn
    by_cases e:p.1=j
    · rw [cu e,cu e,if_neg (fun z=>hk (e.trans z))]
    · rw [cv e,cv e,ih]
theorem wA (kvs:List (κ × V)) (k j:κ) (y:V):valV (putK kvs k y) j=if j=k then some y else valV kvs j:=by
  unfold putK
  by_cases a:(kvs.any fun kv=>decide (kv.1=k))=true
  · rw [if_pos a,qy]
    rw [jT] at a
    by_cases e:j=k
    · obtain ⟨x,hx⟩:=Option.isSome_iff_exists.mp a
      rw [if_pos e,e,hx,Option.map_some,if_pos rfl]
    · rw [if_neg e]
      cases valV kvs j with
      | none=>rfl
      | some x=>rw [Option.map_some,if_neg e]
  · rw [if_neg a]
    refine oA k j y kvs ?_
    rw [jT] at a
    cases q:valV kvs k with
    | none=>rfl
    | some x=>rw [q] at a; exact (a rfl).elim
theorem iu (kvs:List (κ × V)) (k:κ) (v:V):(putK kvs k v).length≤kvs.length + 1:=by
  unfold putK
  split
  · rw [List.length_map]; omega
  · rw [List.length_append,List.length_cons,List.length_nil]; omega
theorem RelO.isSome_eq {o:Option V} {u:Option Value} (r:RelO o u):o.isSome=u.isSome:=by
  cases o with
  | none=>cases u with
    | none=>rfl
    | some _=>exact (show False from r).elim
  | some _=>cases u with
    | none=>exact (show False from r).elim
    | some _=>rfl
theorem KV.val {kvs:List (κ × V)} {vs:List (κ × Value)} (r:KV kvs vs) (k:κ):RelO (valV kvs k) (valueAt vs k):=by
  unfold KV at r
  induction r with
  | nil=>exact True.intro
  | @cons p q ps qs h t ih =>
    obtain ⟨h1,h2⟩:=h
    by_cases e:p.1=k
    · have e':q.1=k:=h1.symm.trans e
      have b:valueAt (q :: qs) k=some q.2:=by simp [valueAt,List.find?_cons,e']
      rw [cu e,b]; exact h2
    · have e':¬ q.1=k:=fun z=>e (h1.trans z)
      have b:valueAt (q :: qs) k=valueAt qs k:=by simp [valueAt,List.find?_cons,e']
      rw [cv e,b]; exact ih
theorem KV.any {kvs:List (κ × V)} {vs:List (κ × Value)} (r:KV kvs vs) (k:κ):(kvs.any fun kv=>decide (kv.1=k))=vs.any fun kv=>decide (kv.1=k):=by
  unfold KV at r
  induction r with
  | nil=>rfl
  | cons h t ih=>rw [List.any_cons,List.any_cons,ih,h.1]
theorem KV.repl {kvs:List (κ × V)} {vs:List (κ × Value)} (r:KV kvs vs) (k:κ) {y:V} {u:Value} (ry:RelV y u) :
    KV (kvs.map fun kv=>if kv.1=k then (kv.1,y) else kv) (vs.map fun kv=>if kv.1=k then (kv.1,u) else kv):=by
  unfold KV at r ⊢
  induction r with
  | nil=>exact .nil
  | @cons p q ps qs h t ih =>
    rw [List.map_cons,List.map_cons]
    refine .cons ?_ ih
    obtain ⟨h1,h2⟩:=h
    by_cases e:p.1=k
    · rw [if_pos e,if_pos (h1.symm.trans e)]; exact ⟨h1,ry⟩
    · rw [if_neg e,if_neg (fun z=>e (h1.trans z))]; exact ⟨h1,h2⟩
theorem KV.put {kvs:List (κ × V)} {vs:List (κ × Value)} (r:KV kvs vs) (k:κ) {y:V} {u:Value} (ry:RelV y u):KV (putK kvs k y) (stored vs k u):=by
  unfold putK stored
  rw [r.any k]
  by_cases e:(vs.any fun kv=>decide (kv.1=k))=true
  · rw [if_pos e,if_pos e]; exact r.repl k ry
  · rw [if_neg e,if_neg e]; exact Paired.snoc r ⟨rfl,ry⟩
theorem KV.length {kvs:List (κ × V)} {vs:List (κ × Value)} (r:KV kvs vs):kvs.length=vs.length:=Paired.length r
end
theorem uK {P:Program} {w:World} {k:Key} {u:Value} (r:RelV (kV k) u):(cq P w).is k u=true:=by
  cases k with
  | inl i=>obtain ⟨t,e⟩:=(show ∃ t,u=Value.int i t from r); subst e; exact rB P w i t
  | inr x=>obtain ⟨t,e⟩:=(show ∃ t,u=Value.str x t from r); subst e; exact rA P w x t
theorem oS {P:Program} {w:World}:∀ {ks:List Key} {us:List Value},Vals (ks.map kV) us→ItemsAre (cq P w) ks us
  | [],_,r=>by rw [List.map_nil] at r; cases r; exact .nil
  | k :: ks,_,r=>by
    rw [List.map_cons] at r
    cases r with
    | cons h t=>exact .cons (uK h) (oS t)
abbrev KT (H:Hp):List (List Key × V)→List (List Key × Addr × Value)→Prop:=Paired fun p q=>p.1=q.1∧H q.2.1=some (.tup (p.1.map kV))∧RelV p.2 q.2.2
theorem KT.val {H:Hp} {kvs:List (List Key × V)} {xs:List (List Key × Addr × Value)} (r:KT H kvs xs) (k:List Key):RelO (valV kvs k) ((atKey xs k).map (·.2)):=by
  induction r with
  | nil=>exact True.intro
  | @cons p q ps qs h t ih =>
    obtain ⟨h1,_,h2⟩:=h
    by_cases e:p.1=k
    · have e':q.1=k:=h1.symm.trans e
      have b:atKey (q :: qs) k=some q.2:=by simp [atKey,List.find?_cons,e']
      rw [cu e,b]; exact h2
    · have e':¬ q.1=k:=fun z=>e (h1.trans z)
      have b:atKey (q :: qs) k=atKey qs k:=by simp [atKey,List.find?_cons,e']
      rw [cv e,b]; exact ih
theorem KT.repl {H:Hp} {kvs:List (List Key × V)} {xs:List (List Key × Addr × Value)} (r:KT H kvs xs) (k:List Key) {y:V} {u:Value} (ry:RelV y u) :
    KT H (kvs.map fun kv=>if kv.1=k then (kv.1,y) else kv) (xs.map (putAt k u)):=by
  induction r with
  | nil=>exact .nil
  | @cons p q ps qs h t ih =>
    rw [List.map_cons,List.map_cons]
    refine .cons ?_ ih
    obtain ⟨h1,h2,h3⟩:=h
    unfold putAt
    by_cases e:p.1=k
    · rw [if_pos e,if_pos (h1.symm.trans e)]; exact ⟨h1,h2,ry⟩
    · rw [if_neg e,if_neg (fun z=>e (h1.trans z))]; exact ⟨h1,h2,h3⟩
theorem KT.put {H:Hp} {kvs:List (List Key × V)} {xs:List (List Key × Addr × Value)} (r:KT H kvs xs) (k:List Key) {b:Addr} {y:V} {u:Value} (hb:H b=some (.tup (k.map kV))) (ry:RelV y u) :
    KT H (putK kvs k y) (storedH xs k b u):=by
  have e:(kvs.any fun kv=>decide (kv.1=k))=(atKey xs k).isSome:=by
    rw [jT,(r.val k).isSome_eq,Option.isSome_map]
  unfold putK storedH
  rw [e]
  by_cases q:(atKey xs k).isSome=true
  · rw [if_pos q,if_pos q]; exact r.repl k ry
  · rw [if_neg q,if_neg q]; exact Paired.snoc r ⟨rfl,hb,ry⟩
theorem KT.keeps {H H':Hp} {kvs:List (List Key × V)} {xs:List (List Key × Addr × Value)} (r:KT H kvs xs) (ht:∀ b ys,H b=some (.tup ys)→H' b=some (.tup ys)):KT H' kvs xs :=
  Paired.mapP r fun _ _ z=>⟨z.1,ht _ _ z.2.1,z.2.2⟩
section
variable {P:Program} {w:World} {H:Hp} {h:Heap} {a:Addr}
theorem rd_of {u:HO} (ok:HOk P w H h) (e:Rd H a u):bM P w H h a u:=e.ok ok
theorem uV {kvs:List (Key × V)} (ok:HOk P w H h) (e:Rd H a (.dK kvs)):kvs.length≤sizeLine∧(a == sysModules)=false∧∃ vs,KV kvs vs∧h.DictOf (cq P w) a vs :=
  show bM P w H h a (.dK kvs) from rd_of ok e
theorem dk_of {kvs:List (Key × V)} (ok:HOk P w H h) (e:H a=some (.dK kvs)):kvs.length≤sizeLine∧(a == sysModules)=false∧∃ vs,KV kvs vs∧h.DictOf (cq P w) a vs:=uV ok (.inl e)
theorem pY {ks:List Key} (ok:HOk P w H h) (e:H a=some (.tup (ks.map kV))):(tupleKind (cq P w)).is h ks a:=by
  obtain ⟨_,its,r,o,h1,h2,n,h3⟩:=(show bM P w H h a (.tup (ks.map kV)) from ok a _ e)
  exact ⟨o,its.toArray,n,h1,h2,h3,by simpa using oS r⟩
theorem uU {kvs:List (List Key × V)} (ok:HOk P w H h) (e:Rd H a (.dT kvs)):kvs.length≤sizeLine∧(a == sysModules)=false ∧
    ∃ xs,KT H kvs xs∧h.DictOfH (tupleKind (cq P w)) a xs:=by
  obtain ⟨z,y,xs,r,o,es,ep,h1,h2,h3,h4,h5⟩:=(show bM P w H h a (.dT kvs) from rd_of ok e)
  refine ⟨z,y,xs,r,o,es,ep,h1,h2,h3,h4,fun x hx=>?_,h5⟩
  have all:∀ {l:List (List Key × V)} {m:List (List Key × Addr × Value)},KT H l m→∀ x∈m,(tupleKind (cq P w)).is h x.1 x.2.1:=by
    intro l m q
    induction q with
    | nil=>intro x hx; exact nomatch hx
    | @cons p q ps qs hq t ih =>
      intro x hx
      rcases List.mem_cons.mp hx with e | hx
      · subst e
        exact pY ok (by rw [←hq.1]; exact hq.2.1)
      · exact ih x hx
  exact all r x hx
theorem dt_of {kvs:List (List Key × V)} (ok:HOk P w H h) (e:H a=some (.dT kvs)):kvs.length≤sizeLine∧(a == sysModules)=false ∧
    ∃ xs,KT H kvs xs∧h.DictOfH (tupleKind (cq P w)) a xs:=uU ok (.inl e)
end
def DGet (H:Hp) (a:Addr) (y:V) (r:Option V):Prop :=
  (∃ kvs k,Rd H a (.dK kvs)∧y=kV k∧r=valV kvs k)∨∃ kvs k b,Rd H a (.dT kvs)∧y=.ref b∧H b=some (.tup (k.map kV))∧r=valV kvs k
def DPut (H:Hp) (a:Addr) (y v:V) (H':Hp):Prop :=
  (∃ kvs k,H a=some (.dK kvs)∧y=kV k∧kvs.length < sizeLine∧H'=upd H a (.dK (putK kvs k v))) ∨
  ∃ kvs k b,H a=some (.dT kvs)∧y=.ref b∧H b=some (.tup (k.map kV))∧kvs.length < sizeLine∧H'=upd H a (.dT (putK kvs k v))
theorem DGet.k {H:Hp} {a:Addr} {kvs:List (Key × V)} {k:Key} (e:H a=some (.dK kvs)):DGet H a (kV k) (valV kvs k):=.inl ⟨kvs,k,.inl e,rfl,rfl⟩
theorem DPut.k {H:Hp} {a:Addr} {kvs:List (Key × V)} {k:Key} {v:V} (e:H a=some (.dK kvs)) (hl:kvs.length < sizeLine):DPut H a (kV k) v (upd H a (.dK (putK kvs k v))):=.inl ⟨kvs,k,e,rfl,hl,rfl⟩
section
variable {X:Cx} {pins:List (Addr × Obj)} {σ:St} {H:Hp} {s:Shared} {a:Addr} {y v:V} {u r:Value} {o:Option V} {A:Around} {E:Value→Shared→Prop}
theorem Inv.big (I:Inv X pins σ H s):sysModules < s.heap.objs.size:=by
  have h:mainGlobals < s.heap.objs.size:=(I.mod.glob.keeps I.bk).lt
  exact Nat.lt_trans (by decide) h
theorem vX {Q:Value→Shared→Prop} (hu:A.units + 1 < cLine) (I:Inv X pins σ H s) (g:DGet H a y (some v)) (ry:RelV y u) (h:∀ w' s',Inv X pins σ H s'→RelV v w'→Q w' s') :
    wpAny (model X.prog X.w) A (getItem (.ref a) u) Q E s:=by
  rcases g with ⟨kvs,k,e,ey,l⟩ | ⟨kvs,k,b,e,ey,eb,l⟩
  · subst ey
    obtain ⟨z,hd,vs,rel,dd⟩:=uV I.hok e
    obtain ⟨w',hw,rw'⟩:=RelO.some_of (v:=v) (o:=valueAt vs k) (by rw [l]; exact rel.val k)
    exact wpAny_getItem_of (uK ry) dd.mapOf hw (h w' _ (I.tok _) rw')
  · subst ey
    cases (show u=Value.ref b from ry)
    obtain ⟨z,hd,xs,rel,dd⟩:=uU I.hok e
    obtain ⟨w',hw,rw'⟩:=RelO.some_of (v:=v) (o:=(atKey xs k).map (·.2)) (by rw [l]; exact rel.val k)
    obtain ⟨p,hp,hp2⟩:=Option.map_eq_some_iff.mp hw
    refine wpAny_getItem_heap (tupleKind_room_in1 hu) (pY I.hok eb) dd hp ?_
    rw [hp2]
    exact h w' _ (I.tok _) rw'
theorem d_in {Q:Value→Shared→Prop} (hu:A.units + 1 < cLine) (I:Inv X pins σ H s) (g:DGet H a y o) (ry:RelV y u) (h:∀ s',Inv X pins σ H s'→Q (.bool o.isSome) s') :
    wpAny (model X.prog X.w) A (compareOp .In u (.ref a)) Q E s:=by
  rcases g with ⟨kvs,k,e,ey,l⟩ | ⟨kvs,k,b,e,ey,eb,l⟩
  · subst ey
    obtain ⟨z,hd,vs,rel,dd⟩:=uV I.hok e
    refine wpAny_in_of (uK ry) hd dd.mapOf ?_
    rw [←(rel.val k).isSome_eq,←l]
    exact h _ (I.tok _)
  · subst ey
    cases (show u=Value.ref b from ry)
    obtain ⟨z,hd,xs,rel,dd⟩:=uU I.hok e
    refine wpAny_in_heap (tupleKind_room_in1 hu) (pY I.hok eb) hd dd ?_
    have q:=(rel.val k).isSome_eq
    rw [Option.isSome_map] at q
    rw [←q,←l]
    exact h _ (I.tok _)
theorem uZ {h':Heap} {t':Nat} {ob:HO} (I:Inv X pins σ H s) (mu:Mut (H a)) (hs:Heap.SameBut a s.heap h') (he:∃ q,h'.get? a=some q) (new:bM X.prog X.w (upd H a ob) h' a ob) :
    Inv X pins σ (upd H a ob) { s with heap:=h',toks:=t' } :=
  I.write (x:=a) (e:=a) mu (.inl rfl) (fun b q hb z=>(hs.2 b hb).trans z) he new
theorem dk_new {P:Program} {w:World} {H':Hp} {h':Heap} {kvs:List (Key × V)} {vs:List (Key × Value)} (z:kvs.length≤sizeLine) (hd:(a == sysModules)=false) (rel:KV kvs vs) (dd:h'.DictOf (cq P w) a vs) :
    bM P w H' h' a (.dK kvs):=⟨z,hd,vs,rel,dd⟩
theorem vW {H':Hp} {Q:Unit→Shared→Prop} (hu:A.units + 1 < cLine) (I:Inv X pins σ H s) (g:DPut H a y v H') (ry:RelV y u) (rv:RelV v r) (h:∀ s',Inv X pins σ H' s'→Q () s') :
    wpAny (model X.prog X.w) A (setItem (.ref a) u r) Q E s:=by
  rcases g with ⟨kvs,k,e,ey,l,eH⟩ | ⟨kvs,k,b,e,ey,eb,l,eH⟩
  · subst ey eH
    obtain ⟨z,hd,vs,rel,dd⟩:=dk_of I.hok e
    have hz:vs.length≤sizeLine:=by rw [←rel.length]; exact z
    have hl:(putK kvs k v).length≤sizeLine:=by have:=iu kvs k v; omega
    refine wpAny_setItem_pairs (hsz:=hz) (uK ry) dd fun h' dd' hs=>h _ ?_
    have he:∃ q,h'.get? a=some q:=let ⟨q,_,_,hq,_⟩:=dd'; ⟨q,hq⟩
    exact uZ I (by rw [e]; exact True.intro) hs he (dk_new hl hd (rel.put k rv) dd')
  · subst ey eH
    cases (show u=Value.ref b from ry)
    obtain ⟨z,hd,xs,rel,dd⟩:=dt_of I.hok e
    have hz:xs.length≤sizeLine:=by rw [←Paired.length rel]; exact z
    have hl:(putK kvs k v).length≤sizeLine:=by have:=iu kvs k v; omega
    refine wpAny_setItem_heap (hsz:=hz) (tupleKind_room_in1 hu) (pY I.hok eb) dd fun h' dd' hs=>h _ ?_
    obtain ⟨q,es,ep,hq,h2,h3,h4,_,h5⟩:=dd'
    refine uZ I (by rw [e]; exact True.intro) hs ⟨q,hq⟩ ⟨hl,hd,_,(rel.put k eb rv).keeps fun c ys ec=>?_,q,es,ep,hq,h2,h3,h4,h5⟩
    rw [ai (bK ec e (fun z=>nomatch z))]
    exact ec
end
section
variable {X:Cx} {pins:List (Addr × Obj)} {σ:St} {H:Hp} {s:Shared} {a:Addr} {kvs:List (Key × V)} {k:Key} {u:Value} {A:Around} {E:Value→Shared→Prop}
end
def NoSl (i:Expr):Prop:=∀ ov iv,subscripted i false ov iv=operate [ov,iv] (getItem ov iv)
theorem yn {prog:Program} {w:World} {A:Around} {E:Value→Shared→Prop} {s:Shared} {env:Env} {value slice:Expr} {pos:Pos} {T id:String} {Q:Value→Shared→Prop}
    (hl:typeLookup (.type T) "__getitem__" = pure (some (.builtin id))) (hs:NoSl slice)
    (h:wpAny (model prog w) A (eval value env) (fun o s₁=>wpAny (model prog w) A (eval slice env) (fun i s₂=>s₂.TypeIs o T∧wpAny (model prog w) A (getItem o i) Q E s₂) E s₁) E s) :
    wpAny (model prog w) A (eval (.Subscript value slice pos) env) Q E s:=by
  refine Subscript_ (wpAny_mono h (fun o s₁ h₁=>wpAny_mono h₁ (fun i s₂ h₂=>?_) fun _ _ x=>x) fun _ _ x=>x)
  obtain ⟨hT,h₂⟩:=h₂
  unfold subscriptTail
  refine wpAny_bind ?_
  rw [getitemInPython_of_ne hT.not_modules]
  refine wpAny_bind (wpAny_specialOf hT hl ?_)
  have fin:wpAny (model prog w) A (subscripted slice false o i) (fun r s₃=>wpAny (model prog w) A (letTemporaryGo value o r >>= fun _=>pure r) Q E s₃) E s₂:=by
    rw [hs o i]
    exact wpAny_operating (wpAny_mono h₂ (fun r s₃ h₃=>wpAny_bind (wpAny_letTemporaryGo (wpAny_pure h₃))) fun _ _ x=>x)
  first
    | exact wpAny_pure (wpAny_bind fin)
    | exact wpAny_bind (wpAny_pure (wpAny_bind fin))
    | exact wpAny_bind fin
theorem rT {X:Cx} {pins:List (Addr × Obj)} {σ:St} {H:Hp} {s:Shared} {a:Addr} {y:V} {o:Option V} (I:Inv X pins σ H s) (g:DGet H a y o):s.TypeIs (.ref a) "dict" := by
  rcases g with ⟨kvs,k,e,_,_⟩ | ⟨kvs,k,b,e,_,_,_⟩
  · obtain ⟨_,_,vs,_,dd⟩:=uV I.hok e
    exact dd.typeIs
  · obtain ⟨_,_,xs,_,dd⟩:=uU I.hok e
    exact dd.typeIs
def tDGet (td ty:TE):TE:=fun σ H Q=>td σ H fun x H1=>ty σ H1 fun y H2=>∃ a v,x=.ref a∧DGet H2 a y (some v)∧Q v H2
def tDIn (ty td:TE):TE:=fun σ H Q=>ty σ H fun y H1=>td σ H1 fun x H2=>∃ a o,x=.ref a∧DGet H2 a y o∧Q (.bl o.isSome) H2
def sDPut (td ty tv:TE):TS:=fun D σ H=>tv σ H fun v H1=>td σ H1 fun x H2=>ty σ H2 fun y H3=>∃ a H4,x=.ref a∧DPut H3 a y v H4∧D.nx σ H4
section
variable {X:Cx} {o i e value:Expr} {pos pos' tpos:Pos} {td ty tv:TE}
theorem yH (hu:X.A.units + 1 < cLine) (ho:PE X o td) (hi:PE X i ty) (hs:NoSl i):PE X (.Subscript o i pos) (tDGet td ty):=by
  intro pins s σ H Q I h
  refine yn PySem.F.slot_dict_getitem.lookup hs (thn (ho pins s σ H _ I h) fun u s1 ⟨x,H1,I1,rx,q1⟩=>thn (hi pins s1 σ H1 _ I1 q1) fun iv s2 ⟨y,H2,I2,ry,a,v,ex,g,q2⟩=>?_)
  subst ex
  obtain rfl:u=Value.ref a:=rx
  exact ⟨rT I2 g,vX hu I2 g ry fun w' s3 I3 rw'=>⟨v,H2,I3,rw',q2⟩⟩
theorem pc_din (hu:X.A.units + 1 < cLine) (hi:PE X i ty) (ho:PE X o td):PC X .In i o (tDIn ty td):=by
  intro pins s σ H Q I h
  refine thn (hi pins s σ H _ I h) fun iv s1 ⟨y,H1,I1,ry,q1⟩=>thn (ho pins s1 σ H1 _ I1 q1) fun u s2 ⟨x,H2,I2,rx,a,ov,ex,g,q2⟩=>?_
  subst ex
  obtain rfl:u=Value.ref a:=rx
  exact d_in hu I2 g ry fun s3 I3=>⟨.bl ov.isSome,H2,I3,rfl,q2⟩
theorem yE (hu:X.A.units + 1 < cLine) (ho:PE X o td) (hi:PE X i ty) (hv:PE X value tv) (hs:swapsWith value (some (.Subscript o i pos')) pos.line X.env=pure false) :
    PS X (.Assign [.Subscript o i pos'] value pos) (sDPut td ty tv):=by
  intro pins s σ H D I h
  refine wpAny_Assign_Subscript (thn (hv pins s σ H _ I h) fun r s1 ⟨v,H1,I1,rv,q1⟩=>thn (ho pins s1 σ H1 _ I1 q1) fun u s2 ⟨x,H2,I2,rx,q2⟩=>thn (hi pins s2 σ H2 _ I2 q2) fun iv s3 ⟨y,H3,I3,ry,a,H4,ex,g,q3⟩=>?_) hs
  subst ex
  obtain rfl:u=Value.ref a:=rx
  exact vW hu I3 g ry rv fun s4 I4=>⟨σ,H4,I4,q3⟩
end
theorem xY {P:Program} {w:World} {H:Hp} (h:Heap) (hb:sysModules < h.objs.size):bM P w H (h.push { cls:=.type "dict",data:=.dict #[] }) h.objs.size (.dK []) :=
  ⟨Nat.zero_le _,beq_eq_false_iff_ne.mpr (Ne.symm (Nat.ne_of_lt hb)),[],.nil,Heap.DictOf.new h⟩
def tDNewK:TE:=fun _ H Q=>∀ p,H p=none→Q (.ref p) (upd H p (.dK []))
section
variable {X:Cx} {pos:Pos}
theorem xl:PE X (.Dict [] [] pos) tDNewK:=fun pins s σ H Q I h =>
  wpAny_Dict_empty ⟨.ref s.heap.objs.size,_,I.laid (a:=s.heap.objs.size) (o:=.dK []) (t':=s.toks) (fun _ _ q=>Heap.get?_push_of_some _ q) (Nat.le_refl _) (xY s.heap I.big),rfl,h _ (I.hok.fresh (Nat.le_refl _))⟩
end
section
variable {X:Cx} {pins:List (Addr × Obj)} {σ:St} {H:Hp} {s:Shared} {a:Addr} {y d:V} {u r:Value} {o:Option V} {A:Around} {E:Value→Shared→Prop}
end
section
variable {X:Cx} {o e f:Expr} {apos cpos:Pos} {td ty tx:TE}
end
section
variable {X:Cx} {pins:List (Addr × Obj)} {σ:St} {H:Hp} {s:Shared} {a:Addr} {kvs:List (Key × V)} {A:Around} {E:Value→Shared→Prop}
end
section
variable {X:Cx} {pins:List (Addr × Obj)} {σ:St} {H:Hp} {s:Shared} {a:Addr} {y:V} {u:Value} {A:Around} {E:Value→Shared→Prop}
end
end L2
namespace L2
open PySem PySem.Spec PyProof.Rows
section
variable {prog:Program} {w:World} {A:Around} {E:Value→Shared→Prop}
end
section
variable {X:Cx}
end
end L2
namespace L2
open PySem PySem.Spec PyProof.Rows
theorem iH:bootBuiltins "reversed" = some (.type "reversed"):=by decide +kernel
section
variable {X:Cx} {pins:List (Addr × Obj)} {σ:St} {H:Hp} {s:Shared} {h':Heap}
theorem Inv.turnedL {t':Nat} {ch:List Addr} (I:Inv X pins σ H s) (k:∀ b o,b∉ch→s.heap.get? b=some o→h'.get? b=some o) (hf:∀ b∈ch,FpOk X pins H b):Inv X pins σ H { s with heap:=h',toks:=t' }:=by
  have nit:∀ b u,H b=some u→b∉ch:=fun b u e z=>by
    have q:=(hf b z).1
    rw [q] at e; cases e
  refine I.step (g':=s.gens) (d':=s.drawn) (ch:=ch) (fun b hb=>⟨(hf b hb).2.2.2.1,(hf b hb).2.1,(hf b hb).2.2.2.2.1,(hf b hb).2.2.2.2.2⟩) (fun b o _ _ hc e _=>k b o hc e) (fun b o _ _ hc e _=>⟨o.slots,k b o hc e⟩)
    (fun _ _ _ _ n=>n) (fun b o hc e=>⟨o,k b o hc e⟩) (fun _ _ e=>e) (fun _ _ _ e=>e) (fun b ps e=>⟨#[],by rw [e]; simp⟩) (fun m hm=>?_) (fun b u e=>?_) I.bare
  · obtain ⟨o,es,ep,ho,r⟩:=hm
    exact ⟨o,es,ep,k _ o (fun z=>(hf _ z).2.1 rfl) ho,r⟩
  · refine (I.hok b u e).stay (fun c v hc q=>k c v ?_ q) (fun _ q=>q) fun _ _ q=>q
    rcases hc with z | z
    · rw [z]; exact nit b u e
    · exact nit c _ z
theorem Inv.turnedNew {t':Nat} {ch:List Addr} {T:Addr} {ob:HO} (I:Inv X pins σ H s) (k:∀ b o,b∉ch→s.heap.get? b=some o→h'.get? b=some o) (hf:∀ b∈ch,FpOk X pins H b) (hT:s.heap.objs.size≤T)
    (new:bM X.prog X.w (upd H T ob) h' T ob):Inv X pins σ (upd H T ob) { s with heap:=h',toks:=t' }:=by
  have hn:H T=none:=I.hok.fresh hT
  have nit:∀ b u,H b=some u→b∉ch:=fun b u e z=>by
    have q:=(hf b z).1
    rw [q] at e; cases e
  refine I.step (g':=s.gens) (d':=s.drawn) (ch:=ch) (fun b hb=>⟨(hf b hb).2.2.2.1,(hf b hb).2.1,(hf b hb).2.2.2.2.1,(hf b hb).2.2.2.2.2⟩) (fun b o _ _ hc e _=>k b o hc e) (fun b o _ _ hc e _=>⟨o.slots,k b o hc e⟩)
    (fun b o _ e n=>?_) (fun b o hc e=>⟨o,k b o hc e⟩) (fun b xs e=>?_) (fun b o u e=>?_) (fun b ps e=>⟨#[],?_⟩) (fun m hm=>?_) (fun b u e=>?_) I.bare
  · rw [ai (Nat.ne_of_lt (Nat.lt_of_lt_of_le (Heap.lt_size e) hT))]; exact n
  · rw [ai (aq e hn)]; exact e
  · rw [ai (aq e hn)]; exact e
  · rw [ai (aq e hn),e]; simp
  · obtain ⟨o,es,ep,ho,r⟩:=hm
    exact ⟨o,es,ep,k _ o (fun z=>(hf _ z).2.1 rfl) ho,r⟩
  · by_cases hb:b=T
    · subst hb
      rw [ac] at e
      cases e
      exact new
    · rw [ai hb] at e
      refine (I.hok b u e).stay (fun c v hc q=>k c v ?_ q) (fun c q=>by rw [ai (aq q hn)]; exact q) fun c xs q=>by rw [ai (aq q hn)]; exact q
      rcases hc with z | z
      · rw [z]; exact nit b u e
      · exact nit c _ z
end
section
variable {X:Cx}
theorem sZ {tg:Expr} {pins:List (Addr × Obj)} {σ:St} {H:Hp} {s:Shared} {R:It→Hp→Prop} {J:It} {tn:Nat→Heap→Prop} {tk:Nat} (I:Inv X pins σ H s) (o:Obj)
    (T:Turn X.prog X.w X.K tg J [s.heap.objs.size] s.heap.objs.size tn) (st:tn 0 (s.heap.push o)) (q:R J H):PIE X pins σ tg R (.ref s.heap.objs.size) { s with heap:=s.heap.push o,toks:=tk }:=by
  refine ⟨s.heap.objs.size,[s.heap.objs.size],tn,J,H,rfl,I.kept fun b ob e=>Heap.get?_push_of_some _ e,T,st,fun b hb=>?_,q⟩
  have e:b=s.heap.objs.size:=by simpa using hb
  subst e
  exact I.fpOk (Nat.le_refl _) (I.hok.fresh (Nat.le_refl _))
end
section
variable {X:Cx} {tg:Expr}
end
def Itv (K:PySem.W.Frag) (a:Addr) (n:Nat):It :=
  ⟨fun i H=>i < n∧∃ (xs:List V) (x:V),SqL K H a xs∧xs[n - 1 - i]?=some x,fun i H x H'=>H'=H∧∀ xs,SqL K H a xs→xs[n - 1 - i]?=some x,fun i _=>n≤i⟩
theorem wD {P:Program} {w:World} {K:PySem.W.Frag} {tg:Expr} (a it:Addr) (n:Nat):Turn P w K tg (Itv K a n) [it] it (fun i h=>i≤n∧h.IsRevIter it a ((n:Int) - 1 - (i:Nat))) where
  mem:=by simp
  obj:=fun i h st b hb=>by
    have e:b=it:=by simpa using hb
    subst e
    obtain ⟨_,o,e,c,d⟩:=st
    exact ⟨o,e,fun v z=>by rw [d] at z; cases z⟩
  keep:=fun i h h' st k=>⟨st.1,st.2.at fun o e=>k it (by simp) o e⟩
  item:=by
    intro X hP hw hK hc i pins s σ H E I hf st hg
    subst hP hw hK
    obtain ⟨hin,xs,x,hq,hx⟩:=hg
    obtain ⟨its,rv,p,hz⟩:=I.list hq
    obtain ⟨u,hu,ru⟩:=rv.get hx
    obtain ⟨f0,f1,f2,f3,f4,f5⟩:=hf it (by simp)
    obtain ⟨_,hit⟩:=st
    have e1:(n:Int) - 1 - ((i:Nat):Int)=((n - 1 - i:Nat):Int):=by omega
    rw [e1] at hit
    refine wpAny_pyNext_rev_item hit p.isList (x:=u) (by simpa using hu) fun h' st' sb=>?_
    have e2:((n - 1 - i:Nat):Int) - 1=(n:Int) - 1 - ((i + 1:Nat):Int):=by omega
    rw [e2] at st'
    have I1:Inv X pins σ H { s with heap:=h' }:=I.turned (t':=s.toks) (fun b o hb e=>(sb.2 b hb).trans e) f0 f1 f3 f4 f5
    obtain ⟨o,e,c,d⟩:=id st'
    exact ⟨u,rfl,rM (s:={ s with heap:=h' }) e c d (by decide) ⟨x,H,I1,ru,⟨rfl,fun ys hy=>by rw [I.list_inj hy hq]; exact hx⟩,⟨hin,st'⟩,fun b hb=>(hf b hb).1⟩⟩
  done:=by
    intro X hP hw hK hc i pins s σ H E I hf st hg
    subst hP hw hK
    obtain ⟨f0,f1,f2,f3,f4,f5⟩:=hf it (by simp)
    obtain ⟨hin,hit⟩:=st
    have hge:n≤i:=hg
    have e1:(n:Int) - 1 - ((i:Nat):Int)=-1:=by omega
    rw [e1] at hit
    exact wpAny_pyNext_rev_end (I.ok.hd hc) hit fun h' eb=>⟨rfl,I.turned (t':=s.toks) (fun b o hb e=>eb b o hb e) f0 f1 f3 f4 f5⟩
  self:=fun A i s Q E st h=>wpAny_pyIter_revIter st.2 h
def iRev (K:PySem.W.Frag) (ta:TA):TI:=fun σ H R=>ta σ H fun vs H1=>∃ (a:Addr) (xs:List V),vs=[.ref a]∧SqL K H1 a xs∧R (Itv K a xs.length) H1
section
variable {X:Cx} {tg:Expr}
theorem qP {e:Expr} {ta:TA} {p pos:Pos} (hg:Gl X "reversed") (hm:X.mg "reversed" = none) (ha:PA X [e] ta) (hs:starEach [e] X.env=[(false,eval e X.env)]:=by rfl):PI X tg (.Call (.Name "reversed" p) [e] [] pos) (iRev X.K ta):=by
  intro pins s σ H R I h
  refine Call_ (gN I hg hm iH (PyProof.Rows.callWith_type1 (thn (ha pos pins s σ H _ I h) fun us s1 ⟨vs,H1,I1,r1,q1⟩=>?_) hs rfl))
  obtain ⟨a,xs,e,hq,q⟩:=q1
  subst e
  cases r1 with
  | cons r rr =>
    cases rr
    cases r
    obtain ⟨its,rv,p',hz⟩:=I1.list hq
    have hl:=rv.length
    have e1:((its.toArray.size:Nat):Int) - 1=(xs.length:Int) - 1 - ((0:Nat):Int):=by simp only [List.size_toArray]; omega
    refine call_reversed_list p'.isList (wpAny_pyIter_revIter (l:=a) (i:=((its.toArray.size:Nat):Int) - 1) ⟨_,Heap.get?_push_size _ rfl,rfl,rfl⟩ ?_)
    refine sZ (tk:=s1.toks) I1 _ (wD a _ xs.length) ⟨Nat.zero_le _,?_⟩ q
    rw [←e1]
    exact ⟨_,Heap.get?_push_size _ rfl,rfl,rfl⟩
end
def Its (x:Str):It:=⟨fun i _=>i < x.cps.size,fun i H v H'=>H'=H∧∃ c,x.cps[i]?=some c∧v=.str ⟨#[c]⟩,fun i _=>x.cps.size≤i⟩
theorem qB {P:Program} {w:World} {K:PySem.W.Frag} {tg:Expr} (it:Addr) (x:Str) (t:Tok) (ty:String) (hty:ty = "str_ascii_iterator" ∨ ty = "str_iterator") :
    Turn P w K tg (Its x) [it] it (fun i h=>h.IsStrIter it ty x t i) where
  mem:=by simp
  obj:=fun i h st b hb=>by
    have e:b=it:=by simpa using hb
    subst e
    obtain ⟨o,e,c,d⟩:=st
    exact ⟨o,e,fun v z=>by rw [d] at z; cases z⟩
  keep:=fun i h h' st k=>let ⟨o,ho,r⟩:=st; ⟨o,k it (by simp) o ho,r⟩
  item:=by
    intro X hP hw hK hc i pins s σ H E I hf st hg
    subst hP hw hK
    obtain ⟨f0,f1,f2,f3,f4,f5⟩:=hf it (by simp)
    have W:Walks X.prog X.w X.A it [it] [it] x.cps.size (SignAt x) (fun i h=>h.IsStrIter it ty x t i):=by
      rcases hty with e | e
      · rw [e]; exact Walks.strAscii (I.ok.hd hc) it x t
      · rw [e]; exact Walks.strWide (I.ok.hd hc) it x t
    have hno:["enumerate", "zip", "dict_itemiterator", "dict_reverseitemiterator", "odict_iterator", "itertools.zip_longest", "itertools.pairwise"].contains ty=false:=by
      rcases hty with e | e
      · rw [e]; decide
      · rw [e]; decide
    refine W.item i s _ _ hg st fun v h' tk hv st' kk=>?_
    obtain ⟨c,u,hcx,rfl⟩:=hv
    have I1:Inv X pins σ H { s with heap:=h',toks:=tk }:=I.turned (fun b o hb e=>kk b o (by simpa using hb) e) f0 f1 f3 f4 f5
    obtain ⟨oi,e,cc,dd⟩:=id st'
    exact ⟨_,rfl,rM (s:={ s with heap:=h',toks:=tk }) e cc dd hno ⟨.str ⟨#[c]⟩,H,I1,⟨u,rfl⟩,⟨rfl,c,hcx,rfl⟩,st',fun b hb=>(hf b hb).1⟩⟩
  done:=by
    intro X hP hw hK hc i pins s σ H E I hf st hg
    subst hP hw hK
    obtain ⟨f0,f1,f2,f3,f4,f5⟩:=hf it (by simp)
    have hx:x.cps[i]?=none:=Array.getElem?_eq_none hg
    rcases hty with e | e
    · rw [e] at st
      exact wpAny_pyNext_ascii_end (I.ok.hd hc) st hx fun h' eb=>⟨rfl,I.turned (t':=s.toks) (fun b o hb e=>eb b o hb e) f0 f1 f3 f4 f5⟩
    · rw [e] at st
      exact wpAny_pyNext_wide_end (I.ok.hd hc) st hx fun h' eb=>⟨rfl,I.turned (t':=s.toks) (fun b o hb e=>eb b o hb e) f0 f1 f3 f4 f5⟩
  self:=fun A i s Q E st h=>by
    rcases hty with e | e
    · rw [e] at st; exact wpAny_pyIter_striter_ascii st h
    · rw [e] at st; exact wpAny_pyIter_striter_wide st h
def iStr (te:TE):TI:=fun σ H R=>te σ H fun v H1=>∃ x,v=.str x∧R (Its x) H1
theorem pi_str {X:Cx} {tg e:Expr} {te:TE} (he:PE X e te):PI X tg e (iStr te):=by
  intro pins s σ H R I h
  refine thn (he pins s σ H _ I h) fun v s1 ⟨y,H1,I1,r1,x,ex,q⟩=>?_
  subst ex
  obtain ⟨t,rfl⟩:=r1
  cases ha:x.cps.all (· < 128)
  · exact wpAny_pyIter_wide ha (sZ (tk:=s1.toks) I1 _ (qB _ x t "str_iterator" (.inr rfl)) ⟨_,Heap.get?_push_size _ rfl,rfl,rfl⟩ q)
  · exact wpAny_pyIter_ascii ha (sZ (tk:=s1.toks) I1 _ (qB _ x t "str_ascii_iterator" (.inl rfl)) ⟨_,Heap.get?_push_size _ rfl,rfl,rfl⟩ q)
section
variable {prog:Program} {w:World} {A:Around} {E:Value→Shared→Prop} {s:Shared}
end
section
variable {X:Cx} {pins:List (Addr × Obj)} {σ:St} {H:Hp} {s:Shared} {d:Addr} {o:Obj}
end
section
variable {P:Program} {w:World} {K:PySem.W.Frag} {tg:Expr} {d:Addr} {o:Obj} {es:Array DictEntry} {ep:Nat}
end
section
variable {X:Cx} {tg e:Expr} {td:TE} {apos cpos:Pos}
end
def Ite (K:PySem.W.Frag) (a:Addr):It :=
  ⟨fun i H=>∃ (xs:List V) (x:V),SqL K H a xs∧xs[i]?=some x,fun i H v H'=>∃ T x,v=.ref T∧H T=none∧H'=upd H T (.tup [.int (i:Nat),x])∧∀ xs,SqL K H a xs→xs[i]?=some x,fun i H=>∃ xs:List V,SqL K H a xs∧xs.length≤i⟩
theorem vk {P:Program} {w:World} {K:PySem.W.Frag} {elts:List Expr} {kk:Nat} {tpos:Pos} (a e it:Addr) :
    Turn P w K (.Tuple elts kk tpos) (Ite K a) [e,it] e (fun i h=>(∃ old,IsEnum h e it ((i:Nat):Int) old)∧h.IsListIter it a i∧e≠it) where
  mem:=by simp
  obj:=fun i h st b hb=>by
    obtain ⟨⟨old,he⟩,⟨o,ho,hc,hd⟩,_⟩:=st
    have e':b=e∨b=it:=by simpa using hb
    rcases e' with z | z
    · rw [z]; exact ⟨_,he,fun v q=>nomatch q⟩
    · rw [z]; exact ⟨o,ho,fun v q=>by rw [hd] at q; cases q⟩
  keep:=fun i h h' st k=>let ⟨⟨old,he⟩,hi,hne⟩:=st; ⟨⟨old,k e (by simp) _ he⟩,hi.at fun o q=>k it (by simp) o q,hne⟩
  item:=by
    intro X hP hw hK hc i pins s σ H E I hf st hg
    subst hP hw hK
    obtain ⟨⟨old,he⟩,hit,hne⟩:=st
    obtain ⟨xs,x,hq,hx⟩:=hg
    obtain ⟨its,rv,p,hz⟩:=I.list hq
    obtain ⟨u,hu,ru⟩:=rv.get hx
    have hel:e < s.heap.objs.size:=Heap.lt_size he
    have hil:it < s.heap.objs.size:=by obtain ⟨_,q,_⟩:=hit; exact Heap.lt_size q
    refine wpAny_pyNext_enum_item he hit p.isList (x:=u) (by simpa using hu) hne fun h' ho hit' hT hsz hk=>?_
    refine ⟨_,rfl,wpAny_letOwnedTupleGo_enum (s:={ s with heap:=h',toks:=s.toks + 1 }) ho fun h'' he' sb=>?_⟩
    have hT2:h''.get? s.heap.objs.size=some { cls:=.type "tuple",data:=.seq #[.int i s.toks,u] }:=(sb.2 _ (Nat.ne_of_gt hel)).trans hT
    have new:bM X.prog X.w (upd H s.heap.objs.size (.tup [.int (i:Nat),x])) h'' s.heap.objs.size (.tup [.int (i:Nat),x]) :=
      ⟨by show 2≤sizeLine; decide,[.int i s.toks,u],.cons ⟨_,rfl⟩ (.cons ru .nil),⟨_,hT2,rfl,_,rfl⟩⟩
    have I1:Inv X pins σ (upd H s.heap.objs.size (.tup [.int (i:Nat),x])) { s with heap:=h'',toks:=s.toks + 1 } :=
      I.turnedNew (ch:=[e,it]) (fun b ob hb q=>(sb.2 b (fun z=>hb (by simp [z]))).trans (hk b ob (fun z=>hb (by simp [z])) (fun z=>hb (by simp [z])) q)) hf (Nat.le_refl _) new
    refine ⟨.ref s.heap.objs.size,_,I1,rfl,⟨_,x,rfl,I.hok.fresh (Nat.le_refl _),rfl,fun ys hy=>by rw [I.list_inj hy hq]; exact hx⟩,⟨⟨u,?_⟩,hit'.at fun o q=>(sb.2 it (Ne.symm hne)).trans q,hne⟩,fun b hb=>?_⟩
    · have e1:((i + 1:Nat):Int)=(i:Int) + 1:=by omega
      rw [e1]; exact he'
    · have hb':b < s.heap.objs.size:=by
        have e':b=e∨b=it:=by simpa using hb
        rcases e' with z | z
        · rw [z]; exact hel
        · rw [z]; exact hil
      rw [ai (Nat.ne_of_lt hb')]
      exact (hf b hb).1
  done:=by
    intro X hP hw hK hc i pins s σ H E I hf st hg
    subst hP hw hK
    obtain ⟨⟨old,he⟩,hit,hne⟩:=st
    obtain ⟨xs,hq,hx⟩:=hg
    obtain ⟨its,rv,p,hz⟩:=I.list hq
    obtain ⟨f0,f1,f2,f3,f4,f5⟩:=hf it (by simp)
    have hl:=rv.length
    exact wpAny_pyNext_enum_end (I.ok.hd hc) he hit p.isList (by simp; omega) fun h' eb=>⟨rfl,I.turned (t':=s.toks) (fun b o hb q=>eb b o hb q) f0 f1 f3 f4 f5⟩
  self:=fun A i s Q E st h=>let ⟨⟨_,he⟩,_⟩:=st; wpAny_pyIter_enum he h
def iEnum (K:PySem.W.Frag) (ta:TA):TI:=fun σ H R=>ta σ H fun vs H1=>∃ a xs,vs=[.ref a]∧SqL K H1 a xs∧R (Ite K a) H1
theorem iU {X:Cx} {e:Expr} {ta:TA} {p pos tpos:Pos} {elts:List Expr} {kk:Nat} (hg:Gl X "enumerate") (hm:X.mg "enumerate" = none) (ha:PA X [e] ta) (hs:starEach [e] X.env=[(false,eval e X.env)]:=by rfl) :
    PI X (.Tuple elts kk tpos) (.Call (.Name "enumerate" p) [e] [] pos) (iEnum X.K ta):=by
  intro pins s σ H R I h
  refine Call_ (gN I hg hm boot_enumerate (PyProof.Rows.callWith_type1 (thn (ha pos pins s σ H _ I h) fun us s1 ⟨vs,H1,I1,r1,q1⟩=>?_) hs rfl))
  obtain ⟨a,xs,ex,hq,q⟩:=q1
  subst ex
  cases r1 with
  | cons r rr =>
    cases rr
    cases r
    obtain ⟨its,rv,p',hz⟩:=I1.list hq
    refine call_enumerate_list p'.isList fun h' he hit hsz hk=>wpAny_pyIter_enum he ?_
    have I2:Inv X pins σ H1 { s1 with heap:=h' }:=I1.kept (t':=s1.toks) hk
    refine ⟨s1.heap.objs.size + 1,[s1.heap.objs.size + 1,s1.heap.objs.size],_,_,H1,rfl,I2,vk a (s1.heap.objs.size + 1) s1.heap.objs.size,⟨⟨.none,he⟩,hit,Nat.succ_ne_self _⟩,fun b hb=>?_,q⟩
    have e':b=s1.heap.objs.size + 1∨b=s1.heap.objs.size:=by simpa using hb
    have hle:s1.heap.objs.size≤b:=by
      rcases e' with z | z
      · rw [z]; exact Nat.le_add_right _ _
      · rw [z]; exact Nat.le_refl _
    exact I1.fpOk hle (I1.hok.fresh hle)
theorem v9:bootBuiltins "zip" = some (.type "zip"):=by decide +kernel
def Itz (K:PySem.W.Frag) (a b:Addr):It :=
  ⟨fun i H=>∃ (xs ys:List V) (x y:V),SqL K H a xs∧SqL K H b ys∧xs[i]?=some x∧ys[i]?=some y,
    fun i H v H'=>∃ T x y,v=.ref T∧H T=none∧H'=upd H T (.tup [x,y])∧(∀ xs,SqL K H a xs→xs[i]?=some x)∧∀ ys,SqL K H b ys→ys[i]?=some y,
    fun i H=>∃ xs ys:List V,SqL K H a xs∧SqL K H b ys∧(xs.length≤i∨ys.length≤i)⟩
theorem wC {P:Program} {w:World} {K:PySem.W.Frag} {elts:List Expr} {kk:Nat} {tpos:Pos} {a b z TI TO i1 i2:Addr} (D:ZipApart z TI TO i1 i2 a b) :
    Turn P w K (.Tuple elts kk tpos) (Itz K a b) [z,TI,TO,i1,i2] z (fun i h=>IsZip h z TI TO .none∧IsPair h TI (.ref i1) (.ref i2)∧(∃ x y,IsPair h TO x y)∧h.IsListIter i1 a i∧h.IsListIter i2 b i) where
  mem:=by simp
  obj:=fun i h st c hc=>by
    obtain ⟨hz,hTI,⟨x,y,hTO⟩,⟨o1,e1,_,d1⟩,⟨o2,e2,_,d2⟩⟩:=st
    have e':c=z∨c=TI∨c=TO∨c=i1∨c=i2:=by simpa using hc
    rcases e' with q | q | q | q | q
    · rw [q]; exact ⟨_,hz,fun v q=>nomatch q⟩
    · rw [q]; exact ⟨_,hTI,fun v q=>nomatch q⟩
    · rw [q]; exact ⟨_,hTO,fun v q=>nomatch q⟩
    · rw [q]; exact ⟨o1,e1,fun v q=>by rw [d1] at q; cases q⟩
    · rw [q]; exact ⟨o2,e2,fun v q=>by rw [d2] at q; cases q⟩
  keep:=fun i h h' st k=>by
    obtain ⟨hz,hTI,⟨x,y,hTO⟩,h1,h2⟩:=st
    exact ⟨k z (by simp) _ hz,k TI (by simp) _ hTI,⟨x,y,k TO (by simp) _ hTO⟩,h1.at fun o q=>k i1 (by simp) o q,h2.at fun o q=>k i2 (by simp) o q⟩
  item:=by
    intro X hP hw hK hc i pins s σ H E I hf st hg
    subst hP hw hK
    obtain ⟨hz,hTI,⟨x0,y0,hTO⟩,h1,h2⟩:=st
    obtain ⟨xs,ys,x,y,hqx,hqy,hx,hy⟩:=hg
    obtain ⟨its,rv,p,_⟩:=I.list hqx
    obtain ⟨its2,rv2,p2,_⟩:=I.list hqy
    obtain ⟨u,hu,ru⟩:=rv.get hx
    obtain ⟨u2,hu2,ru2⟩:=rv2.get hy
    have hzl:z < s.heap.objs.size:=Heap.lt_size hz
    refine wpAny_pyNext_zip_item D hz hTI hTO h1 h2 p.isList p2.isList (x:=u) (y:=u2) (by simpa using hu) (by simpa using hu2) fun h' z' TO' h1' h2' hT hsz hk=>?_
    refine ⟨_,rfl,wpAny_letOwnedTupleGo_zip (s:={ s with heap:=h' }) z' fun h'' z'' sb=>?_⟩
    have hT2:h''.get? s.heap.objs.size=some { cls:=.type "tuple",data:=.seq #[u,u2] }:=(sb.2 _ (Nat.ne_of_gt hzl)).trans hT
    have new:bM X.prog X.w (upd H s.heap.objs.size (.tup [x,y])) h'' s.heap.objs.size (.tup [x,y]) :=
      ⟨by show 2≤sizeLine; decide,[u,u2],.cons ru (.cons ru2 .nil),⟨_,hT2,rfl,_,rfl⟩⟩
    have I1:Inv X pins σ (upd H s.heap.objs.size (.tup [x,y])) { s with heap:=h'' } :=
      I.turnedNew (t':=s.toks) (ch:=[z,TI,TO,i1,i2]) (fun c o hb q=>(sb.2 c (fun q'=>hb (by simp [q']))).trans (hk c o (fun q'=>hb (by simp [q'])) (fun q'=>hb (by simp [q'])) (fun q'=>hb (by simp [q'])) (fun q'=>hb (by simp [q'])) q)) hf (Nat.le_refl _) new
    refine ⟨.ref s.heap.objs.size,_,I1,rfl,⟨_,x,y,rfl,I.hok.fresh (Nat.le_refl _),rfl,fun l hl=>by rw [I.list_inj hl hqx]; exact hx,fun l hl=>by rw [I.list_inj hl hqy]; exact hy⟩,⟨z'',?_,⟨u,u2,?_⟩,?_,?_⟩,fun c hcm=>?_⟩
    · exact (sb.2 _ D.TIz).trans (hk _ _ D.TIz D.TITO D.TIi1 D.TIi2 hTI)
    · exact (sb.2 _ D.TOz).trans TO'
    · exact h1'.at fun o q=>(sb.2 _ D.i1z).trans q
    · exact h2'.at fun o q=>(sb.2 _ D.i2z).trans q
    · have hlt:c < s.heap.objs.size:=by
        have e':c=z∨c=TI∨c=TO∨c=i1∨c=i2:=by simpa using hcm
        rcases e' with q | q | q | q | q
        · rw [q]; exact hzl
        · rw [q]; exact Heap.lt_size hTI
        · rw [q]; exact Heap.lt_size hTO
        · rw [q]; obtain ⟨_,e1,_⟩:=h1; exact Heap.lt_size e1
        · rw [q]; obtain ⟨_,e2,_⟩:=h2; exact Heap.lt_size e2
      rw [ai (Nat.ne_of_lt hlt)]
      exact (hf c hcm).1
  done:=by
    intro X hP hw hK hc i pins s σ H E I hf st hg
    subst hP hw hK
    obtain ⟨hz,hTI,⟨x0,y0,hTO⟩,h1,h2⟩:=st
    obtain ⟨xs,ys,hqx,hqy,hend⟩:=hg
    obtain ⟨its,rv,p,_⟩:=I.list hqx
    obtain ⟨its2,rv2,p2,_⟩:=I.list hqy
    have l1:=rv.length
    have l2:=rv2.length
    have he:its.toArray[i]?=none∨its2.toArray[i]?=none:=by
      rcases hend with q | q
      · exact .inl (by simp; omega)
      · exact .inr (by simp; omega)
    exact wpAny_pyNext_zip_end (I.ok.hd hc) D hz hTI hTO h1 h2 p.isList p2.isList he fun h' hk=>⟨rfl,I.turnedL (t':=s.toks) (ch:=[z,TI,TO,i1,i2]) (fun c o hb q =>
      hk c o (fun q'=>hb (by simp [q'])) (fun q'=>hb (by simp [q'])) (fun q'=>hb (by simp [q'])) (fun q'=>hb (by simp [q'])) q) hf⟩
  self:=fun A i s Q E st h=>wpAny_pyIter_zip st.1 h
def iZip (K:PySem.W.Frag) (ta:TA):TI:=fun σ H R=>ta σ H fun vs H1=>∃ a b xs ys,vs=[.ref a,.ref b]∧SqL K H1 a xs∧SqL K H1 b ys∧R (Itz K a b) H1
theorem sY {X:Cx} {e e2:Expr} {ta:TA} {p pos tpos:Pos} {elts:List Expr} {kk:Nat} (hg:Gl X "zip") (hm:X.mg "zip" = none) (ha:PA X [e,e2] ta)
    (hs:starEach [e,e2] X.env=(false,eval e X.env) :: starEach [e2] X.env:=by rfl) (hpl:(backTo pos (starEach [e2] X.env)).any (·.1)=false:=by rfl) :
    PI X (.Tuple elts kk tpos) (.Call (.Name "zip" p) [e,e2] [] pos) (iZip X.K ta):=by
  intro pins s σ H R I h
  refine Call_ (gN I hg hm v9 (PyProof.Rows.callWith_type1 (thn (ha pos pins s σ H _ I h) fun us s1 ⟨vs,H1,I1,r1,q1⟩=>?_) hs hpl))
  obtain ⟨a,b,xs,ys,ex,hqx,hqy,q⟩:=q1
  subst ex
  cases r1 with
  | cons r rr =>
    cases rr with
    | cons r' rr =>
      cases rr
      cases r
      cases r'
      obtain ⟨its,rv,p1,_⟩:=I1.list hqx
      obtain ⟨its2,rv2,p2,_⟩:=I1.list hqy
      have la:a < s1.heap.objs.size:=p1.lt
      have lb:b < s1.heap.objs.size:=p2.lt
      refine call_zip_2 p1.isList p2.isList fun h' hz hTI hTO h1 h2 hsz hk=>wpAny_pyIter_zip hz ?_
      have I2:Inv X pins σ H1 { s1 with heap:=h' }:=I1.kept (t':=s1.toks) hk
      refine ⟨s1.heap.objs.size + 4,[s1.heap.objs.size + 4,s1.heap.objs.size + 2,s1.heap.objs.size + 3,s1.heap.objs.size,s1.heap.objs.size + 1],_,_,H1,rfl,I2,wC (PySem.W.ktu_apart s1.heap.objs.size a b la lb),⟨hz,hTI,⟨_,_,hTO⟩,h1,h2⟩,fun c hcm=>?_,q⟩
      have e':c=s1.heap.objs.size + 4∨c=s1.heap.objs.size + 2∨c=s1.heap.objs.size + 3∨c=s1.heap.objs.size∨c=s1.heap.objs.size + 1:=by simpa using hcm
      have hle:s1.heap.objs.size≤c:=by
        rcases e' with z | z | z | z | z
        · rw [z]; exact Nat.le_add_right _ _
        · rw [z]; exact Nat.le_add_right _ _
        · rw [z]; exact Nat.le_add_right _ _
        · rw [z]; exact Nat.le_refl _
        · rw [z]; exact Nat.le_add_right _ _
      exact I1.fpOk hle (I1.hok.fresh hle)
end L2
section
namespace Bits
open PySem PyProof.Rows
end Bits
end
section
namespace TL
open PySem PySem.Builtin PySem.Builtin.Str PySem.StrLaws
abbrev tl (x:Str):List Nat:=x.cps.toList
theorem len_tl (x:Str):x.length=(tl x).length:=by simp [tl,Str.length]
theorem uN (y:Str) (parts:List Str):Txt.join y parts=Str.join y parts:=glued_eq_join y parts
def numL (n:Nat):List Nat:=(Nat.toDigits 10 n).map Char.toNat
theorem tl_num (n:Nat):tl (Str.ofString (toString ((n:Nat):Int)))=numL n:=PySem.W.KIN.signs_num n
theorem xw {n k:Nat} (hk:0 < k) (h:n < 10 ^ k):(numL n).length≤k:=by
  have z:=PyProof.Rows.toString_length_le (v:=(n:Int)) (by omega) hk (by
    have e:((10:Int) ^ k)=((10 ^ k:Nat):Int):=by
      first
        | exact (Int.natCast_pow 10 k).symm
        | simp
    rw [e]
    first | exact Int.ofNat_lt.mpr h | omega)
  rw [len_tl,tl_num] at z
  exact z
end TL
end
namespace L2
open PySem PySem.Spec PyProof.Rows
theorem gv:∀ {ys:List Str} {us:List Value},Vals (ys.map V.str) us→StrsAre us ys
  | [],_,.nil=>.nil
  | y :: ys,_,.cons r t=>by
    obtain ⟨k,rfl⟩:=r
    exact .cons y k (gv t)
section
variable {X:Cx} {pins:List (Addr × Obj)} {σ:St} {H:Hp} {s:Shared} {Q:VK}
end
section
variable {X:Cx}
theorem yR:MtR X "str.join" (fun x xs H Q=>∃ a p,∃ ys:List Str,x=.str a∧xs=[.ref p]∧(SqL X.K H p (ys.map V.str)∨SqT X.K H p (ys.map V.str)) ∧
    (ys.map (·.length)).sum + ys.length * a.length≤16777216∧Q (.str (Txt.join a ys)) H):=by
  intro pins s σ H x xs v us Q I rx rs h
  obtain ⟨a,p,ys,rfl,rfl,hp,hz,h⟩:=h
  obtain ⟨t,rfl⟩:=rx
  cases rs with
  | cons r1 rs =>
    cases rs
    cases r1
    rcases hp with hp | hp
    · obtain ⟨its,r,⟨o,n,ho,hc,_,hd⟩,_⟩:=I.list hp
      exact PyProof.Rows.join_list (items:=its.toArray) ⟨o,ho,hc,n,hd⟩ (by rw [List.toList_toArray]; exact gv r) hz fun t' k=>⟨.str _,H,I.tok k,⟨t',rfl⟩,h⟩
    · obtain ⟨its,r,ht,_⟩:=I.tuple hp
      exact PyProof.Rows.join_tuple (items:=its.toArray) ht (by rw [List.toList_toArray]; exact gv r) hz fun t' k=>⟨.str _,H,I.tok k,⟨t',rfl⟩,h⟩
theorem mt0 {id:String} {C:Str→Prop} {g:Str→V} (rule:∀ (a:Str) (t:Tok) (s:Shared) (Q:Value→Shared→Prop),C a→(∀ (u:Value) (k:Nat),RelV (g a) u→Q u { s with toks:=k }) →
    wpAny (model X.prog X.w) X.A (call (.builtin id) [.str a t]) Q X.xe s):MtR X id (fun x xs H Q=>∃ a,x=.str a∧xs=[]∧C a∧Q (g a) H):=by
  intro pins s σ H x xs v us Q I rx rs h
  obtain ⟨a,rfl,rfl,hc,h⟩:=h
  obtain ⟨t,rfl⟩:=rx
  cases rs
  exact rule a t s _ hc fun u k r=>⟨g a,H,I.tok k,r,h⟩
theorem tD:MtR X "str.isdigit" (fun x xs H Q=>∃ a,x=.str a∧xs=[]∧True∧Q (.bl (Txt.isdigit a)) H) :=
  mt0 (C:=fun _=>True) (g:=fun a=>.bl (Txt.isdigit a)) fun _ _ s _ _ h=>PySem.SC.isdigit (h _ s.toks rfl)
theorem tE:MtR X "str.isalpha" (fun x xs H Q=>∃ a,x=.str a∧xs=[]∧True∧Q (.bl (Txt.isalpha a)) H) :=
  mt0 (C:=fun _=>True) (g:=fun a=>.bl (Txt.isalpha a)) fun _ _ s _ _ h=>PySem.SC.isalpha (h _ s.toks rfl)
theorem kr:fF X (.type "int") (fun xs H Q=>∃ a n,xs=[.str a]∧PySem.intText? a=some n∧a.length≤640∧Q (.int n) H):=by
  intro pins s σ H xs us Q I rs h
  obtain ⟨a,n,rfl,hn,hl,h⟩:=h
  cases rs with
  | cons r1 rs =>
    cases rs
    obtain ⟨t,rfl⟩:=r1
    exact PySem.W.KIN.call_text hn hl ⟨.int n,H,I.tok _,⟨_,rfl⟩,h⟩
end
section
variable {X:Cx} {o e:Expr} {to te:TE}
def tM0 (r:V→List V→Hp→VK→Prop) (to:TE):TE:=fun σ H Q=>to σ H fun x H1=>(∃ a,x=.str a)∧r x [] H1 Q
def tM1 (r:V→List V→Hp→VK→Prop) (to te:TE):TE:=fun σ H Q=>to σ H fun x H1=>(∃ a,x=.str a)∧te σ H1 fun y H2=>r x [y] H2 Q
theorem pe_m0 {id:String} {name:Str} {apos pos:Pos} {r:V→List V→Hp→VK→Prop} (slot:Slot "str" name id) (ty:typeOf (.builtin id)=pure (.type "method_descriptor")) (rule:MtR X id r) (ho:PE X o to)
    (hbase:attributeBase o name X.env (eval o X.env)=eval o X.env:=by rfl) (hline:(apos.endLine == pos.line)=true:=by rfl):PE X (.Call (.Attribute o name apos) [] [] pos) (tM0 r to):=by
  intro pins s σ H Q I h
  refine PySem.Call_method0 hbase hline (thn (ho pins s σ H _ I h) fun v s1 ⟨x,H1,I1,r1,q1⟩=>?_)
  obtain ⟨⟨a,rfl⟩,q1⟩:=q1
  obtain ⟨t,rfl⟩:=_root_.id r1
  exact ⟨"str",_,F.plainAttrs_str,slot,ty,typeIs_str _ _ _,(fun _ e=>nomatch e),Calls.callWith_builtin rfl (PySem.evalArgs_none (rule pins s1 σ H1 _ [] _ [] Q I1 r1 .nil q1))⟩
theorem pe_m1 {id:String} {name:Str} {apos pos:Pos} {r:V→List V→Hp→VK→Prop} (slot:Slot "str" name id) (ty:typeOf (.builtin id)=pure (.type "method_descriptor")) (rule:MtR X id r) (ho:PE X o to) (he:PE X e te)
    (hs:starEach [e] X.env=[(false,eval e X.env)]:=by rfl) (hbase:attributeBase o name X.env (eval o X.env)=eval o X.env:=by rfl) (hline:(apos.endLine == pos.line)=true:=by rfl) :
    PE X (.Call (.Attribute o name apos) [e] [] pos) (tM1 r to te):=by
  intro pins s σ H Q I h
  refine PySem.Call_method1 hbase hs hline (thn (ho pins s σ H _ I h) fun v s1 ⟨x,H1,I1,r1,q1⟩=>?_)
  obtain ⟨⟨a,rfl⟩,q1⟩:=q1
  obtain ⟨t,rfl⟩:=_root_.id r1
  refine ⟨"str",_,F.plainAttrs_str,slot,ty,typeIs_str _ _ _,(fun _ e=>nomatch e),Calls.callWith_builtin rfl (Calls.evalArgs_plain (Calls.spliced_cons ?_))⟩
  exact thn (he pins s1 σ H1 _ I1 q1) fun u s2 ⟨y,H2,I2,r2,q2⟩=>Calls.spliced_nil (rule pins s2 σ H2 _ [y] _ [u] Q I2 r1 (.cons r2 .nil) q2)
theorem uy {apos pos:Pos} (ho:PE X o to) (he:PE X e te) (hs:starEach [e] X.env=[(false,eval e X.env)]:=by rfl) (hbase:attributeBase o "join" X.env (eval o X.env)=eval o X.env:=by rfl) (hline:(apos.endLine == pos.line)=true:=by rfl) :
    PE X (.Call (.Attribute o "join" apos) [e] [] pos) (tM1 (fun x xs H Q=>∃ a p,∃ ys:List Str,x=.str a∧xs=[.ref p]∧(SqL X.K H p (ys.map V.str)∨SqT X.K H p (ys.map V.str)) ∧
      (ys.map (·.length)).sum + ys.length * a.length≤16777216∧Q (.str (Txt.join a ys)) H) to te) :=
  pe_m1 F.slot_str_join F.type_str_join yR ho he hs hbase hline
end
end L2
namespace L2
open PySem PySem.Spec PyProof.Rows
section
variable {X:Cx}
end
end L2
namespace Att
open PySem PySem.W PySem.Calls PyProof.Rows
section
variable {prog:Program} {w:World} {A:Around} {E:Value→Shared→Prop} {s:Shared} {K:Frag}
end
end Att
namespace L2
open PySem PySem.Spec PyProof.Rows
end L2
namespace L2
open PySem PySem.Spec PyProof.Rows
end L2
namespace L2
open PySem PySem.Spec PyProof.Rows
def p0 (s:Stmt) (j:Nat):Stmt:=match s with
  | .ClassDef _ _ _ body _ _ _ _ _ _ _=>body.getD j (.Pass ⟨0,0,0,0⟩)
  | _=>.Pass ⟨0,0,0,0⟩
def gP (s:Stmt):Arguments:=match s with
  | .FunctionDef _ a _ _ _ _ _ _ _ _=>a
  | _=>{ posonlyargs:=[],args:=[],vararg:=none,kwonlyargs:=[],kw_defaults:=[],kwarg:=none,defaults:=[] }
def fw (s:Stmt):List Stmt:=match s with
  | .FunctionDef _ _ b _ _ _ _ _ _ _=>b
  | _=>[]
def aj (s:Stmt):Scope:=match s with
  | .FunctionDef _ _ _ _ _ _ sc _ _ _=>sc
  | _=>{ kind:=.function,names:=[],isGenerator:=false,isCoroutine:=false }
abbrev CX0:CXT:=fun _ _ _ _ _ _=>False
abbrev E0:XK:=fun _ _ _=>False
theorem lA {X:Cx}:jN CX0 X E0:=fun _ _ _ _ _ _ _ h=>h.elim
structure Fun (K:PySem.W.Frag) (x qual:Str) (st:Stmt) (f:Addr) (fd:FuncData):Prop where
  ex:∃ (oc:Value) (od:Option Addr) (kV doc pm:Value) (an:Option Addr) (cdv ct:Value) (osl:Array (Option Value)),
    fd=PySem.W.fnOf x qual (gP st) (fw st) (aj st) .none kV doc pm an cdv ct∧K.lookup f=some ⟨oc,od,.func fd,osl⟩∧PySem.W.codeIn K cdv qual=true
  kp:PySem.W.keepIn K (.ref f)=true
section
variable {P:Program} {w:World} {K:PySem.W.Frag} {mg:Str→Option Value} {base:Heap}
theorem Fun.ok {x qual:Str} {st:Stmt} {f:Addr} {fd:FuncData} {N ps:List Str} {k:Nat} {sp:Sp} (F:Fun K x qual st f fd) (S:az N ps (aj st)) (len:∀ vs H Q E,sp vs H Q E→vs.length=ps.length)
    (hbody:∀ (cdv:Value) (A:Around) (outer:List Env) (s:Shared) (H:Hp) (vs:List V) (Q:VK) (E:XK),Room k (A.deeper (envOfC qual (aj st) s.heap.objs.size f cdv))→sp vs H Q E →
      ∃ t,PSs (cxOf CX0 P w K mg base N qual (aj st) f cdv A outer s H E).nox (fw st) t∧t { nx:=fun _ H'=>Q .non H',rt:=Q } (start N vs) H):FnOk P w K mg base CX0 (k + 1) f fd ps sp:=by
  obtain ⟨oc,od,kV,doc,pm,an,cdv,ct,osl,rfl,lk,hcd⟩:=F.ex
  refine fn_of lk hcd S len fun A outer s H vs Q E hr hsp=>?_
  obtain ⟨t,h,q⟩:=hbody cdv A outer s H vs Q E hr hsp
  exact ⟨t,h.nox,q⟩
theorem Fun.binds {x qual:Str} {st:Stmt} {f:Addr} {fd:FuncData} {ps:List Str} (F:Fun K x qual st f fd)
    (h:∀ (kV doc pm:Value) (an:Option Addr) (cdv ct:Value) (us:List Value),us.length=ps.length→bindArgs (PySem.W.fnOf x qual (gP st) (fw st) (aj st) .none kV doc pm an cdv ct) ⟨us,[]⟩=pure (ps.zip us)):aK K fd ps []:=by
  obtain ⟨oc,od,kV,doc,pm,an,cdv,ct,osl,rfl,lk,hcd⟩:=F.ex
  exact .all (h kV doc pm an cdv ct)
theorem xV {x qual:Str} {st:Stmt} {f:Addr} {oc:Value} {od an:Option Addr} {osl:Array (Option Value)} {kV doc pm cdv ct:Value} (l:K.lookup f=some ⟨oc,od,.func (PySem.W.fnOf x qual (gP st) (fw st) (aj st) .none kV doc pm an cdv ct),osl⟩)
    (c:PySem.W.codeIn K cdv qual=true) (k:PySem.W.keepIn K (.ref f)=true):Fun K x qual st f (PySem.W.fnOf x qual (gP st) (fw st) (aj st) .none kV doc pm an cdv ct):=⟨⟨oc,od,kV,doc,pm,an,cdv,ct,osl,rfl,l,c⟩,k⟩
end
theorem xO {A:Around} {k:Nat} (hr:Room k A):A.units + 1 < cLine:=Nat.lt_of_le_of_lt (Nat.add_le_add_left (by decide:1≤64) _) hr.units
section
variable {X:Cx}
theorem pv (i:Nat) {x:Str} {pos:Pos} (hN:X.N[i]?=some x:=by rfl) (hv:Vis X.env.scope x:=by first | exact Or.inl rfl | exact Or.inr (Or.inl rfl) | exact Or.inr (Or.inr rfl)) (hd:(x == ("__debug__" : Str))=false:=by decide)
    (hcd:(x == ("__classdict__" : Str))=false:=by decide):PE X (.Name x pos) (tVar i):=pe_var hN hv hd hcd
end
theorem iteF {A B:Prop} (h:B):if false=true then A else B:=by
  rw [if_neg Bool.false_ne_true]
  exact h
theorem iteT {A B:Prop} (h:A):if true=true then A else B:=by
  rw [if_pos rfl]
  exact h
theorem ite2 {c A B:Prop} [Decidable c] (h1:c→A) (h2:¬ c→B):if c then A else B:=by
  by_cases h:c
  · rw [if_pos h]
    exact h1 h
  · rw [if_neg h]
    exact h2 h
def Same (H H':Hp):Prop:=∀ b o,H b=some o→H' b=some o
theorem Same.refl (H:Hp):Same H H:=fun _ _ h=>h
theorem Same.trans {H H1 H2:Hp} (a:Same H H1) (b:Same H1 H2):Same H H2:=fun c o h=>b c o (a c o h)
theorem Same.free {H H':Hp} (e:Same H H') {l:Addr} (h:H' l=Option.none):H l=Option.none:=by
  cases q:H l with
  | none=>rfl
  | some o =>
    rw [e l o q] at h
    cases h
theorem Same.seq {K:PySem.W.Frag} {H H':Hp} {a:Addr} {xs:List V} (e:Same H H') (h:SqL K H a xs):SqL K H' a xs:=by
  rcases h with (h | ⟨o,h⟩) | h
  · exact .inl (.inl (e _ _ h))
  · exact .inl (.inr ⟨o,e _ _ h⟩)
  · exact .inr h
section
variable {κ:Type} [DecidableEq κ]
end
theorem at_of {xs:List V} {z:Int} {j:Nat} {v:V} (e:z=(j:Int)) (h:xs[j]?=some v):atI xs z=some v:=by
  rw [e]
  exact aX h
theorem Same.made {H H1:Hp} {x dx C:Addr} (nx:H x=Option.none) (nd:H dx=Option.none) (k:∀ b o,(upd (upd H dx (.own x)) x (.ins C dx [])) b=some o→b≠x→H1 b=some o):Same H H1:=fun b o e =>
  k b o (by rw [ai (aq e nx),ai (aq e nd)]; exact e) (aq e nx)
end L2
section
namespace L2
open PySem PySem.Spec PyProof.Rows
open PySem.W (WData Codec OpenSpec Well WellAll ReadsW ReadsAllW)
mutual
inductive Dw (K:PySem.W.Frag) (H:Hp):V→WData→Prop
  | non:Dw K H .non .none
  | bl (b:Bool):Dw K H (.bl b) (.bool b)
  | int (i:Int):Dw K H (.int i) (.int i)
  | str (x:Str):Dw K H (.str x) (.str x)
  | byt (b:Array UInt8):Dw K H (.byt b) (.bytes b.toList)
  | lst {a:Addr} {xs:List V} {ds:List WData}:SqL K H a xs→gY K H xs ds→Dw K H (.ref a) (.list ds)
  | tup {a:Addr} {xs:List V} {ds:List WData}:SqT K H a xs→gY K H xs ds→Dw K H (.ref a) (.tuple ds)
inductive gY (K:PySem.W.Frag) (H:Hp):List V→List WData→Prop
  | nil:gY K H [] []
  | cons {v:V} {vs:List V} {d:WData} {ds:List WData}:Dw K H v d→gY K H vs ds→gY K H (v :: vs) (d :: ds)
end
theorem uS {K:PySem.W.Frag} {H:Hp}:∀ ns:List Int,gY K H (ns.map V.int) (ns.map WData.int)
  | []=>.nil
  | n :: r=>.cons (.int n) (uS r)
theorem uQ {K:PySem.W.Frag} {H:Hp}:∀ (ns:List Int) (xs:List V),gY K H xs (ns.map WData.int)→xs=ns.map V.int
  | [],xs,h=>by
    cases h
    rfl
  | n :: r,xs,h=>by
    cases h with
    | cons h1 h2 =>
      cases h1
      rw [uQ r _ h2] <;> rfl
section
variable {P:Program} {w:World} {K:PySem.W.Frag} {H:Hp} {h:Heap} {R:PySem.W.WRecords} {cl:Str→Option Addr}
theorem sqL_at {a:Addr} {xs:List V} (hok:HOk P w H h) (KX:K.In h) (q:SqL K H a xs):∃ (its:List Value) (o:Obj) (n:Nat),Vals xs its∧h.get? a=some o∧o.cls=.type "list" ∧ o.data=.seq its.toArray n:=by
  rcases q with q | ⟨o,its,n,e,hc,_,hd,_,hv⟩
  · obtain ⟨_,its,n,hv,e⟩:=(show bM P w H h a (.lst xs) from q.ok hok)
    exact ⟨its,_,n,hv,e,rfl,rfl⟩
  · exact ⟨its.toList,o,n,hv,KX _ _ e,hc,by simp [hd]⟩
theorem sqT_at {a:Addr} {xs:List V} (hok:HOk P w H h) (KX:K.In h) (q:SqT K H a xs):∃ (its:List Value) (o:Obj) (n:Nat),Vals xs its∧h.get? a=some o∧o.cls=.type "tuple" ∧ o.data=.seq its.toArray n:=by
  rcases q with q | ⟨o,its,n,e,hc,hd,_,hv⟩
  · obtain ⟨_,its,hv,o,e,hc,n,hd⟩:=(show bM P w H h a (.tup xs) from q.ok hok)
    exact ⟨its,o,n,hv,e,hc,hd⟩
  · exact ⟨its.toList,o,n,hv,KX _ _ e,hc,by simp [hd]⟩
mutual
theorem Dw.reads (hok:HOk P w H h) (KX:K.In h):∀ (d:WData) (v:V) (u:Value),Dw K H v d→RelV v u→∃ as,ReadsW R cl h u d as
  | .none,_,_,x,r=>by
    cases x
    cases r
    exact ⟨_,ReadsW.none⟩
  | .bool b,_,_,x,r=>by
    cases x
    cases r
    exact ⟨_,ReadsW.bool b⟩
  | .int i,_,_,x,r=>by
    cases x
    obtain ⟨t,rfl⟩:=r
    exact ⟨_,ReadsW.int i t⟩
  | .str s,_,_,x,r=>by
    cases x
    obtain ⟨t,rfl⟩:=r
    exact ⟨_,ReadsW.str s t⟩
  | .bytes b,_,_,x,r=>by
    cases x
    obtain ⟨t,rfl⟩:=r
    exact ⟨_,ReadsW.bytes _ t⟩
  | .list ds,_,_,x,r=>by
    cases x with
    | lst hs ha =>
      cases r
      obtain ⟨its,o,n,rv,ho,hc,hd⟩:=sqL_at hok KX hs
      obtain ⟨as,hr⟩:=Dw.readsAll hok KX ds _ its ha rv
      exact ⟨_,ReadsW.list ho hc hd hr⟩
  | .tuple ds,_,_,x,r=>by
    cases x with
    | tup hs ha =>
      cases r
      obtain ⟨its,o,n,rv,ho,hc,hd⟩:=sqT_at hok KX hs
      obtain ⟨as,hr⟩:=Dw.readsAll hok KX ds _ its ha rv
      exact ⟨_,ReadsW.tuple ho hc hd hr⟩
  | .float _,_,_,x,_=>by cases x
  | .dict _,_,_,x,_=>by cases x
  | .bytearray _,_,_,x,_=>by cases x
  | .set _,_,_,x,_=>by cases x
  | .frozenset _,_,_,x,_=>by cases x
  | .obj _ _,_,_,x,_=>by cases x
theorem Dw.readsAll (hok:HOk P w H h) (KX:K.In h):∀ (ds:List WData) (vs:List V) (us:List Value),gY K H vs ds→Vals vs us→∃ as,ReadsAllW R cl h us ds as
  | [],_,_,x,r=>by
    cases x
    cases r
    exact ⟨_,ReadsAllW.nil⟩
  | d :: ds,_,_,x,r=>by
    cases x with
    | cons h1 h2 =>
      cases r with
      | cons r1 r2 =>
        obtain ⟨as,q1⟩:=Dw.reads hok KX d _ _ h1 r1
        obtain ⟨bs,q2⟩:=Dw.readsAll hok KX ds _ _ h2 r2
        exact ⟨_,ReadsAllW.cons q1 q2⟩
end
end
mutual
def plW:WData→Bool
  | .none=>true
  | .bool _=>true
  | .int _=>true
  | .str _=>true
  | .bytes _=>true
  | .list xs=>plWs xs
  | .tuple xs=>plWs xs
  | _=>false
def plWs:List WData→Bool
  | []=>true
  | x :: r=>plW x && plWs r
end
theorem qO {α:Type} {f:α→WData} (h:∀ a,plW (f a)=true):∀ l:List α,plWs (l.map f)=true
  | []=>rfl
  | x :: r=>by
    show (plW (f x) && plWs (r.map f))=true
    rw [h x,qO h r] <;> rfl
theorem ij:∀ (c:Codec) (a:c.denote),plW (c.enc a)=true
  | .unit,_=>rfl
  | .bool,_=>rfl
  | .int _ _,_=>rfl
  | .nat _ _,_=>rfl
  | .u8,_=>rfl
  | .bytes _ _,_=>rfl
  | .text _ _ _ _,_=>rfl
  | .list _ _ c,a=>qO (fun x=>ij c x) a
  | .pair c d,a=>by
    show (plW (c.enc a.1) && (plW (d.enc a.2) && true))=true
    rw [ij c a.1,ij d a.2] <;> rfl
  | .triple c d e,a=>by
    show (plW (c.enc a.1) && (plW (d.enc a.2.1) && (plW (e.enc a.2.2) && true)))=true
    rw [ij c a.1,ij d a.2.1,ij e a.2.2] <;> rfl
  | .option c,none=>rfl
  | .option c,some x=>ij c x
theorem oJ:∀ (cs:List Codec) (a:Codec.denoteAll cs),plWs (Codec.encAll cs a)=true
  | [],_=>rfl
  | c :: cs,a=>by
    show (plW (c.enc a.1) && plWs (Codec.encAll cs a.2))=true
    rw [ij c a.1,oJ cs a.2] <;> rfl
theorem jj:∀ {xs:List WData} {d:WData},d∈xs→d.weight≤WData.weightAll xs
  | [],d,h=>absurd h (by simp)
  | x :: r,d,h=>by
    show d.weight≤x.weight + 1 + WData.weightAll r
    rcases List.mem_cons.mp h with e | m
    · rw [e]
      omega
    · have z:=jj m
      omega
def toV:Value→V
  | .none=>.non
  | .bool b=>.bl b
  | .int i _=>.int i
  | .str x _=>.str x
  | .bytes b _=>.byt b
  | .ref a=>.ref a
  | _=>.non
def OkU (A:List Addr):Value→Prop
  | .none=>True
  | .bool _=>True
  | .int _ _=>True
  | .str _ _=>True
  | .bytes _ _=>True
  | .ref a=>a∈A
  | _=>False
theorem OkU.mono {A B:List Addr} (h:∀ a∈A,a∈B):∀ {u:Value},OkU A u→OkU B u:=fun {u} x=>by
  cases u with
  | ref a=>exact h a x
  | none=>trivial
  | bool b=>trivial
  | int i t=>trivial
  | str s t=>trivial
  | bytes b t=>trivial
  | _=>exact False.elim x
theorem w9 {A:List Addr} {u:Value} (x:OkU A u):RelV (toV u) u:=by
  cases u with
  | ref a=>rfl
  | none=>rfl
  | bool b=>rfl
  | int i t=>exact ⟨t,rfl⟩
  | str s t=>exact ⟨t,rfl⟩
  | bytes b t=>exact ⟨t,rfl⟩
  | _=>exact False.elim x
theorem f9 {A:List Addr}:∀ {vs:List Value},(∀ u∈vs,OkU A u)→Vals (vs.map toV) vs
  | [],_=>.nil
  | u :: r,h=>.cons (w9 (h u (List.mem_cons_self ..))) (f9 fun x hx=>h x (List.mem_cons_of_mem _ hx))
def gZ (h:Heap) (A:List Addr) (a:Addr):Prop:=∃ vs:List Value,vs.length≤sizeLine∧(∀ u∈vs,OkU A u) ∧
  (h.get? a=some { cls:=.type "list",data:=.seq vs.toArray }∨h.get? a=some { cls:=.type "tuple",data:=.seq vs.toArray })
theorem gZ.mono {h:Heap} {A B:List Addr} {a:Addr} (k:∀ a∈A,a∈B) (x:gZ h A a):gZ h B a:=by
  obtain ⟨vs,h1,h2,h3⟩:=x
  exact ⟨vs,h1,fun u hu=>(h2 u hu).mono k,h3⟩
theorem fh {P:Params} {h:Heap}:∀ {vs:List Value} {ds:List WData},WellAll P h vs ds→vs.length=ds.length
  | _,_,.nil=>rfl
  | _,_,.cons _ b=>by
    show _ + 1=_ + 1
    rw [fh b]
theorem ox {P:Params} {h:Heap} {v:Value} {ds:List WData} (x:Well P h v (.list ds)):∃ (a:Addr) (vs:List Value),v=.ref a∧h.get? a=some { cls:=.type "list",data:=.seq vs.toArray }∧WellAll P h vs ds:=by
  cases x with
  | list ho hall=>exact ⟨_,_,rfl,ho,hall⟩
theorem mj {P:Params} {h:Heap} {v:Value} {ds:List WData} (x:Well P h v (.tuple ds)):∃ (a:Addr) (vs:List Value),v=.ref a∧h.get? a=some { cls:=.type "tuple",data:=.seq vs.toArray }∧WellAll P h vs ds:=by
  cases x with
  | tuple ho hall=>exact ⟨_,_,rfl,ho,hall⟩
theorem oy {P:Params} {h:Heap} {us:List Value} {d:WData} {ds:List WData} (x:WellAll P h us (d :: ds)):∃ (v:Value) (vs:List Value),us=v :: vs∧Well P h v d∧WellAll P h vs ds:=by
  cases x with
  | cons a b=>exact ⟨_,_,rfl,a,b⟩
theorem line_of {n:Nat} (h:n≤1048576):n≤sizeLine:=Nat.le_trans h (by decide)
section
variable {P:Params} {h:Heap}
mutual
theorem yb:∀ (d:WData) (v:Value),Well P h v d→plW d=true→d.weight≤1048576→∃ A:List Addr,OkU A v∧∀ a∈A,gZ h A a
  | .none,_,x,_,_=>by
    cases x
    exact ⟨[],trivial,fun a m=>absurd m (by simp)⟩
  | .bool b,_,x,_,_=>by
    cases x
    exact ⟨[],trivial,fun a m=>absurd m (by simp)⟩
  | .int i,_,x,_,_=>by
    cases x
    exact ⟨[],trivial,fun a m=>absurd m (by simp)⟩
  | .str s,_,x,_,_=>by
    cases x
    exact ⟨[],trivial,fun a m=>absurd m (by simp)⟩
  | .bytes b,_,x,_,_=>by
    cases x
    exact ⟨[],trivial,fun a m=>absurd m (by simp)⟩
  | .list ds,_,x,p,z=>by
    obtain ⟨a,vs,rfl,ho,hall⟩:=ox x
    have z2:WData.weightAll ds≤1048576:=z
    obtain ⟨A,h1,h2⟩:=kF ds _ hall p fun d hd=>Nat.le_trans (jj hd) z2
    have k:∀ b∈A,b∈a :: A:=fun b hb=>List.mem_cons_of_mem _ hb
    refine ⟨a :: A,List.mem_cons_self ..,fun b hb=>?_⟩
    rcases List.mem_cons.mp hb with e | m
    · rw [e]
      exact ⟨vs,line_of (by rw [fh hall]; exact Nat.le_trans (PySem.W.length_le_weightAllW ds) z2),fun u hu=>(h1 u hu).mono k,.inl ho⟩
    · exact (h2 b m).mono k
  | .tuple ds,_,x,p,z=>by
    obtain ⟨a,vs,rfl,ho,hall⟩:=mj x
    have z2:WData.weightAll ds≤1048576:=z
    obtain ⟨A,h1,h2⟩:=kF ds _ hall p fun d hd=>Nat.le_trans (jj hd) z2
    have k:∀ b∈A,b∈a :: A:=fun b hb=>List.mem_cons_of_mem _ hb
    refine ⟨a :: A,List.mem_cons_self ..,fun b hb=>?_⟩
    rcases List.mem_cons.mp hb with e | m
    · rw [e]
      exact ⟨vs,line_of (by rw [fh hall]; exact Nat.le_trans (PySem.W.length_le_weightAllW ds) z2),fun u hu=>(h1 u hu).mono k,.inr ho⟩
    · exact (h2 b m).mono k
  | .float _,_,_,p,_=>Bool.noConfusion (show false=true from p)
  | .dict _,_,_,p,_=>Bool.noConfusion (show false=true from p)
  | .bytearray _,_,_,p,_=>Bool.noConfusion (show false=true from p)
  | .set _,_,_,p,_=>Bool.noConfusion (show false=true from p)
  | .frozenset _,_,_,p,_=>Bool.noConfusion (show false=true from p)
  | .obj _ _,_,_,p,_=>Bool.noConfusion (show false=true from p)
theorem kF:∀ (ds:List WData) (vs:List Value),WellAll P h vs ds→plWs ds=true→(∀ d∈ds,d.weight≤1048576)→∃ A:List Addr,(∀ u∈vs,OkU A u)∧∀ a∈A,gZ h A a
  | [],_,x,_,_=>by
    cases x
    exact ⟨[],fun u m=>absurd m (by simp),fun a m=>absurd m (by simp)⟩
  | d :: ds,_,x,p,z=>by
    obtain ⟨v,vs,rfl,x1,x2⟩:=oy x
    have q:plW d=true∧plWs ds=true:=Bool.and_eq_true_iff.mp p
    obtain ⟨A,a1,a2⟩:=yb d v x1 q.1 (z d (List.mem_cons_self ..))
    obtain ⟨B,b1,b2⟩:=kF ds vs x2 q.2 fun e he=>z e (List.mem_cons_of_mem _ he)
    have kA:∀ b∈A,b∈A++B:=fun b hb=>List.mem_append.mpr (.inl hb)
    have kB:∀ b∈B,b∈A++B:=fun b hb=>List.mem_append.mpr (.inr hb)
    refine ⟨A++B,fun u hu=>?_,fun b hb=>?_⟩
    · rcases List.mem_cons.mp hu with e | m
      · rw [e]
        exact a1.mono kA
      · exact (b1 u m).mono kB
    · rcases List.mem_append.mp hb with m | m
      · exact (a2 b m).mono kA
      · exact (b2 b m).mono kB
end
end
def hoOf (o:Obj):Option HO:=match o.data with
  | .seq vs _=>if (o.cls == Value.type "list")=true then some (.frz o (.lst (vs.toList.map toV))) else some (.frz o (.tup (vs.toList.map toV)))
  | _=>none
def argH (K:PySem.W.Frag) (h:Heap) (A:List Addr):Hp:=fun b=>if b∈A then (if (K.lookup b).isNone=true then (h.get? b).bind hoOf else none) else none
def nT (H:Hp):Prop:=∀ b,H b=none∨∃ o u,H b=some (.frz o u)
theorem rL (vs:List Value):hoOf { cls:=.type "list",data:=.seq vs.toArray }=some (.frz { cls:=.type "list",data:=.seq vs.toArray } (.lst (vs.map toV))):=by
  show (if (Value.type "list" == Value.type "list")=true then some (HO.frz { cls:=.type "list",data:=.seq vs.toArray } (.lst (vs.toArray.toList.map toV))) else some (HO.frz { cls:=.type "list",data:=.seq vs.toArray } (.tup (vs.toArray.toList.map toV))))=_
  rw [if_pos (beq_self_eq_true _)]
theorem rK (vs:List Value):hoOf { cls:=.type "tuple",data:=.seq vs.toArray }=some (.frz { cls:=.type "tuple",data:=.seq vs.toArray } (.tup (vs.map toV))):=by
  show (if (Value.type "tuple" == Value.type "list")=true then some (HO.frz { cls:=.type "tuple",data:=.seq vs.toArray } (.lst (vs.toArray.toList.map toV))) else some (HO.frz { cls:=.type "tuple",data:=.seq vs.toArray } (.tup (vs.toArray.toList.map toV))))=_
  rw [if_neg (by decide)]
section
variable {P:Program} {w:World} {K:PySem.W.Frag} {h:Heap} {A:List Addr}
theorem mh {b:Addr} {o:Obj} (hb:b∈A) (hk:K.lookup b=none) (e:h.get? b=some o):argH K h A b=hoOf o:=by
  unfold argH
  rw [if_pos hb,hk,if_pos (show (none:Option Obj).isNone=true from rfl),e] <;> rfl
theorem yO {b:Addr} {u:HO} (q:argH K h A b=some u):b∈A∧K.lookup b=none:=by
  unfold argH at q
  by_cases hb:b∈A
  · rw [if_pos hb] at q
    cases hk:K.lookup b with
    | none=>exact ⟨hb,rfl⟩
    | some o =>
      rw [hk,if_neg (by simp)] at q
      cases q
  · rw [if_neg hb] at q
    cases q
theorem mf (ar:∀ a∈A,gZ h A a) {b:Addr} {u:HO} (q:argH K h A b=some u):K.lookup b=none∧∃ vs:List Value,vs.length≤sizeLine∧(∀ u∈vs,OkU A u) ∧
    ((h.get? b=some { cls:=.type "list",data:=.seq vs.toArray }∧u=.frz { cls:=.type "list",data:=.seq vs.toArray } (.lst (vs.map toV))) ∨
     (h.get? b=some { cls:=.type "tuple",data:=.seq vs.toArray }∧u=.frz { cls:=.type "tuple",data:=.seq vs.toArray } (.tup (vs.map toV)))):=by
  obtain ⟨hb,hk⟩:=yO q
  obtain ⟨vs,h1,h2,h3⟩:=ar b hb
  refine ⟨hk,vs,h1,h2,?_⟩
  rcases h3 with e | e
  · rw [mh hb hk e,rL] at q
    exact .inl ⟨e,(Option.some.inj q).symm⟩
  · rw [mh hb hk e,rK] at q
    exact .inr ⟨e,(Option.some.inj q).symm⟩
theorem wo (ar:∀ a∈A,gZ h A a):nT (argH K h A):=fun b=>by
  cases q:argH K h A b with
  | none=>exact .inl rfl
  | some u =>
    obtain ⟨_,vs,_,_,⟨_,e⟩ | ⟨_,e⟩⟩:=mf ar q
    · exact .inr ⟨_,_,by rw [e]⟩
    · exact .inr ⟨_,_,by rw [e]⟩
theorem zf (ar:∀ a∈A,gZ h A a):HOk P w (argH K h A) h:=fun b u q=>by
  obtain ⟨_,vs,h1,h2,⟨e,rfl⟩ | ⟨e,rfl⟩⟩:=mf ar q
  · exact ⟨e,by rw [List.length_map]; exact h1,vs,_,f9 h2,e⟩
  · exact ⟨e,by rw [List.length_map]; exact h1,vs,f9 h2,_,e,rfl,_,rfl⟩
theorem l6 {c c':Value} {vs us:List Value} (e:(some { cls:=c,data:=.seq vs.toArray }:Option Obj)=some { cls:=c',data:=.seq us.toArray }):c=c'∧vs=us:=by
  have e1:=Option.some.inj e
  have e2:c=c':=congrArg Obj.cls e1
  have e3:Data.seq vs.toArray=Data.seq us.toArray:=congrArg Obj.data e1
  injection e3 with e4
  refine ⟨e2,?_⟩
  have e5:=congrArg Array.toList e4
  simpa using e5
theorem argL (KX:K.In h) (ar:∀ a∈A,gZ h A a) {a:Addr} {vs:List Value} (ha:a∈A) (e:h.get? a=some { cls:=.type "list",data:=.seq vs.toArray }):(∀ u∈vs,OkU A u)∧SqL K (argH K h A) a (vs.map toV):=by
  obtain ⟨us,h1,h2,h3⟩:=ar a ha
  have hu:us=vs:=by
    rcases h3 with q | q
    · rw [e] at q
      exact (l6 q).2.symm
    · rw [e] at q
      exact absurd (Value.type.inj (l6 q).1) (by decide)
  subst hu
  refine ⟨h2,?_⟩
  cases hk:K.lookup a with
  | none=>exact .inl (.inr ⟨_,by rw [mh ha hk e,rL]⟩)
  | some o =>
    have e2:=KX a o hk
    rw [e] at e2
    obtain rfl:=Option.some.inj e2
    exact .inr ⟨_,us.toArray,_,hk,rfl,rfl,rfl,by rw [List.size_toArray]; exact h1,by simpa using f9 h2⟩
theorem argT (KX:K.In h) (ar:∀ a∈A,gZ h A a) {a:Addr} {vs:List Value} (ha:a∈A) (e:h.get? a=some { cls:=.type "tuple",data:=.seq vs.toArray }):(∀ u∈vs,OkU A u)∧SqT K (argH K h A) a (vs.map toV):=by
  obtain ⟨us,h1,h2,h3⟩:=ar a ha
  have hu:us=vs:=by
    rcases h3 with q | q
    · rw [e] at q
      exact absurd (Value.type.inj (l6 q).1) (by decide)
    · rw [e] at q
      exact (l6 q).2.symm
  subst hu
  refine ⟨h2,?_⟩
  cases hk:K.lookup a with
  | none=>exact .inl (.inr ⟨_,by rw [mh ha hk e,rK]⟩)
  | some o =>
    have e2:=KX a o hk
    rw [e] at e2
    obtain rfl:=Option.some.inj e2
    exact .inr ⟨_,us.toArray,_,hk,rfl,rfl,by rw [List.size_toArray]; exact h1,by simpa using f9 h2⟩
mutual
theorem dw_one {Pm:Params} (KX:K.In h) (ar:∀ a∈A,gZ h A a):∀ (d:WData) (v:Value),Well Pm h v d→plW d=true→OkU A v→Dw K (argH K h A) (toV v) d
  | .none,_,x,_,_=>by
    cases x
    exact .non
  | .bool b,_,x,_,_=>by
    cases x
    exact .bl b
  | .int i,_,x,_,_=>by
    cases x
    exact .int i
  | .str s,_,x,_,_=>by
    cases x
    exact .str s
  | .bytes b,_,x,_,_=>by
    cases x
    have z:=Dw.byt (K:=K) (H:=argH K h A) b.toArray
    exact z
  | .list ds,_,x,p,hu=>by
    obtain ⟨a,vs,rfl,ho,hall⟩:=ox x
    obtain ⟨h2,hs⟩:=argL KX ar hu ho
    exact .lst hs (p4 KX ar ds _ hall p h2)
  | .tuple ds,_,x,p,hu=>by
    obtain ⟨a,vs,rfl,ho,hall⟩:=mj x
    obtain ⟨h2,hs⟩:=argT KX ar hu ho
    exact .tup hs (p4 KX ar ds _ hall p h2)
  | .float _,_,_,p,_=>Bool.noConfusion (show false=true from p)
  | .dict _,_,_,p,_=>Bool.noConfusion (show false=true from p)
  | .bytearray _,_,_,p,_=>Bool.noConfusion (show false=true from p)
  | .set _,_,_,p,_=>Bool.noConfusion (show false=true from p)
  | .frozenset _,_,_,p,_=>Bool.noConfusion (show false=true from p)
  | .obj _ _,_,_,p,_=>Bool.noConfusion (show false=true from p)
theorem p4 {Pm:Params} (KX:K.In h) (ar:∀ a∈A,gZ h A a):∀ (ds:List WData) (vs:List Value),WellAll Pm h vs ds→plWs ds=true→(∀ u∈vs,OkU A u)→gY K (argH K h A) (vs.map toV) ds
  | [],_,x,_,_=>by
    cases x
    exact .nil
  | d :: ds,_,x,p,hu=>by
    obtain ⟨v,vs,rfl,x1,x2⟩:=oy x
    have q:plW d=true∧plWs ds=true:=Bool.and_eq_true_iff.mp p
    exact .cons (dw_one KX ar d v x1 q.1 (hu _ (List.mem_cons_self ..))) (p4 KX ar ds vs x2 q.2 fun u m=>hu u (List.mem_cons_of_mem _ m))
end
end
theorem vq {P:Program} {w:World} {K:PySem.W.Frag} {mg mb:Str→Option Value} {CX:CXT} {k:Nat} {fa:Addr} {fd:FuncData} {ps:List Str} {sp:Sp} {s₁:Shared} {vals:List Value} {ds:List WData} {R:PySem.W.WRecords} {cl:Str→Option Addr} {d0:WData}
    (KX:K.In s₁.heap) (hns:s₁.heap.Ns mainGlobals mg) (hb:s₁.heap.Ns builtinsNs mb) (hbb:∀ x:Str,x ≠ "__name__" → mb x=bootBuiltins x) (hlim:s₁.heap.NoLimit) (hg:s₁.gens=#[])
    (hwl:WellAll w.params s₁.heap vals ds) (hpl:plWs ds=true) (hwt:∀ d∈ds,d.weight≤1048576) (hr:Room k callerA)
    (F:∀ base:Heap,K.In base→base.Ns mainGlobals mg→FnOk P w K mg base CX k fa fd ps sp) (hbind:∀ (s:Shared) (us:List Value),us.length=ps.length→BindsTo s fd ⟨us,[]⟩ (ps.zip us)) (hlen:ds.length=ps.length)
    (hsp:∀ (H:Hp) (xs:List V),nT H→gY K H xs ds→sp xs H (fun v H'=>Dw K H' v d0) fun _ _ _=>False)
    (hCX:∀ H e s',CX [] H s₁ (fun _ _ _=>False) e s'→False) :
    codeAny (model P w) callerA (.call (.ref fa) ⟨vals,[]⟩) (fun r s'=>∃ u as,r=.ok (.ret u)∧ReadsW R cl s'.heap u d0 as∧OldK s₁.heap s'.heap∧s'.os=s₁.os∧AllBare s'.gens) s₁:=by
  obtain ⟨A,ho,ar⟩:=kF ds vals hwl hpl hwt
  have hO:nT (argH K s₁.heap A):=wo ar
  have hok:HOk P w (argH K s₁.heap A) s₁.heap:=zf ar
  have hS:=p4 KX ar ds vals hwl hpl ho
  have hV:=f9 ho
  have hK:∀ b u,argH K s₁.heap A b=some u→K.lookup b=none:=fun b u q=>(mf ar q).1
  have noA:∀ {b:Addr} {o:Obj} {es:Array DictEntry} {ep:Nat},s₁.heap.get? b=some o→o.data=.dict es ep→argH K s₁.heap A b=none:=fun {b o es ep} e d=>by
    cases q:argH K s₁.heap A b with
    | none=>rfl
    | some u =>
      obtain ⟨_,vs,_,_,⟨e2,_⟩ | ⟨e2,_⟩⟩:=mf ar q
      · rw [e2] at e
        cases e
        have d':Data.seq vs.toArray _=Data.dict es ep:=d
        cases d'
      · rw [e2] at e
        cases e
        have d':Data.seq vs.toArray _=Data.dict es ep:=d
        cases d'
  generalize argH K s₁.heap A=H at hO hok hS hK noA
  have base_of:∀ {b:Addr} {o:Obj},s₁.heap.get? b=some o→H b=none→(hidT s₁.heap H).get? b=some o:=fun e n=>xT e n
  have nsK:∀ {b:Addr} {m:Str→Option Value},s₁.heap.Ns b m→(hidT s₁.heap H).Ns b m:=fun {b m} ⟨o,es,ep,e,d,r⟩=>⟨o,es,ep,base_of e (noA e d),d,r⟩
  have nK:∀ b o,K.lookup b=some o→H b=none:=fun b o e=>by
    cases q:H b with
    | none=>rfl
    | some u =>
      rw [hK b u q] at e
      cases e
  have hKb:K.In (hidT s₁.heap H):=fun b o e=>base_of (KX b o e) (nK b o e)
  have hM:Mod K mg (hidT s₁.heap H):=⟨hKb,nsK hns,⟨mb,nsK hb,hbb⟩,let ⟨mc,h1,h2⟩:=hlim; ⟨mc,nsK h1,h2⟩⟩
  have e0:Env0 P w K mg (hidT s₁.heap H) callerA [] s₁ H:=⟨rfl,hM,fun b o e=>yN e,Nat.le_of_eq (vS _ _),trivial,fun b hb=>absurd (show b∈([]:List Addr) from hb) (by simp),hok,.of_eq hg⟩
  have hl:vals.length=ps.length:=by rw [fh hwl]; exact hlen
  refine codeAny_mono ((F _ hKb (nsK hns)).run callerA [] s₁ H ⟨vals,[]⟩ vals (vals.map toV) _ _ hr e0 (hbind s₁ vals hl) hV (hsp H _ hO hS)) fun r s' x=>?_
  cases r with
  | error e=>exact (hCX H e s' x).elim
  | ok fl =>
    cases fl with
    | next=>exact False.elim x
    | brk=>exact False.elim x
    | cont=>exact False.elim x
    | ret u =>
      obtain ⟨v,H',os,bare,un,hok',r',q⟩:=x
      have kept:∀ b o,s₁.heap.get? b=some o→s'.heap.get? b=some o:=fun b o e=>by
        cases q2:H b with
        | none=>exact un.keep b o e q2 (by intro z; exact absurd (show b∈([]:List Addr) from z) (by simp)) (by simp)
        | some u2 =>
          rcases hO b with z | ⟨ob,u3,z⟩
          · rw [q2] at z
            cases z
          · have z2:=un.frzs b ob _ z
            obtain ⟨e1,_⟩:=hok b _ z
            obtain ⟨e2,_⟩:=hok' b _ z2
            rw [e] at e1
            cases e1
            exact e2
      have KX':K.In s'.heap:=fun b o e=>kept b o (KX b o e)
      obtain ⟨as,hrd⟩:=Dw.reads (R:=R) (cl:=cl) hok' KX' d0 v u q r'
      exact ⟨u,as,rfl,hrd,OldK.of_keep kept,os,bare⟩
theorem np {ds:List WData} (h:WData.layableAll ds=true):∀ d∈ds,d.weight≤1048576:=fun d hd =>
  (PySem.W.layableW_iff.mp (List.all_eq_true.mp h d hd)).2.2
theorem nz:∀ (cs:List Codec) (a:Codec.denoteAll cs),(Codec.encAll cs a).length=cs.length
  | [],_=>rfl
  | c :: cs,a=>by
    show (Codec.encAll cs a.2).length + 1=cs.length + 1
    rw [nz cs a.2]
theorem vf {r:OpenSpec} {k:Nat} {q:Program} {loose:List Str} {XP:(Str→Option Value)→Heap→Prop} {YP:World→Heap→Prop} {d:DefRec} {K:Params→PySem.W.Frag} {CX:World→CXT} {ps:List Str} {sp:World→Sp}
    (hwell:r.wellSaid=true) (hdf:d.params.defaults=[]) (hlen:r.args.length=ps.length) (hr:Room k callerA)
    (hY:∀ (w:World) (h:Heap),YP w h→(K w.params).In h)
    (F:∀ (w:World) (mg:Str→Option Value) (fa:Addr) (h:Heap),YP w h→(K w.params).In h→h.Ns mainGlobals mg→mg d.name=some (.ref fa) →
      ∃ fd:FuncData,(∀ (s:Shared) (us:List Value),us.length=ps.length→BindsTo s fd ⟨us,[]⟩ (ps.zip us)) ∧
        ∀ base:Heap,(K w.params).In base→base.Ns mainGlobals mg→FnOk r.prog w (K w.params) mg base (CX w) k fa fd ps (sp w))
    (hsp:∀ (w:World) (H:Hp) (xs:List V) (a:Codec.denoteAll r.args),nT H→Codec.withinAll r.args a=true→Codec.app r.args r.asked a=true→gY (K w.params) H xs (Codec.encAll r.args a) →
      sp w xs H (fun v H'=>Dw (K w.params) H' v (r.ret.enc (Codec.app r.args r.f a))) fun _ _ _=>False)
    (hCX:∀ (w:World) (H:Hp) (s:Shared) (e:Value) (s':Shared),CX w [] H s (fun _ _ _=>False) e s'→False) :
    PySem.W.WalkOS q loose XP YP r d [] (fun f vs=>PySem.call f vs):=by
  intro w s_0 s₁ mg mb G Y fa o pm cd doc dV kV ho hd hcd hD hmg hg args vals as hpre hlay hrd hwl hlo
  obtain ⟨a,e1,e2⟩:=PySem.W.os_pre_some hpre
  obtain ⟨e3,hwi⟩:=Codec.encAll_of_decAll r.args args a e1
  subst e3
  have KX:=hY w _ Y
  obtain ⟨fd,hb,hF⟩:=F w mg fa _ Y KX G.T.g hmg
  refine PySem.W.enter_call (codeAny_mono (vq (R:=[]) (cl:=classAt s_0.heap) (d0:=r.ret.enc (Codec.app r.args r.f a)) KX G.T.g G.T.b G.T.builtins G.T.nolimit hg hwl (oJ _ _) (np hlay) hr hF hb (by rw [nz]; exact hlen)
    (fun H xs hO hS=>hsp w H xs a hO hwi e2 hS) fun H e s'=>hCX w H s₁ e s') fun r' s' hq=>?_)
  obtain ⟨u,as',rfl,h1,h2,h3,h4⟩:=hq
  exact ⟨.inl ⟨u,_,as',rfl,fun _=>rfl,h1,(OpenSpec.post_iff hwell hwi _ _).mpr rfl,fun z=>Bool.noConfusion (show false=true from z)⟩,h2,h3,h4⟩
theorem sC {r:OpenSpec} {k:Nat} {q:Program} {loose:List Str} {XP:(Str→Option Value)→Heap→Prop} {YP:World→Heap→Prop} {d:DefRec} {K:Params→PySem.W.Frag} {CX:CXT} {ps:List Str} {sp:PySem.W.Frag→Sp}
    (hwell:r.wellSaid=true) (hdf:d.params.defaults=[]) (hlen:r.args.length=ps.length) (hr:Room k callerA)
    (hY:∀ (w:World) (h:Heap),YP w h→(K w.params).In h)
    (F:∀ (w:World) (mg:Str→Option Value) (fa:Addr) (h:Heap),YP w h→(K w.params).In h→h.Ns mainGlobals mg→mg d.name=some (.ref fa) →
      ∃ fd:FuncData,(∀ (s:Shared) (us:List Value),us.length=ps.length→BindsTo s fd ⟨us,[]⟩ (ps.zip us)) ∧
        ∀ base:Heap,(K w.params).In base→base.Ns mainGlobals mg→FnOk r.prog w (K w.params) mg base CX k fa fd ps (sp (K w.params)))
    (hsp:∀ (K:PySem.W.Frag) (H:Hp) (xs:List V) (a:Codec.denoteAll r.args),nT H→Codec.withinAll r.args a=true→Codec.app r.args r.asked a=true→gY K H xs (Codec.encAll r.args a) →
      sp K xs H (fun v H'=>Dw K H' v (r.ret.enc (Codec.app r.args r.f a))) fun _ _ _=>False)
    (hCX:∀ (H:Hp) (s:Shared) (e:Value) (s':Shared),CX [] H s (fun _ _ _=>False) e s'→False) :
    PySem.W.WalkOS q loose XP YP r d [] (fun f vs=>PySem.call f vs) :=
  vf (K:=K) (CX:=fun _=>CX) (sp:=fun w=>sp (K w.params)) hwell hdf hlen hr hY F (fun w H xs a h1 h2 h3 h4=>hsp (K w.params) H xs a h1 h2 h3 h4) fun _ H s e s'=>hCX H s e s'
end L2
end
namespace CN
open Vbiraa (Q mk whole)
theorem gL {n d:Nat} (h:0 < d):mk n d={ n:=n / Nat.gcd n d,d:=d / Nat.gcd n d }:=by
  unfold mk
  rw [if_neg (by omega)]
theorem rz {k n d:Nat} (hk:0 < k) (h:0 < d):mk (k * n) (k * d)=mk n d:=by
  rw [gL (Nat.mul_pos hk h),gL h,Nat.gcd_mul_left,Nat.mul_div_mul_left _ _ hk,Nat.mul_div_mul_left _ _ hk]
theorem gM {a b c d:Nat} (hb:0 < b) (hd:0 < d) (e:a * d=c * b):mk a b=mk c d:=by
  rw [←rz (n:=a) (d:=b) hd hb,←rz (n:=c) (d:=d) hb hd,Nat.mul_comm d a,e,Nat.mul_comm c b,Nat.mul_comm d b]
theorem d8 {n d:Nat} (h:0 < d):0 < (mk n d).d:=by
  rw [gL h]
  exact Nat.div_pos (Nat.le_of_dvd h (Nat.gcd_dvd_right n d)) (Nat.gcd_pos_of_pos_right n h)
theorem b9 {n d:Nat} (h:0 < d):(mk n d).n * d=n * (mk n d).d:=by
  rw [gL h]
  show n / Nat.gcd n d * d=n * (d / Nat.gcd n d)
  have h1:=Nat.div_mul_cancel (Nat.gcd_dvd_left n d)
  have h2:=Nat.div_mul_cancel (Nat.gcd_dvd_right n d)
  calc n / Nat.gcd n d * d=n / Nat.gcd n d * (d / Nat.gcd n d * Nat.gcd n d):=by rw [h2]
    _=(n / Nat.gcd n d * Nat.gcd n d) * (d / Nat.gcd n d):=by rw [Nat.mul_comm (d / _) _,←Nat.mul_assoc]
    _=_:=by rw [h1]
theorem mk_cop {n d:Nat} (h:0 < d):Nat.Coprime (mk n d).n (mk n d).d:=by
  rw [gL h]
  exact Nat.coprime_div_gcd_div_gcd (Nat.gcd_pos_of_pos_right n h)
theorem uE {n d:Nat} (h:0 < d) (c:Nat.Coprime n d):mk n d=⟨n,d⟩:=by
  rw [gL h,c.gcd_eq_one,Nat.div_one,Nat.div_one]
theorem jQ (n:Nat):whole n=mk n 1:=(uE (by decide) (Nat.coprime_one_right n)).symm
theorem fu {d:Nat} (h:0 < d):mk 0 d=whole 0:=by
  rw [jQ]
  exact gM h (by decide) (by simp)
theorem g6 {n d:Nat} (h:0 < d):whole n=mk (n * d) d:=by
  rw [jQ]
  exact gM (by decide) h (by simp)
theorem uh {a b c d:Nat} (hb:0 < b) (hd:0 < d):Vbiraa.add (mk a b) (mk c d)=mk (a * d + c * b) (b * d):=by
  have e1:=b9 (n:=a) hb
  have e2:=b9 (n:=c) hd
  have p1:=d8 (n:=a) hb
  have p2:=d8 (n:=c) hd
  unfold Vbiraa.add
  refine gM (Nat.mul_pos p1 p2) (Nat.mul_pos hb hd) ?_
  generalize (mk a b).n=n1 at *
  generalize (mk a b).d=d1 at *
  generalize (mk c d).n=n2 at *
  generalize (mk c d).d=d2 at *
  grind
theorem mul_mk {a b c d:Nat} (hb:0 < b) (hd:0 < d):Vbiraa.mul (mk a b) (mk c d)=mk (a * c) (b * d):=by
  have e1:=b9 (n:=a) hb
  have e2:=b9 (n:=c) hd
  have p1:=d8 (n:=a) hb
  have p2:=d8 (n:=c) hd
  unfold Vbiraa.mul
  refine gM (Nat.mul_pos p1 p2) (Nat.mul_pos hb hd) ?_
  generalize (mk a b).n=n1 at *
  generalize (mk a b).d=d1 at *
  generalize (mk c d).n=n2 at *
  generalize (mk c d).d=d2 at *
  grind
theorem x5 {a b c d n1 d1 n2 d2:Nat} (hb:0 < b) (hd:0 < d) (p1:0 < d1) (p2:0 < d2) (e1:n1 * b=a * d1) (e2:n2 * d=c * d2):n1 * d2≤n2 * d1↔a * d≤c * b:=by
  have l:(n1 * d2) * (b * d)=(a * d) * (d1 * d2):=by grind
  have r:(n2 * d1) * (b * d)=(c * b) * (d1 * d2):=by grind
  constructor
  · intro h
    have:=Nat.mul_le_mul_right (b * d) h
    rw [l,r] at this
    exact Nat.le_of_mul_le_mul_right this (Nat.mul_pos p1 p2)
  · intro h
    have:=Nat.mul_le_mul_right (d1 * d2) h
    rw [←l,←r] at this
    exact Nat.le_of_mul_le_mul_right this (Nat.mul_pos hb hd)
theorem le_mk {a b c d:Nat} (hb:0 < b) (hd:0 < d):Vbiraa.le (mk a b) (mk c d)=decide (a * d≤c * b):=by
  unfold Vbiraa.le
  exact decide_eq_decide.mpr (x5 hb hd (d8 hb) (d8 hd) (b9 hb) (b9 hd))
theorem yV {a b c d:Nat} (hb:0 < b) (hd:0 < d):Vbiraa.less (mk a b) (mk c d)=mk (a * d - c * b) (b * d):=by
  have e1:=b9 (n:=a) hb
  have e2:=b9 (n:=c) hd
  have p1:=d8 (n:=a) hb
  have p2:=d8 (n:=c) hd
  unfold Vbiraa.less
  refine gM (Nat.mul_pos p1 p2) (Nat.mul_pos hb hd) ?_
  generalize (mk a b).n=n1 at *
  generalize (mk a b).d=d1 at *
  generalize (mk c d).n=n2 at *
  generalize (mk c d).d=d2 at *
  rw [Nat.sub_mul,Nat.sub_mul]
  have l:(n1 * d2) * (b * d)=(a * d) * (d1 * d2):=by grind
  have r:(n2 * d1) * (b * d)=(c * b) * (d1 * d2):=by grind
  rw [l,r]
theorem k8 {a b:Nat} (hb:0 < b):(mk a b).n=0↔a=0:=by
  have e:=b9 (n:=a) hb
  have p:=d8 (n:=a) hb
  constructor
  · intro h
    rw [h,Nat.zero_mul] at e
    rcases Nat.mul_eq_zero.mp e.symm with h | h
    · exact h
    · omega
  · intro h
    rw [h,Nat.zero_mul] at e
    subst h
    rcases Nat.mul_eq_zero.mp e with h | h
    · exact h
    · omega
theorem uz {a b c d:Nat} (hb:0 < b) (hd:0 < d) (hc:0 < c):Vbiraa.over (mk a b) (mk c d)=mk (a * d) (b * c):=by
  have e1:=b9 (n:=a) hb
  have e2:=b9 (n:=c) hd
  have p1:=d8 (n:=a) hb
  have p2:=d8 (n:=c) hd
  have z:¬ (mk c d).n=0:=fun h=>by
    have:=(k8 hd).mp h
    omega
  unfold Vbiraa.over
  rw [if_neg z]
  refine gM (Nat.mul_pos p1 (by omega)) (Nat.mul_pos hb hc) ?_
  generalize (mk a b).n=n1 at *
  generalize (mk a b).d=d1 at *
  generalize (mk c d).n=n2 at *
  generalize (mk c d).d=d2 at *
  grind
section
variable {x y D:Nat}
theorem addD (h:0 < D):Vbiraa.add (mk x D) (mk y D)=mk (x + y) D:=by
  rw [uh h h]
  exact gM (Nat.mul_pos h h) h (by grind)
theorem leD (h:0 < D):Vbiraa.le (mk x D) (mk y D)=decide (x≤y):=by
  rw [le_mk h h]
  exact decide_eq_decide.mpr ⟨fun q=>Nat.le_of_mul_le_mul_right q h,fun q=>Nat.mul_le_mul_right D q⟩
theorem leastD (h:0 < D):Vbiraa.least (mk x D) (mk y D)=mk (min x y) D:=by
  unfold Vbiraa.least
  rw [leD h]
  by_cases e:x≤y
  · rw [if_pos (by simpa using e),Nat.min_eq_left e]
  · rw [if_neg (by simpa using e),Nat.min_eq_right (by omega)]
theorem xK (h:0 < D):Vbiraa.less (mk x D) (mk y D)=mk (x - y) D:=by
  rw [yV h h]
  refine gM (Nat.mul_pos h h) h ?_
  rw [←Nat.sub_mul,Nat.mul_assoc]
theorem mulD (h:0 < D) {p:Nat} (e:100∣x * p):Vbiraa.mul (mk x D) (mk p 100)=mk (x * p / 100) D:=by
  rw [mul_mk h (by decide)]
  obtain ⟨k,hk⟩:=e
  rw [hk,Nat.mul_div_cancel_left k (by decide)]
  exact gM (Nat.mul_pos h (by decide)) h (by grind)
theorem uk (h:0 < D):∀ (l:List Nat) (a:Nat),(l.map fun x=>mk x D).foldl Vbiraa.add (mk a D)=mk (a + l.sum) D
  | [],a=>by simp
  | x :: l,a=>by
    rw [List.map_cons,List.foldl_cons,addD h,uk h l,List.sum_cons,Nat.add_assoc]
theorem sumQD (h:0 < D) (l:List Nat):Vbiraa.sumQ (l.map fun x=>mk x D)=mk l.sum D:=by
  unfold Vbiraa.sumQ
  rw [←fu h,uk h,Nat.zero_add]
end
end CN
namespace CN
open Vbiraa (Bytes isDigit isSmall partsOf wordsOf linesOf)
theorem cA (c:Nat):∀ l:Bytes,partsOf c l≠[]
  | []=>by simp [partsOf]
  | x :: l=>by
    unfold partsOf
    split
    · simp
    · split <;> simp
def pre (cur:Bytes):List Bytes→List Bytes
  | []=>[cur]
  | w :: r=>(cur++w) :: r
theorem j2 {P:List Bytes} (h:P≠[]):pre [] P=P:=by
  cases P with
  | nil=>exact absurd rfl h
  | cons w r=>rfl
theorem lC (c:Nat) (l:Bytes):partsOf c (c :: l)=[] :: partsOf c l:=by
  rw [partsOf,if_pos rfl]
theorem qN {c x:Nat} (h:x≠c) (cur l:Bytes):pre cur (partsOf c (x :: l))=pre (cur++[x]) (partsOf c l):=by
  rw [partsOf,if_neg h]
  cases e:partsOf c l with
  | nil=>exact absurd e (cA c l)
  | cons w r =>
    show (cur++(x :: w)) :: r=((cur++[x])++w) :: r
    rw [List.append_assoc]
    rfl
def bN (b:List Bytes × Bytes) (x:Nat):List Bytes × Bytes:=if x=32 then (if b.2=[] then b else (b.1++[b.2],[])) else (b.1,b.2++[x])
theorem jP:∀ (l:Bytes) (acc:List Bytes) (cur:Bytes),(l++[32]).foldl bN (acc,cur)=(acc++(pre cur (partsOf 32 l)).filter (fun w=>!w.isEmpty),[])
  | [],acc,cur=>by
    show bN (acc,cur) 32=(acc++[cur++[]].filter _,[])
    unfold bN
    rw [if_pos rfl,List.append_nil]
    by_cases h:cur=[]
    · subst h
      simp
    · rw [if_neg h,List.filter_cons,if_pos (by cases cur with | nil=>exact absurd rfl h | cons _ _=>rfl)]
      rfl
  | x :: l,acc,cur=>by
    rw [List.cons_append,List.foldl_cons]
    by_cases hx:x=32
    · subst hx
      rw [lC]
      show List.foldl bN (bN (acc,cur) 32) (l++[32])=(acc++((cur++[]) :: partsOf 32 l).filter _,[])
      rw [List.append_nil,List.filter_cons]
      unfold bN
      rw [if_pos rfl]
      by_cases h:cur=[]
      · subst h
        rw [if_pos rfl,if_neg (by simp)]
        have:=jP l acc []
        unfold bN at this
        rw [this,j2 (cA 32 l)]
      · rw [if_neg h,if_pos (by cases cur with | nil=>exact absurd rfl h | cons _ _=>rfl)]
        have:=jP l (acc++[cur]) []
        unfold bN at this
        rw [this,j2 (cA 32 l),List.append_assoc]
        rfl
    · rw [qN hx]
      have e:bN (acc,cur) x=(acc,cur++[x]):=by
        unfold bN
        rw [if_neg hx]
      rw [e]
      exact jP l acc (cur++[x])
theorem wu (l:Bytes):(l++[32]).foldl bN ([],[])=(wordsOf l,[]):=by
  rw [jP,j2 (cA 32 l),List.nil_append]
  rfl
def cO (b:List Bytes × Bytes) (x:Nat):List Bytes × Bytes:=if x=10 then (b.1++[b.2],[]) else (b.1,b.2++[x])
theorem ng:∀ (l:Bytes) (acc:List Bytes) (cur:Bytes),(l.foldl cO (acc,cur)).1++[(l.foldl cO (acc,cur)).2]=acc++pre cur (partsOf 10 l)
  | [],acc,cur=>by
    show acc++[cur]=acc++[cur++[]]
    rw [List.append_nil]
  | x :: l,acc,cur=>by
    rw [List.foldl_cons]
    by_cases hx:x=10
    · subst hx
      have e:cO (acc,cur) 10=(acc++[cur],[]):=by
        unfold cO
        rw [if_pos rfl]
      rw [e,ng l,lC,j2 (cA 10 l)]
      show _=acc++((cur++[]) :: partsOf 10 l)
      rw [List.append_nil,List.append_assoc]
      rfl
    · have e:cO (acc,cur) x=(acc,cur++[x]):=by
        unfold cO
        rw [if_neg hx]
      rw [e,ng l,qN hx]
def lEnd (b:List Bytes × Bytes):List Bytes:=if b.2=[] then b.1 else b.1++[b.2]
theorem xI (l:Bytes):lEnd (l.foldl cO ([],[]))=linesOf l:=by
  have h:=ng l [] []
  rw [List.nil_append,j2 (cA 10 l)] at h
  generalize l.foldl cO ([],[])=b at h
  unfold linesOf lEnd
  rw [←h]
  show _=(if (b.1++[b.2]).getLast?=some [] then (b.1++[b.2]).dropLast else b.1++[b.2])
  rw [List.getLast?_append,List.dropLast_concat]
  by_cases e:b.2=[]
  · rw [if_pos e,if_pos (by rw [e]; rfl)]
  · rw [if_neg e,if_neg]
    intro q
    exact e (Option.some.inj q)
def isAl (c:Nat):Bool:=isSmall c || isDigit c
def sg (c:Nat):Nat:=if isAl c=true then c else 63
theorem qF {c:Nat} (h:isAl c=true):sg c=c:=if_pos h
theorem qE {c:Nat} (h:¬ isAl c=true):sg c=63:=if_neg h
theorem sg_iff {x y:Nat} (h:isAl y=true):sg x=y↔x=y:=by
  by_cases hx:isAl x=true
  · rw [qF hx]
  · rw [qE hx]
    constructor
    · intro e
      subst e
      exact absurd h (by decide)
    · intro e
      subst e
      exact absurd h hx
theorem l5:∀ {w v:Bytes},v.all isAl=true→(w.map sg=v↔w=v)
  | [],[],_=>by simp
  | [],_ :: _,_=>by simp
  | _ :: _,[],_=>by simp
  | x :: w,y :: v,h=>by
    rw [List.all_cons,Bool.and_eq_true] at h
    rw [List.map_cons,List.cons.injEq,List.cons.injEq,sg_iff h.1,l5 h.2]
theorem mw {w:Bytes} (h:w.all isAl=true):w.map sg=w:=(l5 h).mpr rfl
theorem wU (c:Nat):isDigit (sg c)=isDigit c:=by
  by_cases h:isAl c=true
  · rw [qF h]
  · rw [qE h]
    have e:isDigit c=false:=by
      unfold isAl at h
      simp only [Bool.or_eq_true,not_or] at h
      exact Bool.eq_false_iff.mpr h.2
    rw [e]
    decide
theorem wT (c:Nat):isSmall (sg c)=isSmall c:=by
  by_cases h:isAl c=true
  · rw [qF h]
  · rw [qE h]
    have e:isSmall c=false:=by
      unfold isAl at h
      simp only [Bool.or_eq_true,not_or] at h
      exact Bool.eq_false_iff.mpr h.1
    rw [e]
    decide
theorem wr (w:Bytes):(w.map sg).all isDigit=w.all isDigit:=by
  rw [List.all_map]
  congr 1
  funext c
  exact wU c
theorem wq (w:Bytes):(w.map sg).all isSmall=w.all isSmall:=by
  rw [List.all_map]
  congr 1
  funext c
  exact wT c
theorem sk {w:Bytes} (h:w.all isDigit=true):w.all isAl=true:=by
  rw [List.all_eq_true] at h ⊢
  intro c hc
  unfold isAl
  rw [h c hc,Bool.or_true]
theorem lP {w:Bytes} (h:w.all isSmall=true):w.all isAl=true:=by
  rw [List.all_eq_true] at h ⊢
  intro c hc
  unfold isAl
  rw [h c hc,Bool.true_or]
theorem vF (lo hi:Nat) (w:Bytes):Vbiraa.numberIn lo hi (w.map sg)=Vbiraa.numberIn lo hi w:=by
  by_cases h:w.all isDigit=true
  · rw [mw (sk h)]
  · have h':w.all isDigit=false:=Bool.eq_false_iff.mpr h
    unfold Vbiraa.numberIn
    rw [if_pos (.inr (.inl (by rw [wr]; exact h'))),if_pos (.inr (.inl h'))]
theorem yP (w:Bytes):Vbiraa.isName (w.map sg)=Vbiraa.isName w:=by
  by_cases h:w.all isSmall=true
  · rw [mw (lP h)]
  · have h':w.all isSmall=false:=Bool.eq_false_iff.mpr h
    unfold Vbiraa.isName
    rw [wq,h']
    simp
theorem uD {w:Bytes} (h:Vbiraa.isName w=true):w.all isAl=true:=by
  unfold Vbiraa.isName at h
  simp only [Bool.and_eq_true] at h
  exact lP h.2.2.1
theorem xA {w:Bytes} (h:Vbiraa.isName w=true):w.length≤8:=by
  unfold Vbiraa.isName at h
  simp only [Bool.and_eq_true,decide_eq_true_eq] at h
  exact h.2.1
def mi (ns:Vbiraa.Net):Prop:=∀ r∈ns,r.name.all isAl=true
theorem za {ns:Vbiraa.Net} (h:mi ns) (w:Bytes):Vbiraa.find ns (w.map sg)=Vbiraa.find ns w:=by
  unfold Vbiraa.find
  induction ns with
  | nil=>rfl
  | cons r ns ih =>
    rw [List.findIdx?_cons,List.findIdx?_cons,ih (fun q hq=>h q (List.mem_cons_of_mem _ hq))]
    have e:(r.name == w.map sg)=(r.name == w):=by
      rw [Bool.eq_iff_iff,beq_iff_eq,beq_iff_eq]
      have:=l5 (w:=w) (h r (List.mem_cons_self ..))
      exact ⟨fun q=>((this.mp q.symm)).symm,fun q=>(this.mpr q.symm).symm⟩
    rw [e]
theorem fD {s:String} (h:(Vbiraa.text s).all isAl=true) (w:Bytes):(w.map sg=Vbiraa.text s)=(w=Vbiraa.text s):=propext (l5 h)
set_option maxHeartbeats 1000000 in
theorem yU {ns:Vbiraa.Net} (hn:mi ns) (ws:List Bytes):Vbiraa.lineOf ns (ws.map fun w=>w.map sg)=Vbiraa.lineOf ns ws:=by
  match ws with
  | [k,n,f,p,a,d,b,o,c,s,e,m,g,v] =>
    show Vbiraa.lineOf ns [k.map sg,n.map sg,f.map sg,p.map sg,a.map sg,d.map sg,b.map sg,o.map sg,c.map sg,s.map sg,e.map sg,m.map sg,g.map sg,v.map sg]=_
    unfold Vbiraa.lineOf
    simp only [fD (s := "reach") (by decide),fD (s := "from") (by decide),fD (s := "delay") (by decide),fD (s := "loss") (by decide),fD (s := "soak") (by decide),fD (s := "cap") (by decide),fD (s := "gate") (by decide),fD (s := "source") (by decide),yP,za hn,vF]
    by_cases h:Vbiraa.isName n=true
    · rw [mw (uD h)]
    · simp only [h,Bool.false_eq_true,false_and,and_false,if_false]
  | []=>rfl
  | [_]=>rfl
  | [_,_]=>rfl
  | [_,_,_]=>rfl
  | [_,_,_,_]=>rfl
  | [_,_,_,_,_]=>rfl
  | [_,_,_,_,_,_]=>rfl
  | [_,_,_,_,_,_,_]=>rfl
  | [_,_,_,_,_,_,_,_]=>rfl
  | [_,_,_,_,_,_,_,_,_]=>rfl
  | [_,_,_,_,_,_,_,_,_,_]=>rfl
  | [_,_,_,_,_,_,_,_,_,_,_]=>rfl
  | [_,_,_,_,_,_,_,_,_,_,_,_]=>rfl
  | [_,_,_,_,_,_,_,_,_,_,_,_,_]=>rfl
  | _ :: _ :: _ :: _ :: _ :: _ :: _ :: _ :: _ :: _ :: _ :: _ :: _ :: _ :: _ :: _=>rfl
end CN
namespace CN
open Vbiraa (Bytes partsOf wordsOf linesOf)
theorem gh (c:Nat):∀ (l:Bytes) (w:Bytes),w∈partsOf c l→w.length≤l.length
  | [],w,h=>by
    rw [partsOf,List.mem_singleton] at h
    rw [h]
    exact Nat.le_refl _
  | x :: l,w,h=>by
    rw [partsOf] at h
    split at h
    · rcases List.mem_cons.mp h with h | h
      · rw [h]
        exact Nat.zero_le _
      · have:=gh c l w h
        rw [List.length_cons]
        omega
    · have ih:=gh c l
      cases e:partsOf c l with
      | nil=>exact absurd e (cA c l)
      | cons v r =>
        rw [e] at h ih
        rcases List.mem_cons.mp h with h | h
        · rw [h,List.length_cons,List.length_cons]
          have:=ih v (List.mem_cons_self ..)
          omega
        · have:=ih w (List.mem_cons_of_mem _ h)
          rw [List.length_cons]
          omega
theorem vb {l w:Bytes} (h:w∈wordsOf l):w.length≤l.length:=by
  unfold wordsOf at h
  exact gh 32 l w (List.mem_filter.mp h).1
theorem vI {t l:Bytes} (h:l∈linesOf t):l.length≤t.length:=by
  unfold linesOf at h
  have h:l∈(if (partsOf 10 t).getLast?=some [] then (partsOf 10 t).dropLast else partsOf 10 t):=h
  split at h
  · exact gh 10 t l (List.dropLast_subset _ h)
  · exact gh 10 t l h
theorem lB (c:Nat):∀ l:Bytes,(partsOf c l).length≤l.length + 1
  | []=>by simp [partsOf]
  | x :: l=>by
    rw [partsOf]
    have:=lB c l
    split
    · rw [List.length_cons,List.length_cons]
      omega
    · cases e:partsOf c l with
      | nil=>exact absurd e (cA c l)
      | cons v r =>
        rw [e] at this
        show (List.length _ + 1)≤_
        rw [List.length_cons] at this ⊢
        omega
theorem rD (t:Bytes):(linesOf t).length≤t.length + 1:=by
  unfold linesOf
  have:=lB 10 t
  show (if (partsOf 10 t).getLast?=some [] then (partsOf 10 t).dropLast else partsOf 10 t).length≤_
  split
  · rw [List.length_dropLast]
    omega
  · exact this
end CN
namespace CN
open Vbiraa (Net Reach reachAt wayFrom way children delayOf)
def above (ns:Net) (i:Nat):Nat:=delayOf ns (way ns i).dropLast
def depth (ns:Net) (i:Nat):Nat:=(way ns i).length
def Par (ns:Net):Prop:=∀ i p,i < ns.length→(reachAt ns i).parent=some p→p < i
theorem bR (ns:Net) (f i:Nat):wayFrom ns (f + 1) i=match (reachAt ns i).parent with | none=>[i] | some p=>wayFrom ns f p++[i]:=rfl
theorem dg {ns:Net} (hp:Par ns):∀ (i:Nat),i < ns.length→∀ f,i < f→wayFrom ns f i=wayFrom ns (i + 1) i:=by
  intro i
  induction i using Nat.strongRecOn with
  | _ i ih =>
    intro hi f hf
    cases f with
    | zero=>omega
    | succ f =>
      rw [bR,bR]
      cases e:(reachAt ns i).parent with
      | none=>rfl
      | some p =>
        have hpi:=hp i p hi e
        show wayFrom ns f p++[i]=wayFrom ns i p++[i]
        rw [ih p hpi (by omega) f (by omega),ih p hpi (by omega) i hpi]
theorem df {ns:Net} (hp:Par ns) {i:Nat} (hi:i < ns.length):way ns i=match (reachAt ns i).parent with | none=>[i] | some p=>way ns p++[i]:=by
  unfold way
  rw [bR]
  cases e:(reachAt ns i).parent with
  | none=>rfl
  | some p =>
    have hpi:=hp i p hi e
    show wayFrom ns ns.length p++[i]=wayFrom ns (ns.length + 1) p++[i]
    rw [dg hp p (by omega) ns.length (by omega),dg hp p (by omega) (ns.length + 1) (by omega)]
theorem bD {ns ms:Net} {i:Nat} (hi:i < ns.length):reachAt (ns++ms) i=reachAt ns i:=by
  unfold reachAt
  rw [List.getD_eq_getElem?_getD,List.getD_eq_getElem?_getD,List.getElem?_append_left hi]
theorem cz {ns:Net} {r:Reach}:reachAt (ns++[r]) ns.length=r:=by
  unfold reachAt
  rw [List.getD_eq_getElem?_getD,List.getElem?_append_right (Nat.le_refl _),Nat.sub_self]
  rfl
theorem fk {ns:Net} {i:Nat} {r:Reach} (h:ns[i]?=some r):reachAt ns i=r:=by
  unfold reachAt
  rw [List.getD_eq_getElem?_getD,h]
  rfl
theorem gH {ns:Net} {i:Nat} (h:i < ns.length):ns[i]?=some (reachAt ns i):=by
  unfold reachAt
  rw [List.getD_eq_getElem?_getD,List.getElem?_eq_getElem h]
  rfl
theorem jS {ns ms:Net} (hp:Par ns):∀ (f i:Nat),i < ns.length→wayFrom (ns++ms) f i=wayFrom ns f i
  | 0,_,_=>rfl
  | f + 1,i,hi=>by
    rw [bR,bR,bD hi]
    cases e:(reachAt ns i).parent with
    | none=>rfl
    | some p =>
      have:=hp i p hi e
      show wayFrom (ns++ms) f p++[i]=wayFrom ns f p++[i]
      rw [jS hp f p (by omega)]
theorem qv {ns ms:Net} (hp:Par ns) {i:Nat} (hi:i < ns.length):way (ns++ms) i=way ns i:=by
  unfold way
  rw [jS hp _ i hi,dg hp i hi ((ns++ms).length + 1) (by rw [List.length_append]; omega),dg hp i hi (ns.length + 1) (by omega)]
theorem ml {ns:Net} (hp:Par ns):∀ (i:Nat),i < ns.length→∀ j∈way ns i,j < ns.length:=by
  intro i
  induction i using Nat.strongRecOn with
  | _ i ih =>
    intro hi j hj
    rw [df hp hi] at hj
    cases e:(reachAt ns i).parent with
    | none =>
      rw [e] at hj
      rw [List.mem_singleton.mp hj]
      exact hi
    | some p =>
      rw [e] at hj
      have hpi:=hp i p hi e
      rcases List.mem_append.mp hj with h | h
      · exact ih p hpi (by omega) j h
      · rw [List.mem_singleton.mp h]
        exact hi
theorem ci (l:List Nat) (a:Nat):l.foldl (fun a b=>a + b) a=a + l.sum:=by
  induction l generalizing a with
  | nil=>simp
  | cons x l ih =>
    rw [List.foldl_cons,ih,List.sum_cons,Nat.add_assoc]
theorem lh (ns:Net) (l m:List Nat):delayOf ns (l++m)=delayOf ns l + delayOf ns m:=by
  unfold delayOf
  rw [List.map_append,ci,ci,ci,List.sum_append]
  omega
theorem lg (ns:Net) (i:Nat):delayOf ns [i]=(reachAt ns i).delay:=by
  unfold delayOf
  simp
theorem tW {ns ms:Net} {l:List Nat} (h:∀ j∈l,j < ns.length):delayOf (ns++ms) l=delayOf ns l:=by
  unfold delayOf
  congr 1
  exact List.map_congr_left fun j hj=>by rw [bD (h j hj)]
theorem jM {ns:Net} (hp:Par ns) {i:Nat} (hi:i < ns.length):above ns i=match (reachAt ns i).parent with | none=>0 | some p=>above ns p + (reachAt ns p).delay:=by
  unfold above
  rw [df hp hi]
  cases e:(reachAt ns i).parent with
  | none=>rfl
  | some p =>
    have hpi:=hp i p hi e
    show delayOf ns (way ns p++[i]).dropLast=_
    rw [List.dropLast_concat]
    show delayOf ns (way ns p)=delayOf ns (way ns p).dropLast + (reachAt ns p).delay
    have hw:way ns p=(way ns p).dropLast++[p]:=by
      rw [df hp (show p < ns.length by omega)]
      cases (reachAt ns p).parent with
      | none=>rfl
      | some q =>
        show way ns q++[p]=(way ns q++[p]).dropLast++[p]
        rw [List.dropLast_concat]
    conv=>lhs; rw [hw]
    rw [lh,lg]
theorem eG {ns:Net} (hp:Par ns) {i:Nat} (hi:i < ns.length):way ns i=(way ns i).dropLast++[i]:=by
  rw [df hp hi]
  cases (reachAt ns i).parent with
  | none=>rfl
  | some q =>
    show way ns q++[i]=(way ns q++[i]).dropLast++[i]
    rw [List.dropLast_concat]
theorem bi {ns:Net} (hp:Par ns) {i:Nat} (hi:i < ns.length):depth ns i=match (reachAt ns i).parent with | none=>1 | some p=>depth ns p + 1:=by
  unfold depth
  rw [df hp hi]
  cases (reachAt ns i).parent with
  | none=>rfl
  | some p =>
    show (way ns p++[i]).length=_
    rw [List.length_append]
    rfl
theorem vd {ns:Net} (hp:Par ns) {i:Nat} (hi:i < ns.length):delayOf ns (way ns i)=above ns i + (reachAt ns i).delay:=by
  conv=>lhs; rw [eG hp hi]
  rw [lh,lg]
  rfl
theorem nS {ns ms:Net} (hp:Par ns) {i:Nat} (hi:i < ns.length):above (ns++ms) i=above ns i:=by
  unfold above
  rw [qv hp hi,tW]
  intro j hj
  exact ml hp i hi j (List.dropLast_subset _ hj)
theorem jG {ns ms:Net} (hp:Par ns) {i:Nat} (hi:i < ns.length):depth (ns++ms) i=depth ns i:=by
  unfold depth
  rw [qv hp hi]
theorem mQ {ns:Net} {r:Reach} (hp:Par ns) (h:∀ p,r.parent=some p→p < ns.length):Par (ns++[r]):=by
  intro i p hi e
  rw [List.length_append] at hi
  by_cases c:i < ns.length
  · rw [bD c] at e
    exact hp i p c e
  · have:i=ns.length:=by
      have hi:i < ns.length + 1:=hi
      omega
    subst this
    rw [cz] at e
    exact h p e
theorem wt {ns:Net} {r:Reach} (hp:Par ns) (h:∀ p,r.parent=some p→p < ns.length):above (ns++[r]) ns.length=match r.parent with | none=>0 | some p=>above ns p + (reachAt ns p).delay:=by
  rw [jM (mQ hp h) (by simp),cz]
  cases e:r.parent with
  | none=>rfl
  | some p=>simp only [nS hp (h p e),bD (h p e)]
theorem oW {ns:Net} {r:Reach} (hp:Par ns) (h:∀ p,r.parent=some p→p < ns.length):depth (ns++[r]) ns.length=match r.parent with | none=>1 | some p=>depth ns p + 1:=by
  rw [bi (mQ hp h) (by simp),cz]
  cases e:r.parent with
  | none=>rfl
  | some p=>simp only [jG hp (h p e)]
structure WF (ns:Net):Prop where
  par:Par ns
  names:mi ns
  deep:∀ i,i < ns.length→depth ns i≤8
  num:∀ i,i < ns.length→(reachAt ns i).delay≤10∧(reachAt ns i).loss≤99∧(reachAt ns i).soak≤1000∧1≤(reachAt ns i).cap∧(reachAt ns i).cap≤100000∧(reachAt ns i).gate≤100
  len:ns.length≤30
  gates:∀ p,Vbiraa.gatesAt ns p≤100
  nlen:∀ r∈ns,r.name.length≤8
theorem zb {ns:Net} {w:List Nat} {i:Nat} (h:Vbiraa.find ns w=some i):i < ns.length:=by
  unfold Vbiraa.find at h
  obtain ⟨h,_⟩:=List.findIdx?_eq_some_iff_getElem.mp h
  exact h
theorem sw:WF []:=⟨fun i p h=>absurd h (by simp),fun r h=>absurd h (by simp),fun i h=>absurd h (by simp),fun i h=>absurd h (by simp),by simp,fun p=>by show 0≤100; decide,fun r h=>absurd h (by simp)⟩
theorem oe (ns:Net) (r:Reach) (p:Option Nat):children (ns++[r]) p=children ns p++(if r.parent=p then [ns.length] else []):=by
  unfold children
  rw [List.length_append,List.length_singleton,List.range_succ,List.filter_append]
  congr 1
  · refine List.filter_congr fun i hi=>?_
    rw [bD (List.mem_range.mp hi)]
  · rw [List.filter_cons,cz]
    by_cases e:r.parent=p
    · rw [if_pos e,if_pos (by rw [beq_iff_eq]; exact e)]
      rfl
    · rw [if_neg e,if_neg (by rw [beq_iff_eq]; exact e)]
      rfl
theorem aN {ns:Net} {p:Option Nat} {i:Nat}:i∈children ns p↔i < ns.length∧(reachAt ns i).parent=p:=by
  unfold children
  rw [List.mem_filter,List.mem_range,beq_iff_eq]
theorem tS (ns:Net) (r:Reach) (p:Option Nat):Vbiraa.gatesAt (ns++[r]) p=Vbiraa.gatesAt ns p + (if r.parent=p then r.gate else 0):=by
  unfold Vbiraa.gatesAt
  rw [oe,ci,ci,List.map_append,List.sum_append,Nat.zero_add,Nat.zero_add]
  congr 1
  · congr 1
    exact List.map_congr_left fun i hi=>by rw [bD (aN.mp hi).1]
  · by_cases e:r.parent=p
    · rw [if_pos e,if_pos e]
      simp [cz]
    · rw [if_neg e,if_neg e]
      rfl
theorem yg {ns:Net} {r:Reach} (h:WF ns) (hp:∀ p,r.parent=some p→p < ns.length) (hn:r.name.all isAl=true) (hd:(match r.parent with | none=>1 | some p=>depth ns p + 1)≤8)
    (hnum:r.delay≤10∧r.loss≤99∧r.soak≤1000∧1≤r.cap∧r.cap≤100000∧r.gate≤100) (hl:ns.length < 30) (hg:Vbiraa.gatesAt ns r.parent + r.gate≤100) (hn8:r.name.length≤8):WF (ns++[r]):=by
  have cases_i:∀ i,i < (ns++[r]).length→i < ns.length∨i=ns.length:=fun i hi=>by
    rw [List.length_append] at hi
    have hi:i < ns.length + 1:=hi
    omega
  refine ⟨mQ h.par hp,?_,fun i hi=>?_,fun i hi=>?_,?_,fun p=>?_,fun q hq=>?_⟩
  · intro q hq
    rcases List.mem_append.mp hq with hq | hq
    · exact h.names q hq
    · rw [List.mem_singleton.mp hq]
      exact hn
  · rcases cases_i i hi with c | c
    · rw [jG h.par c]
      exact h.deep i c
    · subst c
      rw [oW h.par hp]
      exact hd
  · rcases cases_i i hi with c | c
    · rw [bD c]
      exact h.num i c
    · subst c
      rw [cz]
      exact hnum
  · rw [List.length_append]
    exact hl
  · rw [tS]
    by_cases e:r.parent=p
    · rw [if_pos e,←e]
      exact hg
    · rw [if_neg e]
      exact h.gates p
  · rcases List.mem_append.mp hq with hq | hq
    · exact h.nlen q hq
    · rw [List.mem_singleton.mp hq]
      exact hn8
end CN
namespace CN
open Vbiraa (Net Reach reachAt way children)
def sumN (n:Nat) (g:Nat→Nat):Nat:=((List.range n).map g).sum
theorem a9 (n:Nat) (g:Nat→Nat):sumN (n + 1) g=sumN n g + g n:=by
  unfold sumN
  rw [List.range_succ,List.map_append,List.sum_append]
  simp
theorem aY {n:Nat} {g h:Nat→Nat} (e:∀ i,i < n→g i=h i):sumN n g=sumN n h:=by
  unfold sumN
  rw [List.map_congr_left fun i hi=>e i (List.mem_range.mp hi)]
theorem ga (n:Nat) (g h:Nat→Nat):sumN n (fun i=>g i + h i)=sumN n g + sumN n h:=by
  induction n with
  | zero=>rfl
  | succ n ih =>
    rw [a9,a9,a9,ih]
    omega
theorem dC (n:Nat):sumN n (fun _=>0)=0:=by
  induction n with
  | zero=>rfl
  | succ n ih=>rw [a9,ih]
theorem vn (n m:Nat) (F:Nat→Nat→Nat):sumN n (fun i=>sumN m (F i))=sumN m (fun j=>sumN n (fun i=>F i j)):=by
  induction n with
  | zero =>
    show 0=sumN m (fun _=>0)
    rw [dC]
  | succ n ih =>
    rw [a9,ih,←ga]
    exact aY fun j _=>(a9 n fun i=>F i j).symm
theorem mt {n k:Nat} (h:k < n) (g:Nat→Nat):sumN n (fun i=>if i=k then g i else 0)=g k:=by
  induction n with
  | zero=>omega
  | succ n ih =>
    rw [a9]
    by_cases e:n=k
    · subst e
      rw [if_pos rfl,aY (h:=fun _=>0) fun i hi=>if_neg (by omega),dC,Nat.zero_add]
    · rw [if_neg e,ih (by omega),Nat.add_zero]
theorem jl (p:Nat→Bool) (g:Nat→Nat):∀ l:List Nat,((l.filter p).map g).sum=(l.map fun i=>if p i=true then g i else 0).sum
  | []=>rfl
  | x :: l=>by
    rw [List.filter_cons,List.map_cons,List.sum_cons]
    by_cases h:p x=true
    · rw [if_pos h,if_pos h,List.map_cons,List.sum_cons,jl p g l]
    · rw [if_neg h,if_neg h,jl p g l,Nat.zero_add]
theorem dh (ns:Net) (p:Option Nat) (g:Nat→Nat):((children ns p).map g).sum=sumN ns.length fun i=>if (reachAt ns i).parent=p then g i else 0:=by
  unfold children
  rw [jl]
  unfold sumN
  congr 1
  refine List.map_congr_left fun i _=>?_
  by_cases h:(reachAt ns i).parent=p
  · rw [if_pos h,if_pos (by rw [beq_iff_eq]; exact h)]
  · rw [if_neg h,if_neg (by rw [beq_iff_eq]; exact h)]
theorem sL {ns:Net} (hp:Par ns) (g:Nat→Nat):sumN ns.length g=((children ns none).map g).sum + sumN ns.length fun q=>((children ns (some q)).map g).sum:=by
  rw [dh,aY (g:=fun q=>((children ns (some q)).map g).sum) fun q _=>dh ns (some q) g,vn,←ga]
  refine aY fun i hi=>?_
  cases e:(reachAt ns i).parent with
  | none =>
    rw [if_pos rfl,aY (h:=fun _=>0) fun j _=>if_neg (by simp),dC,Nat.add_zero]
  | some q =>
    have hq:=hp i q hi e
    rw [if_neg (by simp),Nat.zero_add,aY (h:=fun j=>if j=q then g i else 0) fun j _=>?_,mt (by omega) fun _=>g i]
    by_cases c:j=q
    · subst c
      rw [if_pos rfl,if_pos rfl]
    · rw [if_neg c,if_neg (fun z=>c (Option.some.inj z).symm)]
def bg (ns:Net) (g:Nat→Nat):Nat→Option Nat→Nat
  | 0,_=>0
  | f + 1,p=>((children ns p).map fun c=>g c + bg ns g f (some c)).sum
def jf (ns:Net):Option Nat→Nat→Bool
  | none,_=>true
  | some c,i=>decide (c∈(way ns i).dropLast)
def dQ (ns:Net):Option Nat→Nat
  | none=>0
  | some c=>depth ns c
theorem ww {ns:Net} (hp:Par ns):∀ (i:Nat),i < ns.length→∀ j∈way ns i,j≤i:=by
  intro i
  induction i using Nat.strongRecOn with
  | _ i ih =>
    intro hi j hj
    rw [df hp hi] at hj
    cases e:(reachAt ns i).parent with
    | none =>
      rw [e] at hj
      rw [List.mem_singleton.mp hj]
      exact Nat.le_refl _
    | some p =>
      rw [e] at hj
      have hpi:=hp i p hi e
      rcases List.mem_append.mp hj with h | h
      · have:=ih p hpi (by omega) j h
        omega
      · rw [List.mem_singleton.mp h]
        exact Nat.le_refl _
theorem qu {ns:Net} (hp:Par ns) {i:Nat} (hi:i < ns.length):i∈way ns i:=by
  rw [eG hp hi]
  simp
theorem f8 {ns:Net} (hp:Par ns) {i:Nat} (hi:i < ns.length):(way ns i).dropLast=match (reachAt ns i).parent with | none=>[] | some p=>way ns p:=by
  rw [df hp hi]
  cases (reachAt ns i).parent with
  | none=>rfl
  | some p=>exact List.dropLast_concat
theorem l8 {ns:Net} (hp:Par ns) {i c:Nat} (hi:i < ns.length):c∈way ns i↔c=i∨c∈(way ns i).dropLast:=by
  conv=>lhs; rw [eG hp hi]
  rw [List.mem_append,List.mem_singleton]
  exact Or.comm
theorem vC {ns:Net} (hp:Par ns) (p:Option Nat) (hpn:∀ c,p=some c→c < ns.length):∀ (i:Nat),i < ns.length→((children ns p).map fun c=>if c∈way ns i then 1 else 0).sum=if jf ns p i=true then 1 else 0:=by
  intro i
  induction i using Nat.strongRecOn with
  | _ i ih =>
    intro hi
    have key:((children ns p).map fun c=>if c∈way ns i then 1 else 0).sum=(if (reachAt ns i).parent=p then 1 else 0) + ((children ns p).map fun c=>if c∈(way ns i).dropLast then 1 else 0).sum:=by
      rw [dh,dh,aY (h:=fun c=>(if c=i then (if (reachAt ns i).parent=p then 1 else 0) else 0) + (if (reachAt ns c).parent=p then (if c∈(way ns i).dropLast then 1 else 0) else 0)) fun c hc=>?_,ga,mt hi fun _=>if (reachAt ns i).parent=p then 1 else 0]
      have hn:i∉(way ns i).dropLast:=fun m=>by
        rw [f8 hp hi] at m
        cases e:(reachAt ns i).parent with
        | none =>
          rw [e] at m
          cases m
        | some q =>
          rw [e] at m
          have hq:=hp i q hi e
          have:=ww hp q (by omega) i m
          omega
      by_cases e:c=i
      · subst e
        rw [if_pos rfl,if_pos (qu hp hi),if_neg hn]
        by_cases e2:(reachAt ns c).parent=p
        · rw [if_pos e2,if_pos e2]
        · rw [if_neg e2,if_neg e2]
      · rw [if_neg e,Nat.zero_add]
        have:(c∈way ns i)=(c∈(way ns i).dropLast):=propext (by rw [l8 hp hi]; exact ⟨fun h=>h.resolve_left e,.inr⟩)
        simp only [this]
    rw [key]
    have hd:=f8 hp hi
    cases e:(reachAt ns i).parent with
    | none =>
      rw [e] at hd
      rw [hd]
      have z:((children ns p).map fun c=>if c∈([]:List Nat) then 1 else 0).sum=0:=by
        rw [dh,aY (h:=fun _=>0) fun c _=>by simp,dC]
      rw [z]
      cases p with
      | none=>simp [jf]
      | some c=>simp [jf,hd]
    | some q =>
      rw [e] at hd
      have hq:=hp i q hi e
      have hd:(way ns i).dropLast=way ns q:=hd
      rw [hd,ih q hq (by omega)]
      cases p with
      | none=>simp [jf]
      | some c =>
        have hc:=hpn c rfl
        show (if some q=some c then 1 else 0) + (if decide (c∈(way ns q).dropLast)=true then 1 else 0)=if decide (c∈(way ns i).dropLast)=true then 1 else 0
        rw [hd]
        have hm:=l8 hp (show q < ns.length by omega) (c:=c)
        have hn:q∉(way ns q).dropLast:=fun m=>by
          rw [f8 hp (show q < ns.length by omega)] at m
          cases e2:(reachAt ns q).parent with
          | none =>
            rw [e2] at m
            cases m
          | some r =>
            rw [e2] at m
            have hr:=hp q r (by omega) e2
            have:=ww hp r (by omega) q m
            omega
        by_cases c1:c=q
        · subst c1
          have h1:decide (c∈(way ns c).dropLast)=false:=decide_eq_false hn
          have h2:decide (c∈way ns c)=true:=decide_eq_true (hm.mpr (.inl rfl))
          simp [h1,h2]
        · have h3:decide (c∈way ns q)=decide (c∈(way ns q).dropLast):=decide_eq_decide.mpr ⟨fun h=>(hm.mp h).resolve_left c1,fun h=>hm.mpr (.inr h)⟩
          rw [h3,if_neg (fun z=>c1 (Option.some.inj z).symm),Nat.zero_add]
theorem iA {ns:Net} (hp:Par ns):∀ (i:Nat),i < ns.length→∀ c∈(way ns i).dropLast,depth ns c < depth ns i:=by
  intro i
  induction i using Nat.strongRecOn with
  | _ i ih =>
    intro hi c hc
    rw [f8 hp hi] at hc
    cases e:(reachAt ns i).parent with
    | none =>
      rw [e] at hc
      cases hc
    | some q =>
      rw [e] at hc
      have hq:=hp i q hi e
      have hd:=bi hp hi
      rw [e] at hd
      have hd:depth ns i=depth ns q + 1:=hd
      rcases (l8 hp (show q < ns.length by omega)).mp hc with h | h
      · subst h
        omega
      · have:=ih q hq (by omega) c h
        omega
theorem kK {ns:Net} (hw:WF ns) (g:Nat→Nat):∀ (f:Nat) (p:Option Nat),(∀ c,p=some c→c < ns.length)→8≤f + dQ ns p→bg ns g f p=sumN ns.length fun i=>if jf ns p i=true then g i else 0
  | 0,p,hpn,hf=>by
    show 0=_
    rw [aY (h:=fun _=>0) fun i hi=>?_,dC]
    cases p with
    | none =>
      have:8≤0 + 0:=hf
      omega
    | some c =>
      rw [if_neg]
      intro h
      have:=iA hw.par i hi c (of_decide_eq_true h)
      have h2:=hw.deep i hi
      have hf:8≤0 + depth ns c:=hf
      omega
  | f + 1,p,hpn,hf=>by
    have hp:=hw.par
    have step:∀ c∈children ns p,g c + bg ns g f (some c)=sumN ns.length fun i=>if c∈way ns i then g i else 0:=fun c hc=>by
      obtain ⟨hcl,hcp⟩:=aN.mp hc
      rw [kK hw g f (some c) (fun d e=>by cases e; exact hcl) ?_]
      · rw [aY (g:=fun i=>if c∈way ns i then g i else 0) (h:=fun i=>(if i=c then g i else 0) + (if jf ns (some c) i=true then g i else 0)) fun i hi=>?_,ga,mt hcl]
        by_cases e:i=c
        · subst e
          have hn:¬ jf ns (some i) i=true:=fun h=>by
            have:=iA hp i hi i (of_decide_eq_true h)
            omega
          rw [if_pos (qu hp hi),if_pos rfl,if_neg hn,Nat.add_zero]
        · rw [if_neg e,Nat.zero_add]
          have:(c∈way ns i)=(jf ns (some c) i=true):=propext (by
            rw [l8 hp hi]
            unfold jf
            rw [decide_eq_true_eq]
            exact ⟨fun h=>h.resolve_left fun z=>e z.symm,.inr⟩)
          simp only [this]
      · have hd:=bi hp hcl
        rw [hcp] at hd
        show 8≤f + depth ns c
        cases p with
        | none =>
          have hd:depth ns c=1:=hd
          have hf:8≤f + 1 + 0:=hf
          omega
        | some q =>
          have hd:depth ns c=depth ns q + 1:=hd
          have hf:8≤f + 1 + depth ns q:=hf
          omega
    show ((children ns p).map fun c=>g c + bg ns g f (some c)).sum=_
    rw [List.map_congr_left step]
    have e1:∀ l:List Nat,(l.map fun c=>sumN ns.length fun i=>if c∈way ns i then g i else 0).sum=sumN ns.length fun i=>(l.map fun c=>if c∈way ns i then 1 else 0).sum * g i:=by
      intro l
      induction l with
      | nil =>
        show 0=sumN ns.length fun i=>0 * g i
        rw [aY (h:=fun _=>0) fun i _=>Nat.zero_mul _,dC]
      | cons x l ih =>
        rw [List.map_cons,List.sum_cons,ih,←ga]
        refine aY fun i _=>?_
        rw [List.map_cons,List.sum_cons,Nat.add_mul]
        congr 1
        split
        · rw [Nat.one_mul]
        · rw [Nat.zero_mul]
    rw [e1]
    refine aY fun i hi=>?_
    rw [vC hp p hpn i hi]
    split
    · rw [Nat.one_mul]
    · rw [Nat.zero_mul]
theorem g8 {ns:Net} (hw:WF ns) (g:Nat→Nat) {f:Nat} (hf:8≤f):bg ns g f none=sumN ns.length g:=by
  rw [kK hw g f none (fun c e=>by cases e) hf]
  exact aY fun i _=>if_pos rfl
end CN
namespace CN
open Vbiraa (Net Reach House Q mk whole reachAt way children delayOf partAt through offered)
def DD:Nat:=100000000000000000000000000000000
theorem DD_eq:DD=100 ^ 16:=by decide
theorem bv:0 < DD:=by decide
theorem lv {m:Nat} (h:m≤16) (c:Nat):100 ^ m∣c * DD:=by
  rw [DD_eq]
  exact Nat.dvd_trans (Nat.pow_dvd_pow 100 h) (Nat.dvd_mul_left _ _)
def cy (r:Reach) (w p:Nat):Nat × Nat × Nat :=
  (w * p / 100,min (w * p / 100) (r.cap * DD),(min (w * p / 100) (r.cap * DD) - min (min (w * p / 100) (r.cap * DD)) (r.soak * DD)) * (100 - r.loss) / 100)
def win (rs:List (Nat × Nat × Nat)) (W:Nat):Option Nat→Nat
  | none=>W
  | some p=>(rs.getD p (0,0,0)).2.2
def rows (ns:Net) (pt:Nat→Nat) (W:Nat):Nat→List (Nat × Nat × Nat)
  | 0=>[]
  | k + 1=>rows ns pt W k++[cy (reachAt ns k) (win (rows ns pt W k) W (reachAt ns k).parent) (pt k)]
def row (ns:Net) (pt:Nat→Nat) (W:Nat) (i:Nat):Nat × Nat × Nat:=(rows ns pt W (i + 1)).getD i (0,0,0)
section
variable {ns:Net} {pt:Nat→Nat} {W:Nat}
theorem eV (k:Nat):(rows ns pt W k).length=k:=by
  induction k with
  | zero=>rfl
  | succ k ih =>
    show (rows ns pt W k++[_]).length=k + 1
    rw [List.length_append,ih]
    rfl
theorem gf {k i:Nat} (h:i < k):(rows ns pt W k)[i]?=some (row ns pt W i):=by
  induction k with
  | zero=>omega
  | succ k ih =>
    by_cases c:i=k
    · subst c
      unfold row
      rw [List.getD_eq_getElem?_getD]
      have:i < (rows ns pt W (i + 1)).length:=by
        rw [eV]
        omega
      rw [List.getElem?_eq_getElem this]
      rfl
    · show (rows ns pt W k++[_])[i]?=_
      rw [List.getElem?_append_left (by rw [eV]; omega)]
      exact ih (by omega)
def winQ (ns:Net) (pt:Nat→Nat) (W:Nat):Option Nat→Nat
  | none=>W
  | some p=>(row ns pt W p).2.2
theorem qt {k:Nat} {q:Option Nat} (h:∀ p,q=some p→p < k):win (rows ns pt W k) W q=winQ ns pt W q:=by
  cases q with
  | none=>rfl
  | some p =>
    show ((rows ns pt W k).getD p (0,0,0)).2.2=(row ns pt W p).2.2
    rw [List.getD_eq_getElem?_getD,gf (h p rfl)]
    rfl
theorem mI (hp:Par ns) {i:Nat} (hi:i < ns.length):row ns pt W i=cy (reachAt ns i) (winQ ns pt W (reachAt ns i).parent) (pt i):=by
  have h:(rows ns pt W (i + 1))[i]?=some (cy (reachAt ns i) (win (rows ns pt W i) W (reachAt ns i).parent) (pt i)):=by
    show (rows ns pt W i++[_])[i]?=_
    rw [List.getElem?_append_right (by rw [eV]; exact Nat.le_refl _),eV,Nat.sub_self]
    rfl
  rw [gf (by omega)] at h
  rw [Option.some.inj h,qt fun p e=>hp i p hi e]
theorem iB {m w p:Nat} (h:100 ^ (m + 1)∣w):100∣w * p∧100 ^ m∣w * p / 100:=by
  obtain ⟨k,rfl⟩:=h
  have e:100 ^ (m + 1) * k * p=100 * (100 ^ m * (k * p)):=by
    rw [Nat.pow_succ]
    grind
  rw [e]
  refine ⟨Nat.dvd_mul_right _ _,?_⟩
  rw [Nat.mul_div_cancel_left _ (by decide)]
  exact Nat.dvd_mul_right _ _
theorem l4 (a b:Nat):a - min a b=a - b:=by
  omega
theorem uT {d a b:Nat} (h1:d∣a) (h2:d∣b):d∣min a b:=by
  rcases Nat.le_total a b with h | h
  · rw [Nat.min_eq_left h]; exact h1
  · rw [Nat.min_eq_right h]; exact h2
theorem kX {r:Reach} {m w p:Nat} (hm:m + 1≤16) (h:100 ^ (m + 2)∣w):100∣w * p∧100 ^ (m + 1)∣(cy r w p).1∧100 ^ (m + 1)∣(cy r w p).2.1∧100∣((cy r w p).2.1 - r.soak * DD) * (100 - r.loss)∧100 ^ m∣(cy r w p).2.2:=by
  obtain ⟨h1,h2⟩:=iB (m:=m + 1) (p:=p) h
  have h3:100 ^ (m + 1)∣(cy r w p).2.1:=uT h2 (lv hm _)
  have h4:100 ^ (m + 1)∣(cy r w p).2.1 - r.soak * DD:=Nat.dvd_sub h3 (lv hm _)
  obtain ⟨h5,h6⟩:=iB (m:=m) (p:=100 - r.loss) h4
  refine ⟨h1,h2,h3,h5,?_⟩
  show 100 ^ m∣((cy r w p).2.1 - min (cy r w p).2.1 (r.soak * DD)) * (100 - r.loss) / 100
  rw [l4]
  exact h6
theorem pK (hw:WF ns) (hW:100 ^ 16∣W):∀ (i:Nat),i < ns.length→∀ m,m + 2 * depth ns i=16 →
    100 ^ (m + 2)∣winQ ns pt W (reachAt ns i).parent∧100 ^ m∣(row ns pt W i).2.2:=by
  intro i
  induction i using Nat.strongRecOn with
  | _ i ih =>
    intro hi m hm
    have hd:=bi hw.par hi
    have h1:100 ^ (m + 2)∣winQ ns pt W (reachAt ns i).parent:=by
      cases e:(reachAt ns i).parent with
      | none =>
        rw [e] at hd
        have hd:depth ns i=1:=hd
        show 100 ^ (m + 2)∣W
        rw [show m + 2=16 by omega]
        exact hW
      | some p =>
        rw [e] at hd
        have hd:depth ns i=depth ns p + 1:=hd
        have hp:=hw.par i p hi e
        exact (ih p hp (by omega) (m + 2) (by omega)).2
    refine ⟨h1,?_⟩
    rw [mI hw.par hi]
    have hd1:1≤depth ns i:=by
      rw [hd]
      cases (reachAt ns i).parent <;> simp
    exact (kX (by omega) h1).2.2.2.2
theorem mr (r:Reach) (o:Nat):Vbiraa.taken r (mk o DD)=mk (min o (r.cap * DD)) DD:=by
  unfold Vbiraa.taken
  rw [g6 (n:=r.cap) bv,leastD bv]
theorem jm (r:Reach) (o:Nat):Vbiraa.spilled r (mk o DD)=mk (o - min o (r.cap * DD)) DD:=by
  unfold Vbiraa.spilled
  rw [g6 (n:=r.cap) bv,xK bv,l4]
theorem eI (r:Reach) (o:Nat) (h:100∣(min o (r.cap * DD) - r.soak * DD) * (100 - r.loss)):through r (mk o DD)=mk ((min o (r.cap * DD) - min (min o (r.cap * DD)) (r.soak * DD)) * (100 - r.loss) / 100) DD:=by
  unfold through
  rw [mr,g6 (n:=r.soak) bv,xK bv,mulD bv h,l4]
theorem dW (hw:WF ns) (hW:100 ^ 16∣W) {i:Nat} (hi:i < ns.length) :
    Vbiraa.mul (mk (winQ ns pt W (reachAt ns i).parent) DD) (mk (pt i) 100)=mk (row ns pt W i).1 DD∧Vbiraa.taken (reachAt ns i) (mk (row ns pt W i).1 DD)=mk (row ns pt W i).2.1 DD ∧
    Vbiraa.spilled (reachAt ns i) (mk (row ns pt W i).1 DD)=mk ((row ns pt W i).1 - (row ns pt W i).2.1) DD∧through (reachAt ns i) (mk (row ns pt W i).1 DD)=mk (row ns pt W i).2.2 DD∧(row ns pt W i).1=winQ ns pt W (reachAt ns i).parent * pt i / 100∧100∣winQ ns pt W (reachAt ns i).parent * pt i:=by
  have hd1:1≤depth ns i:=by
    rw [bi hw.par hi]
    cases (reachAt ns i).parent <;> simp
  have hd8:=hw.deep i hi
  obtain ⟨h1,_⟩:=pK (pt:=pt) hw hW i hi (16 - 2 * depth ns i) (by omega)
  obtain ⟨a1,a2,a3,a4,a5⟩:=kX (r:=reachAt ns i) (p:=pt i) (by omega) h1
  have e:=mI (pt:=pt) (W:=W) hw.par hi
  rw [e]
  refine ⟨mulD bv a1,mr _ _,jm _ _,eI _ _ a4,rfl,a1⟩
theorem w6 (hw:WF ns) {i:Nat} (hi:i < ns.length):(row ns pt W i).2.1≤(row ns pt W i).1∧(row ns pt W i).2.2≤(row ns pt W i).2.1:=by
  rw [mI hw.par hi]
  refine ⟨Nat.min_le_left _ _,?_⟩
  show (_ - _) * (100 - _) / 100≤_
  refine Nat.div_le_of_le_mul ?_
  rw [Nat.mul_comm 100]
  exact Nat.mul_le_mul (Nat.sub_le _ _) (Nat.sub_le _ _)
end
def outQ (h:House):List Nat→Nat→Q→Q
  | [],_,x=>x
  | i :: l,t,x=>outQ h l (t + (reachAt h.net i).delay) (through (reachAt h.net i) (Vbiraa.mul x (mk (partAt h i t) 100)))
theorem jH (ns:Net) (i:Nat) (l:List Nat):delayOf ns (i :: l)=(reachAt ns i).delay + delayOf ns l:=by
  rw [show i :: l=[i]++l from rfl,lh,lg]
theorem ka (h:House) (i:Nat):∀ (l:List Nat) (t:Nat) (x:Q),offered h (l++[i]) t x=offered h l t x++[(i,t + delayOf h.net l,Vbiraa.mul (outQ h l t x) (mk (partAt h i (t + delayOf h.net l)) 100))]
  | [],t,x=>by
    show [(i,t,_)]=[(i,t + 0,_)]
    rw [Nat.add_zero]
    rfl
  | j :: l,t,x=>by
    show (j,t,_) :: offered h (l++[i]) _ _=(j,t,_) :: (offered h l _ _++_)
    rw [ka h i l,jH,←Nat.add_assoc]
    rfl
theorem oK (h:House) (i:Nat):∀ (l:List Nat) (t:Nat) (x:Q),outQ h (l++[i]) t x=through (reachAt h.net i) (Vbiraa.mul (outQ h l t x) (mk (partAt h i (t + delayOf h.net l)) 100))
  | [],t,x=>by
    show through _ _=through _ _
    rw [show delayOf h.net []=0 from rfl,Nat.add_zero]
    rfl
  | j :: l,t,x=>by
    show outQ h (l++[i]) _ _=_
    rw [oK h i l,jH,←Nat.add_assoc]
    rfl
def ptAt (h:House) (t:Nat) (i:Nat):Nat:=partAt h i (t + above h.net i)
theorem yh {h:House} (hw:WF h.net) {t W:Nat} (hW:100 ^ 16∣W):∀ (i:Nat),i < h.net.length→outQ h (way h.net i) t (mk W DD)=mk (row h.net (ptAt h t) W i).2.2 DD∧outQ h (way h.net i).dropLast t (mk W DD)=mk (winQ h.net (ptAt h t) W (reachAt h.net i).parent) DD:=by
  intro i
  induction i using Nat.strongRecOn with
  | _ i ih =>
    intro hi
    have h2:outQ h (way h.net i).dropLast t (mk W DD)=mk (winQ h.net (ptAt h t) W (reachAt h.net i).parent) DD:=by
      rw [f8 hw.par hi]
      cases e:(reachAt h.net i).parent with
      | none=>rfl
      | some p =>
        have hp:=hw.par i p hi e
        exact (ih p hp (by omega)).1
    refine ⟨?_,h2⟩
    rw [eG hw.par hi,oK,h2]
    obtain ⟨a1,_,_,a4,_⟩:=dW (pt:=ptAt h t) hw hW hi
    show through _ (Vbiraa.mul _ (mk (ptAt h t i) 100))=_
    rw [a1,a4]
theorem vc {h:House} (hw:WF h.net) {t W:Nat} (hW:100 ^ 16∣W) {i:Nat} (hi:i < h.net.length):(offered h (way h.net i) t (mk W DD)).getLast?=some (i,t + above h.net i,mk (row h.net (ptAt h t) W i).1 DD):=by
  rw [eG hw.par hi,ka,List.getLast?_append]
  obtain ⟨a1,_⟩:=dW (pt:=ptAt h t) hw hW hi
  have h2:=(yh hw (t:=t) hW i hi).2
  show some (i,t + above h.net i,Vbiraa.mul (outQ h (way h.net i).dropLast t (mk W DD)) (mk (ptAt h t i) 100))=_
  rw [h2,a1]
def letD (h:House) (t:Nat):Nat:=Vbiraa.letAt h t * DD
theorem gm (h:House) (t:Nat):100 ^ 16∣letD h t:=lv (Nat.le_refl _) _
theorem uF (h:House) (t:Nat):whole (Vbiraa.letAt h t)=mk (letD h t) DD:=g6 bv
def rowT (h:House) (t i:Nat):Nat × Nat × Nat:=row h.net (ptAt h t) (letD h t) i
theorem jC {h:House} (hw:WF h.net) {i:Nat} (hi:i < h.net.length) (t:Nat):Vbiraa.offerAt h i t=if t < above h.net i then whole 0 else mk (rowT h (t - above h.net i) i).1 DD:=by
  unfold Vbiraa.offerAt
  show (if t < above h.net i then _ else _)=_
  by_cases c:t < above h.net i
  · rw [if_pos c,if_pos c]
  · rw [if_neg c,if_neg c]
    show (match (offered h (way h.net i) (t - above h.net i) (whole (Vbiraa.letAt h (t - above h.net i)))).getLast? with | some x=>x.2.2 | none=>whole 0)=_
    rw [uF,vc hw (gm _ _) hi]
    rfl
theorem pA (r:Reach):through r (whole 0)=whole 0:=by
  rw [←fu bv,eI r 0 (by simp)]
  simp
theorem rF {h:House} (hw:WF h.net) {i:Nat} (hi:i < h.net.length) (t:Nat):Vbiraa.leavesAt h i t=if t < above h.net i + (reachAt h.net i).delay then whole 0 else mk (rowT h (t - above h.net i - (reachAt h.net i).delay) i).2.2 DD:=by
  unfold Vbiraa.leavesAt
  show (if t < (reachAt h.net i).delay then _ else through (reachAt h.net i) (Vbiraa.offerAt h i (t - (reachAt h.net i).delay)))=_
  by_cases c:t < (reachAt h.net i).delay
  · rw [if_pos c,if_pos (by omega)]
  · rw [if_neg c,jC hw hi]
    by_cases c2:t - (reachAt h.net i).delay < above h.net i
    · rw [if_pos c2,if_pos (by omega),pA]
    · rw [if_neg c2,if_neg (by omega)]
      obtain ⟨_,_,_,a4,_⟩:=dW (pt:=ptAt h (t - (reachAt h.net i).delay - above h.net i)) hw (gm h (t - (reachAt h.net i).delay - above h.net i)) hi
      unfold rowT
      rw [a4,show t - (reachAt h.net i).delay - above h.net i=t - above h.net i - (reachAt h.net i).delay by omega]
end CN
namespace CN
open Vbiraa (Net Reach House Q mk whole reachAt way children delayOf partAt through Account accountFrom addA zeroA)
def bO (h:House) (p:Option Nat) (t:Nat):Nat:=((children h.net p).map fun i=>partAt h i t).sum
def kH (h:House):Prop:=∀ p t,bO h p t≤100
def acc (A L S O:Nat):Account:={ arrived:=mk A DD,lost:=mk L DD,spilled:=mk S DD,off:=mk O DD }
theorem sn (A L S O A' L' S' O':Nat):addA (acc A L S O) (acc A' L' S' O')=acc (A + A') (L + L') (S + S') (O + O'):=by
  unfold addA acc
  simp only [addD bv]
theorem f7:zeroA=acc 0 0 0 0:=by
  unfold zeroA acc
  rw [fu bv]
theorem ny (l:List Nat) (a b c d:Nat→Nat):∀ (A L S O:Nat),(l.map fun i=>acc (a i) (b i) (c i) (d i)).foldl addA (acc A L S O)=acc (A + (l.map a).sum) (L + (l.map b).sum) (S + (l.map c).sum) (O + (l.map d).sum):=by
  induction l with
  | nil =>
    intro A L S O
    simp
  | cons x l ih =>
    intro A L S O
    rw [List.map_cons,List.foldl_cons,sn,ih]
    simp only [List.map_cons,List.sum_cons,Nat.add_assoc]
def abQ (ns:Net):Option Nat→Nat
  | none=>0
  | some q=>above ns q + (reachAt ns q).delay
section
variable (h:House) (t0 W:Nat)
def vR (i:Nat):Nat × Nat × Nat:=row h.net (ptAt h t0) W i
def vEnd (i:Nat):Nat:=if (children h.net (some i)).isEmpty=true then (vR h t0 W i).2.2 else 0
def cT (i:Nat):Nat:=(vR h t0 W i).2.1 - (vR h t0 W i).2.2
def ba (i:Nat):Nat:=(vR h t0 W i).1 - (vR h t0 W i).2.1
def vOff (i:Nat):Nat:=if (children h.net (some i)).isEmpty=true then 0 else (vR h t0 W i).2.2 * (100 - bO h (some i) (t0 + above h.net i + (reachAt h.net i).delay)) / 100
end
section
variable {h:House} {t0 W:Nat}
theorem nR (f:Nat) (p:Option Nat) (t:Nat) (x:Q):accountFrom h (f + 1) p t x =
    if (children h.net p).isEmpty=true∧p.isSome=true then { zeroA with arrived:=x } else
      ((children h.net p).map fun i=>addA { zeroA with spilled:=Vbiraa.spilled (reachAt h.net i) (Vbiraa.mul x (mk (partAt h i t) 100)),lost:=Vbiraa.less (Vbiraa.taken (reachAt h.net i) (Vbiraa.mul x (mk (partAt h i t) 100))) (through (reachAt h.net i) (Vbiraa.mul x (mk (partAt h i t) 100))) }
        (accountFrom h f (some i) (t + (reachAt h.net i).delay) (through (reachAt h.net i) (Vbiraa.mul x (mk (partAt h i t) 100))))).foldl addA { zeroA with off:=Vbiraa.mul x (mk (100 - bO h p t) 100) }:=by
  show (if _ then _ else List.foldl addA { zeroA with off:=Vbiraa.mul x (mk (100 - ((children h.net p).map fun i=>partAt h i t).foldl (fun a b=>a + b) 0) 100) } _)=_
  rw [ci,Nat.zero_add]
  rfl
theorem oX (hw:WF h.net) (hW:100 ^ 16∣W) {c:Nat} (hc:c < h.net.length) {A L S O:Nat} {f:Nat} {t:Nat} (ht:t=t0 + above h.net c)
    (e:accountFrom h f (some c) (t0 + above h.net c + (reachAt h.net c).delay) (mk (vR h t0 W c).2.2 DD)=acc A L S O) :
    addA { zeroA with spilled:=Vbiraa.spilled (reachAt h.net c) (Vbiraa.mul (mk (winQ h.net (ptAt h t0) W (reachAt h.net c).parent) DD) (mk (partAt h c t) 100)),lost:=Vbiraa.less (Vbiraa.taken (reachAt h.net c) (Vbiraa.mul (mk (winQ h.net (ptAt h t0) W (reachAt h.net c).parent) DD) (mk (partAt h c t) 100))) (through (reachAt h.net c) (Vbiraa.mul (mk (winQ h.net (ptAt h t0) W (reachAt h.net c).parent) DD) (mk (partAt h c t) 100))) }
        (accountFrom h f (some c) (t + (reachAt h.net c).delay) (through (reachAt h.net c) (Vbiraa.mul (mk (winQ h.net (ptAt h t0) W (reachAt h.net c).parent) DD) (mk (partAt h c t) 100)))) =
      acc A (cT h t0 W c + L) (ba h t0 W c + S) O:=by
  subst ht
  obtain ⟨a1,a2,a3,a4,_⟩:=dW (pt:=ptAt h t0) hw hW hc
  have a1:Vbiraa.mul (mk (winQ h.net (ptAt h t0) W (reachAt h.net c).parent) DD) (mk (partAt h c (t0 + above h.net c)) 100)=mk (vR h t0 W c).1 DD:=a1
  have a2:Vbiraa.taken (reachAt h.net c) (mk (vR h t0 W c).1 DD)=mk (vR h t0 W c).2.1 DD:=a2
  have a3:Vbiraa.spilled (reachAt h.net c) (mk (vR h t0 W c).1 DD)=mk (ba h t0 W c) DD:=a3
  have a4:through (reachAt h.net c) (mk (vR h t0 W c).1 DD)=mk (vR h t0 W c).2.2 DD:=a4
  rw [a1,a2,a3,a4,xK bv,e,f7]
  show addA (acc 0 (cT h t0 W c) (ba h t0 W c) 0) _=_
  rw [sn,Nat.zero_add,Nat.zero_add]
theorem fE (hw:WF h.net) {c:Nat} {p:Option Nat} (hc:c∈children h.net p):above h.net c=abQ h.net p:=by
  obtain ⟨h1,h2⟩:=aN.mp hc
  rw [jM hw.par h1,h2]
  cases p <;> rfl
theorem dY (hw:WF h.net) {c:Nat} {p:Option Nat} (hc:c∈children h.net p):depth h.net c=dQ h.net p + 1:=by
  obtain ⟨h1,h2⟩:=aN.mp hc
  rw [bi hw.par h1,h2]
  cases p <;> rfl
theorem rG (x:Nat):({ zeroA with arrived:=mk x DD }:Account)=acc x 0 0 0:=by
  rw [f7]
  rfl
theorem xx (hw:WF h.net) (hW:100 ^ 16∣W) (hP:kH h):∀ (f c:Nat),c < h.net.length→8≤f + depth h.net c →
    accountFrom h (f + 1) (some c) (t0 + above h.net c + (reachAt h.net c).delay) (mk (vR h t0 W c).2.2 DD) =
      acc (vEnd h t0 W c + bg h.net (vEnd h t0 W) f (some c)) (bg h.net (cT h t0 W) f (some c)) (bg h.net (ba h t0 W) f (some c)) (vOff h t0 W c + bg h.net (vOff h t0 W) f (some c)):=by
  intro f
  induction f with
  | zero =>
    intro c hc hf
    have hno:children h.net (some c)=[]:=by
      cases e:children h.net (some c) with
      | nil=>rfl
      | cons d r =>
        have hd:d∈children h.net (some c):=by
          rw [e]
          exact List.mem_cons_self ..
        have h1:=dY hw hd
        have h2:=hw.deep d (aN.mp hd).1
        have h1:depth h.net d=depth h.net c + 1:=h1
        omega
    rw [nR,hno]
    rw [if_pos ⟨rfl,rfl⟩,rG]
    unfold vEnd vOff bg
    rw [hno]
    rfl
  | succ f ih =>
    intro c hc hf
    rw [nR]
    by_cases e:(children h.net (some c)).isEmpty=true
    · rw [if_pos ⟨e,rfl⟩,rG]
      have hno:children h.net (some c)=[]:=List.isEmpty_iff.mp e
      unfold vEnd vOff bg
      rw [hno]
      rfl
    · rw [if_neg (fun z=>e z.1)]
      have hd8:=hw.deep c hc
      have hcd:depth h.net c≤7:=by
        cases e2:children h.net (some c) with
        | nil =>
          rw [e2] at e
          exact absurd rfl e
        | cons d r =>
          have hd:d∈children h.net (some c):=by
            rw [e2]
            exact List.mem_cons_self ..
          have h1:depth h.net d=depth h.net c + 1:=dY hw hd
          have h2:=hw.deep d (aN.mp hd).1
          omega
      have hdv:100 ^ 2∣(vR h t0 W c).2.2:=by
        have:=(pK (pt:=ptAt h t0) hw hW c hc (16 - 2 * depth h.net c) (by omega)).2
        exact Nat.dvd_trans (Nat.pow_dvd_pow 100 (by omega)) this
      have hmul:100∣(vR h t0 W c).2.2 * (100 - bO h (some c) (t0 + above h.net c + (reachAt h.net c).delay)):=(iB (m:=1) hdv).1
      rw [mulD bv hmul]
      have hch:((children h.net (some c)).map fun i=>addA { zeroA with spilled:=Vbiraa.spilled (reachAt h.net i) (Vbiraa.mul (mk (vR h t0 W c).2.2 DD) (mk (partAt h i (t0 + above h.net c + (reachAt h.net c).delay)) 100)),lost:=Vbiraa.less (Vbiraa.taken (reachAt h.net i) (Vbiraa.mul (mk (vR h t0 W c).2.2 DD) (mk (partAt h i (t0 + above h.net c + (reachAt h.net c).delay)) 100))) (through (reachAt h.net i) (Vbiraa.mul (mk (vR h t0 W c).2.2 DD) (mk (partAt h i (t0 + above h.net c + (reachAt h.net c).delay)) 100))) }
          (accountFrom h (f + 1) (some i) (t0 + above h.net c + (reachAt h.net c).delay + (reachAt h.net i).delay) (through (reachAt h.net i) (Vbiraa.mul (mk (vR h t0 W c).2.2 DD) (mk (partAt h i (t0 + above h.net c + (reachAt h.net c).delay)) 100))))) =
          (children h.net (some c)).map fun i=>acc (vEnd h t0 W i + bg h.net (vEnd h t0 W) f (some i)) (cT h t0 W i + bg h.net (cT h t0 W) f (some i)) (ba h t0 W i + bg h.net (ba h t0 W) f (some i)) (vOff h t0 W i + bg h.net (vOff h t0 W) f (some i)):=by
        refine List.map_congr_left fun i hi=>?_
        obtain ⟨i1,i2⟩:=aN.mp hi
        have hab:above h.net i=above h.net c + (reachAt h.net c).delay:=fE hw hi
        have hde:depth h.net i=depth h.net c + 1:=dY hw hi
        have:=oX (t:=t0 + above h.net c + (reachAt h.net c).delay) hw hW i1 (by rw [hab,Nat.add_assoc]) (ih i i1 (by omega))
        rw [i2] at this
        exact this
      rw [hch,f7]
      show List.foldl addA (acc 0 0 0 _) _=_
      rw [ny (children h.net (some c)) (fun i=>vEnd h t0 W i + bg h.net (vEnd h t0 W) f (some i)) (fun i=>cT h t0 W i + bg h.net (cT h t0 W) f (some i)) (fun i=>ba h t0 W i + bg h.net (ba h t0 W) f (some i)) (fun i=>vOff h t0 W i + bg h.net (vOff h t0 W) f (some i))]
      have e1:vEnd h t0 W c=0:=if_neg e
      have e2:vOff h t0 W c=(vR h t0 W c).2.2 * (100 - bO h (some c) (t0 + above h.net c + (reachAt h.net c).delay)) / 100:=if_neg e
      rw [e1,e2]
      simp only [Nat.zero_add]
      rfl
theorem qr (hw:WF h.net) (hW:100 ^ 16∣W) (hP:kH h):accountFrom h 9 none t0 (mk W DD) =
    acc (sumN h.net.length (vEnd h t0 W)) (sumN h.net.length (cT h t0 W)) (sumN h.net.length (ba h t0 W)) (W * (100 - bO h none t0) / 100 + sumN h.net.length (vOff h t0 W)):=by
  rw [show (9:Nat)=8 + 1 from rfl,nR,if_neg (fun z=>Bool.false_ne_true z.2)]
  have hmul:100∣W * (100 - bO h none t0):=(iB (m:=15) hW).1
  rw [mulD bv hmul]
  have hch:((children h.net none).map fun i=>addA { zeroA with spilled:=Vbiraa.spilled (reachAt h.net i) (Vbiraa.mul (mk W DD) (mk (partAt h i t0) 100)),lost:=Vbiraa.less (Vbiraa.taken (reachAt h.net i) (Vbiraa.mul (mk W DD) (mk (partAt h i t0) 100))) (through (reachAt h.net i) (Vbiraa.mul (mk W DD) (mk (partAt h i t0) 100))) }
      (accountFrom h 8 (some i) (t0 + (reachAt h.net i).delay) (through (reachAt h.net i) (Vbiraa.mul (mk W DD) (mk (partAt h i t0) 100))))) =
      (children h.net none).map fun i=>acc (vEnd h t0 W i + bg h.net (vEnd h t0 W) 7 (some i)) (cT h t0 W i + bg h.net (cT h t0 W) 7 (some i)) (ba h t0 W i + bg h.net (ba h t0 W) 7 (some i)) (vOff h t0 W i + bg h.net (vOff h t0 W) 7 (some i)):=by
    refine List.map_congr_left fun i hi=>?_
    obtain ⟨i1,i2⟩:=aN.mp hi
    have hab:above h.net i=0:=fE hw hi
    have hde:depth h.net i=0 + 1:=dY hw hi
    have:=oX (t:=t0) hw hW i1 (by rw [hab]; rfl) (xx hw hW hP 7 i i1 (by omega))
    rw [i2] at this
    exact this
  rw [hch,f7]
  show List.foldl addA (acc 0 0 0 _) _=_
  rw [ny (children h.net none) (fun i=>vEnd h t0 W i + bg h.net (vEnd h t0 W) 7 (some i)) (fun i=>cT h t0 W i + bg h.net (cT h t0 W) 7 (some i)) (fun i=>ba h t0 W i + bg h.net (ba h t0 W) 7 (some i)) (fun i=>vOff h t0 W i + bg h.net (vOff h t0 W) 7 (some i)),
    ← g8 hw (vEnd h t0 W) (Nat.le_refl 8),←g8 hw (cT h t0 W) (Nat.le_refl 8),←g8 hw (ba h t0 W) (Nat.le_refl 8),←g8 hw (vOff h t0 W) (Nat.le_refl 8)]
  simp only [Nat.zero_add]
  rfl
theorem qT {w:Nat} (hw:100∣w) (l:List Nat) (p:Nat→Nat) (hp:(l.map p).sum≤100):w * (100 - (l.map p).sum) / 100 + (l.map fun c=>w * p c / 100).sum=w:=by
  obtain ⟨k,rfl⟩:=hw
  have e:∀ x:Nat,100 * k * x / 100=k * x:=fun x=>by
    rw [Nat.mul_assoc,Nat.mul_div_cancel_left _ (by decide)]
  have e2:∀ l:List Nat,(l.map fun c=>100 * k * p c / 100).sum=k * (l.map p).sum:=by
    intro l
    induction l with
    | nil=>rfl
    | cons x l ih=>rw [List.map_cons,List.sum_cons,ih,e,List.map_cons,List.sum_cons,Nat.mul_add]
  rw [e,e2,←Nat.mul_add,show 100 - (l.map p).sum + (l.map p).sum=100 by omega,Nat.mul_comm]
theorem rh (hw:WF h.net) (hW:100 ^ 16∣W) (hP:kH h) :
    (W * (100 - bO h none t0) / 100 + sumN h.net.length (vOff h t0 W)) + sumN h.net.length (fun i=>(vR h t0 W i).1)=W + sumN h.net.length (fun i=>if (children h.net (some i)).isEmpty=true then 0 else (vR h t0 W i).2.2):=by
  rw [sL hw.par fun i=>(vR h t0 W i).1]
  have top:W * (100 - bO h none t0) / 100 + ((children h.net none).map fun i=>(vR h t0 W i).1).sum=W:=by
    have e:((children h.net none).map fun i=>(vR h t0 W i).1)=(children h.net none).map fun i=>W * partAt h i t0 / 100:=by
      refine List.map_congr_left fun i hi=>?_
      obtain ⟨i1,i2⟩:=aN.mp hi
      have hab:above h.net i=0:=fE hw hi
      obtain ⟨_,_,_,_,a5,_⟩:=dW (pt:=ptAt h t0) hw hW i1
      show (row _ _ _ _).1=_
      rw [a5,i2]
      show W * partAt h i (t0 + above h.net i) / 100=_
      rw [hab,Nat.add_zero]
    rw [e]
    exact qT (Nat.dvd_trans (by decide) hW) _ _ (hP none t0)
  have inner:sumN h.net.length (vOff h t0 W) + sumN h.net.length (fun q=>((children h.net (some q)).map fun i=>(vR h t0 W i).1).sum)=sumN h.net.length (fun i=>if (children h.net (some i)).isEmpty=true then 0 else (vR h t0 W i).2.2):=by
    rw [←ga]
    refine aY fun q hq=>?_
    unfold vOff
    by_cases e:(children h.net (some q)).isEmpty=true
    · rw [if_pos e,if_pos e,List.isEmpty_iff.mp e]
      rfl
    · rw [if_neg e,if_neg e]
      have e1:((children h.net (some q)).map fun i=>(vR h t0 W i).1)=(children h.net (some q)).map fun i=>(vR h t0 W q).2.2 * partAt h i (t0 + above h.net q + (reachAt h.net q).delay) / 100:=by
        refine List.map_congr_left fun i hi=>?_
        obtain ⟨i1,i2⟩:=aN.mp hi
        have hab:above h.net i=above h.net q + (reachAt h.net q).delay:=fE hw hi
        obtain ⟨_,_,_,_,a5,_⟩:=dW (pt:=ptAt h t0) hw hW i1
        show (row _ _ _ _).1=_
        rw [a5,i2]
        show (vR h t0 W q).2.2 * partAt h i (t0 + above h.net i) / 100=_
        rw [hab,←Nat.add_assoc]
      rw [e1]
      have hq8:=hw.deep q hq
      have hcd:depth h.net q≤7:=by
        cases e2:children h.net (some q) with
        | nil =>
          rw [e2] at e
          exact absurd rfl e
        | cons d r =>
          have hd:d∈children h.net (some q):=by
            rw [e2]
            exact List.mem_cons_self ..
          have h1:depth h.net d=depth h.net q + 1:=dY hw hd
          have h2:=hw.deep d (aN.mp hd).1
          omega
      have hdv:100∣(vR h t0 W q).2.2:=by
        have:=(pK (pt:=ptAt h t0) hw hW q hq (16 - 2 * depth h.net q) (by omega)).2
        exact Nat.dvd_trans (Nat.pow_dvd_pow 100 (show 1≤16 - 2 * depth h.net q by omega)) this
      exact qT hdv _ _ (hP (some q) _)
  omega
end
theorem ou (h:House) (a b c d:Nat→Nat) (e:∀ t,t < 60→Vbiraa.account h t=acc (a t) (b t) (c t) (d t)):Vbiraa.accounts h=acc (sumN 60 a) (sumN 60 b) (sumN 60 c) (sumN 60 d):=by
  unfold Vbiraa.accounts
  show ((List.range 60).map (Vbiraa.account h)).foldl addA zeroA=_
  rw [List.map_congr_left fun t ht=>e t (List.mem_range.mp ht),f7,ny]
  unfold sumN
  simp only [Nat.zero_add]
theorem nQ {h:House} (hw:WF h.net) (hP:kH h) (t:Nat):Vbiraa.account h t =
    acc (sumN h.net.length (vEnd h t (letD h t))) (sumN h.net.length (cT h t (letD h t))) (sumN h.net.length (ba h t (letD h t))) (letD h t * (100 - bO h none t) / 100 + sumN h.net.length (vOff h t (letD h t))):=by
  unfold Vbiraa.account
  show accountFrom h 9 none t (whole (Vbiraa.letAt h t))=_
  rw [uF]
  exact qr hw (gm _ _) hP
end CN
namespace CN
open Vbiraa (Net Reach House Q mk whole reachAt way children delayOf partAt through)
theorem jU (ns:Net) (i:Nat):∀ (l:List Nat) (t:Nat),Vbiraa.ticksOf ns (l++[i]) t=Vbiraa.ticksOf ns l t++[(i,t + delayOf ns l)]
  | [],t=>by
    show [(i,t)]=[(i,t + 0)]
    rfl
  | j :: l,t=>by
    show (j,t) :: Vbiraa.ticksOf ns (l++[i]) _=(j,t) :: (Vbiraa.ticksOf ns l _++_)
    rw [jU ns i l,jH,←Nat.add_assoc]
theorem lw {ns:Net} (hp:Par ns) (t:Nat):∀ (i:Nat),i < ns.length→Vbiraa.ticksOf ns (way ns i) t=(way ns i).map fun j=>(j,t + above ns j):=by
  intro i
  induction i using Nat.strongRecOn with
  | _ i ih =>
    intro hi
    have h1:Vbiraa.ticksOf ns (way ns i).dropLast t=((way ns i).dropLast).map fun j=>(j,t + above ns j):=by
      rw [f8 hp hi]
      cases e:(reachAt ns i).parent with
      | none=>rfl
      | some p =>
        have:=hp i p hi e
        exact ih p this (by omega)
    rw [eG hp hi,jU,h1,List.map_append]
    rfl
theorem wZ {ns:Net} (hp:Par ns) (pt:Nat→Nat):∀ (i:Nat),i < ns.length→row ns pt 0 i=(0,0,0):=by
  intro i
  induction i using Nat.strongRecOn with
  | _ i ih =>
    intro hi
    rw [mI hp hi]
    have:winQ ns pt 0 (reachAt ns i).parent=0:=by
      cases e:(reachAt ns i).parent with
      | none=>rfl
      | some p =>
        have:=hp i p hi e
        show (row ns pt 0 p).2.2=0
        rw [ih p this (by omega)]
    rw [this]
    unfold cy
    simp
theorem sq {ns:Net} (hw:WF ns):∀ (i:Nat),i < ns.length→above ns i + 10≤10 * depth ns i:=by
  intro i
  induction i using Nat.strongRecOn with
  | _ i ih =>
    intro hi
    rw [jM hw.par hi,bi hw.par hi]
    cases e:(reachAt ns i).parent with
    | none=>simp
    | some p =>
      have h1:=hw.par i p hi e
      have h2:=ih p h1 (by omega)
      have h3:=(hw.num p (by omega)).1
      show above ns p + (reachAt ns p).delay + 10≤10 * (depth ns p + 1)
      omega
theorem sM (n k:Nat) (g:Nat→Nat):sumN (n + k) (fun t=>if t < k then 0 else g (t - k))=sumN n g:=by
  induction n with
  | zero =>
    rw [Nat.zero_add,aY (h:=fun _=>0) fun t ht=>if_pos ht,dC]
    rfl
  | succ n ih =>
    rw [show n + 1 + k=n + k + 1 by omega,a9,a9,ih,if_neg (by omega),Nat.add_sub_cancel]
theorem wK {n m:Nat} (h:m≤n) {g:Nat→Nat} (hg:∀ t,m≤t→g t=0):sumN n g=sumN m g:=by
  induction n with
  | zero =>
    have:m=0:=by omega
    subst this
    rfl
  | succ n ih =>
    by_cases c:m=n + 1
    · rw [c]
    · rw [a9,ih (by omega),hg n (by omega),Nat.add_zero]
theorem vo {h:House} (hw:WF h.net) (hlen:h.lets.length≤60) {i:Nat} (hi:i < h.net.length) :
    Vbiraa.sumQ ((List.range (Vbiraa.TICKS + Vbiraa.DEEP * Vbiraa.DELAY)).map fun t=>Vbiraa.spilled (reachAt h.net i) (Vbiraa.offerAt h i t))=mk (sumN 60 fun t=>ba h t (letD h t) i) DD:=by
  have e:((List.range (Vbiraa.TICKS + Vbiraa.DEEP * Vbiraa.DELAY)).map fun t=>Vbiraa.spilled (reachAt h.net i) (Vbiraa.offerAt h i t)) =
      ((List.range 140).map fun t=>if t < above h.net i then 0 else ba h (t - above h.net i) (letD h (t - above h.net i)) i).map fun x=>mk x DD:=by
    rw [List.map_map]
    refine List.map_congr_left fun t _=>?_
    rw [jC hw hi]
    show _=mk (if t < above h.net i then 0 else ba h (t - above h.net i) (letD h (t - above h.net i)) i) DD
    by_cases c:t < above h.net i
    · rw [if_pos c,if_pos c,←fu bv,jm]
      simp
    · rw [if_neg c,if_neg c]
      obtain ⟨_,_,a3,_⟩:=dW (pt:=ptAt h (t - above h.net i)) hw (gm h (t - above h.net i)) hi
      exact a3
  rw [e,sumQD bv]
  have ha:=sq hw i hi
  have hd:=hw.deep i hi
  have e2:((List.range 140).map fun t=>if t < above h.net i then 0 else ba h (t - above h.net i) (letD h (t - above h.net i)) i).sum=sumN 60 fun t=>ba h t (letD h t) i:=by
    have e3:=sM (140 - above h.net i) (above h.net i) fun t=>ba h t (letD h t) i
    rw [show 140 - above h.net i + above h.net i=140 by omega] at e3
    unfold sumN at e3
    rw [e3]
    refine wK (by omega) fun t ht=>?_
    have hz:letD h t=0:=by
      unfold letD Vbiraa.letAt
      rw [List.getD_eq_getElem?_getD,List.getElem?_eq_none (by omega)]
      exact Nat.zero_mul _
    unfold ba vR
    rw [hz,wZ hw.par _ i hi]
    rfl
  rw [e2]
end CN
namespace CN
open Vbiraa (Net Reach House Setting Q mk whole reachAt way children delayOf partAt)
structure HInv (h:House):Prop where
  wf:WF h.net
  lets:h.lets.length≤60
  letB:∀ x∈h.lets,x≤1000000
  setN:h.settings.length≤60
  sets:∀ s∈h.settings,s.reach < h.net.length∧s.tick < 60∧s.part≤100
  parts:kH h
theorem yJ {l:List Nat} {g:Nat→Nat} {i:Nat} (h:i∈l):g i≤(l.map g).sum:=by
  induction l with
  | nil=>cases h
  | cons x l ih =>
    rw [List.map_cons,List.sum_cons]
    rcases List.mem_cons.mp h with h | h
    · subst h
      exact Nat.le_add_right _ _
    · exact Nat.le_trans (ih h) (Nat.le_add_left _ _)
theorem HInv.partB {h:House} (H:HInv h) {i:Nat} (hi:i < h.net.length) (t:Nat):partAt h i t≤100:=by
  have h1:partAt h i t≤bO h (reachAt h.net i).parent t:=yJ (g:=fun i=>partAt h i t) (aN.mpr ⟨hi,rfl⟩)
  exact Nat.le_trans h1 (H.parts _ t)
theorem eY (h:House) (i t:Nat):partAt h i t=match (h.settings.filter fun s=>s.reach == i && decide (s.tick≤t)).foldl (fun (b:Option Setting) s=>match b with
  | none=>some s
  | some x=>if Vbiraa.later s x=true then some s else some x) none with
  | some s=>s.part
  | none=>(reachAt h.net i).gate:=rfl
theorem j4 {h g:House} {i t u:Nat} (hn:reachAt h.net i=reachAt g.net i) (e:(h.settings.filter fun s=>s.reach == i && decide (s.tick≤t))=(g.settings.filter fun s=>s.reach == i && decide (s.tick≤u))):partAt h i t=partAt g i u:=by
  rw [eY,eY,e,hn]
theorem qW {h:House} (hs:∀ s∈h.settings,s.tick < 60) {i t:Nat} (ht:59≤t):partAt h i t=partAt h i 59:=by
  refine j4 rfl (List.filter_congr fun s hm=>?_)
  have:=hs s hm
  congr 1
  exact decide_eq_decide.mpr (by omega)
theorem pP {h:House} {s:Setting} {i t:Nat} (hi:s.reach≠i):partAt { h with settings:=h.settings++[s] } i t=partAt h i t:=by
  refine j4 rfl ?_
  show (h.settings++[s]).filter _=_
  rw [List.filter_append,List.filter_cons,if_neg (by rw [Bool.and_eq_true,beq_iff_eq]; exact fun z=>hi z.1),List.filter_nil,List.append_nil]
theorem oG {h:House} (hs:∀ s∈h.settings,s.tick < 60) (p:Option Nat) {t:Nat} (ht:59≤t):bO h p t=bO h p 59:=by
  unfold bO
  rw [List.map_congr_left fun i _=>qW hs ht]
def fitH (h:House) (p:Option Nat):Bool:=(List.range 60).all fun t=>decide (bO h p t≤100)
theorem rQ {h:House} (hs:∀ s∈h.settings,s.tick < 60) (p:Option Nat):fitH h p=true↔∀ t,bO h p t≤100:=by
  unfold fitH
  rw [List.all_eq_true]
  constructor
  · intro a t
    by_cases c:t < 60
    · exact of_decide_eq_true (a t (List.mem_range.mpr c))
    · rw [oG hs p (show 59≤t by omega)]
      exact of_decide_eq_true (a 59 (List.mem_range.mpr (by decide)))
  · intro a t _
    exact decide_eq_true (a t)
theorem nu {h:House} (hs:∀ s∈h.settings,s.tick < 60) (p:Option Nat):Vbiraa.gatesOk h p=fitH h p:=by
  rw [Bool.eq_iff_iff,rQ hs]
  unfold Vbiraa.gatesOk
  rw [List.all_eq_true]
  have e:∀ t,((children h.net p).map fun i=>partAt h i t).foldl (fun a b=>a + b) 0=bO h p t:=fun t=>by
    rw [ci,Nat.zero_add]
    rfl
  constructor
  · intro a t
    by_cases c:t < 60
    · have:=of_decide_eq_true (a t (List.mem_range.mpr (show t < 140 by omega)))
      rw [e] at this
      exact this
    · rw [oG hs p (show 59≤t by omega)]
      have:=of_decide_eq_true (a 59 (List.mem_range.mpr (show 59 < 140 by decide)))
      rw [e] at this
      exact this
  · intro a t _
    refine decide_eq_true ?_
    rw [e]
    exact a t
theorem tO:HInv Vbiraa.start:=⟨sw,by show 0≤60; decide,fun x h=>absurd h (by show x∉[]; simp),by show 0≤60; decide,fun s h=>absurd h (by show s∉[]; simp),fun p t=>by show 0≤100; decide⟩
theorem qU {h:House} (hs:h.settings=[]) (i t:Nat):partAt h i t=(reachAt h.net i).gate:=by
  rw [eY,hs]
  rfl
theorem xP {ns:Net} (hw:WF ns):HInv { net:=ns }:=by
  refine ⟨hw,by show 0≤60; decide,fun x h=>absurd h (by show x∉[]; simp),by show 0≤60; decide,fun s h=>absurd h (by show s∉[]; simp),fun p t=>?_⟩
  have:=hw.gates p
  unfold Vbiraa.gatesAt at this
  rw [ci,Nat.zero_add] at this
  unfold bO
  rw [List.map_congr_left fun i _=>qU (h:={ net:=ns }) rfl i t]
  exact this
theorem xQ {h:House} (H:HInv h) {t:Nat} {vs:List Nat} (hv:∀ x∈vs,x≤1000000):HInv { h with lets:=Vbiraa.put h.lets t vs }:=by
  refine ⟨H.wf,?_,?_,H.setN,H.sets,fun p u=>?_⟩
  · show (Vbiraa.put h.lets t vs).length≤60
    unfold Vbiraa.put
    rw [List.length_map,List.length_range]
    exact Nat.le_refl _
  · intro x hx
    have hx:x∈Vbiraa.put h.lets t vs:=hx
    unfold Vbiraa.put at hx
    obtain ⟨k,_,rfl⟩:=List.mem_map.mp hx
    have gd:∀ (l:List Nat) (j:Nat),(∀ x∈l,x≤1000000)→l.getD j 0≤1000000:=fun l j hl=>by
      rw [List.getD_eq_getElem?_getD]
      cases e:l[j]? with
      | none=>exact Nat.zero_le _
      | some y=>exact hl y (List.mem_of_getElem? e)
    split
    · exact gd _ _ hv
    · exact gd _ _ H.letB
  · have e:bO { h with lets:=Vbiraa.put h.lets t vs } p u=bO h p u:=by
      unfold bO
      rfl
    rw [e]
    exact H.parts p u
theorem vQ {h:House} (H:HInv h) {s:Setting} (h1:s.reach < h.net.length) (h2:s.tick < 60) (h3:s.part≤100) (h4:h.settings.length < 60) (hf:fitH { h with settings:=h.settings++[s] } (reachAt h.net s.reach).parent=true):HInv { h with settings:=h.settings++[s] }:=by
  have hs:∀ q∈h.settings++[s],q.reach < h.net.length∧q.tick < 60∧q.part≤100:=fun q hq=>by
    rcases List.mem_append.mp hq with hq | hq
    · exact H.sets q hq
    · rw [List.mem_singleton.mp hq]
      exact ⟨h1,h2,h3⟩
  refine ⟨H.wf,H.lets,H.letB,?_,hs,fun p t=>?_⟩
  · show (h.settings++[s]).length≤60
    rw [List.length_append]
    show h.settings.length + 1≤60
    omega
  · by_cases c:p=(reachAt h.net s.reach).parent
    · subst c
      exact (rQ (fun q hq=>(hs q hq).2.1) _).mp hf t
    · have e:bO { h with settings:=h.settings++[s] } p t=bO h p t:=by
        unfold bO
        show ((children h.net p).map _).sum=_
        rw [List.map_congr_left fun i hi=>pP (h:=h) (s:=s) (t:=t) fun z=>c (by rw [z]; exact (aN.mp hi).2.symm)]
      rw [e]
      exact H.parts p t
end CN
namespace CN
open Vbiraa (Net Reach House Setting reachAt children way partAt)
def be (ns:Net) (i c:Nat):Net:=ns.set i { reachAt ns i with cap:=c }
def bF (h:House) (i c:Nat):House:={ h with net:=be h.net i c }
theorem fB (ns:Net) (i c:Nat):(be ns i c).length=ns.length:=by
  unfold be
  rw [List.length_set]
theorem iG {ns:Net} {i c:Nat} (hi:i < ns.length) (j:Nat):reachAt (be ns i c) j=if j=i then { reachAt ns i with cap:=c } else reachAt ns j:=by
  unfold be
  by_cases e:j=i
  · subst e
    rw [if_pos rfl]
    show (List.set _ _ _).getD _ _=_
    rw [List.getD_eq_getElem?_getD,List.getElem?_set_self hi]
    rfl
  · rw [if_neg e]
    unfold reachAt
    rw [List.getD_eq_getElem?_getD,List.getElem?_set_ne (fun z=>e z.symm),←List.getD_eq_getElem?_getD]
theorem jI {ns:Net} {i c:Nat} (hi:i < ns.length) (j:Nat):(reachAt (be ns i c) j).parent=(reachAt ns j).parent:=by
  rw [iG hi]
  split
  · rename_i e; subst e; rfl
  · rfl
theorem vZ {ns:Net} {i c:Nat} (hi:i < ns.length) (j:Nat):(reachAt (be ns i c) j).delay=(reachAt ns j).delay:=by
  rw [iG hi]
  split
  · rename_i e; subst e; rfl
  · rfl
theorem rY {ns:Net} {i c:Nat} (hi:i < ns.length) (j:Nat):(reachAt (be ns i c) j).gate=(reachAt ns j).gate:=by
  rw [iG hi]
  split
  · rename_i e; subst e; rfl
  · rfl
theorem kl {ns:Net} {i c:Nat} (hi:i < ns.length) (p:Option Nat):children (be ns i c) p=children ns p:=by
  unfold children
  rw [fB]
  refine List.filter_congr fun j _=>?_
  rw [jI hi]
theorem iF {ns:Net} {i c:Nat} (hi:i < ns.length):∀ f j,Vbiraa.wayFrom (be ns i c) f j=Vbiraa.wayFrom ns f j
  | 0,j=>rfl
  | f + 1,j=>by
    rw [bR,bR,jI hi]
    cases (reachAt ns j).parent with
    | none=>rfl
    | some p=>show _++_=_++_; rw [iF hi f p]
theorem p8 {ns:Net} {i c:Nat} (hi:i < ns.length) (j:Nat):way (be ns i c) j=way ns j:=by
  unfold way
  first
    | rw [iF hi,fB]
    | rw [iF hi]
theorem tY {h:House} {i c:Nat} (hi:i < h.net.length) (j t:Nat):partAt (bF h i c) j t=partAt h j t:=by
  have g:(reachAt (bF h i c).net j).gate=(reachAt h.net j).gate:=rY hi j
  rw [eY,eY,g]
  rfl
theorem xR {h:House} (H:HInv h) {i c:Nat} (hi:i < h.net.length) (h1:1≤c) (h2:c≤100000):HInv (bF h i c):=by
  have hl:(bF h i c).net.length=h.net.length:=fB ..
  refine ⟨⟨?_,?_,?_,?_,?_,?_,?_⟩,H.lets,H.letB,H.setN,?_,?_⟩
  · intro j p hj e
    have e:(reachAt (be h.net i c) j).parent=some p:=e
    rw [jI hi] at e
    exact H.wf.par j p (by omega) e
  · have e:h.net.set i { reachAt h.net i with cap:=c }=be h.net i c:=rfl
    show mi (be h.net i c)
    intro r hr
    obtain ⟨j,hj,rfl⟩:=List.mem_iff_getElem.mp hr
    have hj':j < h.net.length:=by rw [fB] at hj; exact hj
    have e2:(be h.net i c)[j]=reachAt (be h.net i c) j:=by
      unfold reachAt
      rw [List.getD_eq_getElem?_getD,List.getElem?_eq_getElem hj]
      rfl
    rw [e2,iG hi]
    have e3:∀ k,k < h.net.length→reachAt h.net k∈h.net:=fun k hk=>by
      unfold reachAt
      rw [List.getD_eq_getElem?_getD,List.getElem?_eq_getElem hk]
      exact List.getElem_mem hk
    split
    · have:=H.wf.names _ (e3 i hi)
      exact this
    · exact H.wf.names _ (e3 j hj')
  · intro j hj
    unfold depth
    show (way (be h.net i c) j).length≤8
    rw [p8 hi]
    exact H.wf.deep j (by omega)
  · intro j hj
    have e:reachAt (bF h i c).net j=_:=iG hi j
    rw [e]
    split
    · have:=H.wf.num i hi
      exact ⟨this.1,this.2.1,this.2.2.1,h1,h2,this.2.2.2.2.2⟩
    · exact H.wf.num j (by omega)
  · rw [hl]
    exact H.wf.len
  · intro p
    have:=H.wf.gates p
    show Vbiraa.gatesAt (be h.net i c) p≤100
    unfold Vbiraa.gatesAt at this ⊢
    rw [kl hi,List.map_congr_left fun j _=>rY hi j]
    exact this
  · intro r hr
    have hr:r∈be h.net i c:=hr
    obtain ⟨j,hj,rfl⟩:=List.mem_iff_getElem.mp hr
    have hj':j < h.net.length:=by rw [fB] at hj; exact hj
    have e2:(be h.net i c)[j]=reachAt (be h.net i c) j:=by
      unfold reachAt
      rw [List.getD_eq_getElem?_getD,List.getElem?_eq_getElem hj]
      rfl
    rw [e2,iG hi]
    have e3:∀ k,k < h.net.length→reachAt h.net k∈h.net:=fun k hk=>by
      unfold reachAt
      rw [List.getD_eq_getElem?_getD,List.getElem?_eq_getElem hk]
      exact List.getElem_mem hk
    split
    · have:=H.wf.nlen _ (e3 i hi)
      exact this
    · exact H.wf.nlen _ (e3 j hj')
  · intro s hs
    rw [hl]
    exact H.sets s hs
  · intro p t
    have:=H.parts p t
    unfold bO at this ⊢
    show ((children (be h.net i c) p).map _).sum≤100
    rw [kl hi,List.map_congr_left fun j _=>tY hi j t]
    exact this
theorem wI:∀ (l:List Nat) (n:Nat),l.length≤n→((List.range n).map fun t=>l.getD t 0).sum=l.foldl (fun a b=>a + b) 0:=by
  intro l n hn
  have key:∀ (l:List Nat) (n:Nat),l.length≤n→((List.range n).map fun t=>l.getD t 0).sum=l.sum:=by
    intro l
    induction l with
    | nil =>
      intro n _
      induction n with
      | zero=>rfl
      | succ n ih =>
        rw [List.range_succ,List.map_append,List.sum_append]
        have:=ih (Nat.zero_le _)
        rw [this]
        rfl
    | cons x l ih =>
      intro n hn
      match n,hn with
      | n + 1,hn =>
        rw [List.range_succ_eq_map,List.map_cons,List.map_map,List.sum_cons,List.sum_cons]
        have:=ih n (by rw [List.length_cons] at hn; omega)
        rw [←this]
        rfl
  rw [key l n hn,←Nat.zero_add l.sum,←ci]
end CN
namespace CN
open Vbiraa (Net Reach House Q mk whole reachAt way children offerFor wantFrom sumQ)
structure Low (q:Q):Prop where intro ::
  pos:0 < q.d
  cop:Nat.Coprime q.n q.d
theorem Low.eq {q:Q} (h:Low q):mk q.n q.d=q:=uE h.pos h.cop
theorem tJ {n d:Nat} (h:0 < d):Low (mk n d):=⟨d8 h,mk_cop h⟩
theorem dL (n:Nat):Low (whole n):=⟨Nat.one_pos,Nat.coprime_one_right n⟩
theorem yT {n d:Nat} (h:0 < d):(mk n d).n≤n:=by
  rw [gL h]
  exact Nat.div_le_self _ _
theorem kf {n d:Nat} (h:0 < d):(mk n d).d≤d:=by
  rw [gL h]
  exact Nat.div_le_self _ _
theorem xC {n d k:Nat} (h:0 < d) (e:n≤k * d):(mk n d).n≤k * (mk n d).d:=by
  have c:=b9 (n:=n) h
  refine Nat.le_of_mul_le_mul_right ?_ h
  rw [c]
  calc n * (mk n d).d≤(k * d) * (mk n d).d:=Nat.mul_le_mul_right _ e
    _=_:=by rw [Nat.mul_assoc,Nat.mul_comm d,←Nat.mul_assoc]
def bf (r:Reach) (q:Q):Q:=mk (q.n * 100 + r.soak * (100 - r.loss) * q.d) (q.d * (100 - r.loss))
theorem eJ {r:Reach} {q:Q} (hl:r.loss≤99) (h:Low q):0 < q.d * (100 - r.loss):=Nat.mul_pos h.pos (by omega)
theorem jV {r:Reach} {q:Q} (hl:r.loss≤99) (h:Low q):Low (bf r q):=tJ (eJ hl h)
theorem wF {r:Reach} {q:Q} (hl:r.loss≤99) (h:Low q):Vbiraa.add (Vbiraa.over q (mk (100 - r.loss) 100)) (whole r.soak)=bf r q:=by
  have hk:0 < 100 - r.loss:=by omega
  have e:=uz (a:=q.n) (b:=q.d) (c:=100 - r.loss) (d:=100) h.pos (by decide) hk
  rw [h.eq] at e
  rw [e,jQ,uh (eJ hl h) (by decide)]
  unfold bf
  rw [Nat.mul_one,Nat.mul_one,Nat.mul_comm q.d,←Nat.mul_assoc]
theorem fr {r:Reach} {q:Q} (hl:r.loss≤99) (h:Low q) (hn:q.n≠0):offerFor r q=if (bf r q).n≤r.cap * (bf r q).d then some (bf r q) else none:=by
  unfold offerFor
  rw [if_neg hn,wF hl h]
  show (if decide ((bf r q).n * 1≤r.cap * (bf r q).d)=true then _ else _)=_
  rw [Nat.mul_one]
  simp only [decide_eq_true_eq]
theorem je {r:Reach} {q:Q} (hn:q.n=0):offerFor r q=some (whole 0):=by
  unfold offerFor
  rw [if_pos hn]
theorem uj {r:Reach} {q:Q} (hl:r.loss≤99) (h:Low q) (hn:q.n≠0):(bf r q).n≠0:=fun z=>by
  have:=(k8 (eJ hl h)).mp z
  omega
def ndQ (r:Reach) (p:Nat) (q:Q):Option Q:=if p=0∨¬ (bf r q).n≤r.cap * (bf r q).d then none else some (mk ((bf r q).n * 100) ((bf r q).d * p))
def cK (ns:Net) (pt:Nat→Nat):List Nat→Q→Option Q
  | [],x=>some x
  | i :: l,x=>(ndQ (reachAt ns i) (pt i) x).bind (cK ns pt l)
theorem ip (ns:Net) (pt:Nat→Nat):∀ (l m:List Nat) (x:Q),cK ns pt (l++m) x=(cK ns pt l x).bind (cK ns pt m)
  | [],m,x=>rfl
  | i :: l,m,x=>by
    show (ndQ _ _ x).bind (cK ns pt (l++m))=((ndQ _ _ x).bind (cK ns pt l)).bind _
    cases ndQ (reachAt ns i) (pt i) x with
    | none=>rfl
    | some y=>exact ip ns pt l m y
theorem rq {r:Reach} {p:Nat} {q y:Q} (hl:r.loss≤99) (h:Low q) (hn:q.n≠0) (e:ndQ r p q=some y):Low y∧y.n≠0:=by
  unfold ndQ at e
  split at e
  · cases e
  · rename_i c
    have e:=Option.some.inj e
    subst e
    have hp:0 < (bf r q).d * p:=Nat.mul_pos (jV hl h).pos (by omega)
    refine ⟨tJ hp,fun z=>?_⟩
    have:=(k8 hp).mp z
    have:=uj hl h hn
    omega
theorem m6 {h:House} {i t:Nat} {l:List (Nat × Nat)} {q:Q} (hl:(reachAt h.net i).loss≤99) (hq:Low q) (hn:q.n≠0) :
    Vbiraa.needFrom h ((i,t) :: l) q=(ndQ (reachAt h.net i) (Vbiraa.partAt h i t) q).bind (Vbiraa.needFrom h l):=by
  show (offerFor (reachAt h.net i) q).bind _=_
  rw [fr hl hq hn]
  unfold ndQ
  by_cases c:(bf (reachAt h.net i) q).n≤(reachAt h.net i).cap * (bf (reachAt h.net i) q).d
  · rw [if_pos c]
    show (if (bf (reachAt h.net i) q).n=0 then _ else _)=_
    rw [if_neg (uj hl hq hn)]
    show (if Vbiraa.partAt h i t=0 then none else _)=_
    by_cases c2:Vbiraa.partAt h i t=0
    · rw [if_pos c2,if_pos (.inl c2)]
      rfl
    · rw [if_neg c2,if_neg (fun z=>z.elim c2 (fun z=>z c))]
      have lt:=jV hl hq
      have e:=uz (a:=(bf (reachAt h.net i) q).n) (b:=(bf (reachAt h.net i) q).d) (c:=Vbiraa.partAt h i t) (d:=100) lt.pos (by decide) (by omega)
      rw [lt.eq] at e
      rw [e]
      rfl
  · rw [if_neg c,if_pos (.inr c)]
    rfl
theorem io {h:House} (hw:WF h.net) (pt:Nat→Nat):∀ (l:List (Nat × Nat)) (q:Q),(∀ x∈l,x.1 < h.net.length∧Vbiraa.partAt h x.1 x.2=pt x.1)→Low q→q.n≠0→Vbiraa.needFrom h l q=cK h.net pt (l.map (·.1)) q
  | [],q,_,_,_=>rfl
  | (i,t) :: l,q,hx,hq,hn=>by
    obtain ⟨x1,x2⟩:=hx (i,t) (List.mem_cons_self ..)
    have hl:=(hw.num i x1).2.1
    rw [m6 hl hq hn]
    show _=(ndQ (reachAt h.net i) (pt i) q).bind (cK h.net pt (l.map (·.1)))
    have x2:Vbiraa.partAt h i t=pt i:=x2
    rw [x2]
    cases e:ndQ (reachAt h.net i) (pt i) q with
    | none=>rfl
    | some y =>
      obtain ⟨y1,y2⟩:=rq hl hq hn e
      exact io hw pt l y (fun x hx'=>hx x (List.mem_cons_of_mem _ hx')) y1 y2
theorem oM {h:House}:∀ (l:List (Nat × Nat)) (q:Q),q.n=0→Vbiraa.needFrom h l q=some (if l=[] then q else whole 0)
  | [],q,_=>by rw [if_pos rfl]; rfl
  | (i,t) :: l,q,hn=>by
    show (offerFor (reachAt h.net i) q).bind _=_
    rw [je hn]
    show Vbiraa.needFrom h l (whole 0)=_
    rw [oM l (whole 0) rfl,ite_self,if_neg (by simp)]
theorem xy {h:House} (hw:WF h.net) {i:Nat} (hi:i < h.net.length) (t x:Nat):Vbiraa.need h i t (whole x)=if x=0 then some (whole 0) else cK h.net (ptAt h t) (way h.net i).reverse (whole x):=by
  unfold Vbiraa.need
  by_cases c:x=0
  · subst c
    rw [if_pos rfl,oM _ _ rfl]
    split <;> rfl
  · rw [if_neg c,lw hw.par t i hi,io hw (ptAt h t) _ (whole x) ?_ (dL x) c]
    · rw [←List.map_reverse,List.map_map]
      congr 1
      exact (List.map_congr_left (fun _ _=>rfl)).trans (List.map_id _)
    · intro y hy
      rw [List.mem_reverse,List.mem_map] at hy
      obtain ⟨j,hj,rfl⟩:=hy
      exact ⟨ml hw.par i hi j hj,rfl⟩
def b8 (l:List Q):Nat:=(l.map (·.d)).prod
theorem sX (l:List Q) (q:Q):b8 (l++[q])=b8 l * q.d:=by
  unfold b8
  rw [List.map_append,List.prod_append]
  simp
theorem mK (q:Q) (l:List Q):b8 (q :: l)=q.d * b8 l:=rfl
theorem iT {l:List Q} (h:∀ q∈l,Low q):0 < b8 l:=by
  induction l with
  | nil=>exact Nat.one_pos
  | cons x l ih =>
    rw [mK]
    exact Nat.mul_pos (h x (List.mem_cons_self ..)).pos (ih fun q hq=>h q (List.mem_cons_of_mem _ hq))
theorem sW {l:List Q} (h:∀ q∈l,Low q) (j:Nat):b8 (l.take j)≤b8 l:=by
  have e:b8 (l.take j) * b8 (l.drop j)=b8 l:=by
    unfold b8
    rw [←List.prod_append,←List.map_append,List.take_append_drop]
  rw [←e]
  exact Nat.le_mul_of_pos_right _ (iT fun q hq=>h q (List.mem_of_mem_drop hq))
def totN (l:List Q):Nat × Nat:=l.foldl (fun b q=>(b.1 * q.d + q.n * b.2,b.2 * q.d)) (0,1)
theorem oB (l:List Q) (q:Q):totN (l++[q])=((totN l).1 * q.d + q.n * (totN l).2,(totN l).2 * q.d):=by
  unfold totN
  rw [List.foldl_append]
  rfl
theorem pU {α:Type} {C:List α→Prop} (h0:C []) (h1:∀ l a,C l→C (l++[a])) (l:List α):C l:=by
  have key:∀ n (l:List α),l.length=n→C l:=by
    intro n
    induction n with
    | zero =>
      intro l hl
      rw [List.length_eq_zero_iff.mp hl]
      exact h0
    | succ n ih =>
      intro l hl
      have hne:l≠[]:=fun z=>by rw [z] at hl; cases hl
      rw [←List.dropLast_concat_getLast hne]
      exact h1 _ _ (ih _ (by rw [List.length_dropLast]; omega))
  exact key _ l rfl
theorem mq {M:Nat}:∀ (l:List Q),(∀ q∈l,Low q∧q.n≤M * q.d)→(totN l).2=b8 l∧(totN l).1≤M * l.length * b8 l∧sumQ l=mk (totN l).1 (totN l).2:=by
  intro l
  refine pU (C:=fun l=>(∀ q∈l,Low q∧q.n≤M * q.d)→(totN l).2=b8 l∧(totN l).1≤M * l.length * b8 l∧sumQ l=mk (totN l).1 (totN l).2) ?_ ?_ l
  · intro _
    exact ⟨rfl,Nat.zero_le _,(jQ 0)⟩
  · intro l q ih h
    obtain ⟨h1,h2,h3⟩:=ih fun x hx=>h x (List.mem_append.mpr (.inl hx))
    obtain ⟨q1,q2⟩:=h q (by simp)
    have hp:0 < b8 l:=iT fun x hx=>(h x (List.mem_append.mpr (.inl hx))).1
    rw [oB,sX]
    refine ⟨by rw [h1],?_,?_⟩
    · show (totN l).1 * q.d + q.n * (totN l).2≤M * (l++[q]).length * (b8 l * q.d)
      rw [h1,List.length_append,List.length_singleton,Nat.mul_add,Nat.add_mul,Nat.mul_one]
      refine Nat.add_le_add ?_ ?_
      · rw [←Nat.mul_assoc]
        exact Nat.mul_le_mul_right _ h2
      · rw [Nat.mul_comm (b8 l),←Nat.mul_assoc]
        exact Nat.mul_le_mul_right _ q2
    · have e:sumQ (l++[q])=Vbiraa.add (sumQ l) q:=by
        unfold sumQ
        rw [List.foldl_append]
        rfl
      rw [e,h3]
      have e2:=uh (a:=(totN l).1) (b:=(totN l).2) (c:=q.n) (d:=q.d) (by rw [h1]; exact hp) q1.pos
      rw [q1.eq] at e2
      exact e2
theorem pB {M:Nat} {l:List Q} (h:∀ q∈l,Low q∧q.n≤M * q.d):Low (sumQ l)∧(sumQ l).d≤b8 l∧(sumQ l).n≤M * l.length * (sumQ l).d:=by
  obtain ⟨h1,h2,h3⟩:=mq l h
  have hp:0 < (totN l).2:=by
    rw [h1]
    exact iT fun x hx=>(h x hx).1
  rw [h3]
  refine ⟨tJ hp,Nat.le_trans (kf hp) (Nat.le_of_eq h1),xC hp ?_⟩
  rw [h1]
  exact h2
end CN
namespace CN
open Vbiraa (Net Reach House Q mk whole reachAt way children offerFor wantFrom sumQ)
section
variable (ns:Net) (ask:Nat→Q)
def dA (V:Nat→Q) (i:Nat):Q:=if (children ns (some i)).isEmpty=true then ask i else sumQ ((children ns (some i)).map V)
def cS:Nat→Nat→Q
  | 0,_=>whole 0
  | f + 1,i=>(offerFor (reachAt ns i) (dA ns ask (cS f) i)).getD (whole 0)
def post:Nat→Nat→List Nat
  | 0,_=>[]
  | f + 1,i=>(children ns (some i)).flatMap (post f)++[i]
def wV (i:Nat):Q:=cS ns ask 9 i
def lV (i:Nat):Q:=dA ns ask (wV ns ask) i
def badR (i:Nat):Bool:=(offerFor (reachAt ns i) (lV ns ask i)).isNone
def pst (i:Nat):List Nat:=post ns 9 i
def bA:List Nat:=(children ns none).flatMap (pst ns)
end
section
variable {ns:Net} {ask:Nat→Q}
theorem bZ (hw:WF ns) {i c:Nat} (hc:c∈children ns (some i)):c < ns.length∧depth ns c=depth ns i + 1∧i < c:=by
  obtain ⟨c1,c2⟩:=aN.mp hc
  have hd:=bi hw.par c1
  rw [c2] at hd
  exact ⟨c1,hd,hw.par c i c1 c2⟩
theorem kY (hw:WF ns) {c:Nat} (hc:c∈children ns none):c < ns.length∧depth ns c=1:=by
  obtain ⟨c1,c2⟩:=aN.mp hc
  have hd:=bi hw.par c1
  rw [c2] at hd
  exact ⟨c1,hd⟩
theorem lK {V W:Nat→Q} {i:Nat} (h:∀ c∈children ns (some i),V c=W c):dA ns ask V i=dA ns ask W i:=by
  unfold dA
  rw [List.map_congr_left h]
theorem gu (hw:WF ns):∀ (f g i:Nat),i < ns.length→9≤f + depth ns i→9≤g + depth ns i→cS ns ask f i=cS ns ask g i
  | 0,g,i,hi,hf,_=>by
    have:=hw.deep i hi
    omega
  | f + 1,0,i,hi,_,hg=>by
    have:=hw.deep i hi
    omega
  | f + 1,g + 1,i,hi,hf,hg=>by
    show (offerFor _ (dA ns ask (cS ns ask f) i)).getD _=(offerFor _ (dA ns ask (cS ns ask g) i)).getD _
    rw [lK fun c hc=>?_]
    obtain ⟨c1,c2,_⟩:=bZ hw hc
    exact gu hw f g c c1 (by omega) (by omega)
theorem ii (hw:WF ns):∀ (f g i:Nat),i < ns.length→9≤f + depth ns i→9≤g + depth ns i→post ns f i=post ns g i
  | 0,g,i,hi,hf,_=>by
    have:=hw.deep i hi
    omega
  | f + 1,0,i,hi,_,hg=>by
    have:=hw.deep i hi
    omega
  | f + 1,g + 1,i,hi,hf,hg=>by
    show (children ns (some i)).flatMap (post ns f)++[i]=(children ns (some i)).flatMap (post ns g)++[i]
    congr 1
    rw [List.flatMap_def,List.flatMap_def,List.map_congr_left fun c hc=>?_]
    obtain ⟨c1,c2,_⟩:=bZ hw hc
    exact ii hw f g c c1 (by omega) (by omega)
theorem j0 (hw:WF ns) {i:Nat} (hi:i < ns.length):pst ns i=(children ns (some i)).flatMap (pst ns)++[i]:=by
  show (children ns (some i)).flatMap (post ns 8)++[i]=_
  congr 1
  rw [List.flatMap_def,List.flatMap_def,List.map_congr_left fun c hc=>?_]
  obtain ⟨c1,c2,_⟩:=bZ hw hc
  have:1≤depth ns i:=by
    rw [bi hw.par hi]
    cases (reachAt ns i).parent <;> simp
  exact ii hw 8 9 c c1 (by omega) (by omega)
theorem yi (hw:WF ns) {i:Nat} (hi:i < ns.length):wV ns ask i=(offerFor (reachAt ns i) (lV ns ask i)).getD (whole 0):=by
  have hd:1≤depth ns i:=by
    rw [bi hw.par hi]
    cases (reachAt ns i).parent <;> simp
  exact (gu hw 9 10 i hi (by omega) (by omega))
def jk (ns:Net) (ask:Nat→Q) (f:Nat) (a:Except Nat Q) (c:Nat):Except Nat Q:=a.bind fun x=>(wantFrom ns ask f c).map fun y=>Vbiraa.add x y
theorem rO (f:Nat) (e:Nat):∀ l:List Nat,l.foldl (jk ns ask f) (.error e)=.error e
  | []=>rfl
  | c :: l=>by
    rw [List.foldl_cons]
    exact rO f e l
def outE (b:Option Nat) (q:Q):Except Nat Q:=match b with
  | some j=>.error j
  | none=>.ok q
theorem p3 {f:Nat} {P:Nat→List Nat} {V:Nat→Q}:∀ (l:List Nat) (a:Q),(∀ c∈l,wantFrom ns ask f c=outE ((P c).find? (badR ns ask)) (V c))→l.foldl (jk ns ask f) (.ok a)=outE ((l.flatMap P).find? (badR ns ask)) ((l.map V).foldl Vbiraa.add a)
  | [],a,_=>rfl
  | c :: l,a,h=>by
    rw [List.foldl_cons,List.flatMap_cons,List.find?_append]
    have hc:=h c (List.mem_cons_self ..)
    have e:jk ns ask f (.ok a) c=(wantFrom ns ask f c).map fun y=>Vbiraa.add a y:=rfl
    rw [e,hc]
    cases hb:(P c).find? (badR ns ask) with
    | some j=>exact rO f j l
    | none =>
      show List.foldl (jk ns ask f) (.ok (Vbiraa.add a (V c))) l=outE (Option.or none _) _
      rw [p3 l _ fun d hd=>h d (List.mem_cons_of_mem _ hd)]
      rfl
theorem kJ (hw:WF ns):∀ (f i:Nat),i < ns.length→9≤f + depth ns i→wantFrom ns ask f i=outE ((post ns f i).find? (badR ns ask)) (cS ns ask f i)
  | 0,i,hi,hf=>by
    have:=hw.deep i hi
    omega
  | f + 1,i,hi,hf=>by
    have hch:∀ c∈children ns (some i),wantFrom ns ask f c=outE ((post ns f c).find? (badR ns ask)) (cS ns ask f c):=fun c hc=>by
      obtain ⟨c1,c2,_⟩:=bZ hw hc
      exact kJ hw f c c1 (by omega)
    have hL:lV ns ask i=dA ns ask (cS ns ask f) i:=lK fun c hc=>by
      obtain ⟨c1,c2,_⟩:=bZ hw hc
      exact gu hw 9 f c c1 (by omega) (by omega)
    have e0:wantFrom ns ask (f + 1) i=((if (children ns (some i)).isEmpty=true then .ok (ask i) else (children ns (some i)).foldl (jk ns ask f) (.ok (whole 0)))).bind fun x=>match offerFor (reachAt ns i) x with | some y=>.ok y | none=>.error i:=rfl
    have e1:(if (children ns (some i)).isEmpty=true then Except.ok (ask i) else (children ns (some i)).foldl (jk ns ask f) (.ok (whole 0)))=outE (((children ns (some i)).flatMap (post ns f)).find? (badR ns ask)) (dA ns ask (cS ns ask f) i):=by
      unfold dA
      by_cases c:(children ns (some i)).isEmpty=true
      · rw [if_pos c,if_pos c,List.isEmpty_iff.mp c]
        rfl
      · rw [if_neg c,if_neg c,p3 (P:=post ns f) (V:=cS ns ask f) _ _ hch]
        rfl
    rw [e0,e1]
    show _=outE (((children ns (some i)).flatMap (post ns f)++[i]).find? (badR ns ask)) ((offerFor _ (dA ns ask (cS ns ask f) i)).getD _)
    rw [List.find?_append]
    cases hb:((children ns (some i)).flatMap (post ns f)).find? (badR ns ask) with
    | some j=>rfl
    | none =>
      show (match offerFor (reachAt ns i) (dA ns ask (cS ns ask f) i) with | some y=>Except.ok y | none=>Except.error i)=outE ([i].find? (badR ns ask)) _
      rw [List.find?_cons]
      unfold badR
      rw [hL]
      cases offerFor (reachAt ns i) (dA ns ask (cS ns ask f) i) with
      | none=>rfl
      | some y=>rfl
theorem mn (hw:WF ns):Vbiraa.wants ns ask=outE ((bA ns).find? (badR ns ask)) (sumQ ((children ns none).map (wV ns ask))):=by
  show (children ns none).foldl (jk ns ask 9) (.ok (whole 0))=_
  rw [p3 (P:=pst ns) (V:=wV ns ask)]
  · rfl
  · intro c hc
    obtain ⟨c1,c2⟩:=kY hw hc
    exact kJ hw 9 c c1 (by omega)
theorem uv (hw:WF ns):∀ (i:Nat),i < ns.length→∀ x∈pst ns i,x∈bA ns:=by
  intro i
  induction i using Nat.strongRecOn with
  | _ i ih =>
    intro hi x hx
    cases e:(reachAt ns i).parent with
    | none=>exact List.mem_flatMap.mpr ⟨i,aN.mpr ⟨hi,e⟩,hx⟩
    | some p =>
      have hp:=hw.par i p hi e
      refine ih p hp (by omega) x ?_
      rw [j0 hw (show p < ns.length by omega)]
      exact List.mem_append.mpr (.inl (List.mem_flatMap.mpr ⟨i,aN.mpr ⟨hi,e⟩,hx⟩))
theorem qM (hw:WF ns) {i:Nat} (hi:i < ns.length):i∈pst ns i:=by
  rw [j0 hw hi]
  simp
theorem own_ok (hw:WF ns) (hb:(bA ns).find? (badR ns ask)=none) {i:Nat} (hi:i < ns.length):wantFrom ns ask 9 i=.ok (wV ns ask i):=by
  rw [kJ hw 9 i hi (by omega)]
  have e:(post ns 9 i).find? (badR ns ask)=none:=by
    rw [List.find?_eq_none] at hb ⊢
    intro x hx
    exact hb x (uv hw i hi x hx)
  rw [e]
  rfl
theorem wY (hw:WF ns) (hb:(bA ns).find? (badR ns ask)=none) {i:Nat} (hi:i < ns.length):Vbiraa.setTo ns ask i=Vbiraa.over (wV ns ask i) (sumQ ((children ns (reachAt ns i).parent).map (wV ns ask))):=by
  unfold Vbiraa.setTo
  have e:∀ j,j < ns.length→(match wantFrom ns ask (Vbiraa.DEEP + 1) j with | .ok x=>x | .error _=>whole 0)=wV ns ask j:=fun j hj=>by
    have:=own_ok (ask:=ask) hw hb hj
    have this:wantFrom ns ask (Vbiraa.DEEP + 1) j=.ok (wV ns ask j):=this
    rw [this]
  show Vbiraa.over (match wantFrom ns ask (Vbiraa.DEEP + 1) i with | .ok x=>x | .error _=>whole 0) (sumQ ((children ns (reachAt ns i).parent).map fun j=>match wantFrom ns ask (Vbiraa.DEEP + 1) j with | .ok x=>x | .error _=>whole 0))=_
  rw [e i hi,List.map_congr_left fun j hj=>e j (aN.mp hj).1]
def PO (ns:Net) (l:List Nat):Prop:=∀ j x,l[j]?=some x→∀ c∈children ns (some x),c∈l.take j
theorem po_nil:PO ns []:=fun j x h=>by cases h
theorem po_app {l m:List Nat} (h1:PO ns l) (h2:PO ns m):PO ns (l++m):=by
  intro j x hx c hc
  by_cases hj:j < l.length
  · rw [List.getElem?_append_left hj] at hx
    rw [List.take_append_of_le_length (by omega)]
    exact h1 j x hx c hc
  · rw [List.getElem?_append_right (by omega)] at hx
    have:=h2 _ x hx c hc
    rw [List.take_append,List.take_of_length_le (by omega)]
    exact List.mem_append.mpr (.inr this)
theorem pL {P:Nat→List Nat}:∀ (l:List Nat),(∀ c∈l,PO ns (P c))→PO ns (l.flatMap P)
  | [],_=>po_nil
  | c :: l,h=>by
    rw [List.flatMap_cons]
    exact po_app (h c (List.mem_cons_self ..)) (pL l fun d hd=>h d (List.mem_cons_of_mem _ hd))
theorem yF {l:List Nat} {i:Nat} (h1:PO ns l) (h2:∀ c∈children ns (some i),c∈l):PO ns (l++[i]):=by
  intro j x hx c hc
  by_cases hj:j < l.length
  · rw [List.getElem?_append_left hj] at hx
    rw [List.take_append_of_le_length (by omega)]
    exact h1 j x hx c hc
  · rw [List.getElem?_append_right (by omega)] at hx
    have hj0:j=l.length:=by
      have:=(List.getElem?_eq_some_iff.mp hx).1
      have:j - l.length < 1:=this
      omega
    subst hj0
    rw [Nat.sub_self] at hx
    have hx:i=x:=Option.some.inj hx
    subst hx
    rw [List.take_append_of_le_length (Nat.le_refl _),List.take_length]
    exact h2 c hc
theorem ux (hw:WF ns):∀ (f i:Nat),i < ns.length→9≤f + depth ns i→PO ns (post ns f i)
  | 0,i,hi,hf=>by
    have:=hw.deep i hi
    omega
  | f + 1,i,hi,hf=>by
    refine yF (pL _ fun c hc=>?_) fun c hc=>?_
    · obtain ⟨c1,c2,_⟩:=bZ hw hc
      exact ux hw f c c1 (by omega)
    · obtain ⟨c1,c2,_⟩:=bZ hw hc
      refine List.mem_flatMap.mpr ⟨c,hc,?_⟩
      rw [ii hw f 9 c c1 (by omega) (by omega)]
      exact qM hw c1
theorem po_all (hw:WF ns):PO ns (bA ns):=pL _ fun c hc=>by
  obtain ⟨c1,c2⟩:=kY hw hc
  exact ux hw 9 c c1 (by omega)
theorem uw (hw:WF ns):∀ (f i:Nat),i < ns.length→∀ x∈post ns f i,x < ns.length
  | 0,i,hi,x,hx=>by cases hx
  | f + 1,i,hi,x,hx=>by
    rcases List.mem_append.mp hx with h | h
    · obtain ⟨c,hc,hx⟩:=List.mem_flatMap.mp h
      exact uw hw f c (bZ hw hc).1 x hx
    · rw [List.mem_singleton.mp h]
      exact hi
theorem ord_lt (hw:WF ns) {x:Nat} (hx:x∈bA ns):x < ns.length:=by
  obtain ⟨c,hc,hx⟩:=List.mem_flatMap.mp hx
  exact uw hw 9 c (kY hw hc).1 x hx
def one:Nat→Nat:=fun _=>1
theorem xh (f:Nat):∀ i,(post ns (f + 1) i).length=1 + bg ns one f (some i):=by
  induction f with
  | zero =>
    intro i
    show ((children ns (some i)).flatMap (post ns 0)++[i]).length=1 + 0
    rw [List.length_append,List.length_flatMap]
    have:((children ns (some i)).map fun c=>(post ns 0 c).length).sum=0:=by
      show ((children ns (some i)).map fun c=>0).sum=0
      induction children ns (some i) with
      | nil=>rfl
      | cons a l ih=>rw [List.map_cons,List.sum_cons,ih]
    rw [this]
    rfl
  | succ f ih =>
    intro i
    show ((children ns (some i)).flatMap (post ns (f + 1))++[i]).length=1 + ((children ns (some i)).map fun c=>one c + bg ns one f (some c)).sum
    rw [List.length_append,List.length_flatMap,List.map_congr_left fun c _=>ih c,Nat.add_comm]
    rfl
theorem yL (hw:WF ns):(bA ns).length=ns.length:=by
  unfold bA pst
  rw [List.length_flatMap,List.map_congr_left fun c _=>xh 8 c]
  have:=g8 hw one (f:=9) (by decide)
  have e:bg ns one 9 none=((children ns none).map fun c=>1 + bg ns one 8 (some c)).sum:=rfl
  rw [e] at this
  rw [this]
  unfold sumN one
  induction ns.length with
  | zero=>rfl
  | succ n ih =>
    rw [List.range_succ,List.map_append,List.sum_append,ih]
    rfl
theorem pst_ne (hw:WF ns) {i:Nat} (hi:i < ns.length):1≤(pst ns i).length:=by
  rw [j0 hw hi,List.length_append,List.length_singleton]
  omega
theorem mo (hw:WF ns) (f:Nat) (p:Option Nat) (hp:∀ c,p=some c→c < ns.length) (hf:8≤f + dQ ns p):bg ns one f p≤30:=by
  rw [kK hw one f p hp hf]
  have h:∀ n,sumN n (fun i=>if jf ns p i=true then one i else 0)≤n:=by
    intro n
    induction n with
    | zero=>exact Nat.le_refl _
    | succ n ih =>
      rw [a9]
      refine Nat.add_le_add ih ?_
      split
      · exact Nat.le_refl _
      · exact Nat.zero_le _
  exact Nat.le_trans (h _) hw.len
structure iK (ns:Net) (ask:Nat→Q):Prop where
  low:∀ i,Low (ask i)∧(ask i).d=1∧(ask i).n≤1000000
theorem rg {r:Reach} {q:Q} {B:Nat} (hl:r.loss≤99) (hc:r.cap≤100000) (hq:Low q) (hb:q.d≤B) (hB:0 < B):Low ((offerFor r q).getD (whole 0))∧((offerFor r q).getD (whole 0)).n≤100000 * ((offerFor r q).getD (whole 0)).d∧((offerFor r q).getD (whole 0)).d≤100 * B:=by
  by_cases c:q.n=0
  · rw [je c]
    exact ⟨dL 0,Nat.zero_le _,by show 1≤_; omega⟩
  · rw [fr hl hq c]
    by_cases c2:(bf r q).n≤r.cap * (bf r q).d
    · rw [if_pos c2]
      refine ⟨jV hl hq,Nat.le_trans c2 (Nat.mul_le_mul_right _ hc),?_⟩
      refine Nat.le_trans (kf (eJ hl hq)) ?_
      rw [Nat.mul_comm 100]
      exact Nat.mul_le_mul hb (Nat.sub_le _ _)
    · rw [if_neg c2]
      exact ⟨dL 0,Nat.zero_le _,by show 1≤_; omega⟩
theorem mJ {V:Nat→Q} {e:Nat→Nat}:∀ (l:List Nat),(∀ c∈l,(V c).d≤100 ^ e c)→b8 (l.map V)≤100 ^ (l.map e).sum
  | [],_=>Nat.le_refl _
  | c :: l,h=>by
    rw [List.map_cons,mK,List.map_cons,List.sum_cons,Nat.pow_add]
    exact Nat.mul_le_mul (h c (List.mem_cons_self ..)) (mJ l fun d hd=>h d (List.mem_cons_of_mem _ hd))
theorem g7 (hw:WF ns) (ha:iK ns ask):∀ (f i:Nat),i < ns.length→Low (cS ns ask f i)∧(cS ns ask f i).n≤100000 * (cS ns ask f i).d∧(cS ns ask f i).d≤100 ^ (1 + bg ns one f (some i))
  | 0,i,hi=>⟨dL 0,Nat.zero_le _,by show 1≤_; exact Nat.one_le_pow _ _ (by decide)⟩
  | f + 1,i,hi=>by
    obtain ⟨_,nl,_,_,nc,_⟩:=hw.num i hi
    have hq:Low (dA ns ask (cS ns ask f) i)∧(dA ns ask (cS ns ask f) i).d≤100 ^ bg ns one (f + 1) (some i):=by
      unfold dA
      by_cases c:(children ns (some i)).isEmpty=true
      · rw [if_pos c]
        refine ⟨(ha.low i).1,?_⟩
        rw [(ha.low i).2.1]
        exact Nat.one_le_pow _ _ (by decide)
      · rw [if_neg c]
        have hb:∀ c∈children ns (some i),_:=fun c hc=>g7 hw ha f c (bZ hw hc).1
        have hs:=pB (M:=100000) (l:=(children ns (some i)).map (cS ns ask f)) fun q hq=>by
          obtain ⟨c,hc,rfl⟩:=List.mem_map.mp hq
          exact ⟨(hb c hc).1,(hb c hc).2.1⟩
        refine ⟨hs.1,Nat.le_trans hs.2.1 ?_⟩
        exact mJ (e:=fun c=>1 + bg ns one f (some c)) _ fun c hc=>(hb c hc).2.2
    have:=rg (B:=100 ^ bg ns one (f + 1) (some i)) nl nc hq.1 hq.2 (Nat.pow_pos (by decide))
    rw [Nat.pow_add,Nat.pow_one]
    exact this
theorem qw (hw:WF ns) (ha:iK ns ask) {i:Nat} (hi:i < ns.length):Low (wV ns ask i)∧(wV ns ask i).n≤100000 * (wV ns ask i).d∧(wV ns ask i).d≤100 ^ 31:=by
  obtain ⟨h1,h2,h3⟩:=g7 hw ha 9 i hi
  refine ⟨h1,h2,Nat.le_trans h3 (Nat.pow_le_pow_right (by decide) ?_)⟩
  have:=mo hw 9 (some i) (fun c e=>by cases e; exact hi) (by omega)
  omega
theorem fc (hw:WF ns) (ha:iK ns ask) (p:Option Nat) (hp:∀ c,p=some c→c < ns.length):b8 ((children ns p).map (wV ns ask))≤100 ^ 30:=by
  refine Nat.le_trans (mJ (e:=fun c=>1 + bg ns one 9 (some c)) _ fun c hc=>(g7 hw ha 9 c (aN.mp hc).1).2.2) (Nat.pow_le_pow_right (by decide) ?_)
  exact mo hw 10 p hp (by omega)
theorem iw (hw:WF ns) (ha:iK ns ask) (p:Option Nat):∀ q∈(children ns p).map (wV ns ask),Low q∧q.n≤100000 * q.d:=fun q hq=>by
  obtain ⟨c,hc,rfl⟩:=List.mem_map.mp hq
  obtain ⟨h1,h2,_⟩:=qw hw ha (aN.mp hc).1
  exact ⟨h1,h2⟩
theorem ki (hw:WF ns) (ha:iK ns ask) {i:Nat} (hi:i < ns.length):Low (lV ns ask i)∧(lV ns ask i).n≤10000000 * (lV ns ask i).d∧(lV ns ask i).d≤100 ^ 30:=by
  unfold lV dA
  by_cases c:(children ns (some i)).isEmpty=true
  · rw [if_pos c]
    obtain ⟨a1,a2,a3⟩:=ha.low i
    refine ⟨a1,?_,?_⟩
    · rw [a2]
      omega
    · rw [a2]
      exact Nat.one_le_pow _ _ (by decide)
  · rw [if_neg c]
    obtain ⟨s1,s2,s3⟩:=pB (iw hw ha (some i))
    refine ⟨s1,Nat.le_trans s3 (Nat.mul_le_mul_right _ ?_),Nat.le_trans s2 (fc hw ha (some i) fun c e=>by cases e; exact hi)⟩
    rw [List.length_map]
    have h1:(children ns (some i)).length≤ns.length:=by
      unfold Vbiraa.children
      have:=List.length_filter_le (fun j=>(reachAt ns j).parent == some i) (List.range ns.length)
      rw [List.length_range] at this
      exact this
    have h2:=hw.len
    omega
theorem tV (ns:Net):(Vbiraa.ends ns).Nodup:=by
  unfold Vbiraa.ends
  exact List.Pairwise.filter _ List.nodup_range
theorem qo (l:List Nat) (hl:∀ x∈l,x≤1000000):iK ns (Vbiraa.askOf ns l):=by
  refine ⟨fun i=>?_⟩
  unfold Vbiraa.askOf
  split
  · rename_i k _
    refine ⟨dL _,rfl,?_⟩
    show l.getD k 0≤1000000
    rw [List.getD_eq_getElem?_getD]
    cases e:l[k]? with
    | none=>exact Nat.zero_le _
    | some y=>exact hl y (List.mem_of_getElem? e)
  · exact ⟨dL _,rfl,Nat.zero_le _⟩
theorem ask_at {l:List Nat} {k i x:Nat} (he:(Vbiraa.ends ns)[k]?=some i) (hx:l[k]?=some x):Vbiraa.askOf ns l i=whole x:=by
  unfold Vbiraa.askOf
  have hk:=(List.getElem?_eq_some_iff.mp he).1
  have hf:(Vbiraa.ends ns).findIdx? (fun j=>j == i)=some k:=by
    rw [List.findIdx?_eq_some_iff_getElem]
    have e1:=(List.getElem?_eq_some_iff.mp he).2
    refine ⟨hk,by rw [e1,beq_self_eq_true],fun j hj=>?_⟩
    rw [beq_iff_eq]
    intro z
    have hne:=List.pairwise_iff_getElem.mp (tV ns) j k (by omega) hk hj
    exact hne (z.trans e1.symm)
  rw [hf]
  show whole (l.getD k 0)=whole x
  rw [List.getD_eq_getElem?_getD,hx]
  rfl
end
end CN
namespace CN
open Vbiraa (Net Reach House Q mk whole reachAt way children delayOf partAt through)
def iq (h:House) (t:Nat) (l:List Nat) (w:Nat):Nat:=l.foldl (fun w k=>(cy (reachAt h.net k) w (ptAt h t k)).2.2) w
theorem m8 (h:House) (t:Nat) (l:List Nat) (k w:Nat):iq h t (l++[k]) w=(cy (reachAt h.net k) (iq h t l w) (ptAt h t k)).2.2:=by
  unfold iq
  rw [List.foldl_append]
  rfl
theorem vG (h:House) (t k w:Nat):iq h t [k] w=(cy (reachAt h.net k) w (ptAt h t k)).2.2:=by
  unfold iq
  rw [List.foldl_cons,List.foldl_nil]
theorem fW (h:House) (i t:Nat):∀ (l:List (Nat × Nat)) (x:Option Q),Vbiraa.mostFrom h (l++[(i,t)]) x=some (through (reachAt h.net i) ((if partAt h i t=0 then some (whole 0) else (Vbiraa.mostFrom h l x).map fun q=>Vbiraa.mul q (mk (partAt h i t) 100)).getD (whole (reachAt h.net i).cap)))
  | [],x=>rfl
  | (j,u) :: l,x=>by
    rw [List.cons_append]
    exact fW h i t l _
theorem w8 {r:Reach} {p:Nat}:cy r (r.cap * 100 * DD) p=(r.cap * DD * p,min (r.cap * DD * p) (r.cap * DD),(min (r.cap * DD * p) (r.cap * DD) - min (min (r.cap * DD * p) (r.cap * DD)) (r.soak * DD)) * (100 - r.loss) / 100):=by
  have e:r.cap * 100 * DD * p / 100=r.cap * DD * p:=by
    rw [show r.cap * 100 * DD * p=100 * (r.cap * DD * p) by grind,Nat.mul_div_cancel_left _ (by decide)]
  unfold cy
  rw [e]
theorem vA {r:Reach} {p:Nat}:(cy r (r.cap * 100 * DD) p).2.2=(min (r.cap * DD * p) (r.cap * DD) - min (min (r.cap * DD * p) (r.cap * DD)) (r.soak * DD)) * (100 - r.loss) / 100:=by
  rw [w8]
theorem xB {h:House} (hw:WF h.net) (hP:∀ i t,i < h.net.length→partAt h i t≤100) (t:Nat):∀ (i:Nat),i < h.net.length→∀ a,(way h.net i)[0]?=some a→∀ m,m + 2 * depth h.net i=16 →
    100 ^ m∣iq h t (way h.net i) ((reachAt h.net a).cap * 100 * DD)∧Vbiraa.mostFrom h ((way h.net i).map fun j=>(j,t + above h.net j)) none=some (mk (iq h t (way h.net i) ((reachAt h.net a).cap * 100 * DD)) DD):=by
  intro i
  induction i using Nat.strongRecOn with
  | _ i ih =>
    intro hi a ha m hm
    have hd:=bi hw.par hi
    have hws:=df hw.par hi
    cases e:(reachAt h.net i).parent with
    | none =>
      rw [e] at hd hws
      have hd:depth h.net i=1:=hd
      have hws:way h.net i=[i]:=hws
      rw [hws] at ha ⊢
      have ha:i=a:=Option.some.inj ha
      subst ha
      have dv:100 ^ 16∣min ((reachAt h.net i).cap * DD * ptAt h t i) ((reachAt h.net i).cap * DD):=by
        refine uT ?_ (lv (Nat.le_refl _) _)
        exact Nat.dvd_trans (lv (Nat.le_refl _) _) (Nat.dvd_mul_right _ _)
      have dv2:100 ^ 16∣min ((reachAt h.net i).cap * DD * ptAt h t i) ((reachAt h.net i).cap * DD) - (reachAt h.net i).soak * DD:=Nat.dvd_sub dv (lv (Nat.le_refl _) _)
      obtain ⟨q1,q2⟩:=iB (m:=15) (p:=100 - (reachAt h.net i).loss) dv2
      rw [vG,vA]
      refine ⟨?_,?_⟩
      · rw [l4]
        exact Nat.dvd_trans (Nat.pow_dvd_pow 100 (by omega)) q2
      · show Vbiraa.mostFrom h ([]++[(i,t + above h.net i)]) none=_
        rw [fW]
        show some (through _ ((if ptAt h t i=0 then some (whole 0) else none).getD _))=_
        by_cases c:ptAt h t i=0
        · rw [if_pos c]
          show some (through _ (whole 0))=_
          rw [←fu bv,eI _ 0 (by simp),c]
          simp
        · rw [if_neg c]
          show some (through _ (whole (reachAt h.net i).cap))=_
          have le:(reachAt h.net i).cap * DD≤(reachAt h.net i).cap * DD * ptAt h t i:=Nat.le_mul_of_pos_right _ (by omega)
          rw [Nat.min_eq_right le] at q1 ⊢
          rw [g6 (n:=(reachAt h.net i).cap) bv,eI _ _ (by rw [Nat.min_self]; exact q1),Nat.min_self]
    | some p =>
      rw [e] at hd hws
      have hd:depth h.net i=depth h.net p + 1:=hd
      have hws:way h.net i=way h.net p++[i]:=hws
      have hpi:=hw.par i p hi e
      have hpl:p < h.net.length:=by omega
      have hne:0 < (way h.net p).length:=by
        have:=bi hw.par hpl
        have h1:1≤depth h.net p:=by
          rw [this]
          cases (reachAt h.net p).parent <;> simp
        exact h1
      have ha2:(way h.net p)[0]?=some a:=by
        rw [hws,List.getElem?_append_left hne] at ha
        exact ha
      obtain ⟨i1,i2⟩:=ih p hpi hpl a ha2 (m + 2) (by omega)
      rw [hws,m8]
      have hd8:=hw.deep i hi
      obtain ⟨a1,a2,a3,a4,a5⟩:=kX (r:=reachAt h.net i) (p:=ptAt h t i) (m:=m) (by omega) i1
      refine ⟨a5,?_⟩
      rw [List.map_append,List.map_cons,List.map_nil,fW,i2]
      show some (through _ ((if ptAt h t i=0 then some (whole 0) else some (Vbiraa.mul _ (mk (ptAt h t i) 100))).getD _))=_
      rw [mulD bv a1]
      have fin:through (reachAt h.net i) (mk (iq h t (way h.net p) ((reachAt h.net a).cap * 100 * DD) * ptAt h t i / 100) DD)=mk (cy (reachAt h.net i) (iq h t (way h.net p) ((reachAt h.net a).cap * 100 * DD)) (ptAt h t i)).2.2 DD:=eI _ _ a4
      by_cases c:ptAt h t i=0
      · rw [if_pos c]
        show some (through _ (whole 0))=_
        rw [←fin,c,Nat.mul_zero,Nat.zero_div,fu bv]
      · rw [if_neg c]
        exact congrArg some fin
theorem yS {h:House} (hw:WF h.net) (hP:∀ i t,i < h.net.length→partAt h i t≤100) (t:Nat) {i:Nat} (hi:i < h.net.length) {a:Nat} (ha:(way h.net i)[0]?=some a):Vbiraa.mostOut h i t=mk (iq h t (way h.net i) ((reachAt h.net a).cap * 100 * DD)) DD:=by
  have hd8:=hw.deep i hi
  obtain ⟨_,e⟩:=xB hw hP t i hi a ha (16 - 2 * depth h.net i) (by omega)
  unfold Vbiraa.mostOut
  rw [lw hw.par t i hi,e]
  rfl
end CN
namespace CN
open PySem PySem.Spec PyProof.Rows L2
open AutoSeq1 (wpAny_loadPart')
abbrev kw1 (t:Tok):List (Str × Value):=[(Str.ofString "start",.int 1 t)]
theorem wE (a:Value) (t:Tok):checkTypeCall "enumerate" ⟨[a],kw1 t⟩=pure ():=by kernel_rfl
theorem xz (a:Value) (t:Tok):checkBuiltinCall "enumerate.__new__" ⟨[.type "enumerate",a],kw1 t⟩=pure ():=by kernel_rfl
theorem yc (obj a:Value) (t:Tok):argsOk "object.__init__" ⟨[obj,a],kw1 t⟩:=by
  unfold argsOk
  kernel_rfl
theorem rC (l:Addr) (items:Array Value) (n:Nat) (dct:Option Addr) (sl:Array (Option Value)) (t:Tok) :
    Meets (Builtin.«enumerate.__new__» ⟨[.type "enumerate",.ref l],kw1 t⟩) (fun _ R s=>s.heap.get? l=some { cls:=.type "list",dict:=dct,data:=.seq items n,slots:=sl } ∧
      R (.ok (.ret (.ref (s.heap.push { cls:=.type "list_iterator",data:=.fields #[.ref l,.int 0 0] }).objs.size)))
        { s with heap:=(s.heap.push { cls:=.type "list_iterator",data:=.fields #[.ref l,.int 0 0] }).push { cls:=.type "enumerate",data:=.fields #[.none,.bool false,.ref s.heap.objs.size,rawInt 1,.none,.none] } }) :=
  .of_wp fun prog w A R s h=>by
    obtain ⟨hp,g,d,tk,os⟩:=s
    obtain ⟨hl,h⟩:=h
    have hsub:=sub_enumerate
    have hL:Heap.IsList (Shared.heap ⟨hp,g,d,tk,os⟩) l items:=⟨_,hl,rfl,n,rfl⟩
    wp_walk using wpAny_loadPart' hl
    refine wpAny_stack_any fun st=>wpAny_pure ?_
    split
    · rename_i c _ _ _ _ _
      cases (c == Value.type "enumerate") <;> wp_walk using wpAny_loadPart' hl,wpAny_pyIter_list hL
      all_goals exact ⟨_,rfl,h⟩
    · wp_walk using wpAny_loadPart' hl,wpAny_pyIter_list hL
      exact ⟨_,rfl,h⟩
theorem tN (self a:Value) (t:Tok):Meets (Builtin.«object.__init__» ⟨[self,a],kw1 t⟩) (fun _ R s=>s.TypeIs self "enumerate" ∧ R (.ok (.ret .none)) s):=by
  refine Meets.of_wp fun prog w A R s hs=>?_
  obtain ⟨hT,hq⟩:=hs
  have hl:=PySem.F.called_enumerate.init.lookup
  have hm:=PySem.F.called_enumerate.made
  have hne:(some "enumerate.__new__" != some "object.__new__")=true:=by decide
  repeat (any_goals (first | assumption | wp_step))
  exact ⟨_,rfl,hq⟩
section
variable {prog:Program} {w:World} {A:Around} {E:Value→Shared→Prop} {s:Shared}
theorem sF {l:Addr} {t:Tok} {S:PySem.Spec} {Q:Value→Shared→Prop} (g:Meets (Builtin.«enumerate.__new__» ⟨[.type "enumerate",.ref l],kw1 t⟩) S)
    (h:S A.in1 (wants (fun obj s1=>s1.TypeIs obj "enumerate" ∧ Q obj s1) E) s):wpAny (model prog w) A (call (.type "enumerate") [.ref l] (kw1 t)) Q E s:=by
  have ft:=PySem.F.called_enumerate
  obtain ⟨c,tl,hmro⟩:=ft.mro
  have hmade:=ft.made
  have hsub:=ft.sub
  refine wpAny_call (codeAny_of_tree ?_); show wpAny _ _ (callAny (.type "enumerate") _) _ _ _
  refine wpAny_pure ⟨Code.quiet_builtin _ (by decide +kernel),codeAny_builtin F.entry_type_call ?_⟩; rw [Around.under_plain (weight_type_call_type "enumerate" [.ref l] (kw1 t)) (units_type_call_type "enumerate" [.ref l] (kw1 t))]
  have h1:=ft.notType
  have h2:=ft.canCreate
  have h3:=wE (.ref l) t
  repeat (any_goals (first | assumption | wp_step))
  refine codeAny_mono (codeAny_call_builtin ft.plain PySem.F.entry_enumerate_new (wpAny_of_eq (xz (.ref l) t) (g prog w A.in1 _ s h))) fun r s1 hr=>?_
  cases r with
  | error e=>exact hr
  | ok fl =>
    cases fl with
    | ret obj =>
      obtain ⟨hT,hq⟩:=hr
      have hli:=ft.init.lookup
      have hbi:=ft.init.bind obj
      repeat (any_goals (first | assumption | wp_step))
      refine codeAny_mono (codeAny_call_builtin ft.init.plain F.entry_object_init (ft.init.check _ _ _ _ _ _ _ _ hT (yc obj (.ref l) t) (tN obj (.ref l) t prog w A.in1 (wants (fun r s2=>r=.none∧Q obj s2) E) s1 ⟨hT,rfl,hq⟩))) fun r2 s2 hr2=>?_
      cases r2 with
      | error e=>exact hr2
      | ok fl2 =>
        cases fl2 with
        | ret r =>
          obtain ⟨rfl,hq⟩:=hr2
          repeat (any_goals (first | assumption | wp_step))
        | _=>exact hr2.elim
    | _=>exact hr.elim
theorem t9 {l:Addr} {items:Array Value} {t:Tok} {Q:Value→Shared→Prop} (hL:s.heap.IsList l items)
    (h:∀ h',IsEnum h' (s.heap.objs.size + 1) s.heap.objs.size 1 .none→h'.IsListIter s.heap.objs.size l 0→h'.objs.size=s.heap.objs.size + 2 →
      (∀ b o,s.heap.get? b=some o→h'.get? b=some o)→Q (.ref (s.heap.objs.size + 1)) { s with heap:=h' }) :
    wpAny (model prog w) A (call (.type "enumerate") [.ref l] (kw1 t)) Q E s:=by
  obtain ⟨⟨c,dct,dt,sl⟩,hl,hc,n,hd⟩:=hL
  have hc:c=.type "list" := hc
  have hd:dt=.seq items n:=hd
  subst hc hd
  refine sF (rC l items n dct sl t) ⟨hl,?_⟩
  have hz:(s.heap.push { cls:=.type "list_iterator",data:=.fields #[.ref l,.int 0 0] }).objs.size=s.heap.objs.size + 1:=Heap.size_push ..
  show _∧_
  rw [hz]
  have he:IsEnum ((s.heap.push { cls:=.type "list_iterator",data:=.fields #[.ref l,.int 0 0] }).push { cls:=.type "enumerate",data:=.fields #[.none,.bool false,.ref s.heap.objs.size,rawInt 1,.none,.none] }) (s.heap.objs.size + 1) s.heap.objs.size 1 .none:=by
    have e:=Heap.get?_push_size (s.heap.push { cls:=.type "list_iterator",data:=.fields #[.ref l,.int 0 0] }) (o:={ cls:=.type "enumerate",data:=.fields #[.none,.bool false,.ref s.heap.objs.size,rawInt 1,.none,.none] }) rfl
    rw [hz] at e
    exact e
  exact ⟨⟨_,he,rfl⟩,h _ he ⟨_,Heap.get?_push_of_some _ (Heap.get?_push_size _ rfl),rfl,rfl⟩ (by rw [Heap.size_push,hz]) fun b o x=>Heap.get?_push_of_some _ (Heap.get?_push_of_some _ x)⟩
end
end CN
namespace CN
open PySem PySem.Spec PyProof.Rows L2
theorem draws1 {prog:Program} {w:World} {A:Around} (hh:A.handled=none) (it l:Addr) (hne:l≠it) (items:Array Value) :
    Draws prog w A it [it,l] (items.size + 1) (fun i v=>items[i - 1]?=some v) (fun i h=>1≤i∧h.IsListIter it l (i - 1)∧h.IsList l items) where
  live:=fun _ _ st=>let ⟨o,ho,_⟩:=st.2.1; ⟨o,ho⟩
  frame:=fun _ _ _ st hk=>⟨st.1,st.2.1.at fun o e=>hk it (by simp) o e,st.2.2.at fun o e=>hk l (by simp) o e⟩
  item:=fun i s Q E hi st hQ=>by
    have h1:=st.1
    have hlt:i - 1 < items.size:=by omega
    refine wpAny_nextOf_list_item st.2.1 st.2.2 (x:=items[i - 1]) (by simp [hlt]) fun h' hit' hs'=>?_
    refine hQ _ h' s.toks (by simp [hlt]) ⟨by omega,?_,st.2.2.extBut hs'.extBut hne⟩ hs'
    rw [show i + 1 - 1=i - 1 + 1 by omega]
    exact hit'
  done:=fun s Q E st hE=>wpAny_nextOf_list_end hh st.2.1 st.2.2 (by simp) hE
def Ite1 (K:PySem.W.Frag) (a:Addr):It :=
  ⟨fun i H=>∃ (xs:List V) (x:V),SqL K H a xs∧xs[i]?=some x,fun i H v H'=>∃ T x,v=.ref T∧H T=none∧H'=upd H T (.tup [.int ((i + 1:Nat):Int),x])∧∀ xs,SqL K H a xs→xs[i]?=some x,fun i H=>∃ xs:List V,SqL K H a xs∧xs.length≤i⟩
theorem sJ {P:Program} {w:World} {K:PySem.W.Frag} {elts:List Expr} {kk:Nat} {tpos:Pos} (a e it:Addr) :
    Turn P w K (.Tuple elts kk tpos) (Ite1 K a) [e,it] e (fun i h=>(∃ old,IsEnum h e it ((i + 1:Nat):Int) old)∧h.IsListIter it a i∧e≠it∧a≠it∧a≠e) where
  mem:=by simp
  obj:=fun i h st b hb=>by
    obtain ⟨⟨old,he⟩,⟨o,ho,hc,hd⟩,_⟩:=st
    have e':b=e∨b=it:=by simpa using hb
    rcases e' with z | z
    · rw [z]; exact ⟨_,he,fun v q=>nomatch q⟩
    · rw [z]; exact ⟨o,ho,fun v q=>by rw [hd] at q; cases q⟩
  keep:=fun i h h' st k=>let ⟨⟨old,he⟩,hi,hne⟩:=st; ⟨⟨old,k e (by simp) _ he⟩,hi.at fun o q=>k it (by simp) o q,hne⟩
  item:=by
    intro X hP hw hK hc i pins s σ H E I hf st hg
    subst hP hw hK
    obtain ⟨⟨old,he⟩,hit,hne,hna,hnb⟩:=st
    obtain ⟨xs,x,hq,hx⟩:=hg
    obtain ⟨its,rv,p,hz⟩:=I.list hq
    obtain ⟨u,hu,ru⟩:=rv.get hx
    have hil:i < its.toArray.size:=by
      rw [List.size_toArray]
      exact (List.getElem?_eq_some_iff.mp hu).1
    have hel:e < s.heap.objs.size:=Heap.lt_size he
    have hil2:it < s.heap.objs.size:=by obtain ⟨_,q,_⟩:=hit; exact Heap.lt_size q
    refine wpAny_pyNext_enum_itemD (draws1 (A:=X.A.in1) (I.ok.hd hc) it a hna its.toArray) he ⟨by omega,hit,p.isList⟩ (by omega) hne (by simp [hne,Ne.symm hnb]) fun u' h' tk hu' ho hit' hT hsz hk=>?_
    have eu:u'=u:=by
      have z:its.toArray[i]?=some u':=hu'
      rw [show its.toArray[i]?=some u by simpa using hu] at z
      exact (Option.some.inj z).symm
    subst eu
    refine ⟨_,rfl,wpAny_letOwnedTupleGo_enum (s:={ s with heap:=h',toks:=tk + 1 }) ho fun h'' he' sb=>?_⟩
    have hT2:h''.get? s.heap.objs.size=some { cls:=.type "tuple",data:=.seq #[.int ((i + 1:Nat):Int) tk,u'] }:=(sb.2 _ (Nat.ne_of_gt hel)).trans hT
    have new:bM X.prog X.w (upd H s.heap.objs.size (.tup [.int ((i + 1:Nat):Int),x])) h'' s.heap.objs.size (.tup [.int ((i + 1:Nat):Int),x]) :=
      ⟨by show 2≤sizeLine; decide,[.int ((i + 1:Nat):Int) tk,u'],.cons ⟨_,rfl⟩ (.cons ru .nil),⟨_,hT2,rfl,_,rfl⟩⟩
    have I1:Inv X pins σ (upd H s.heap.objs.size (.tup [.int ((i + 1:Nat):Int),x])) { s with heap:=h'',toks:=tk + 1 } :=
      I.turnedNew (ch:=[e,it]) (fun b ob hb q=>(sb.2 b (fun z=>hb (by simp [z]))).trans (hk b ob (fun z=>hb (by simp [z])) (fun z=>hb (by simp [z])) q)) hf (Nat.le_refl _) new
    refine ⟨.ref s.heap.objs.size,_,I1,rfl,⟨_,x,rfl,I.hok.fresh (Nat.le_refl _),rfl,fun ys hy=>by rw [I.list_inj hy hq]; exact hx⟩,⟨⟨u',?_⟩,hit'.2.1.at fun o q=>(sb.2 it (Ne.symm hne)).trans q,hne,hna,hnb⟩,fun b hb=>?_⟩
    · have e1:((i + 1 + 1:Nat):Int)=((i + 1:Nat):Int) + 1:=by omega
      rw [e1]; exact he'
    · have hb':b < s.heap.objs.size:=by
        have e':b=e∨b=it:=by simpa using hb
        rcases e' with z | z
        · rw [z]; exact hel
        · rw [z]; exact hil2
      rw [ai (Nat.ne_of_lt hb')]
      exact (hf b hb).1
  done:=by
    intro X hP hw hK hc i pins s σ H E I hf st hg
    subst hP hw hK
    obtain ⟨⟨old,he⟩,hit,hne,hna,hnb⟩:=st
    obtain ⟨xs,hq,hx⟩:=hg
    obtain ⟨its,rv,p,hz⟩:=I.list hq
    obtain ⟨f0,f1,f2,f3,f4,f5⟩:=hf it (by simp)
    have hl:=rv.length
    have D:Draws X.prog X.w X.A.in1 it [it,a] (i + 1) (fun _ _=>True) (fun j h=>j=i + 1∧h.IsListIter it a i∧h.IsList a its.toArray) :=
      ⟨fun _ _ st=>let ⟨o,ho,_⟩:=st.2.1; ⟨o,ho⟩,fun _ _ _ st hk=>⟨st.1,st.2.1.at fun o e=>hk it (by simp) o e,st.2.2.at fun o e=>hk a (by simp) o e⟩,fun j s Q E hj st hQ=>absurd st.1 (Nat.ne_of_lt hj),
        fun s Q E st hE=>wpAny_nextOf_list_end (I.ok.hd hc) st.2.1 st.2.2 (by simp; omega) hE⟩
    exact wpAny_pyNext_enum_endD D he ⟨rfl,hit,p.isList⟩ fun h' eb=>⟨rfl,I.turned (t':=s.toks) (fun b o hb q=>eb b o hb q) f0 f1 f3 f4 f5⟩
  self:=fun A i s Q E st h=>let ⟨⟨_,he⟩,_⟩:=st; wpAny_pyIter_enum he h
def iEnum1 (K:PySem.W.Frag) (ta:TA):TI:=fun σ H R=>ta σ H fun vs H1=>∃ a xs,vs=[.ref a]∧SqL K H1 a xs∧R (Ite1 K a) H1
section
variable {M:Model} {A:Around} {E:Value→Shared→Prop} {s:Shared} {env:Env}
theorem qa {pos:Pos} {T:String} {e:Expr} {rest:List Expr} {kws:List Keyword} {Q:Value→Shared→Prop}
    (h:wpAny M A (spliced (backTo pos (starEach (e :: rest) env))) (fun vs s1=>wpAny M A (evalAll ((backToKw pos (keywordEach kws env)).map (·.2))) (fun kvs s2=>wpAny M A (call (.type T) vs (((backToKw pos (keywordEach kws env)).filterMap (·.1)).zip kvs)) Q E s2) E s1) E s)
    (he:backTo pos (starEach (e :: rest) env)=(false,eval e env) :: backTo pos (starEach rest env):=by rfl) (hplain:(backTo pos (starEach (e :: rest) env)).any (·.1)=false:=by rfl)
    (hall:(backToKw pos (keywordEach kws env)).all (·.1.isSome)=true:=by rfl) (hkw:(backToKw pos (keywordEach kws env)).any (·.1.isNone)=false:=by rfl) :
    wpAny M A (callWith pos (.type T) [] (backTo pos (starEach (e :: rest) env)) (backToKw pos (keywordEach kws env))) Q E s:=by
  unfold callWith
  rw [he] at h hplain ⊢
  refine wpAny_bind (wpAny_holding (wpAny_mono (evalArgs_kwB (f:=.type T) (Q:=fun a s1=>wpAny M A (call (.type T) ([]++a.pos) a.kw) Q E s1) hall h) (fun a s1 h1=>wpAny_bind (wpAny_standAt ?_)) fun _ _ x=>x))
  simp only [hplain,hkw,Bool.or_false]
  refine wpAny_bind (wpAny_pure ?_)
  exact wpAny_bind (wpAny_mono h1 (fun r s2 hr=>wpAny_bind (wpAny_holding (wpAny_point (wpAny_pure hr)))) fun _ _ x=>x)
end
theorem xj {X:Cx} {e:Expr} {ta:TA} {p pos tpos kp vp:Pos} {j:Nat} {elts:List Expr} {kk:Nat} (hg:Gl X "enumerate") (hm:X.mg "enumerate" = none) (ha:PA X [e] ta) (hs:starEach [e] X.env=[(false,eval e X.env)]:=by rfl) :
    PI X (.Tuple elts kk tpos) (.Call (.Name "enumerate" p) [e] [⟨some "start",.Constant (.int 1) j vp,kp⟩] pos) (iEnum1 X.K ta):=by
  intro pins s σ H R I h
  show wpAny _ _ (eval (.Name "enumerate" p) X.env >>= fun f=>callWith pos f [] (backTo pos (starEach [e] X.env)) (backToKw pos (keywordEach [⟨some "start",.Constant (.int 1) j vp,kp⟩] X.env))) _ _ _
  refine wpAny_bind (gN I hg hm boot_enumerate (qa (thn (ha pos pins s σ H _ I h) fun us s1 ⟨vs,H1,I1,r1,q1⟩=>?_) (by rw [hs]; rfl) (by rw [hs]; rfl)))
  refine kws_cons (wpAny_Constant_int (kws_nil ?_))
  obtain ⟨a,xs,ex,hq,q⟩:=q1
  subst ex
  have I1':=I1.tok (s1.toks + 1)
  cases r1 with
  | cons r rr =>
    cases rr
    cases r
    obtain ⟨its,rv,p',hz⟩:=I1.list hq
    have hal:a < s1.heap.objs.size:=by obtain ⟨_,_,e,_⟩:=p'; exact Heap.lt_size e
    refine t9 (t:=s1.toks) p'.isList fun h' he hit hsz hk=>wpAny_pyIter_enum he ?_
    have I2:Inv X pins σ H1 { s1 with heap:=h',toks:=s1.toks + 1 }:=I1.kept hk
    refine ⟨s1.heap.objs.size + 1,[s1.heap.objs.size + 1,s1.heap.objs.size],_,_,H1,rfl,I2,sJ a (s1.heap.objs.size + 1) s1.heap.objs.size,⟨⟨.none,he⟩,hit,Nat.succ_ne_self _,Nat.ne_of_lt hal,Nat.ne_of_lt (Nat.lt_succ_of_lt hal)⟩,fun b hb=>?_,q⟩
    have e':b=s1.heap.objs.size + 1∨b=s1.heap.objs.size:=by simpa using hb
    have hle:s1.heap.objs.size≤b:=by
      rcases e' with z | z
      · rw [z]; exact Nat.le_add_right _ _
      · rw [z]; exact Nat.le_refl _
    exact I1.fpOk hle (I1.hok.fresh hle)
end CN
namespace CN
open PySem PySem.Spec PyProof.Rows L2
theorem tI:typeLookup (.type "list_reverseiterator") "__len__" = pure none:=by rw [typeLookup_type,builtinLookup_eq_fast]; kernel_rfl
theorem xG:typeLookup (.type "list_reverseiterator") "__length_hint__" = pure (some (.builtin "list_reverseiterator.__length_hint__")):=by rw [typeLookup_type,builtinLookup_eq_fast]; kernel_rfl
section
variable {prog:Program} {w:World} {A:Around} {E:Value→Shared→Prop} {s:Shared}
theorem xS {it l:Addr} {i:Int} {Q:Bool→Shared→Prop} (hit:s.heap.IsRevIter it l i) (h:Q false s):wpAny (model prog w) A (Builtin.List.listLengthHint (.ref it)) Q E s:=by
  unfold Builtin.List.listLengthHint
  refine wpAny_bind (wpAny_specialOf hit.typeIs tI ?_)
  refine wpAny_bind (m:=specialOf _ _) (wpAny_specialOf hit.typeIs xG ?_)
  generalize hid:("list_reverseiterator.__length_hint__" : String)=id0
  wp_delta
  rw [show splitId id0=some ("list_reverseiterator", "__length_hint__") from by subst hid; decide +kernel]
  subst hid
  refine wpAny_bind (wpAny_isInstance (T := "list_reverseiterator") (b:=true) hit.typeIs (by rw [isSubtype_type]; kernel_rfl) ?_)
  refine wpAny_ite_split (fun hab=>absurd hab (by decide)) (fun _=>?_)
  refine wpAny_ite_split (fun _=>?_) (fun hab=>absurd (by decide +kernel) hab)
  exact wpAny_ite_split (fun hab=>absurd hab (by decide +kernel)) (fun _=>wpAny_pure h)
theorem xH {it l:Addr} {items:Array Value} {Q:Value→Shared→Prop} (hh:A.handled=none) (hit:s.heap.IsRevIter it l ((items.size:Int) - 1)) (hl:s.heap.IsList l items) (hne:l≠it) (hn:items.size≤sizeLine)
    (h:∀ (h':Heap) (tk:Nat) (acc:Array Value) (c:Nat),(∀ b o,b≠it→s.heap.get? b=some o→h'.get? b=some o)→h'.get? s.heap.objs.size=some { cls:=.type "list",dict:=none,data:=.seq acc c,slots:=#[] }→ItemsOf (fun i v=>items[items.size - 1 - i]?=some v) acc items.size →
      Q (.ref s.heap.objs.size) { s with heap:=h',toks:=tk }):wpAny (model prog w) A (call (.type "list") [.ref it]) Q E s:=by
  have hitl:it < s.heap.objs.size:=by obtain ⟨o,ho,_⟩:=hit; exact Heap.lt_size ho
  have hll:l < s.heap.objs.size:=by obtain ⟨o,ho,_⟩:=hl; exact Heap.lt_size ho
  have hSf:s.heap.objs.size∉[it,l]:=fun m=>by
    simp only [List.mem_cons,List.not_mem_nil,or_false] at m
    rcases m with m | m
    · exact absurd m (Nat.ne_of_gt hitl)
    · exact absurd m (Nat.ne_of_gt hll)
  have hSi:s.heap.objs.size≠it:=Nat.ne_of_gt hitl
  refine callType_codes (Q₁:=fun obj s1=>obj=.ref s.heap.objs.size∧s1={ s with heap:=s.heap.push { cls:=.type "list",data:=.seq #[] } }) F.called_list (F.typeCall_list_1 _) F.entry_list_init (code_list_new _ ⟨rfl,rfl⟩) fun obj s1 h1=>?_
  obtain ⟨rfl,rfl⟩:=h1
  have hS:(s.heap.push { cls:=.type "list",data:=.seq #[] }).get? s.heap.objs.size=some { cls:=.type "list",data:=.seq #[] }:=Heap.get?_push_size _ rfl
  refine ⟨⟨_,hS,rfl⟩,F.args_list_init_2 _ _,?_⟩
  show wpAny _ _ (do let old ← Builtin.List.listItems (.ref s.heap.objs.size); Builtin.List.listUpdate (.ref s.heap.objs.size) (fun _=>#[]); letGo old.toList.reverse; Builtin.List.listExtendWith (.ref s.heap.objs.size) (.ref it) .none) _ _ _
  refine wpAny_bind ?_
  unfold Builtin.List.listItems
  refine wpAny_bind (wpAny_seqItems hS rfl (wpAny_pure ?_)); show wpAny _ _ (updateSeq s.heap.objs.size (fun _=>#[]) >>= fun _=>letGo (#[]:Array Value).toList.reverse >>= fun _=>Builtin.List.listExtendWith (.ref s.heap.objs.size) (.ref it) .none) _ _ _
  refine wpAny_bind (wpAny_updateSeq hS rfl ?_)
  have hS2:=Heap.get?_update_self (Obj.mapSeq (fun _=>(#[]:Array Value))) hS rfl
  generalize hg:(s.heap.push { cls:=.type "list",data:=.seq #[] }).update s.heap.objs.size (Obj.mapSeq (fun _=>(#[]:Array Value)))=hp at hS2
  have oth:∀ b o,s.heap.get? b=some o→hp.get? b=some o:=fun b o e=>by
    rw [←hg]
    exact (Heap.get?_update_other _ _ (Nat.ne_of_gt (Heap.lt_size e))).trans (Heap.get?_push_of_some _ e)
  have hit2:hp.IsRevIter it l ((items.size:Int) - 1):=hit.at fun o e=>oth _ _ e
  have hl2:hp.IsList l items:=hl.at fun o e=>oth _ _ e
  refine wpAny_bind (wpAny_letGo ?_)
  unfold Builtin.List.listExtendWith
  refine wpAny_bind (wpAny_typeOf (s:={ s with heap:=hp }) hit2.typeIs ?_)
  have e1:Builtin.List.listSameRef (.ref s.heap.objs.size) (.ref it)=false:=by simp [Builtin.List.listSameRef,hSi]
  have e2:(Value.type "list_reverseiterator" == Value.type "list")=false:=by decide
  have e3:(Value.type "list_reverseiterator" == Value.type "tuple")=false:=by decide
  simp only [e1,e2,e3,Bool.or_false,Bool.false_eq_true,if_false]
  refine wpAny_bind (wpAny_pyIter_revIter (s:={ s with heap:=hp }) hit2 ?_)
  refine wpAny_bind (wpAny_holding (xS (s:={ s with heap:=hp }) hit2 ?_))
  refine wpAny_ite_split (fun hab=>absurd hab (by decide +kernel)) (fun _=>?_)
  have W:=(Walks.listRev (prog:=prog) (w:=w) (A:=A.in1.in1) hh it l hne items).toS
  refine wpAny_pure ⟨plainId_quiet F.plain_extend_loop _,codeAny_extend_loopS W hn s.heap.objs.size hSf .none items.size 0 { s with heap:=hp } #[] _ rfl (Nat.zero_le _) ⟨Nat.zero_le _,?_,hl2⟩ hS2 (ItemsOf.nil _) fun s' acc c hm hS' hacc=>⟨rfl,?_⟩⟩
  · rw [show (items.size:Int) - 1 - ((0:Nat):Int)=(items.size:Int) - 1 by omega]
    exact hit2
  · rw [Moved.eq_with hm]
    refine h s'.heap s'.toks acc c (fun b o hb e=>hm.heap b o (fun m=>?_) (oth b o e)) hS' hacc
    have hbl:=Heap.lt_size e
    simp only [List.mem_cons,List.not_mem_nil,or_false] at m
    rcases m with m | m
    · exact absurd m (Nat.ne_of_lt hbl)
    · exact hb m
end
section
variable {X:Cx}
def tRev (K:PySem.W.Frag) (t:TE):TE:=fun σ H Q=>t σ H fun x H1=>∃ a xs,x=.ref a∧SqL K H1 a xs∧∀ p,H1 p=none→Q (.ref p) (upd H1 p (.lst xs.reverse))
theorem wy:∀ {xs:List V} {its acc:List Value},Vals xs its→acc.length=its.length→(∀ (j:Nat) v,acc[j]?=some v→its[its.length - 1 - j]?=some v)→Vals xs.reverse acc:=fun {xs its acc} r hl h=>by
  have e:acc=its.reverse:=by
    refine List.ext_getElem? fun j=>?_
    by_cases c:j < its.length
    · obtain ⟨v,hv⟩:∃ v,acc[j]?=some v:=⟨_,List.getElem?_eq_getElem (by omega)⟩
      rw [hv,List.getElem?_reverse c,h j v hv]
    · rw [List.getElem?_eq_none (by omega),List.getElem?_eq_none (by rw [List.length_reverse]; omega)]
  rw [e]
  exact r.reverse
theorem lz {e:Expr} {te:TE} {p1 p2 pos1 pos2:Pos} (hc:X.calm=true) (hg1:Gl X "list") (hm1:X.mg "list" = none) (hb1:bootBuiltins "list" = some (.type "list")) (hg:Gl X "reversed") (hm:X.mg "reversed" = none) (he:PE X e te) (hs:starEach [e] X.env=[(false,eval e X.env)]:=by rfl)
    (hs2:starEach [Expr.Call (.Name "reversed" p2) [e] [] pos2] X.env=[(false,eval (.Call (.Name "reversed" p2) [e] [] pos2) X.env)]:=by rfl):PE X (.Call (.Name "list" p1) [.Call (.Name "reversed" p2) [e] [] pos2] [] pos1) (tRev X.K te):=by
  intro pins s σ H Q I h
  refine Call_ (gN I hg1 hm1 hb1 (PyProof.Rows.callWith_type1 ?_ hs2 rfl))
  rw [hs2]
  refine Calls.spliced_cons (Call_ (gN I hg hm iH (PyProof.Rows.callWith_type1 ?_ hs rfl)))
  rw [hs]
  refine Calls.spliced_cons (thn (he pins s σ H _ I h) fun u s1 ⟨x,H1,I1,r1,q1⟩=>Calls.spliced_nil ?_)
  obtain ⟨a,xs,rfl,hq,q⟩:=q1
  cases r1
  obtain ⟨its,rv,p',hz⟩:=I1.list hq
  have hl:=rv.length
  have hal:a < s1.heap.objs.size:=by obtain ⟨_,_,e,_⟩:=p'; exact Heap.lt_size e
  refine call_reversed_list p'.isList (Calls.spliced_nil ?_)
  have hnew:∀ b o,s1.heap.get? b=some o→(s1.heap.push (revObj a ((its.toArray.size:Int) - 1))).get? b=some o:=fun b o e=>Heap.get?_push_of_some _ e
  refine xH (s:={ s1 with heap:=s1.heap.push (revObj a ((its.toArray.size:Int) - 1)) }) (it:=s1.heap.objs.size) (l:=a) (items:=its.toArray) (I1.ok.hd hc) ⟨_,Heap.get?_push_size _ rfl,rfl,rfl⟩ (p'.isList.at fun o e=>hnew _ _ e) (Nat.ne_of_lt hal) (by rw [List.size_toArray]; omega) fun h' tk acc c hk hS hacc=>?_
  have hsz:(s1.heap.push (revObj a ((its.toArray.size:Int) - 1))).objs.size=s1.heap.objs.size + 1:=Heap.size_push ..
  have hk2:∀ b o,s1.heap.get? b=some o→h'.get? b=some o:=fun b o e=>hk b o (Nat.ne_of_lt (Heap.lt_size e)) (hnew b o e)
  have hle:s1.heap.objs.size≤(s1.heap.push (revObj a ((its.toArray.size:Int) - 1))).objs.size:=by rw [hsz]; exact Nat.le_succ _
  have hvals:Vals xs.reverse acc.toList:=wy rv (by rw [Array.length_toList,hacc.1,List.size_toArray]) fun j v hv=>by
    have:=hacc.2 j v (by simpa using hv)
    simpa using this
  refine ⟨.ref _,upd H1 _ (.lst xs.reverse),I1.laid (o:=.lst xs.reverse) hk2 hle ?_,rfl,q _ (I1.hok.fresh hle)⟩
  exact ⟨by rw [List.length_reverse]; exact hz,acc.toList,c,hvals,by simpa using hS⟩
end
end CN
namespace CN
open PySem PySem.Spec PyProof.Rows L2
structure Df (K:PySem.W.Frag) (mg:Str→Option Value) (x:Str) (st:Stmt) where
  f:Addr
  fd:FuncData
  F:Fun K x x st f fd
  m:mg x=some (.ref f)
structure Md (K:PySem.W.Frag) (x qual:Str) (st:Stmt) where
  f:Addr
  fd:FuncData
  F:Fun K x qual st f fd
def GI (mg:Str→Option Value) (x:Str) (n:Int):Prop:=∃ t,mg x=some (.int n t)
def GS (mg:Str→Option Value) (x:Str) (n:Str):Prop:=∃ t,mg x=some (.str n t)
structure GTup (K:PySem.W.Frag) (mg:Str→Option Value) (x:Str) (xs:List V) where
  a:Addr
  m:mg x=some (.ref a)
  is:∀ H:Hp,SqT K H a xs
section
variable {X:Cx}
theorem a8 {x:Str} {n:Int} {pos:Pos} (h:GI X.mg x n) (hg:Gl X x:=by rfl) (hd:(x == ("__debug__" : Str))=false:=by decide):PE X (.Name x pos) (tC (.int n)) :=
  let ⟨t,e⟩:=h
  pO hg e ⟨t,rfl⟩ hd
theorem pe_gs {x:Str} {n:Str} {pos:Pos} (h:GS X.mg x n) (hg:Gl X x:=by rfl) (hd:(x == ("__debug__" : Str))=false:=by decide):PE X (.Name x pos) (tC (.str n)) :=
  let ⟨t,e⟩:=h
  pO hg e ⟨t,rfl⟩ hd
theorem j3 {x:Str} {a:Addr} {pos:Pos} (h:X.mg x=some (.ref a)) (hg:Gl X x:=by rfl) (hd:(x == ("__debug__" : Str))=false:=by decide):PE X (.Name x pos) (tC (.ref a)):=pO hg h rfl hd
theorem aD {x:Str} {st:Stmt} {k:Nat} {ps:List Str} {sp:Sp} {e:Expr} {es:List Expr} {t:TA} {p pos:Pos} (D:Df X.K X.mg x st) (G:FnOk X.prog X.w X.K X.mg X.base CX0 k D.f D.fd ps sp) (hr:Room k X.A) (hb:aK X.K D.fd ps []) (ha:PA X (e :: es) t)
    (hg:Gl X x:=by rfl) (hdb:(x == ("__debug__" : Str))=false:=by decide) (he:starEach (e :: es) X.env=(false,eval e X.env) :: starEach es X.env:=by rfl) (hpl:(backTo pos (starEach es X.env)).any (·.1)=false:=by rfl) :
    PE X (.Call (.Name x p) (e :: es) [] pos) (tCall sp [] E0 t):=yI G hr hg D.m D.F.kp hb .nil lA ha hdb he hpl
theorem lm:bootBuiltins "sum" = some (.builtin "sum"):=by decide +kernel
theorem iZ:bootBuiltins "all" = some (.builtin "all"):=by decide +kernel
theorem pc:bootBuiltins "min" = some (.builtin "min"):=by decide +kernel
theorem pd:bootBuiltins "int" = some (.type "int"):=by decide +kernel
theorem gR:bootBuiltins "list" = some (.type "list"):=by decide +kernel
theorem gq:bootBuiltins "str" = some (.type "str"):=by decide +kernel
theorem wc:bootBuiltins "ord" = some (.builtin "ord"):=by decide +kernel
section
variable {K:PySem.W.Frag}
theorem ak (hK:X.K=K:=by rfl):IxR X (rIxL K):=by
  subst hK
  exact yY
theorem aR (hK:X.K=K:=by rfl):IxR X (rIxT K):=by
  subst hK
  exact ix_tup
theorem am {e:Expr} {f:Str} {pos:Pos} {ta:TE} (he:PE X e ta) (hb:attributeBase e f X.env (eval e X.env)=eval e X.env) (hK:X.K=K:=by rfl):PE X (.Attribute e f pos) (tFld K ta f):=by
  subst hK
  exact pe_fld he hb
theorem ax (hK:X.K=K:=by rfl):fF X (.builtin "len") (fun xs H Q=>∃ p ys,xs=[.ref p]∧(SqL K H p ys∨SqT K H p ys)∧Q (.int ys.length) H):=by
  subst hK
  exact p9
theorem p6 (hc:X.calm=true) (hK:X.K=K:=by rfl):fF X (.builtin "sum") (rSum K):=by
  subst hK
  exact cr_sum hc
theorem ma (hc:X.calm=true) (hK:X.K=K:=by rfl):fF X (.builtin "all") (rAll K):=by
  subst hK
  exact cr_all hc
theorem jA (hK:X.K=K:=by rfl):OpR X (compareOp .In) (rIn K false):=by
  subst hK
  exact vB
theorem dO {es:List Expr} {k:Nat} {t:TGs} {n:Nat} {pos:Pos} (hc:X.calm=true) (h:PGs X es t) (hn:(assignEach es X.env).length=n:=by rfl) (hst:(assignEach es X.env).findIdx? (·.1)=none:=by rfl) (hK:X.K=K:=by rfl):PG X (.Tuple es k pos) (gTup K n t):=by
  subst hK
  exact pg_tup hc h hn hst
theorem aL {a:Expr} {ta:TE} (ha:PE X a ta) (he:∀ whole,isTrue a X.env whole=(do let v ← whole; standAt a.pos; holding [v] (truthy v))) (hK:X.K=K:=by rfl) :
    PT X a (fun σ H Q=>ta σ H fun x H'=>∃ k,TruV K x H' k∧Q k H'):=by
  subst hK
  exact xf ha he
end
def yf (i j:Int):Prop:=0 < j∧j < 2 ^ 1000
theorem j7:OpR X (binaryOp .FloorDiv) (rI yf fun i j=>.int (i / j)):=opI fun i j _ _ _ _ _ hc q=>by
  have h1:(0:Int) < j:=hc.1
  have h2:j < 2 ^ 1000:=hc.2
  refine floordiv_int (by omega) (by rw [Int.fdiv_eq_ediv_of_nonneg i (by omega)]; exact q) (.inl (PyProof.noPylong_of_log2 ?_))
  have h3:j.natAbs < 2 ^ 1000:=by
    have:((2 ^ 1000:Nat):Int)=2 ^ 1000:=by norm_cast
    omega
  have h4:j.natAbs.log2 < 1000:=(Nat.log2_lt (by omega)).mpr h3
  omega
def pz (i j:Int):Prop:=i.natAbs < 2 ^ 1000∧j.natAbs < 2 ^ 1000
theorem cW:OpR X (binaryOp .Mult) (rI pz fun i j=>.int (i * j)):=opI fun i j _ _ _ _ _ hc q=>by
  refine mul_int q ?_
  have ha:=PyProof.Rows.intBits_le hc.1
  have hb:=PyProof.Rows.intBits_le hc.2
  have h':Builtin.Int.intTooBig (Builtin.Int.intBits i + Builtin.Int.intBits j)=false:=by
    unfold Builtin.Int.intTooBig bitsLine
    exact decide_eq_false (by omega)
  unfold IntMulOk
  rw [h']
  simp
theorem xZ (i:Int):yf i 100:=⟨by decide,by decide⟩
theorem aQ {H H':Hp} {a:Addr} {o:HO} (s:Same H H') (h:H a=none):Same H (upd H' a o):=fun b q e=>by
  rw [ai (aq e h)]
  exact s b q e
theorem ah {H:Hp} {a:Addr} {o:HO} (h:H a=none):Same H (upd H a o):=aQ (Same.refl H) h
end
def top (i:Nat):Stmt:=PySem.Challenge.pw_channelnet_s01_answers.main.body.getD i (.Pass ⟨0,0,0,0⟩)
abbrev dF:Stmt:=top 1
theorem bo:az ["a", "b", "greater", "less", "rest"] ["a", "b"] (aj dF):=⟨rfl,rfl,rfl,by decide +kernel,rfl,by decide +kernel,by decide +kernel⟩
abbrev mH:Stmt:=top 2
theorem oF:az ["top", "bottom", "divisor"] ["top", "bottom"] (aj mH):=⟨rfl,rfl,rfl,by decide +kernel,rfl,by decide +kernel,by decide +kernel⟩
abbrev pI:Stmt:=top 3
theorem gc:az ["fractions", "top", "bottom", "fraction"] ["fractions"] (aj pI):=⟨rfl,rfl,rfl,by decide +kernel,rfl,by decide +kernel,by decide +kernel⟩
abbrev gG:Stmt:=p0 (top 7) 0
theorem nV:az ["self", "name", "begins", "above", "depth", "numbers"] ["self", "name", "begins", "above", "depth", "numbers"] (aj gG):=⟨rfl,rfl,rfl,by decide +kernel,rfl,by decide +kernel,by decide +kernel⟩
abbrev jy:Stmt:=p0 (top 8) 0
theorem qK:az ["self"] ["self"] (aj jy):=⟨rfl,rfl,rfl,by decide +kernel,rfl,by decide +kernel,by decide +kernel⟩
abbrev ic:Stmt:=p0 (top 8) 1
theorem pH:az ["self", "reaches"] ["self", "reaches"] (aj ic):=⟨rfl,rfl,rfl,by decide +kernel,rfl,by decide +kernel,by decide +kernel⟩
abbrev jq:Stmt:=top 9
theorem lx:az ["reach", "cap", "numbers"] ["reach", "cap"] (aj jq):=⟨rfl,rfl,rfl,by decide +kernel,rfl,by decide +kernel,by decide +kernel⟩
abbrev iN:Stmt:=top 10
theorem eM:az ["net", "i", "cap", "other", "k", "reach"] ["net", "i", "cap"] (aj iN):=⟨rfl,rfl,rfl,by decide +kernel,rfl,by decide +kernel,by decide +kernel⟩
abbrev mE:Stmt:=top 11
theorem iM:az ["reaches", "i", "upward", "at"] ["reaches", "i"] (aj mE):=⟨rfl,rfl,rfl,by decide +kernel,rfl,by decide +kernel,by decide +kernel⟩
abbrev dm:Stmt:=top 12
theorem d5:az ["reaches", "place", "k"] ["reaches", "place"] (aj dm):=⟨rfl,rfl,rfl,by decide +kernel,rfl,by decide +kernel,by decide +kernel⟩
abbrev iQ:Stmt:=top 13
theorem jn:az ["reaches", "k"] ["reaches"] (aj iQ):=⟨rfl,rfl,rfl,by decide +kernel,rfl,by decide +kernel,by decide +kernel⟩
abbrev ib:Stmt:=top 15
theorem cF:az ["reaches", "settings", "i", "tick", "part", "latest", "setting"] ["reaches", "settings", "i", "tick"] (aj ib):=⟨rfl,rfl,rfl,by decide +kernel,rfl,by decide +kernel,by decide +kernel⟩
abbrev fi:Stmt:=top 16
theorem di:az ["reaches", "settings", "place", "beside", "tick", "k"] ["reaches", "settings", "place"] (aj fi):=⟨rfl,rfl,rfl,by decide +kernel,rfl,by decide +kernel,by decide +kernel⟩
abbrev kO:Stmt:=top 18
theorem mx:az ["reach", "water", "kept"] ["reach", "water"] (aj kO):=⟨rfl,rfl,rfl,by decide +kernel,rfl,by decide +kernel,by decide +kernel⟩
abbrev jx:Stmt:=top 19
theorem qJ:az ["reach", "water"] ["reach", "water"] (aj jx):=⟨rfl,rfl,rfl,by decide +kernel,rfl,by decide +kernel,by decide +kernel⟩
abbrev mG:Stmt:=top 20
theorem dE:az ["net", "i", "tick", "water", "wanted", "k", "reach", "part", "taken"] ["net", "i", "tick", "water"] (aj mG):=⟨rfl,rfl,rfl,by decide +kernel,rfl,by decide +kernel,by decide +kernel⟩
abbrev gA:Stmt:=top 22
theorem dM:az ["reaches", "downward", "waiting", "i"] ["reaches"] (aj gA):=⟨rfl,rfl,rfl,by decide +kernel,rfl,by decide +kernel,by decide +kernel⟩
abbrev ee:Stmt:=top 23
theorem fG:az ["reaches", "offers", "place", "k"] ["reaches", "offers", "place"] (aj ee):=⟨rfl,rfl,rfl,by decide +kernel,rfl,by decide +kernel,by decide +kernel⟩
abbrev d9:Stmt:=top 24
theorem bw:az ["reaches", "asks", "by_end", "i", "water", "offers", "reach", "leaving"] ["reaches", "asks"] (aj d9):=⟨rfl,rfl,rfl,by decide +kernel,rfl,by decide +kernel,by decide +kernel⟩
abbrev kR:Stmt:=top 25
theorem my:az ["reaches", "offers", "i", "whole"] ["reaches", "offers", "i"] (aj kR):=⟨rfl,rfl,rfl,by decide +kernel,rfl,by decide +kernel,by decide +kernel⟩
abbrev kS:Stmt:=top 27
theorem eK:az ["reaches", "i", "reach", "where", "words"] ["reaches", "i"] (aj kS):=⟨rfl,rfl,rfl,by decide +kernel,rfl,by decide +kernel,by decide +kernel⟩
abbrev ge:Stmt:=top 28
theorem dD:az ["reaches", "text", "i", "sign"] ["reaches"] (aj ge):=⟨rfl,rfl,rfl,by decide +kernel,rfl,by decide +kernel,by decide +kernel⟩
abbrev kP:Stmt:=top 40
theorem sQ:az ["byte"] ["byte"] (aj kP):=⟨rfl,rfl,rfl,by decide +kernel,rfl,by decide +kernel,by decide +kernel⟩
abbrev jp:Stmt:=top 41
theorem c7:az ["line", "words", "word", "byte"] ["line"] (aj jp):=⟨rfl,rfl,rfl,by decide +kernel,rfl,by decide +kernel,by decide +kernel⟩
abbrev ju:Stmt:=top 42
theorem dS:az ["text", "lines", "line", "byte"] ["text"] (aj ju):=⟨rfl,rfl,rfl,by decide +kernel,rfl,by decide +kernel,by decide +kernel⟩
abbrev gz:Stmt:=top 43
theorem hJ:az ["words", "k"] ["words"] (aj gz):=⟨rfl,rfl,rfl,by decide +kernel,rfl,by decide +kernel,by decide +kernel⟩
abbrev ia:Stmt:=top 44
theorem pF:az ["word"] ["word"] (aj ia):=⟨rfl,rfl,rfl,by decide +kernel,rfl,by decide +kernel,by decide +kernel⟩
abbrev cQ:Stmt:=top 45
theorem cx:az ["words", "k", "word"] ["words"] (aj cQ):=⟨rfl,rfl,rfl,by decide +kernel,rfl,by decide +kernel,by decide +kernel⟩
abbrev dk:Stmt:=top 46
theorem dZ:az ["name", "reaches", "reach"] ["name", "reaches"] (aj dk):=⟨rfl,rfl,rfl,by decide +kernel,rfl,by decide +kernel,by decide +kernel⟩
abbrev jt:Stmt:=top 47
theorem hG:az ["where", "reaches", "k", "reach"] ["where", "reaches"] (aj jt):=⟨rfl,rfl,rfl,by decide +kernel,rfl,by decide +kernel,by decide +kernel⟩
abbrev js:Stmt:=top 48
theorem ly:az ["name", "place", "numbers", "reaches", "before"] ["name", "place", "numbers", "reaches"] (aj js):=⟨rfl,rfl,rfl,by decide +kernel,rfl,by decide +kernel,by decide +kernel⟩
abbrev pJ:Stmt:=top 49
theorem pG:az ["reach", "reaches", "beside", "k"] ["reach", "reaches"] (aj pJ):=⟨rfl,rfl,rfl,by decide +kernel,rfl,by decide +kernel,by decide +kernel⟩
abbrev dj:Stmt:=top 50
theorem bG:az ["words", "reaches", "told", "k", "place", "reach", "word"] ["words", "reaches"] (aj dj):=⟨rfl,rfl,rfl,by decide +kernel,rfl,by decide +kernel,by decide +kernel⟩
abbrev jr:Stmt:=top 51
theorem cw:az ["text", "reaches", "lines", "number", "line", "words", "reach"] ["text"] (aj jr):=⟨rfl,rfl,rfl,by decide +kernel,rfl,by decide +kernel,by decide +kernel⟩
abbrev eQ:Stmt:=top 54
theorem b5:az ["net", "i", "tick", "water", "reach", "offered", "taken", "left"] ["net", "i", "tick", "water"] (aj eQ):=⟨rfl,rfl,rfl,by decide +kernel,rfl,by decide +kernel,by decide +kernel⟩
abbrev mF:Stmt:=top 55
theorem er:az ["net", "tick", "rows", "i", "reach", "water"] ["net", "tick"] (aj mF):=⟨rfl,rfl,rfl,by decide +kernel,rfl,by decide +kernel,by decide +kernel⟩
abbrev kQ:Stmt:=top 56
theorem sR:az ["net", "i", "tick"] ["net", "i", "tick"] (aj kQ):=⟨rfl,rfl,rfl,by decide +kernel,rfl,by decide +kernel,by decide +kernel⟩
abbrev gy:Stmt:=top 57
theorem i7:az ["net", "i", "tick", "reach"] ["net", "i", "tick"] (aj gy):=⟨rfl,rfl,rfl,by decide +kernel,rfl,by decide +kernel,by decide +kernel⟩
abbrev kU:Stmt:=top 58
theorem mz:az ["net", "i", "tick", "row"] ["net", "i", "tick"] (aj kU):=⟨rfl,rfl,rfl,by decide +kernel,rfl,by decide +kernel,by decide +kernel⟩
abbrev gF:Stmt:=top 59
theorem aV:az ["net", "tick", "ends", "arrived", "lost", "spilled", "parted", "i", "row"] ["net", "tick"] (aj gF):=⟨rfl,rfl,rfl,by decide +kernel,rfl,by decide +kernel,by decide +kernel⟩
abbrev cG:Stmt:=top 60
theorem bq:az ["net", "totals", "tick", "total", "more"] ["net"] (aj cG):=⟨rfl,rfl,rfl,by decide +kernel,rfl,by decide +kernel,by decide +kernel⟩
abbrev cV:Stmt:=top 61
theorem bz:az ["net", "spilled", "tick", "before", "row"] ["net"] (aj cV):=⟨rfl,rfl,rfl,by decide +kernel,rfl,by decide +kernel,by decide +kernel⟩
abbrev eR:Stmt:=top 62
theorem b6:az ["net", "i", "tick", "way", "water", "k"] ["net", "i", "tick"] (aj eR):=⟨rfl,rfl,rfl,by decide +kernel,rfl,by decide +kernel,by decide +kernel⟩
abbrev sU:Stmt:=top 63
theorem pE:az ["waters", "numbers", "water"] ["waters"] (aj sU):=⟨rfl,rfl,rfl,by decide +kernel,rfl,by decide +kernel,by decide +kernel⟩
abbrev jw:Stmt:=top 73
theorem qI:az ["net", "i"] ["net", "i"] (aj jw):=⟨rfl,rfl,rfl,by decide +kernel,rfl,by decide +kernel,by decide +kernel⟩
abbrev kT:Stmt:=top 74
theorem sT:az ["tick"] ["tick"] (aj kT):=⟨rfl,rfl,rfl,by decide +kernel,rfl,by decide +kernel,by decide +kernel⟩
abbrev jv:Stmt:=top 75
theorem qH:az ["number"] ["number"] (aj jv):=⟨rfl,rfl,rfl,by decide +kernel,rfl,by decide +kernel,by decide +kernel⟩
abbrev gB:Stmt:=top 76
theorem hX:az ["net", "row", "number"] ["net", "row"] (aj gB):=⟨rfl,rfl,rfl,by decide +kernel,rfl,by decide +kernel,by decide +kernel⟩
abbrev gE:Stmt:=top 77
theorem fI:az ["net", "numbers", "row", "read", "reaches"] ["net", "numbers", "row"] (aj gE):=⟨rfl,rfl,rfl,by decide +kernel,rfl,by decide +kernel,by decide +kernel⟩
abbrev eg:Stmt:=top 78
theorem cb:az ["net", "numbers", "row", "tick", "water", "k"] ["net", "numbers", "row"] (aj eg):=⟨rfl,rfl,rfl,by decide +kernel,rfl,by decide +kernel,by decide +kernel⟩
abbrev fM:Stmt:=top 79
theorem eP:az ["net", "numbers", "row", "i", "settings"] ["net", "numbers", "row"] (aj fM):=⟨rfl,rfl,rfl,by decide +kernel,rfl,by decide +kernel,by decide +kernel⟩
abbrev fN:Stmt:=top 80
theorem mD:az ["net", "numbers", "row"] ["net", "numbers", "row"] (aj fN):=⟨rfl,rfl,rfl,by decide +kernel,rfl,by decide +kernel,by decide +kernel⟩
abbrev dq:Stmt:=top 81
theorem b7:az ["net", "numbers", "row", "i", "tick", "k"] ["net", "numbers", "row"] (aj dq):=⟨rfl,rfl,rfl,by decide +kernel,rfl,by decide +kernel,by decide +kernel⟩
abbrev dG:Stmt:=top 82
theorem jZ:az ["net", "numbers", "row"] ["net", "numbers", "row"] (aj dG):=⟨rfl,rfl,rfl,by decide +kernel,rfl,by decide +kernel,by decide +kernel⟩
abbrev dr:Stmt:=top 83
theorem jo:az ["net", "numbers", "row"] ["net", "numbers", "row"] (aj dr):=⟨rfl,rfl,rfl,by decide +kernel,rfl,by decide +kernel,by decide +kernel⟩
abbrev gC:Stmt:=top 84
theorem fH:az ["net", "numbers", "row", "reach", "way"] ["net", "numbers", "row"] (aj gC):=⟨rfl,rfl,rfl,by decide +kernel,rfl,by decide +kernel,by decide +kernel⟩
abbrev fK:Stmt:=top 85
theorem hZ:az ["net", "numbers", "row", "water"] ["net", "numbers", "row"] (aj fK):=⟨rfl,rfl,rfl,by decide +kernel,rfl,by decide +kernel,by decide +kernel⟩
abbrev fL:Stmt:=top 86
theorem mC:az ["net", "numbers", "row"] ["net", "numbers", "row"] (aj fL):=⟨rfl,rfl,rfl,by decide +kernel,rfl,by decide +kernel,by decide +kernel⟩
abbrev eT:Stmt:=top 87
theorem gU:az ["net", "numbers", "row", "found"] ["net", "numbers", "row"] (aj eT):=⟨rfl,rfl,rfl,by decide +kernel,rfl,by decide +kernel,by decide +kernel⟩
abbrev cY:Stmt:=top 88
theorem bH:az ["net", "numbers", "row", "found", "answer", "i"] ["net", "numbers", "row"] (aj cY):=⟨rfl,rfl,rfl,by decide +kernel,rfl,by decide +kernel,by decide +kernel⟩
abbrev fJ:Stmt:=top 89
theorem mB:az ["net", "numbers", "row"] ["net", "numbers", "row"] (aj fJ):=⟨rfl,rfl,rfl,by decide +kernel,rfl,by decide +kernel,by decide +kernel⟩
abbrev d6:Stmt:=top 90
theorem kM:az ["net", "numbers", "row"] ["net", "numbers", "row"] (aj d6):=⟨rfl,rfl,rfl,by decide +kernel,rfl,by decide +kernel,by decide +kernel⟩
abbrev eU:Stmt:=top 91
theorem lQ:az ["net", "numbers", "row"] ["net", "numbers", "row"] (aj eU):=⟨rfl,rfl,rfl,by decide +kernel,rfl,by decide +kernel,by decide +kernel⟩
abbrev fO:Stmt:=top 92
theorem h7:az ["net", "numbers", "row", "ends"] ["net", "numbers", "row"] (aj fO):=⟨rfl,rfl,rfl,by decide +kernel,rfl,by decide +kernel,by decide +kernel⟩
abbrev cR:Stmt:=top 93
theorem dU:az ["net", "numbers", "row", "text"] ["net", "numbers", "row"] (aj cR):=⟨rfl,rfl,rfl,by decide +kernel,rfl,by decide +kernel,by decide +kernel⟩
abbrev d7:Stmt:=top 94
theorem kN:az ["net", "numbers", "row"] ["net", "numbers", "row"] (aj d7):=⟨rfl,rfl,rfl,by decide +kernel,rfl,by decide +kernel,by decide +kernel⟩
abbrev fP:Stmt:=top 99
theorem h8:az ["net", "call", "numbers", "row", "function"] ["net", "call", "numbers", "row"] (aj fP):=⟨rfl,rfl,rfl,by decide +kernel,rfl,by decide +kernel,by decide +kernel⟩
abbrev kW:Stmt:=top 100
theorem bt:az ["calls", "net", "answered", "at", "call", "behind", "numbers", "row", "answer"] ["calls"] (aj kW):=⟨rfl,rfl,rfl,by decide +kernel,rfl,by decide +kernel,by decide +kernel⟩
structure Txt (K:PySem.W.Frag) (mg:Str→Option Value) where
  n_len:mg "len" = none
  n_range:mg "range" = none
  n_reversed:mg "reversed" = none
  n_list:mg "list" = none
  n_all:mg "all" = none
  n_sum:mg "sum" = none
  n_min:mg "min" = none
  n_enumerate:mg "enumerate" = none
  n_zip:mg "zip" = none
  n_int:mg "int" = none
  n_str:mg "str" = none
  n_ord:mg "ord" = none
  c_SOURCE:GI mg "SOURCE" (-1)
  c_TICKS:GI mg "TICKS" (60)
  c_MOST_REACHES:GI mg "MOST_REACHES" (30)
  c_LONGEST_WAY:GI mg "LONGEST_WAY" (8)
  c_LONGEST_NAME:GI mg "LONGEST_NAME" (8)
  c_LONGEST_NUMBER:GI mg "LONGEST_NUMBER" (8)
  c_NOWHERE:GI mg "NOWHERE" (-2)
  c_DROPS:GI mg "DROPS" (100000000000000000000000000000000)
  c_NO_NET:GI mg "NO_NET" (-9)
  c_OUT_OF_RANGE:GI mg "OUT_OF_RANGE" (-1)
  c_TOO_MUCH_PARTED:GI mg "TOO_MUCH_PARTED" (-7)
  c_CANNOT:GI mg "CANNOT" (-8)
  c_TOO_MANY_SETTINGS:GI mg "TOO_MANY_SETTINGS" (-6)
  c_MOST_WATER:GI mg "MOST_WATER" (1000000)
  c_MOST_SETTINGS:GI mg "MOST_SETTINGS" (60)
  c_MOST_CAP:GI mg "MOST_CAP" (100000)
  c_NET:GI mg "NET" (0)
  c_LETTERS:GS mg "LETTERS" "abcdefghijklmnopqrstuvwxyz"
  c_DIGITS:GS mg "DIGITS" "0123456789"
  t_FORM:GTup K mg "FORM" [.str "reach",.str "from",.str "delay",.str "loss",.str "soak",.str "cap",.str "gate"]
  t_LEAST:GTup K mg "LEAST" [.int 0,.int 0,.int 0,.int 1,.int 0]
  t_GREATEST:GTup K mg "GREATEST" [.int 10,.int 99,.int 1000,.int 100000,.int 100]
  t_HOW_MANY_NUMBERS:GTup K mg "HOW_MANY_NUMBERS" [.int 0,.int 1,.int 3,.int 2,.int 3,.int 1,.int 0,.int 1,.int 3,.int 2,.int 0,.int 0,.int 2,.int 0,.int 2,.int 0,.int 0,.int 0]
  t_WITH_ROW:GTup K mg "WITH_ROW" [.int 0,.int 1,.int 10,.int 11]
  common_divisor:Df K mg "common_divisor" dF
  lowest:Df K mg "lowest" mH
  total:Df K mg "total" pI
  Reach_init:Md K "__init__" "Reach.__init__" gG
  Net_init:Md K "__init__" "Net.__init__" jy
  Net_renew:Md K "renew" "Net.renew" ic
  with_cap:Df K mg "with_cap" jq
  if_held:Df K mg "if_held" iN
  way_to:Df K mg "way_to" mE
  beginning_at:Df K mg "beginning_at" dm
  ends_of:Df K mg "ends_of" iQ
  gate_part:Df K mg "gate_part" ib
  parts_fit:Df K mg "parts_fit" fi
  to_take:Df K mg "to_take" kO
  can_take:Df K mg "can_take" jx
  needed:Df K mg "needed" mG
  from_below:Df K mg "from_below" gA
  offered_at:Df K mg "offered_at" ee
  offers_for:Df K mg "offers_for" d9
  part_of:Df K mg "part_of" kR
  line_of:Df K mg "line_of" kS
  text_of:Df K mg "text_of" ge
  sign_of:Df K mg "sign_of" kP
  words_of:Df K mg "words_of" jp
  lines_of:Df K mg "lines_of" ju
  has_form:Df K mg "has_form" gz
  is_number:Df K mg "is_number" ia
  are_numbers_right:Df K mg "are_numbers_right" cQ
  is_name_free:Df K mg "is_name_free" dk
  place_of:Df K mg "place_of" jt
  reach_at:Df K mg "reach_at" js
  fits:Df K mg "fits" pJ
  read_reach:Df K mg "read_reach" dj
  read_net:Df K mg "read_net" jr
  pass_through:Df K mg "pass_through" eQ
  passes:Df K mg "passes" mF
  pass_of:Df K mg "pass_of" kQ
  leaving_at:Df K mg "leaving_at" gy
  flow_at:Df K mg "flow_at" kU
  account_of:Df K mg "account_of" gF
  account_of_all:Df K mg "account_of_all" cG
  spills_of_all:Df K mg "spills_of_all" cV
  most_leaving:Df K mg "most_leaving" eR
  told:Df K mg "told" sU
  is_reach:Df K mg "is_reach" jw
  is_tick:Df K mg "is_tick" kT
  is_water:Df K mg "is_water" jv
  are_asks:Df K mg "are_asks" gB
  answer_net:Df K mg "answer_net" gE
  answer_let:Df K mg "answer_let" eg
  answer_gate:Df K mg "answer_gate" fM
  answer_flow:Df K mg "answer_flow" fN
  answer_comes:Df K mg "answer_comes" dq
  answer_account:Df K mg "answer_account" dG
  answer_accounts:Df K mg "answer_accounts" dr
  answer_way:Df K mg "answer_way" gC
  answer_need:Df K mg "answer_need" fK
  answer_most:Df K mg "answer_most" fL
  answer_wants:Df K mg "answer_wants" eT
  answer_set_gates:Df K mg "answer_set_gates" cY
  answer_part:Df K mg "answer_part" fJ
  answer_spills:Df K mg "answer_spills" d6
  answer_ifcap:Df K mg "answer_ifcap" eU
  answer_ends:Df K mg "answer_ends" fO
  answer_print_text:Df K mg "answer_print_text" cR
  answer_counts:Df K mg "answer_counts" d7
  answer_call:Df K mg "answer_call" fP
  answers:Df K mg "answers" kW
  t_FUNCTIONS:GTup K mg "FUNCTIONS" [.ref answer_net.f,.ref answer_let.f,.ref answer_gate.f,.ref answer_flow.f,.ref answer_comes.f,.ref answer_account.f,.ref answer_accounts.f,.ref answer_way.f,.ref answer_need.f,.ref answer_most.f,.ref answer_wants.f,.ref answer_set_gates.f,.ref answer_part.f,.ref answer_spills.f,.ref answer_ifcap.f,.ref answer_ends.f,.ref answer_print_text.f,.ref answer_counts.f]
  a_Reach:Addr
  m_Reach:mg "Reach" = some (.ref a_Reach)
  cl_Reach:Cls K a_Reach
  mk_Reach:Mk K a_Reach Reach_init.f
  na_Reach_name:bc K a_Reach "name"
  na_Reach_begins:bc K a_Reach "begins"
  na_Reach_above:bc K a_Reach "above"
  na_Reach_depth:bc K a_Reach "depth"
  na_Reach_delay:bc K a_Reach "delay"
  na_Reach_loss:bc K a_Reach "loss"
  na_Reach_soak:bc K a_Reach "soak"
  na_Reach_cap:bc K a_Reach "cap"
  na_Reach_gate:bc K a_Reach "gate"
  a_Net:Addr
  m_Net:mg "Net" = some (.ref a_Net)
  cl_Net:Cls K a_Net
  mk_Net:Mk K a_Net Net_init.f
  na_Net_reaches:bc K a_Net "reaches"
  na_Net_waters:bc K a_Net "waters"
  na_Net_settings:bc K a_Net "settings"
  me_Net_renew:Meth K a_Net "renew" Net_renew.f
theorem lr {K:PySem.W.Frag} {mg:Str→Option Value} {T:Txt K mg}:aK K T.common_divisor.fd ["a", "b"] []:=T.common_divisor.F.binds (ps:=["a", "b"]) fun _ _ _ _ _ _ us hl=>match us,hl with | [_,_],_=>rfl
theorem iJ {K:PySem.W.Frag} {mg:Str→Option Value} {T:Txt K mg}:aK K T.lowest.fd ["top", "bottom"] []:=T.lowest.F.binds (ps:=["top", "bottom"]) fun _ _ _ _ _ _ us hl=>match us,hl with | [_,_],_=>rfl
theorem zd {K:PySem.W.Frag} {mg:Str→Option Value} {T:Txt K mg}:aK K T.total.fd ["fractions"] []:=T.total.F.binds (ps:=["fractions"]) fun _ _ _ _ _ _ us hl=>match us,hl with | [_],_=>rfl
theorem gT {K:PySem.W.Frag} {mg:Str→Option Value} {T:Txt K mg}:aK K T.Reach_init.fd ["self", "name", "begins", "above", "depth", "numbers"] []:=T.Reach_init.F.binds (ps:=["self", "name", "begins", "above", "depth", "numbers"]) fun _ _ _ _ _ _ us hl=>match us,hl with | [_,_,_,_,_,_],_=>rfl
theorem nP {K:PySem.W.Frag} {mg:Str→Option Value} {T:Txt K mg}:aK K T.Net_init.fd ["self"] []:=T.Net_init.F.binds (ps:=["self"]) fun _ _ _ _ _ _ us hl=>match us,hl with | [_],_=>rfl
theorem sj {K:PySem.W.Frag} {mg:Str→Option Value} {T:Txt K mg}:aK K T.Net_renew.fd ["self", "reaches"] []:=T.Net_renew.F.binds (ps:=["self", "reaches"]) fun _ _ _ _ _ _ us hl=>match us,hl with | [_,_],_=>rfl
theorem ub {K:PySem.W.Frag} {mg:Str→Option Value} {T:Txt K mg}:aK K T.with_cap.fd ["reach", "cap"] []:=T.with_cap.F.binds (ps:=["reach", "cap"]) fun _ _ _ _ _ _ us hl=>match us,hl with | [_,_],_=>rfl
theorem wm {K:PySem.W.Frag} {mg:Str→Option Value} {T:Txt K mg}:aK K T.if_held.fd ["net", "i", "cap"] []:=T.if_held.F.binds (ps:=["net", "i", "cap"]) fun _ _ _ _ _ _ us hl=>match us,hl with | [_,_,_],_=>rfl
theorem nF {K:PySem.W.Frag} {mg:Str→Option Value} {T:Txt K mg}:aK K T.way_to.fd ["reaches", "i"] []:=T.way_to.F.binds (ps:=["reaches", "i"]) fun _ _ _ _ _ _ us hl=>match us,hl with | [_,_],_=>rfl
theorem bL {K:PySem.W.Frag} {mg:Str→Option Value} {T:Txt K mg}:aK K T.beginning_at.fd ["reaches", "place"] []:=T.beginning_at.F.binds (ps:=["reaches", "place"]) fun _ _ _ _ _ _ us hl=>match us,hl with | [_,_],_=>rfl
theorem eC {K:PySem.W.Frag} {mg:Str→Option Value} {T:Txt K mg}:aK K T.ends_of.fd ["reaches"] []:=T.ends_of.F.binds (ps:=["reaches"]) fun _ _ _ _ _ _ us hl=>match us,hl with | [_],_=>rfl
theorem fC {K:PySem.W.Frag} {mg:Str→Option Value} {T:Txt K mg}:aK K T.gate_part.fd ["reaches", "settings", "i", "tick"] []:=T.gate_part.F.binds (ps:=["reaches", "settings", "i", "tick"]) fun _ _ _ _ _ _ us hl=>match us,hl with | [_,_,_,_],_=>rfl
theorem sh {K:PySem.W.Frag} {mg:Str→Option Value} {T:Txt K mg}:aK K T.parts_fit.fd ["reaches", "settings", "place"] []:=T.parts_fit.F.binds (ps:=["reaches", "settings", "place"]) fun _ _ _ _ _ _ us hl=>match us,hl with | [_,_,_],_=>rfl
theorem pk {K:PySem.W.Frag} {mg:Str→Option Value} {T:Txt K mg}:aK K T.to_take.fd ["reach", "water"] []:=T.to_take.F.binds (ps:=["reach", "water"]) fun _ _ _ _ _ _ us hl=>match us,hl with | [_,_],_=>rfl
theorem nJ {K:PySem.W.Frag} {mg:Str→Option Value} {T:Txt K mg}:aK K T.can_take.fd ["reach", "water"] []:=T.can_take.F.binds (ps:=["reach", "water"]) fun _ _ _ _ _ _ us hl=>match us,hl with | [_,_],_=>rfl
theorem x9 {K:PySem.W.Frag} {mg:Str→Option Value} {T:Txt K mg}:aK K T.needed.fd ["net", "i", "tick", "water"] []:=T.needed.F.binds (ps:=["net", "i", "tick", "water"]) fun _ _ _ _ _ _ us hl=>match us,hl with | [_,_,_,_],_=>rfl
theorem qh {K:PySem.W.Frag} {mg:Str→Option Value} {T:Txt K mg}:aK K T.from_below.fd ["reaches"] []:=T.from_below.F.binds (ps:=["reaches"]) fun _ _ _ _ _ _ us hl=>match us,hl with | [_],_=>rfl
theorem gS {K:PySem.W.Frag} {mg:Str→Option Value} {T:Txt K mg}:aK K T.offered_at.fd ["reaches", "offers", "place"] []:=T.offered_at.F.binds (ps:=["reaches", "offers", "place"]) fun _ _ _ _ _ _ us hl=>match us,hl with | [_,_,_],_=>rfl
theorem kx {K:PySem.W.Frag} {mg:Str→Option Value} {T:Txt K mg}:aK K T.offers_for.fd ["reaches", "asks"] []:=T.offers_for.F.binds (ps:=["reaches", "asks"]) fun _ _ _ _ _ _ us hl=>match us,hl with | [_,_],_=>rfl
theorem wj {K:PySem.W.Frag} {mg:Str→Option Value} {T:Txt K mg}:aK K T.part_of.fd ["reaches", "offers", "i"] []:=T.part_of.F.binds (ps:=["reaches", "offers", "i"]) fun _ _ _ _ _ _ us hl=>match us,hl with | [_,_,_],_=>rfl
theorem wk {K:PySem.W.Frag} {mg:Str→Option Value} {T:Txt K mg}:aK K T.line_of.fd ["reaches", "i"] []:=T.line_of.F.binds (ps:=["reaches", "i"]) fun _ _ _ _ _ _ us hl=>match us,hl with | [_,_],_=>rfl
theorem we {K:PySem.W.Frag} {mg:Str→Option Value} {T:Txt K mg}:aK K T.text_of.fd ["reaches"] []:=T.text_of.F.binds (ps:=["reaches"]) fun _ _ _ _ _ _ us hl=>match us,hl with | [_],_=>rfl
theorem wg {K:PySem.W.Frag} {mg:Str→Option Value} {T:Txt K mg}:aK K T.sign_of.fd ["byte"] []:=T.sign_of.F.binds (ps:=["byte"]) fun _ _ _ _ _ _ us hl=>match us,hl with | [_],_=>rfl
theorem ua {K:PySem.W.Frag} {mg:Str→Option Value} {T:Txt K mg}:aK K T.words_of.fd ["line"] []:=T.words_of.F.binds (ps:=["line"]) fun _ _ _ _ _ _ us hl=>match us,hl with | [_],_=>rfl
theorem uf {K:PySem.W.Frag} {mg:Str→Option Value} {T:Txt K mg}:aK K T.lines_of.fd ["text"] []:=T.lines_of.F.binds (ps:=["text"]) fun _ _ _ _ _ _ us hl=>match us,hl with | [_],_=>rfl
theorem ug {K:PySem.W.Frag} {mg:Str→Option Value} {T:Txt K mg}:aK K T.has_form.fd ["words"] []:=T.has_form.F.binds (ps:=["words"]) fun _ _ _ _ _ _ us hl=>match us,hl with | [_],_=>rfl
theorem si {K:PySem.W.Frag} {mg:Str→Option Value} {T:Txt K mg}:aK K T.is_number.fd ["word"] []:=T.is_number.F.binds (ps:=["word"]) fun _ _ _ _ _ _ us hl=>match us,hl with | [_],_=>rfl
theorem i4 {K:PySem.W.Frag} {mg:Str→Option Value} {T:Txt K mg}:aK K T.are_numbers_right.fd ["words"] []:=T.are_numbers_right.F.binds (ps:=["words"]) fun _ _ _ _ _ _ us hl=>match us,hl with | [_],_=>rfl
theorem nI {K:PySem.W.Frag} {mg:Str→Option Value} {T:Txt K mg}:aK K T.is_name_free.fd ["name", "reaches"] []:=T.is_name_free.F.binds (ps:=["name", "reaches"]) fun _ _ _ _ _ _ us hl=>match us,hl with | [_,_],_=>rfl
theorem ue {K:PySem.W.Frag} {mg:Str→Option Value} {T:Txt K mg}:aK K T.place_of.fd ["where", "reaches"] []:=T.place_of.F.binds (ps:=["where", "reaches"]) fun _ _ _ _ _ _ us hl=>match us,hl with | [_,_],_=>rfl
theorem ud {K:PySem.W.Frag} {mg:Str→Option Value} {T:Txt K mg}:aK K T.reach_at.fd ["name", "place", "numbers", "reaches"] []:=T.reach_at.F.binds (ps:=["name", "place", "numbers", "reaches"]) fun _ _ _ _ _ _ us hl=>match us,hl with | [_,_,_,_],_=>rfl
theorem b_fits {K:PySem.W.Frag} {mg:Str→Option Value} {T:Txt K mg}:aK K T.fits.fd ["reach", "reaches"] []:=T.fits.F.binds (ps:=["reach", "reaches"]) fun _ _ _ _ _ _ us hl=>match us,hl with | [_,_],_=>rfl
theorem qg {K:PySem.W.Frag} {mg:Str→Option Value} {T:Txt K mg}:aK K T.read_reach.fd ["words", "reaches"] []:=T.read_reach.F.binds (ps:=["words", "reaches"]) fun _ _ _ _ _ _ us hl=>match us,hl with | [_,_],_=>rfl
theorem uc {K:PySem.W.Frag} {mg:Str→Option Value} {T:Txt K mg}:aK K T.read_net.fd ["text"] []:=T.read_net.F.binds (ps:=["text"]) fun _ _ _ _ _ _ us hl=>match us,hl with | [_],_=>rfl
theorem iI {K:PySem.W.Frag} {mg:Str→Option Value} {T:Txt K mg}:aK K T.pass_through.fd ["net", "i", "tick", "water"] []:=T.pass_through.F.binds (ps:=["net", "i", "tick", "water"]) fun _ _ _ _ _ _ us hl=>match us,hl with | [_,_,_,_],_=>rfl
theorem nG {K:PySem.W.Frag} {mg:Str→Option Value} {T:Txt K mg}:aK K T.passes.fd ["net", "tick"] []:=T.passes.F.binds (ps:=["net", "tick"]) fun _ _ _ _ _ _ us hl=>match us,hl with | [_,_],_=>rfl
theorem pq {K:PySem.W.Frag} {mg:Str→Option Value} {T:Txt K mg}:aK K T.pass_of.fd ["net", "i", "tick"] []:=T.pass_of.F.binds (ps:=["net", "i", "tick"]) fun _ _ _ _ _ _ us hl=>match us,hl with | [_,_,_],_=>rfl
theorem kz {K:PySem.W.Frag} {mg:Str→Option Value} {T:Txt K mg}:aK K T.leaving_at.fd ["net", "i", "tick"] []:=T.leaving_at.F.binds (ps:=["net", "i", "tick"]) fun _ _ _ _ _ _ us hl=>match us,hl with | [_,_,_],_=>rfl
theorem wn {K:PySem.W.Frag} {mg:Str→Option Value} {T:Txt K mg}:aK K T.flow_at.fd ["net", "i", "tick"] []:=T.flow_at.F.binds (ps:=["net", "i", "tick"]) fun _ _ _ _ _ _ us hl=>match us,hl with | [_,_,_],_=>rfl
theorem kD {K:PySem.W.Frag} {mg:Str→Option Value} {T:Txt K mg}:aK K T.account_of.fd ["net", "tick"] []:=T.account_of.F.binds (ps:=["net", "tick"]) fun _ _ _ _ _ _ us hl=>match us,hl with | [_,_],_=>rfl
theorem gr {K:PySem.W.Frag} {mg:Str→Option Value} {T:Txt K mg}:aK K T.account_of_all.fd ["net"] []:=T.account_of_all.F.binds (ps:=["net"]) fun _ _ _ _ _ _ us hl=>match us,hl with | [_],_=>rfl
theorem lX {K:PySem.W.Frag} {mg:Str→Option Value} {T:Txt K mg}:aK K T.spills_of_all.fd ["net"] []:=T.spills_of_all.F.binds (ps:=["net"]) fun _ _ _ _ _ _ us hl=>match us,hl with | [_],_=>rfl
theorem nH {K:PySem.W.Frag} {mg:Str→Option Value} {T:Txt K mg}:aK K T.most_leaving.fd ["net", "i", "tick"] []:=T.most_leaving.F.binds (ps:=["net", "i", "tick"]) fun _ _ _ _ _ _ us hl=>match us,hl with | [_,_,_],_=>rfl
theorem jJ {K:PySem.W.Frag} {mg:Str→Option Value} {T:Txt K mg}:aK K T.told.fd ["waters"] []:=T.told.F.binds (ps:=["waters"]) fun _ _ _ _ _ _ us hl=>match us,hl with | [_],_=>rfl
theorem cD {K:PySem.W.Frag} {mg:Str→Option Value} {T:Txt K mg}:aK K T.is_reach.fd ["net", "i"] []:=T.is_reach.F.binds (ps:=["net", "i"]) fun _ _ _ _ _ _ us hl=>match us,hl with | [_,_],_=>rfl
theorem c9 {K:PySem.W.Frag} {mg:Str→Option Value} {T:Txt K mg}:aK K T.is_tick.fd ["tick"] []:=T.is_tick.F.binds (ps:=["tick"]) fun _ _ _ _ _ _ us hl=>match us,hl with | [_],_=>rfl
theorem jK {K:PySem.W.Frag} {mg:Str→Option Value} {T:Txt K mg}:aK K T.is_water.fd ["number"] []:=T.is_water.F.binds (ps:=["number"]) fun _ _ _ _ _ _ us hl=>match us,hl with | [_],_=>rfl
theorem nL {K:PySem.W.Frag} {mg:Str→Option Value} {T:Txt K mg}:aK K T.are_asks.fd ["net", "row"] []:=T.are_asks.F.binds (ps:=["net", "row"]) fun _ _ _ _ _ _ us hl=>match us,hl with | [_,_],_=>rfl
theorem qj {K:PySem.W.Frag} {mg:Str→Option Value} {T:Txt K mg}:aK K T.answer_net.fd ["net", "numbers", "row"] []:=T.answer_net.F.binds (ps:=["net", "numbers", "row"]) fun _ _ _ _ _ _ us hl=>match us,hl with | [_,_,_],_=>rfl
theorem qk {K:PySem.W.Frag} {mg:Str→Option Value} {T:Txt K mg}:aK K T.answer_let.fd ["net", "numbers", "row"] []:=T.answer_let.F.binds (ps:=["net", "numbers", "row"]) fun _ _ _ _ _ _ us hl=>match us,hl with | [_,_,_],_=>rfl
theorem om {K:PySem.W.Frag} {mg:Str→Option Value} {T:Txt K mg}:aK K T.answer_gate.fd ["net", "numbers", "row"] []:=T.answer_gate.F.binds (ps:=["net", "numbers", "row"]) fun _ _ _ _ _ _ us hl=>match us,hl with | [_,_,_],_=>rfl
theorem oo {K:PySem.W.Frag} {mg:Str→Option Value} {T:Txt K mg}:aK K T.answer_flow.fd ["net", "numbers", "row"] []:=T.answer_flow.F.binds (ps:=["net", "numbers", "row"]) fun _ _ _ _ _ _ us hl=>match us,hl with | [_,_,_],_=>rfl
theorem nO {K:PySem.W.Frag} {mg:Str→Option Value} {T:Txt K mg}:aK K T.answer_comes.fd ["net", "numbers", "row"] []:=T.answer_comes.F.binds (ps:=["net", "numbers", "row"]) fun _ _ _ _ _ _ us hl=>match us,hl with | [_,_,_],_=>rfl
theorem lu {K:PySem.W.Frag} {mg:Str→Option Value} {T:Txt K mg}:aK K T.answer_account.fd ["net", "numbers", "row"] []:=T.answer_account.F.binds (ps:=["net", "numbers", "row"]) fun _ _ _ _ _ _ us hl=>match us,hl with | [_,_,_],_=>rfl
theorem kC {K:PySem.W.Frag} {mg:Str→Option Value} {T:Txt K mg}:aK K T.answer_accounts.fd ["net", "numbers", "row"] []:=T.answer_accounts.F.binds (ps:=["net", "numbers", "row"]) fun _ _ _ _ _ _ us hl=>match us,hl with | [_,_,_],_=>rfl
theorem qi {K:PySem.W.Frag} {mg:Str→Option Value} {T:Txt K mg}:aK K T.answer_way.fd ["net", "numbers", "row"] []:=T.answer_way.F.binds (ps:=["net", "numbers", "row"]) fun _ _ _ _ _ _ us hl=>match us,hl with | [_,_,_],_=>rfl
theorem oh {K:PySem.W.Frag} {mg:Str→Option Value} {T:Txt K mg}:aK K T.answer_need.fd ["net", "numbers", "row"] []:=T.answer_need.F.binds (ps:=["net", "numbers", "row"]) fun _ _ _ _ _ _ us hl=>match us,hl with | [_,_,_],_=>rfl
theorem oj {K:PySem.W.Frag} {mg:Str→Option Value} {T:Txt K mg}:aK K T.answer_most.fd ["net", "numbers", "row"] []:=T.answer_most.F.binds (ps:=["net", "numbers", "row"]) fun _ _ _ _ _ _ us hl=>match us,hl with | [_,_,_],_=>rfl
theorem nM {K:PySem.W.Frag} {mg:Str→Option Value} {T:Txt K mg}:aK K T.answer_wants.fd ["net", "numbers", "row"] []:=T.answer_wants.F.binds (ps:=["net", "numbers", "row"]) fun _ _ _ _ _ _ us hl=>match us,hl with | [_,_,_],_=>rfl
theorem jL {K:PySem.W.Frag} {mg:Str→Option Value} {T:Txt K mg}:aK K T.answer_set_gates.fd ["net", "numbers", "row"] []:=T.answer_set_gates.F.binds (ps:=["net", "numbers", "row"]) fun _ _ _ _ _ _ us hl=>match us,hl with | [_,_,_],_=>rfl
theorem og {K:PySem.W.Frag} {mg:Str→Option Value} {T:Txt K mg}:aK K T.answer_part.fd ["net", "numbers", "row"] []:=T.answer_part.F.binds (ps:=["net", "numbers", "row"]) fun _ _ _ _ _ _ us hl=>match us,hl with | [_,_,_],_=>rfl
theorem lY {K:PySem.W.Frag} {mg:Str→Option Value} {T:Txt K mg}:aK K T.answer_spills.fd ["net", "numbers", "row"] []:=T.answer_spills.F.binds (ps:=["net", "numbers", "row"]) fun _ _ _ _ _ _ us hl=>match us,hl with | [_,_,_],_=>rfl
theorem nN {K:PySem.W.Frag} {mg:Str→Option Value} {T:Txt K mg}:aK K T.answer_ifcap.fd ["net", "numbers", "row"] []:=T.answer_ifcap.F.binds (ps:=["net", "numbers", "row"]) fun _ _ _ _ _ _ us hl=>match us,hl with | [_,_,_],_=>rfl
theorem oq {K:PySem.W.Frag} {mg:Str→Option Value} {T:Txt K mg}:aK K T.answer_ends.fd ["net", "numbers", "row"] []:=T.answer_ends.F.binds (ps:=["net", "numbers", "row"]) fun _ _ _ _ _ _ us hl=>match us,hl with | [_,_,_],_=>rfl
theorem i6 {K:PySem.W.Frag} {mg:Str→Option Value} {T:Txt K mg}:aK K T.answer_print_text.fd ["net", "numbers", "row"] []:=T.answer_print_text.F.binds (ps:=["net", "numbers", "row"]) fun _ _ _ _ _ _ us hl=>match us,hl with | [_,_,_],_=>rfl
theorem lZ {K:PySem.W.Frag} {mg:Str→Option Value} {T:Txt K mg}:aK K T.answer_counts.fd ["net", "numbers", "row"] []:=T.answer_counts.F.binds (ps:=["net", "numbers", "row"]) fun _ _ _ _ _ _ us hl=>match us,hl with | [_,_,_],_=>rfl
theorem ot {K:PySem.W.Frag} {mg:Str→Option Value} {T:Txt K mg}:aK K T.answer_call.fd ["net", "call", "numbers", "row"] []:=T.answer_call.F.binds (ps:=["net", "call", "numbers", "row"]) fun _ _ _ _ _ _ us hl=>match us,hl with | [_,_,_,_],_=>rfl
end CN
namespace CN
open PySem PySem.Spec PyProof.Rows L2
def sOf (b:List Nat):Str:=⟨b.toArray⟩
def pInt:Option Nat→Int
  | none=>-1
  | some p=>(p:Int)
theorem xn {p q:Option Nat} (h:pInt p=pInt q):p=q:=by
  cases p <;> cases q <;> simp only [pInt] at h <;> first | rfl | omega | skip
  exact congrArg some (by omega)
def rfs (name:Str) (b a d D L S C G:Int):List (Str × V) :=
  [("name",.str name),("begins",.int b),("above",.int a),("depth",.int d),("delay",.int D),("loss",.int L),("soak",.int S),("cap",.int C),("gate",.int G)]
def rf (ns:Vbiraa.Net) (i:Nat):List (Str × V) :=
  rfs (sOf (Vbiraa.reachAt ns i).name) (pInt (Vbiraa.reachAt ns i).parent) (above ns i) (depth ns i) (Vbiraa.reachAt ns i).delay (Vbiraa.reachAt ns i).loss (Vbiraa.reachAt ns i).soak (Vbiraa.reachAt ns i).cap (Vbiraa.reachAt ns i).gate
section
variable {name:Str} {b a d D L S C G:Int}
theorem nq:(rfs name b a d D L S C G).lookup ("name" : Str)=some (.str name):=by rfl
theorem cU:(rfs name b a d D L S C G).lookup ("begins" : Str)=some (.int b):=by rfl
theorem gO:(rfs name b a d D L S C G).lookup ("above" : Str)=some (.int a):=by rfl
theorem pX:(rfs name b a d D L S C G).lookup ("depth" : Str)=some (.int d):=by rfl
theorem kh:(rfs name b a d D L S C G).lookup ("delay" : Str)=some (.int D):=by rfl
theorem pW:(rfs name b a d D L S C G).lookup ("loss" : Str)=some (.int L):=by rfl
theorem pV:(rfs name b a d D L S C G).lookup ("soak" : Str)=some (.int S):=by rfl
theorem uJ:(rfs name b a d D L S C G).lookup ("cap" : Str)=some (.int C):=by rfl
theorem nr:(rfs name b a d D L S C G).lookup ("gate" : Str)=some (.int G):=by rfl
end
structure RsAt (C:Addr) (H:Hp) (l:Addr) (ns:Vbiraa.Net):Prop where
  ex:∃ as:List Addr,H l=some (.lst (as.map V.ref))∧as.length=ns.length∧∀ (i:Nat) (a:Addr),as[i]?=some a→∃ dx,H a=some (.ins C dx (rf ns i))
theorem RsAt.same {C l:Addr} {H H':Hp} {ns:Vbiraa.Net} (R:RsAt C H l ns) (s:Same H H'):RsAt C H' l ns:=by
  obtain ⟨as,h1,h2,h3⟩:=R.ex
  refine ⟨as,s _ _ h1,h2,fun i a e=>?_⟩
  obtain ⟨dx,h⟩:=h3 i a e
  exact ⟨dx,s _ _ h⟩
def NewL (H:Hp) (Q:VK) (xs:List V):Prop:=∀ (H':Hp) (p:Addr),Same H H'→H p=none→H' p=some (.lst xs)→Q (.ref p) H'
def ao (l:List Nat):List V:=l.map fun (n:Nat)=>V.int (n:Int)
theorem aO {n:Nat} (h:n < 1000000):n < sizeLine:=Nat.lt_of_lt_of_le h (by decide)
section
variable {P:Program} {w:World} {K:PySem.W.Frag} {mg:Str→Option Value} {base:Heap}
def spBeg (C:Addr):Sp:=fun vs H Q _=>∃ (l:Addr) (ns:Vbiraa.Net) (p:Option Nat),vs=[.ref l,.int (pInt p)]∧RsAt C H l ns∧ns.length≤1000∧NewL H Q (ao (Vbiraa.children ns p))
theorem bC (T:Txt K mg):FnOk P w K mg base CX0 1 T.beginning_at.f T.beginning_at.fd ["reaches", "place"] (spBeg T.a_Reach):=by
  refine T.beginning_at.F.ok d5 (fun vs H Q E h=>?_) (fun cdv A outer s H vs Q E hr h=>?_)
  · obtain ⟨l,ns,p,rfl,_⟩:=h
    rfl
  · obtain ⟨l,ns,p,rfl,R,hn,k⟩:=h
    refine ⟨_,(ag (au (gg (own:=[("k",2)]) rfl d5.nd (cI rfl T.n_range (aa (aF (ax (K:=K)) (by rfl) T.n_len PySem.boot_len (aa (pv 0) ad)) ad)) (bh (N:=["reaches", "place", "k"]) (sc:=aj dm) (by decide +kernel)) (fun _ _ _ _ _=>(aJ (i:=2) d5.nd rfl (by first | exact Or.inl rfl | exact Or.inr rfl))) (fun _ _ _ _ _=>(uu (aM du (am (K:=K) (ay (ak (K:=K)) (pv 0) (pv 2) (fun _ _=>rfl)) rfl) (pv 1) (aP _)))) (fun _ _ _ _ _=>(pv 2))))),?_⟩
    obtain ⟨as,h1,h2,h3⟩:=R.ex
    have hl:(as.map V.ref).length=ns.length:=by rw [List.length_map]; exact h2
    refine ⟨_,rfl,l,_,rfl,.inl (SqL.of h1),_,rfl,by omega,by omega,fun D hD=>?_⟩
    refine nj (n:=(as.map V.ref).length) (fun j H'=>Same H H'∧H' D=some (.lst (ao ((List.range j).filter fun i=>(Vbiraa.reachAt ns i).parent == p)))) ⟨ah hD,ac⟩ ?_ ?_
    · rintro i H' hi ⟨sm,hD'⟩
      rw [hl] at hi
      obtain ⟨a,ha⟩:∃ a,as[i]?=some a:=⟨_,List.getElem?_eq_getElem (by omega)⟩
      obtain ⟨dx,hx⟩:=h3 i a ha
      refine ⟨rfl,_,rfl,_,rfl,l,_,_,_,rfl,rfl,SqL.of (sm _ _ h1),at_of (j:=i) (v:=V.ref a) (Int.zero_add _) (by rw [List.getElem?_map,ha]; rfl),a,T.a_Reach,dx,_,_,rfl,sm _ _ hx,T.cl_Reach,T.na_Reach_begins,cU,_,rfl,rfl,_,rfl,?_⟩
      have e:decide (V.int (pInt (Vbiraa.reachAt ns i).parent)=V.int (pInt p))=((Vbiraa.reachAt ns i).parent == p):=by
        rw [Bool.eq_iff_iff,decide_eq_true_eq,beq_iff_eq]
        exact ⟨fun q=>xn (V.int.inj q),fun q=>by rw [q]⟩
      rw [e,List.range_succ,List.filter_append]
      cases c:((Vbiraa.reachAt ns i).parent == p) with
      | true =>
        refine iteT ⟨_,rfl,_,hD',?_,?_,?_⟩
        · unfold ao
          rw [List.length_map]
          refine aO (Nat.lt_of_le_of_lt (List.length_filter_le _ _) ?_)
          rw [List.length_range]
          omega
        · exact aQ sm hD
        · rw [ac]
          unfold ao
          rw [List.map_append,List.filter_cons,if_pos c,Int.zero_add]
          rfl
      | false =>
        refine iteF ⟨sm,?_⟩
        rw [List.filter_cons,if_neg (by rw [c]; exact Bool.false_ne_true),List.filter_nil,List.append_nil]
        exact hD'
    · rintro H' ⟨sm,hD'⟩
      rw [hl] at hD'
      exact k H' D sm hD hD'
def spEnds (C:Addr):Sp:=fun vs H Q _=>∃ (l:Addr) (ns:Vbiraa.Net),vs=[.ref l]∧RsAt C H l ns∧ns.length≤1000∧NewL H Q (ao (Vbiraa.ends ns))
theorem dI (T:Txt K mg):FnOk P w K mg base CX0 2 T.ends_of.f T.ends_of.fd ["reaches"] (spEnds T.a_Reach):=by
  refine T.ends_of.F.ok jn (fun vs H Q E h=>?_) (fun cdv A outer s H vs Q E hr h=>?_)
  · obtain ⟨l,ns,rfl,_⟩:=h
    rfl
  · obtain ⟨l,ns,rfl,R,hn,k⟩:=h
    refine ⟨_,(ag (au (gg (own:=[("k",1)]) rfl jn.nd (cI rfl T.n_range (aa (aF (ax (K:=K)) (by rfl) T.n_len PySem.boot_len (aa (pv 0) ad)) ad)) (bh (N:=["reaches", "k"]) (sc:=aj iQ) (by decide +kernel)) (fun _ _ _ _ _=>(aJ (i:=1) jn.nd rfl (by first | exact Or.inl rfl | exact Or.inr rfl))) (fun _ _ _ _ _=>(uu (aM du (aF (ax (K:=K)) (by rfl) T.n_len PySem.boot_len (aa (aD T.beginning_at (bC T) (hr.mono (by decide)) bL (aa (pv 0) (aa (pv 1) ad))) ad)) af (aP _)))) (fun _ _ _ _ _=>(pv 1))))),?_⟩
    obtain ⟨as,h1,h2,h3⟩:=R.ex
    have hl:(as.map V.ref).length=ns.length:=by rw [List.length_map]; exact h2
    refine ⟨_,rfl,l,_,rfl,.inl (SqL.of h1),_,rfl,by omega,by omega,fun D hD=>?_⟩
    refine nj (n:=(as.map V.ref).length) (fun j H'=>Same H H'∧H' D=some (.lst (ao ((List.range j).filter fun i=>(Vbiraa.children ns (some i)).isEmpty)))) ⟨ah hD,ac⟩ ?_ ?_
    · rintro i H' hi ⟨sm,hD'⟩
      rw [hl] at hi
      refine ⟨rfl,_,rfl,_,rfl,l,ns,some i,?_,R.same sm,hn,?_⟩
      · rw [Int.zero_add]; rfl
      intro H2 q s2 hq hq2
      refine ⟨q,_,rfl,.inl (SqL.of hq2),rfl,_,rfl,?_⟩
      have e:decide (V.int ((ao (Vbiraa.children ns (some i))).length:Int)=V.int 0)=(Vbiraa.children ns (some i)).isEmpty:=by
        rw [Bool.eq_iff_iff,decide_eq_true_eq,List.isEmpty_iff]
        unfold ao
        rw [List.length_map]
        constructor
        · intro q
          have:=V.int.inj q
          exact List.length_eq_zero_iff.mp (by omega)
        · intro q
          rw [q]
          rfl
      rw [e,List.range_succ,List.filter_append]
      have sm2:Same H H2:=sm.trans s2
      cases c:(Vbiraa.children ns (some i)).isEmpty with
      | true =>
        refine iteT ⟨_,rfl,_,s2 _ _ hD',?_,?_,?_⟩
        · unfold ao
          rw [List.length_map]
          refine aO (Nat.lt_of_le_of_lt (List.length_filter_le _ _) ?_)
          rw [List.length_range]
          omega
        · exact aQ sm2 hD
        · rw [ac]
          unfold ao
          rw [List.map_append,List.filter_cons,if_pos c,Int.zero_add]
          rfl
      | false =>
        refine iteF ⟨sm2,?_⟩
        rw [List.filter_cons,if_neg (by rw [c]; exact Bool.false_ne_true),List.filter_nil,List.append_nil]
        exact s2 _ _ hD'
    · rintro H' ⟨sm,hD'⟩
      rw [hl] at hD'
      exact k H' D sm hD hD'
end
end CN
namespace CN
open PySem PySem.Spec PyProof.Rows L2
def ja (ns:Vbiraa.Net) (ss:List Vbiraa.Setting) (i t:Nat):Nat:=Vbiraa.partAt { net:=ns,lets:=[],settings:=ss } i t
def bY (i t:Nat) (b:Nat × Nat) (s:Vbiraa.Setting):Nat × Nat:=if s.reach=i∧b.1≤s.tick∧s.tick≤t then (s.tick,s.part) else b
def gp (g i t:Nat) (ss:List Vbiraa.Setting):Nat × Nat:=ss.foldl (bY i t) (0,g)
def pC (b:Option Vbiraa.Setting) (s:Vbiraa.Setting):Option Vbiraa.Setting:=match b with
  | none=>some s
  | some x=>if Vbiraa.later s x=true then some s else some x
theorem tP (g i t:Nat):∀ (ss:List Vbiraa.Setting) (b:Option Vbiraa.Setting) (c:Nat × Nat),(match b with | none=>c=(0,g) | some x=>c=(x.tick,x.part)) →
    (match (ss.filter fun s=>s.reach == i && decide (s.tick≤t)).foldl pC b with | none=>ss.foldl (bY i t) c=(0,g) | some x=>ss.foldl (bY i t) c=(x.tick,x.part))
  | [],b,c,h=>by
    cases b <;> exact h
  | s :: ss,b,c,h=>by
    rw [List.filter_cons,List.foldl_cons]
    by_cases hs:s.reach=i∧s.tick≤t
    · rw [if_pos (by rw [Bool.and_eq_true,beq_iff_eq,decide_eq_true_eq]; exact hs),List.foldl_cons]
      refine tP g i t ss _ _ ?_
      cases b with
      | none =>
        have e:c=(0,g):=h
        subst e
        show bY i t (0,g) s=(s.tick,s.part)
        unfold bY
        rw [if_pos ⟨hs.1,Nat.zero_le _,hs.2⟩]
      | some x =>
        have e:c=(x.tick,x.part):=h
        subst e
        unfold pC bY Vbiraa.later
        by_cases q:x.tick≤s.tick
        · simp only [q,decide_true,if_true,hs,and_self]
        · simp only [q,decide_false,Bool.false_eq_true,if_false,false_and,and_false]
    · rw [if_neg (by rw [Bool.and_eq_true,beq_iff_eq,decide_eq_true_eq]; exact hs)]
      have e:bY i t c s=c:=by
        unfold bY
        rw [if_neg (fun q=>hs ⟨q.1,q.2.2⟩)]
      rw [e]
      exact tP g i t ss b c h
theorem y4 (ns:Vbiraa.Net) (ss:List Vbiraa.Setting) (i t:Nat):(gp (Vbiraa.reachAt ns i).gate i t ss).2=ja ns ss i t:=by
  have h:=tP (Vbiraa.reachAt ns i).gate i t ss none _ rfl
  unfold ja Vbiraa.partAt
  show _=(match (ss.filter fun s=>s.reach == i && decide (s.tick≤t)).foldl pC none with | some s=>s.part | none=>(Vbiraa.reachAt ns i).gate)
  unfold gp
  cases e:(ss.filter fun s=>s.reach == i && decide (s.tick≤t)).foldl pC none with
  | none =>
    rw [e] at h
    rw [show ss.foldl (bY i t) (0,(Vbiraa.reachAt ns i).gate)=(0,(Vbiraa.reachAt ns i).gate) from h]
  | some x =>
    rw [e] at h
    rw [show ss.foldl (bY i t) (0,(Vbiraa.reachAt ns i).gate)=(x.tick,x.part) from h]
theorem y3 {g i t:Nat} {ss:List Vbiraa.Setting} {k:Nat} {s:Vbiraa.Setting} (h:ss[k]?=some s):gp g i t (ss.take (k + 1))=bY i t (gp g i t (ss.take k)) s:=by
  unfold gp
  rw [List.take_add_one,h,List.foldl_append]
  rfl
structure fY (H:Hp) (l:Addr) (ss:List Vbiraa.Setting):Prop where
  ex:∃ as:List Addr,H l=some (.lst (as.map V.ref))∧as.length=ss.length∧∀ (i:Nat) (a:Addr) (s:Vbiraa.Setting),as[i]?=some a→ss[i]?=some s→H a=some (.tup [.int s.reach,.int s.tick,.int s.part])
theorem fY.same {l:Addr} {H H':Hp} {ss:List Vbiraa.Setting} (R:fY H l ss) (s:Same H H'):fY H' l ss:=by
  obtain ⟨as,h1,h2,h3⟩:=R.ex
  exact ⟨as,s _ _ h1,h2,fun i a x e e'=>s _ _ (h3 i a x e e')⟩
theorem cX {a b:Nat}:decide (V.int (a:Int)=V.int (b:Int))=decide (a=b):=decide_eq_decide.mpr ⟨fun q=>Int.ofNat.inj (V.int.inj q),fun q=>by rw [q]⟩
theorem k9 {a b:Nat}:decide ((a:Int)≤(b:Int))=decide (a≤b):=decide_eq_decide.mpr (by omega)
section
variable {P:Program} {w:World} {K:PySem.W.Frag} {mg:Str→Option Value} {base:Heap}
def spGate (C:Addr):Sp:=fun vs H Q _=>∃ (l sl:Addr) (ns:Vbiraa.Net) (ss:List Vbiraa.Setting) (i t:Nat),vs=[.ref l,.ref sl,.int i,.int t]∧RsAt C H l ns∧fY H sl ss∧i < ns.length∧Q (.int (ja ns ss i t)) H
theorem eh (T:Txt K mg):FnOk P w K mg base CX0 1 T.gate_part.f T.gate_part.fd ["reaches", "settings", "i", "tick"] (spGate T.a_Reach):=by
  refine T.gate_part.F.ok cF (fun vs H Q E h=>?_) (fun cdv A outer s H vs Q E hr h=>?_)
  · obtain ⟨l,sl,ns,ss,i,t,rfl,_⟩:=h
    rfl
  · obtain ⟨l,sl,ns,ss,i,t,rfl,R,S,hi,k⟩:=h
    refine ⟨_,(ae (aw (i:=4) cF.nd rfl (by first | exact Or.inl rfl | exact Or.inr rfl) (am (K:=K) (ay (ak (K:=K)) (pv 0) (pv 2) (fun _ _=>rfl)) rfl))
      (ae (aw (i:=5) cF.nd rfl (by first | exact Or.inl rfl | exact Or.inr rfl) af)
      (ae (bS PassesOwn.never rfl (bV (pv 1)) (aJ (i:=6) cF.nd rfl (by first | exact Or.inl rfl | exact Or.inr rfl))
      (ag (aU (xc (aM du (ay (aR (K:=K)) (pv 6) af (fun _ _=>rfl)) (pv 2) (aP _)) (ut (eX cN cN (pv 5) (ay (aR (K:=K)) (pv 6) af (fun _ _=>rfl)) (pv 3)))).pt
      (ae (aw (i:=5) cF.nd rfl (by first | exact Or.inl rfl | exact Or.inr rfl) (ay (aR (K:=K)) (pv 6) af (fun _ _=>rfl)))
      (ag (aw (i:=4) cF.nd rfl (by first | exact Or.inl rfl | exact Or.inr rfl) (ay (aR (K:=K)) (pv 6) af (fun _ _=>rfl)))))
      aI)))
      (ag (au (pv 4)))))),?_⟩
    obtain ⟨as,h1,h2,h3⟩:=R.ex
    obtain ⟨bs,g1,g2,g3⟩:=S.ex
    obtain ⟨a,ha⟩:∃ a,as[i]?=some a:=⟨_,List.getElem?_eq_getElem (by omega)⟩
    obtain ⟨dx,hx⟩:=h3 i a ha
    refine ⟨_,rfl,_,rfl,l,_,_,_,rfl,rfl,SqL.of h1,aX (by rw [List.getElem?_map,ha]; rfl),a,T.a_Reach,dx,_,_,rfl,hx,T.cl_Reach,T.na_Reach_gate,nr,?_⟩
    refine ⟨_,rfl,sl,rfl,⟨_,SqL.of g1⟩,fe (K:=K) (a:=sl) (xs:=bs.map V.ref)
      (fun j σ H'=>H'=H∧∃ v:Option V,σ=[some (.ref l),some (.ref sl),some (.int i),some (.int t),some (.int (gp (Vbiraa.reachAt ns i).gate i t (ss.take j)).2),some (.int (gp (Vbiraa.reachAt ns i).gate i t (ss.take j)).1),v]) ⟨rfl,none,rfl⟩ ?_ ?_ ?_⟩
    · rintro j σ H' _ ⟨rfl,_⟩
      exact SqL.of g1
    · rintro j y σ H' hj ⟨rfl,v,rfl⟩
      obtain ⟨b,hb,rfl⟩:∃ b,bs[j]?=some b∧V.ref b=y:=by
        rw [List.getElem?_map] at hj
        exact Option.map_eq_some_iff.mp hj
      have hjl:j < ss.length:=by
        have:=(List.getElem?_eq_some_iff.mp hb).1
        omega
      obtain ⟨q,hq⟩:∃ q,ss[j]?=some q:=⟨_,List.getElem?_eq_getElem hjl⟩
      have ht:=g3 j b q hb hq
      rw [y3 hq]
      generalize gp (Vbiraa.reachAt ns i).gate i t (ss.take j)=c
      refine ⟨_,rfl,b,_,0,_,rfl,rfl,SqT.of ht,rfl,_,rfl,rfl,_,rfl,ite2 (fun c1=>?_) (fun c1=>?_)⟩
      · rw [cX,decide_eq_true_eq] at c1
        refine ⟨_,rfl,_,rfl,b,_,1,_,rfl,rfl,SqT.of ht,rfl,_,_,rfl,rfl,_,rfl,ite2 (fun c2=>?_) (fun c2=>?_)⟩
        · rw [k9,decide_eq_true_eq] at c2
          refine ⟨_,rfl,_,_,rfl,rfl,_,rfl,ite2 (fun c3=>?_) (fun c3=>?_)⟩
          · rw [k9,decide_eq_true_eq] at c3
            refine ⟨_,rfl,b,_,1,_,rfl,rfl,SqT.of ht,rfl,?_⟩
            refine ⟨_,rfl,b,_,2,_,rfl,rfl,SqT.of ht,rfl,?_⟩
            refine ⟨rfl,some (.ref b),?_⟩
            have e:bY i t c q=(q.tick,q.part):=by
              unfold bY
              rw [if_pos ⟨c1,c2,c3⟩]
            rw [e]
            rfl
          · rw [k9,decide_eq_true_eq] at c3
            have e:bY i t c q=c:=by
              unfold bY
              rw [if_neg (fun z=>c3 z.2.2)]
            rw [e]
            exact ⟨rfl,_,rfl⟩
        · rw [k9,decide_eq_true_eq] at c2
          refine ⟨_,rfl,?_⟩
          have e:bY i t c q=c:=by
            unfold bY
            rw [if_neg (fun z=>c2 z.2.1)]
          rw [e]
          exact iteF ⟨rfl,_,rfl⟩
      · rw [cX,decide_eq_true_eq] at c1
        have e:bY i t c q=c:=by
          unfold bY
          rw [if_neg (fun z=>c1 z.1)]
        rw [e]
        exact iteF ⟨rfl,_,rfl⟩
    · rintro σ H' ⟨rfl,v,rfl⟩
      refine ⟨_,rfl,?_⟩
      rw [List.length_map,g2,List.take_length,y4]
      exact k
end
end CN
namespace CN
open PySem PySem.Spec PyProof.Rows L2
theorem bJ {α:Type} {l:List α} {i:Nat} {x:α} (h:l[i]?=some x):l.take (i + 1)=l.take i++[x]:=by
  rw [List.take_add_one,h]
  rfl
section
variable {K:PySem.W.Frag} {a:Addr} {xs:List V} {g:TG} {te:TE} {vs:List Nat} {σ:L2.St} {H1:Hp} {D:Addr} {Qd:Hp→Prop}
theorem kg {i:Nat} {y:V} {ys:List V} {H H':Hp} (hD:H1 D=none) (hz:ys.length < sizeLine) (sm:Same H1 H) (hH:H D=some (.lst (ys.take i))) (hy:ys[i]?=some y) (s2:Same H H') :
    ∃ acc,H' D=some (.lst acc)∧acc.length < sizeLine∧(Same H1 (upd H' D (.lst (acc++[y])))∧(upd H' D (.lst (acc++[y]))) D=some (.lst (ys.take (i + 1)))):=by
  refine ⟨_,s2 _ _ hH,?_,aQ (sm.trans s2) hD,?_⟩
  · rw [List.length_take]
    exact Nat.lt_of_le_of_lt (Nat.min_le_right _ _) hz
  · rw [ac,bJ hy]
theorem bX (ys:List V) (hl:ys.length=xs.length) (hD:H1 D=none) (hq:SqL K H1 a xs) (hz:xs.length < sizeLine)
    (hs:∀ (i:Nat) (x y:V) (H:Hp),xs[i]?=some x→ys[i]?=some y→Same H1 H→∀ Q:VK,(∀ H',Same H H'→Q y H')→g x (wipe σ vs) H fun σ2 H2=>wipe σ2 vs=wipe σ vs∧te σ2 H2 Q)
    (hd:∀ H,Same H1 H→H D=some (.lst ys)→Qd H) :
    ∃ W:Nat→Nat→Hp→Prop,(∃ m,W 0 m (upd H1 D (.lst [])))∧∀ i m H,W i m H →
      ((Itl K a).stop i H∧Qd H)∨((Itl K a).go i H∧∃ Nx:Hp→Prop,(∀ H',Nx H'→∃ m',m' < m∧W (i + 1) m' H')∧∀ x H',(Itl K a).yld i H x H'→g x (wipe σ vs) H' fun σ2 H2=>wipe σ2 vs=wipe σ vs∧tYes σ2 H2 fun b H3 =>
        if b=true then te σ2 H3 fun y H4=>∃ acc,H4 D=some (.lst acc)∧acc.length < sizeLine∧Nx (upd H4 D (.lst (acc++[y]))) else Nx H3):=by
  refine uH (xs:=xs) (tt:=tYes) (fun i H=>Same H1 H∧H D=some (.lst (ys.take i))) ⟨ah hD,ac⟩ (fun i H _ p=>p.1.seq hq) ?_ ?_
  · rintro i x H hx ⟨sm,hH⟩
    obtain ⟨y,hy⟩:∃ y,ys[i]?=some y:=⟨_,List.getElem?_eq_getElem (by have:=(List.getElem?_eq_some_iff.mp hx).1; omega)⟩
    simp only [tYes,if_true]
    exact hs i x y H hx hy sm _ fun H' s2=>kg hD (by omega) sm hH hy s2
  · rintro H ⟨sm,hH⟩
    rw [←hl,List.take_length] at hH
    exact hd H sm hH
theorem rH (ys:List V) (hl:ys.length=xs.length) (hD:H1 D=none) (hq:∀ H,Same H1 H→SqT K H a xs) (hz:xs.length < sizeLine)
    (hs:∀ (i:Nat) (x y:V) (H:Hp),xs[i]?=some x→ys[i]?=some y→Same H1 H→∀ Q:VK,(∀ H',Same H H'→Q y H')→g x (wipe σ vs) H fun σ2 H2=>wipe σ2 vs=wipe σ vs∧te σ2 H2 Q)
    (hd:∀ H,Same H1 H→H D=some (.lst ys)→Qd H) :
    ∃ W:Nat→Nat→Hp→Prop,(∃ m,W 0 m (upd H1 D (.lst [])))∧∀ i m H,W i m H →
      ((Itt K a).stop i H∧Qd H)∨((Itt K a).go i H∧∃ Nx:Hp→Prop,(∀ H',Nx H'→∃ m',m' < m∧W (i + 1) m' H')∧∀ x H',(Itt K a).yld i H x H'→g x (wipe σ vs) H' fun σ2 H2=>wipe σ2 vs=wipe σ vs∧tYes σ2 H2 fun b H3 =>
        if b=true then te σ2 H3 fun y H4=>∃ acc,H4 D=some (.lst acc)∧acc.length < sizeLine∧Nx (upd H4 D (.lst (acc++[y]))) else Nx H3):=by
  refine lc_tup (xs:=xs) (tt:=tYes) (fun i H=>Same H1 H∧H D=some (.lst (ys.take i))) ⟨ah hD,ac⟩ (fun i H _ p=>hq H p.1) ?_ ?_
  · rintro i x H hx ⟨sm,hH⟩
    obtain ⟨y,hy⟩:∃ y,ys[i]?=some y:=⟨_,List.getElem?_eq_getElem (by have:=(List.getElem?_eq_some_iff.mp hx).1; omega)⟩
    simp only [tYes,if_true]
    exact hs i x y H hx hy sm _ fun H' s2=>kg hD (by omega) sm hH hy s2
  · rintro H ⟨sm,hH⟩
    rw [←hl,List.take_length] at hH
    exact hd H sm hH
theorem fX {lo:Int} {n:Nat} (ys:List V) (hl:ys.length=n) (hD:H1 D=none) (hz:n < sizeLine)
    (hs:∀ (i:Nat) (y:V) (H:Hp),i < n→ys[i]?=some y→Same H1 H→∀ Q:VK,(∀ H',Same H H'→Q y H')→g (.int (lo + i)) (wipe σ vs) H fun σ2 H2=>wipe σ2 vs=wipe σ vs∧te σ2 H2 Q)
    (hd:∀ H,Same H1 H→H D=some (.lst ys)→Qd H) :
    ∃ W:Nat→Nat→Hp→Prop,(∃ m,W 0 m (upd H1 D (.lst [])))∧∀ i m H,W i m H →
      ((Itr lo n).stop i H∧Qd H)∨((Itr lo n).go i H∧∃ Nx:Hp→Prop,(∀ H',Nx H'→∃ m',m' < m∧W (i + 1) m' H')∧∀ x H',(Itr lo n).yld i H x H'→g x (wipe σ vs) H' fun σ2 H2=>wipe σ2 vs=wipe σ vs∧tYes σ2 H2 fun b H3 =>
        if b=true then te σ2 H3 fun y H4=>∃ acc,H4 D=some (.lst acc)∧acc.length < sizeLine∧Nx (upd H4 D (.lst (acc++[y]))) else Nx H3):=by
  refine nj (tt:=tYes) (fun i H=>Same H1 H∧H D=some (.lst (ys.take i))) ⟨ah hD,ac⟩ ?_ ?_
  · rintro i H hi ⟨sm,hH⟩
    obtain ⟨y,hy⟩:∃ y,ys[i]?=some y:=⟨_,List.getElem?_eq_getElem (by omega)⟩
    simp only [tYes,if_true]
    exact hs i y H hi hy sm _ fun H' s2=>kg hD (by omega) sm hH hy s2
  · rintro H ⟨sm,hH⟩
    rw [←hl,List.take_length] at hH
    exact hd H sm hH
end
theorem aC {α:Type} {xs:List α} {z:Int} {j:Nat} {v:α} (e:z=(j:Int)) (h:xs[j]?=some v):atI xs z=some v:=by
  rw [e]
  exact aX h
theorem aW {l:List Nat} {i:Nat} {x:V} (h:(ao l)[i]?=some x):∃ n,l[i]?=some n∧V.int (n:Int)=x:=by
  unfold ao at h
  rw [List.getElem?_map] at h
  exact Option.map_eq_some_iff.mp h
theorem et (l:List Nat):ao l=(l.map fun (n:Nat)=>(n:Int)).map V.int:=by
  unfold ao
  rw [List.map_map]
  rfl
theorem jY:∀ l:List Nat,(l.map fun (n:Nat)=>(n:Int)).sum=(l.sum:Nat)
  | []=>rfl
  | a :: l=>by
    rw [List.map_cons,List.sum_cons,List.sum_cons,jY l]
    omega
theorem bx {ns:Vbiraa.Net} {p:Option Nat} {i:Nat} (h:i∈Vbiraa.children ns p):i < ns.length:=by
  unfold Vbiraa.children at h
  rw [List.mem_filter,List.mem_range] at h
  exact h.1
theorem ei (ns:Vbiraa.Net) (p:Option Nat):(Vbiraa.children ns p).length≤ns.length:=by
  unfold Vbiraa.children
  have:=List.length_filter_le (fun i=>(Vbiraa.reachAt ns i).parent == p) (List.range ns.length)
  rw [List.length_range] at this
  exact this
def psum (ns:Vbiraa.Net) (ss:List Vbiraa.Setting) (p:Option Nat) (t:Nat):Nat:=((Vbiraa.children ns p).map fun i=>ja ns ss i t).sum
def fitN (ns:Vbiraa.Net) (ss:List Vbiraa.Setting) (p:Option Nat) (n:Nat):Bool:=(List.range n).all fun t=>decide (psum ns ss p t≤100)
section
variable {P:Program} {w:World} {K:PySem.W.Frag} {mg:Str→Option Value} {base:Heap}
def spFit (C:Addr):Sp:=fun vs H Q _=>∃ (l sl:Addr) (ns:Vbiraa.Net) (ss:List Vbiraa.Setting) (p:Option Nat),vs=[.ref l,.ref sl,.int (pInt p)]∧RsAt C H l ns∧fY H sl ss∧ns.length≤1000∧∀ H',Same H H'→Q (.bl (fitN ns ss p 60)) H'
theorem pQ (T:Txt K mg):FnOk P w K mg base CX0 2 T.parts_fit.f T.parts_fit.fd ["reaches", "settings", "place"] (spFit T.a_Reach):=by
  refine T.parts_fit.F.ok di (fun vs H Q E h=>?_) (fun cdv A outer s H vs Q E hr h=>?_)
  · obtain ⟨l,sl,ns,ss,p,rfl,_⟩:=h
    rfl
  · obtain ⟨l,sl,ns,ss,p,rfl,R,S,hn,k⟩:=h
    refine ⟨_,(ae (aw (i:=3) di.nd rfl (by first | exact Or.inl rfl | exact Or.inr rfl) (aD T.beginning_at (bC T) (hr.mono (by decide)) bL (aa (pv 0) (aa (pv 2) ad))))
      (ae (bS PassesOwn.never rfl (cI rfl T.n_range (aa (a8 T.c_TICKS) ad)) (aJ (i:=4) di.nd rfl (by first | exact Or.inl rfl | exact Or.inr rfl))
      (ag (aU (aM j6 (aF (p6 (K:=K) rfl) (by rfl) T.n_sum lm (aa (gg (own:=[("k",5)]) rfl di.nd (bV (pv 3)) (bh (N:=["reaches", "settings", "place", "beside", "tick", "k"]) (sc:=aj fi) (by decide +kernel)) (fun _ _ _ _ _=>(aJ (i:=5) di.nd rfl (by first | exact Or.inl rfl | exact Or.inr rfl))) (fun _ _ _ _ _=>bI) (fun _ _ _ _ _=>(aD T.gate_part (eh T) (hr.mono (by decide)) fC (aa (pv 0) (aa (pv 1) (aa (pv 5) (aa (pv 4) ad))))))) ad)) af (aP _))
      (ag (au mO))
      aI)))
      (ag (au mO)))),?_⟩
    refine ⟨_,rfl,_,rfl,l,ns,p,rfl,R,hn,fun H1 b s1 hb hb1=>?_⟩
    refine ⟨60,rfl,by decide,by decide,iW (n:=60) (fun j σ H'=>Same H1 H'∧fitN ns ss p j=true∧∃ v:Option V,σ=[some (.ref l),some (.ref sl),some (.int (pInt p)),some (.ref b),v,none]) ⟨Same.refl _,rfl,none,rfl⟩ ?_ ?_⟩
    · rintro j σ H' hj ⟨s2,hf,v,rfl⟩
      have R2:=R.same (s1.trans s2)
      have S2:=S.same (s1.trans s2)
      refine ⟨_,rfl,b,rfl,⟨_,SqL.of (s2 _ _ hb1)⟩,fun D hD=>?_⟩
      refine bX (ao ((Vbiraa.children ns p).map fun i=>ja ns ss i j)) ?_ hD (SqL.of (s2 _ _ hb1)) ?_ ?_ ?_
      · unfold ao
        simp only [List.length_map]
      · unfold ao
        rw [List.length_map]
        have:=ei ns p
        exact aO (by omega)
      · rintro i x y H2 hx hy s3 Q' kq
        obtain ⟨c,hc,rfl⟩:=aW hx
        obtain ⟨d,hd,rfl⟩:=aW hy
        rw [List.getElem?_map,hc] at hd
        have hd:ja ns ss c j=d:=Option.some.inj hd
        subst hd
        refine ⟨rfl,_,rfl,_,rfl,_,rfl,_,rfl,l,sl,ns,ss,c,j,?_,R2.same s3,S2.same s3,bx (List.mem_of_getElem? hc),kq _ (Same.refl _)⟩
        rw [Int.zero_add]
        rfl
      · rintro H2 s3 hD2
        refine ⟨D,((Vbiraa.children ns p).map fun i=>ja ns ss i j).map fun (n:Nat)=>(n:Int),rfl,?_,_,_,rfl,rfl,_,rfl,?_⟩
        · rw [et] at hD2
          exact SqL.of hD2
        have s4:Same H H2:=(s1.trans s2).trans s3
        have e:decide ((100:Int) < (((Vbiraa.children ns p).map fun i=>ja ns ss i j).map fun (n:Nat)=>(n:Int)).sum)=decide (¬ psum ns ss p j≤100):=by
          rw [jY]
          unfold psum
          exact decide_eq_decide.mpr (by omega)
        refine ite2 (fun c=>?_) (fun c=>?_)
        · have c:¬ psum ns ss p j≤100:=of_decide_eq_true (e.symm.trans c)
          have ef:fitN ns ss p 60=false:=by
            unfold fitN
            rw [List.all_eq_false]
            exact ⟨j,List.mem_range.mpr hj,by rw [decide_eq_true_eq]; exact c⟩
          have:=k H2 s4
          rw [ef] at this
          exact this
        · have c:psum ns ss p j≤100:=Decidable.byContradiction fun z=>c (e.trans (decide_eq_true z))
          refine ⟨s2.trans s3,?_,some (.int (0 + j)),rfl⟩
          unfold fitN at hf ⊢
          rw [List.range_succ,List.all_append,hf,List.all_cons,List.all_nil,decide_eq_true c]
          rfl
    · rintro σ H' ⟨s2,hf,v,rfl⟩
      have:=k H' (s1.trans s2)
      rw [hf] at this
      exact this
end
end CN
namespace CN
open PySem PySem.Spec PyProof.Rows L2
theorem ur {a b:List Nat} (h:sOf a=sOf b):a=b:=by
  have e:=congrArg (fun s:Str=>s.cps.toList) h
  exact e
theorem cH (a:List Nat):(sOf a).length=a.length:=rfl
theorem iR (a b:List Nat):sOf a++sOf b=sOf (a++b):=by
  show (⟨(sOf a).cps++(sOf b).cps⟩:Str)=⟨(a++b).toArray⟩
  congr 1
  exact List.append_toArray a b
theorem fz {a b:List Nat}:decide (V.str (sOf a)=V.str (sOf b))=decide (a=b):=decide_eq_decide.mpr ⟨fun q=>ur (V.str.inj q),fun q=>by rw [q]⟩
def b0 (ws:List (List Nat)):List V:=ws.map fun w=>V.str (sOf w)
theorem tK:∀ k:Nat,k < 26→(Str.ofString "abcdefghijklmnopqrstuvwxyz").cps.toList[k]?=some (97 + k):=by decide +kernel
theorem vV:∀ k:Nat,k < 10→(Str.ofString "0123456789").cps.toList[k]?=some (48 + k):=by decide +kernel
theorem vg (b:List (List Nat) × List Nat) (x:Nat):(bN b x).1.length≤b.1.length + 1∧(bN b x).2.length≤b.2.length + 1:=by
  unfold bN
  split
  · split
    · omega
    · simp
  · simp
theorem oz:∀ (l:List Nat) (b:List (List Nat) × List Nat),(l.foldl bN b).1.length≤b.1.length + l.length∧(l.foldl bN b).2.length≤b.2.length + l.length
  | [],b=>by simp
  | x :: l,b=>by
    rw [List.foldl_cons,List.length_cons]
    have h1:=vg b x
    have h2:=oz l (bN b x)
    omega
theorem vJ (b:List (List Nat) × List Nat) (x:Nat):(cO b x).1.length≤b.1.length + 1∧(cO b x).2.length≤b.2.length + 1:=by
  unfold cO
  split <;> simp
theorem lc:∀ (l:List Nat) (b:List (List Nat) × List Nat),(l.foldl cO b).1.length≤b.1.length + l.length∧(l.foldl cO b).2.length≤b.2.length + l.length
  | [],b=>by simp
  | x :: l,b=>by
    rw [List.foldl_cons,List.length_cons]
    have h1:=vJ b x
    have h2:=lc l (cO b x)
    omega
theorem oV {α β:Type} {f:β→α→β} {b:β} {l:List α} {k:Nat} {x:α} (h:l[k]?=some x):(l.take (k + 1)).foldl f b=f ((l.take k).foldl f b) x:=by
  rw [bJ h,List.foldl_append]
  rfl
theorem gk (a b:List Nat):ao a++ao b=ao (a++b):=by
  unfold ao
  rw [List.map_append]
theorem aB (a:List Nat):(ao a).length=a.length:=by
  unfold ao
  rw [List.length_map]
theorem gb (a:List (List Nat)):(b0 a).length=a.length:=by
  unfold b0
  rw [List.length_map]
theorem oC (a b:List (List Nat)):b0 (a++b)=b0 a++b0 b:=by
  unfold b0
  rw [List.map_append]
def sgs (ws:List (List Nat)):List (List Nat):=ws.map fun w=>w.map sg
theorem yA (a b:List (List Nat)):sgs (a++b)=sgs a++sgs b:=by
  unfold sgs
  rw [List.map_append]
theorem uq (a:List (List Nat)):(sgs a).length=a.length:=by
  unfold sgs
  rw [List.length_map]
section
variable {P:Program} {w:World} {K:PySem.W.Frag} {mg:Str→Option Value} {base:Heap}
def spSign:Sp:=fun vs H Q _=>∃ b:Nat,vs=[.int b]∧Q (.str (sOf [sg b])) H
theorem tj (T:Txt K mg):FnOk P w K mg base CX0 1 T.sign_of.f T.sign_of.fd ["byte"] spSign:=by
  refine T.sign_of.F.ok sQ (fun vs H Q E h=>?_) (fun cdv A outer s H vs Q E hr h=>?_)
  · obtain ⟨b,rfl,_⟩:=h
    rfl
  · obtain ⟨b,rfl,k⟩:=h
    refine ⟨_,(ae (aU (eX cN cN af (pv 0) af)
      (ag (au (ay tL (pe_gs T.c_LETTERS) (aG cZ (pv 0) af) (fun _ _=>rfl))))
      aI)
      (ae (aU (eX cN cN af (pv 0) af)
      (ag (au (ay tL (pe_gs T.c_DIGITS) (aG cZ (pv 0) af) (fun _ _=>rfl))))
      aI)
      (ag (au bW)))),?_⟩
    have two:¬ (97≤b∧b≤122)→(tSeq (tIfS (wH (sK (rI0 fun i j=>V.bl (decide (i≤j))) (rI0 fun i j=>V.bl (decide (i≤j))) (tC (V.int 48)) (tVar 0) (tC (V.int 57)))) (tRet (tOp rIxS (tC (V.str "0123456789")) (tOp (rI0 fun i j=>V.int (i - j)) (tVar 0) (tC (V.int 48))))) tNext) (tRet (tC (V.str "?")))) { nx:=fun x H'=>Q V.non H',rt:=Q } (L2.start ["byte"] [V.int b]) H:=by
      intro no
      refine ⟨_,rfl,_,_,rfl,rfl,_,rfl,ite2 (fun c1=>?_) (fun c1=>?_)⟩
      · have c1:(48:Int)≤b:=of_decide_eq_true c1
        refine ⟨_,_,rfl,rfl,_,rfl,ite2 (fun c2=>?_) (fun c2=>?_)⟩
        · have c2:(b:Int)≤57:=of_decide_eq_true c2
          have e:sg b=b:=qF (by unfold isAl Vbiraa.isSmall Vbiraa.isDigit; simp; omega)
          rw [e] at k
          refine ⟨_,rfl,_,_,rfl,rfl,_,_,b,rfl,rfl,by decide +kernel,?_,k⟩
          have:=vV (b - 48) (by omega)
          rw [show 48 + (b - 48)=b by omega] at this
          exact aC (by omega) this
        · have c2:¬ (b:Int)≤57:=fun z=>c2 (decide_eq_true z)
          have e:sg b=63:=qE (by unfold isAl Vbiraa.isSmall Vbiraa.isDigit; simp; omega)
          rw [e] at k
          exact k
      · have c1:¬ (48:Int)≤b:=fun z=>c1 (decide_eq_true z)
        have e:sg b=63:=qE (by unfold isAl Vbiraa.isSmall Vbiraa.isDigit; simp; omega)
        rw [e] at k
        exact ⟨_,rfl,iteF k⟩
    refine ⟨_,rfl,_,_,rfl,rfl,_,rfl,ite2 (fun c1=>?_) (fun c1=>?_)⟩
    · have c1:(97:Int)≤b:=of_decide_eq_true c1
      refine ⟨_,_,rfl,rfl,_,rfl,ite2 (fun c2=>?_) (fun c2=>?_)⟩
      · have c2:(b:Int)≤122:=of_decide_eq_true c2
        have e:sg b=b:=qF (by unfold isAl Vbiraa.isSmall Vbiraa.isDigit; simp; omega)
        rw [e] at k
        refine ⟨_,rfl,_,_,rfl,rfl,_,_,b,rfl,rfl,by decide +kernel,?_,k⟩
        have:=tK (b - 97) (by omega)
        rw [show 97 + (b - 97)=b by omega] at this
        exact aC (by omega) this
      · have c2:¬ (b:Int)≤122:=fun z=>c2 (decide_eq_true z)
        exact two (by omega)
    · have c1:¬ (97:Int)≤b:=fun z=>c1 (decide_eq_true z)
      exact ⟨_,rfl,iteF (two (by omega))⟩
def yo:Sp:=fun vs H Q _=>∃ (l:Addr) (bs:List Nat),vs=[.ref l]∧H l=some (.lst (ao bs))∧bs.length≤5000∧NewL H Q (b0 (sgs (Vbiraa.wordsOf bs)))
theorem qY (T:Txt K mg):FnOk P w K mg base CX0 2 T.words_of.f T.words_of.fd ["line"] yo:=by
  refine T.words_of.F.ok c7 (fun vs H Q E h=>?_) (fun cdv A outer s H vs Q E hr h=>?_)
  · obtain ⟨l,bs,rfl,_⟩:=h
    rfl
  · obtain ⟨l,bs,rfl,hl,hn,k⟩:=h
    refine ⟨_,(ae (aw (i:=1) c7.nd rfl (by first | exact Or.inl rfl | exact Or.inr rfl) (aE ad))
      (ae (aw (i:=2) c7.nd rfl (by first | exact Or.inl rfl | exact Or.inr rfl) bW)
      (ae (bS PassesOwn.never rfl (bV (aG dw (pv 0) (aE (aa af ad)))) (aJ (i:=3) c7.nd rfl (by first | exact Or.inl rfl | exact Or.inr rfl))
      (ag (aU (aM j5 (pv 3) af (aP _))
      (ag (aw (i:=2) c7.nd rfl (by first | exact Or.inl rfl | exact Or.inr rfl) (aG mR (pv 2) (aD T.sign_of (tj T) (hr.mono (by decide)) wg (aa (pv 3) ad)))))
      (ag (aU (aM j5 (pv 2) bW (aP _))
      (ae (bU (fo PySem.F.plainAttrs_list PySem.F.slot_list_append PySem.F.type_list_append cM (pv 1) (aa (pv 2) ad)))
      (ag (aw (i:=2) c7.nd rfl (by first | exact Or.inl rfl | exact Or.inr rfl) bW)))
      aI)))))
      (ag (au (pv 1)))))),?_⟩
    refine ⟨Nat.zero_le _,fun wl hw=>?_⟩
    have s1:Same H (upd H wl (.lst [])):=ah hw
    refine ⟨_,rfl,(by show 1≤sizeLine; decide),fun e32 h32=>?_⟩
    have s2:Same (upd H wl (.lst [])) (upd (upd H wl (.lst [])) e32 (.lst [.int 32])):=ah h32
    refine ⟨l,e32,_,_,rfl,rfl,s2 _ _ (s1 _ _ hl),ac,?_,fun cl hc=>?_⟩
    · rw [aB]
      exact Nat.le_of_lt (aO (by show bs.length + 1 < 1000000; omega))
    have s3:=ah (o:=.lst (ao bs++[.int 32])) hc
    have eb:ao bs++[V.int 32]=ao (bs++[32]):=by
      rw [←gk]
      rfl
    rw [eb] at s3 ⊢
    have hwn:wl≠cl:=aq (s2 _ _ ac) hc
    refine ⟨cl,rfl,⟨_,SqL.of ac⟩,fe (K:=K) (a:=cl) (xs:=ao (bs++[32]))
      (fun j σ H'=>Same H H'∧H' cl=some (.lst (ao (bs++[32])))∧H' wl=some (.lst (b0 (sgs (((bs++[32]).take j).foldl bN ([],[])).1)))∧∃ v:Option V,σ=[some (.ref l),some (.ref wl),some (.str (sOf ((((bs++[32]).take j).foldl bN ([],[])).2.map sg))),v]) ⟨(s1.trans s2).trans s3,ac,s3 _ _ (s2 _ _ ac),none,rfl⟩ ?_ ?_ ?_⟩
    · rintro j σ H' _ ⟨_,hc',_⟩
      exact SqL.of hc'
    · rintro j y σ H' hj ⟨sm,hc',hw',v,rfl⟩
      obtain ⟨x,hx,rfl⟩:=aW hj
      rw [oV hx]
      have hlen:=oz ((bs++[32]).take j) ([],[])
      have hjl:((bs++[32]).take j).length≤5001:=by
        rw [List.length_take,List.length_append]
        simp
        omega
      generalize ((bs++[32]).take j).foldl bN ([],[])=c at hlen hw' ⊢
      simp only [List.length_nil,Nat.zero_add] at hlen
      refine ⟨_,rfl,rfl,_,rfl,?_⟩
      have e0:(!decide (V.int (x:Int)=V.int 32))=decide (¬ x=32):=by
        rw [show (V.int 32)=V.int ((32:Nat):Int) from rfl,cX]
        exact decide_not.symm
      rw [e0]
      refine ite2 (fun c1=>?_) (fun c1=>?_)
      · have c1:¬ x=32:=of_decide_eq_true c1
        refine ⟨_,rfl,_,rfl,x,rfl,_,_,rfl,rfl,?_,?_⟩
        · rw [cH,cH,List.length_map]
          exact Nat.le_of_lt (aO (by show c.2.length + 1 < 1000000; omega))
        · have e:bN c x=(c.1,c.2++[x]):=by
            unfold bN
            rw [if_neg c1]
          rw [e]
          refine ⟨sm,hc',hw',some (.int x),?_⟩
          rw [iR,List.map_append]
          rfl
      · have c1:x=32:=Decidable.byContradiction fun z=>c1 (decide_eq_true z)
        subst c1
        refine ⟨_,rfl,rfl,_,rfl,?_⟩
        have e1:(!decide (V.str (sOf (c.2.map sg))=V.str ""))=decide (¬ c.2=[]):=by
          rw [show ("" : Str)=sOf [] from by decide +kernel,fz,←decide_not]
          exact decide_eq_decide.mpr (by rw [List.map_eq_nil_iff])
        rw [e1]
        refine ite2 (fun c2=>?_) (fun c2=>?_)
        · have c2:¬ c.2=[]:=of_decide_eq_true c2
          have e:bN c 32=(c.1++[c.2],[]):=by
            unfold bN
            rw [if_pos rfl,if_neg c2]
          rw [e]
          refine ⟨_,rfl,.inl ⟨rfl,_,SqL.of hw'⟩,_,rfl,wl,_,_,rfl,rfl,hw',?_,?_⟩
          · rw [gb,uq]
            exact aO (by omega)
          · refine ⟨aQ sm hw,?_,?_,some (.int 32),rfl⟩
            · rw [ai hwn.symm]
              exact hc'
            · rw [ac,yA,oC]
              rfl
        · have c2:c.2=[]:=Decidable.byContradiction fun z=>c2 (decide_eq_true z)
          have e:bN c 32=c:=by
            unfold bN
            rw [if_pos rfl,if_pos c2]
          rw [e]
          exact ⟨sm,hc',hw',some (.int 32),rfl⟩
    · rintro σ H' ⟨sm,hc',hw',v,rfl⟩
      refine ⟨_,rfl,?_⟩
      rw [aB,List.take_length,wu] at hw'
      exact k H' wl sm hw hw'
end
end CN
namespace CN
open PySem PySem.Spec PyProof.Rows L2
def cr (H:Hp) (as:List Addr) (ls:List (List Nat)):Prop:=as.length=ls.length∧∀ (i:Nat) (a:Addr) (w:List Nat),as[i]?=some a→ls[i]?=some w→H a=some (.lst (ao w))
theorem cr.upd {H:Hp} {as:List Addr} {ls:List (List Nat)} {c:Addr} {o:HO} (h:cr H as ls) (n:c∉as):cr (upd H c o) as ls :=
  ⟨h.1,fun i a w e e'=>by rw [ai (fun q=>n (by rw [←q]; exact List.mem_of_getElem? e))]; exact h.2 i a w e e'⟩
theorem cr.same {H H':Hp} {as:List Addr} {ls:List (List Nat)} (h:cr H as ls) (s:Same H H'):cr H' as ls:=⟨h.1,fun i a w e e'=>s _ _ (h.2 i a w e e')⟩
theorem cr.snoc {H:Hp} {as:List Addr} {ls:List (List Nat)} {c:Addr} {w:List Nat} (h:cr H as ls) (hc:H c=some (.lst (ao w))):cr H (as++[c]) (ls++[w]):=by
  refine ⟨by rw [List.length_append,List.length_append,h.1]; rfl,fun i a v e e'=>?_⟩
  by_cases hi:i < as.length
  · rw [List.getElem?_append_left hi] at e
    rw [List.getElem?_append_left (by rw [←h.1]; exact hi)] at e'
    exact h.2 i a v e e'
  · rw [List.getElem?_append_right (by omega)] at e
    rw [List.getElem?_append_right (by rw [←h.1]; omega)] at e'
    rw [←h.1] at e'
    cases z:i - as.length with
    | zero =>
      rw [z] at e e'
      have e1:c=a:=Option.some.inj e
      have e2:w=v:=Option.some.inj e'
      subst e1 e2
      exact hc
    | succ m =>
      rw [z] at e
      cases e
theorem cr.free {H:Hp} {as:List Addr} {ls:List (List Nat)} {c:Addr} (h:cr H as ls) (n:H c=none):c∉as:=fun m=>by
  obtain ⟨i,hi,e⟩:=List.getElem_of_mem m
  have:=h.2 i c _ (by rw [List.getElem?_eq_getElem hi,e]) (List.getElem?_eq_getElem (by rw [←h.1]; exact hi))
  rw [n] at this
  cases this
def LsAt (H0 H:Hp) (l:Addr) (ls:List (List Nat)):Prop:=∃ as:List Addr,H l=some (.lst (as.map V.ref))∧cr H as ls∧H0 l=none∧∀ a∈as,H0 a=none
section
variable {P:Program} {w:World} {K:PySem.W.Frag} {mg:Str→Option Value} {base:Heap}
def yx:Sp:=fun vs H Q _=>∃ (l:Addr) (bs:List Nat),vs=[.ref l]∧H l=some (.lst (ao bs))∧bs.length≤5000∧∀ (H':Hp) (p:Addr),Same H H'→LsAt H H' p (Vbiraa.linesOf bs)→Q (.ref p) H'
theorem rd (T:Txt K mg):FnOk P w K mg base CX0 1 T.lines_of.f T.lines_of.fd ["text"] yx:=by
  refine T.lines_of.F.ok dS (fun vs H Q E h=>?_) (fun cdv A outer s H vs Q E hr h=>?_)
  · obtain ⟨l,bs,rfl,_⟩:=h
    rfl
  · obtain ⟨l,bs,rfl,hl,hn,k⟩:=h
    refine ⟨_,(ae (aw (i:=1) dS.nd rfl (by first | exact Or.inl rfl | exact Or.inr rfl) (aE ad))
      (ae (aw (i:=2) dS.nd rfl (by first | exact Or.inl rfl | exact Or.inr rfl) (aE ad))
      (ae (bS PassesOwn.never rfl (bV (pv 0)) (aJ (i:=3) dS.nd rfl (by first | exact Or.inl rfl | exact Or.inr rfl))
      (ag (aU (aM du (pv 3) af (aP _))
      (ae (bU (fo PySem.F.plainAttrs_list PySem.F.slot_list_append PySem.F.type_list_append cM (pv 1) (aa (pv 2) ad)))
      (ag (aw (i:=2) dS.nd rfl (by first | exact Or.inl rfl | exact Or.inr rfl) (aE ad))))
      (ag (bU (fo PySem.F.plainAttrs_list PySem.F.slot_list_append PySem.F.type_list_append cM (pv 2) (aa (pv 3) ad)))))))
      (ae (aU (aM j6 (aF (ax (K:=K)) (by rfl) T.n_len PySem.boot_len (aa (pv 2) ad)) af (aP _))
      (ag (bU (fo PySem.F.plainAttrs_list PySem.F.slot_list_append PySem.F.type_list_append cM (pv 1) (aa (pv 2) ad))))
      aI)
      (ag (au (pv 1))))))),?_⟩
    refine ⟨Nat.zero_le _,fun ll hll=>⟨Nat.zero_le _,fun c0 hc0=>?_⟩⟩
    have s1:Same H (upd H ll (.lst [])):=ah hll
    have s2:Same (upd H ll (.lst [])) (upd (upd H ll (.lst [])) c0 (.lst [])):=ah hc0
    have n0:ll≠c0:=aq ac hc0
    refine ⟨_,rfl,l,rfl,⟨_,SqL.of ((s1.trans s2) _ _ hl)⟩,fe (K:=K) (a:=l) (xs:=ao bs)
      (fun j σ H'=>Same H H'∧∃ (as:List Addr) (cl:Addr) (v:Option V),H' ll=some (.lst (as.map V.ref))∧cr H' as ((bs.take j).foldl cO ([],[])).1∧H' cl=some (.lst (ao ((bs.take j).foldl cO ([],[])).2))∧H cl=none∧ll≠cl∧cl∉as∧ll∉as∧(∀ a∈as,H a=none) ∧
        σ=[some (.ref l),some (.ref ll),some (.ref cl),v]) ⟨s1.trans s2,[],c0,none,s2 _ _ ac,⟨rfl,fun i a w e=>by cases e⟩,ac,s1.free hc0,n0,by simp,by simp,by simp,rfl⟩ ?_ ?_ ?_⟩
    · rintro j σ H' _ ⟨sm,_⟩
      exact SqL.of (sm _ _ hl)
    · rintro j y σ H' hj ⟨sm,as,cl,v,e1,e2,e3,e4,e5,e6,e7,e8,rfl⟩
      obtain ⟨x,hx,rfl⟩:=aW hj
      rw [oV hx]
      have hlen:=lc (bs.take j) ([],[])
      have hjl:(bs.take j).length≤5000:=by
        rw [List.length_take]
        omega
      generalize (bs.take j).foldl cO ([],[])=c at hlen e2 e3 ⊢
      simp only [List.length_nil,Nat.zero_add] at hlen
      refine ⟨_,rfl,rfl,_,rfl,?_⟩
      have e0:decide (V.int (x:Int)=V.int 10)=decide (x=10):=by
        rw [show (V.int 10)=V.int ((10:Nat):Int) from rfl,cX]
      rw [e0]
      refine ite2 (fun c1=>?_) (fun c1=>?_)
      · have c1:x=10:=of_decide_eq_true c1
        subst c1
        have e:cO c 10=(c.1++[c.2],[]):=by
          unfold cO
          rw [if_pos rfl]
        rw [e]
        refine ⟨_,rfl,.inl ⟨rfl,_,SqL.of e1⟩,_,rfl,ll,_,_,rfl,rfl,e1,?_,?_⟩
        · rw [List.length_map,e2.1]
          exact aO (by omega)
        refine ⟨Nat.zero_le _,fun d hd=>?_⟩
        have a1:cr (upd H' ll (.lst (as.map V.ref++[V.ref cl]))) (as++[cl]) (c.1++[c.2]):=(e2.upd e7).snoc (by rw [ai e5.symm]; exact e3)
        have s4:=ah (o:=.lst []) hd
        have smu:Same H (upd H' ll (.lst (as.map V.ref++[V.ref cl]))):=aQ sm hll
        refine ⟨smu.trans s4,as++[cl],d,some (.int 10),?_,a1.same s4,ac,smu.free hd,?_,?_,?_,?_,rfl⟩
        · rw [List.map_append]
          exact s4 _ _ ac
        · exact aq ac hd
        · exact a1.free hd
        · intro m
          rcases List.mem_append.mp m with m | m
          · exact e7 m
          · exact e5 (List.mem_singleton.mp m)
        · intro b m
          rcases List.mem_append.mp m with m | m
          · exact e8 b m
          · rw [List.mem_singleton.mp m]
            exact e4
      · have c1:¬ x=10:=fun z=>c1 (decide_eq_true z)
        have e:cO c x=(c.1,c.2++[x]):=by
          unfold cO
          rw [if_neg c1]
        rw [e]
        refine ⟨_,rfl,.inl ⟨rfl,_,SqL.of e3⟩,_,rfl,cl,_,_,rfl,rfl,e3,?_,?_⟩
        · rw [aB]
          exact aO (by omega)
        refine ⟨aQ sm e4,as,cl,some (.int x),?_,e2.upd e6,?_,e4,e5,e6,e7,e8,rfl⟩
        · rw [ai e5]
          exact e1
        · rw [ac,←gk]
          rfl
    · rintro σ H' ⟨sm,as,cl,v,e1,e2,e3,e4,e5,e6,e7,e8,rfl⟩
      rw [aB,List.take_length] at e2 e3
      have hle:=xI bs
      have hlen:=lc bs ([],[])
      generalize bs.foldl cO ([],[])=c at e2 e3 hle hlen
      simp only [List.length_nil,Nat.zero_add] at hlen
      refine ⟨_,rfl,cl,_,rfl,.inl (SqL.of e3),_,_,rfl,rfl,_,rfl,?_⟩
      have e0:decide ((0:Int) < ((ao c.2).length:Int))=decide (¬ c.2=[]):=by
        rw [aB]
        refine decide_eq_decide.mpr ?_
        constructor
        · intro q z
          rw [z] at q
          exact absurd q (by decide)
        · intro q
          have:=List.length_pos_iff.mpr q
          omega
      rw [e0]
      unfold lEnd at hle
      refine ite2 (fun c1=>?_) (fun c1=>?_)
      · have c1:¬ c.2=[]:=of_decide_eq_true c1
        rw [if_neg c1] at hle
        refine ⟨_,rfl,.inl ⟨rfl,_,SqL.of e1⟩,_,rfl,ll,_,_,rfl,rfl,e1,?_,?_⟩
        · rw [List.length_map,e2.1]
          exact aO (by omega)
        refine ⟨_,rfl,k _ ll (aQ sm hll) ⟨as++[cl],?_,?_,hll,?_⟩⟩
        · rw [List.map_append]
          exact ac
        · rw [←hle]
          exact (e2.upd e7).snoc (by rw [ai e5.symm]; exact e3)
        · intro b m
          rcases List.mem_append.mp m with m | m
          · exact e8 b m
          · rw [List.mem_singleton.mp m]
            exact e4
      · have c1:c.2=[]:=Decidable.byContradiction fun z=>c1 (decide_eq_true z)
        rw [if_pos c1] at hle
        refine ⟨_,rfl,k _ ll sm ⟨as,e1,?_,hll,e8⟩⟩
        rw [←hle]
        exact e2
end
end CN
namespace CN
open PySem PySem.Spec PyProof.Rows L2
theorem iz {K:PySem.W.Frag} {a:Addr} {xs:List V} {g:TG} {tb:TS} {D:Ends} {σ:L2.St} {H:Hp} (Pv:Nat→L2.St→Hp→Prop) (h0:Pv 0 σ H) (hl:∀ i σ H,i≤xs.length→Pv i σ H→SqL K H a xs)
    (hs:∀ (i:Nat) (x:V) (σ:L2.St) (H:Hp) (T:Addr),xs[i]?=some x→Pv i σ H→H T=none→g (.ref T) σ (upd H T (.tup [.int (i:Nat),x])) fun σ2 H2=>tb { D with nx:=Pv (i + 1),ct:=Pv (i + 1),bk:=D.nx } σ2 H2) (hd:∀ σ H,Pv xs.length σ H→D.nx σ H) :
    ∃ W:Nat→Nat→L2.St→Hp→Prop,(∃ m,W 0 m σ H)∧∀ i m σ H,W i m σ H →
      ((Ite K a).stop i H∧D.nx σ H)∨((Ite K a).go i H∧∃ N:L2.St→Hp→Prop,(∀ σ' H',N σ' H'→∃ m',m' < m∧W (i + 1) m' σ' H')∧∀ x H',(Ite K a).yld i H x H'→g x σ H' fun σ2 H2=>tb { D with nx:=N,ct:=N,bk:=D.nx } σ2 H2):=by
  refine ⟨fun i m σ H=>m=xs.length - i∧i≤xs.length∧Pv i σ H,⟨xs.length,by simp,Nat.zero_le _,h0⟩,?_⟩
  rintro i m σ H ⟨rfl,hi,p⟩
  have q:=hl i σ H hi p
  by_cases hlt:i < xs.length
  · refine .inr ⟨⟨xs,xs[i],q,by simp [hlt]⟩,Pv (i + 1),fun σ' H' p'=>⟨xs.length - (i + 1),by omega,rfl,hlt,p'⟩,fun v H' y=>?_⟩
    obtain ⟨T,x,e1,e2,e3,y⟩:=y
    subst e1 e3
    exact hs i x σ H T (y xs q) p e2
  · have e:i=xs.length:=by omega
    subst e
    exact .inl ⟨⟨xs,q,Nat.le_refl _⟩,hd σ H p⟩
def Sg (w:List Nat):Prop:=∀ c∈w,isAl c=true∨c=63
theorem sg_Sg (w:List Nat):Sg (w.map sg):=fun c h=>by
  obtain ⟨x,_,e⟩:=List.mem_map.mp h
  subst e
  unfold sg
  split
  · exact .inl (by assumption)
  · exact .inr rfl
theorem vh:∀ c:Nat,c < 128→(isAl c=true∨c=63)→Unicode.isDigit c=Vbiraa.isDigit c:=by decide +kernel
theorem vi:∀ c:Nat,c < 128→(isAl c=true∨c=63)→Unicode.isAlpha c=Vbiraa.isSmall c:=by decide +kernel
theorem Sg.lt {w:List Nat} (h:Sg w):∀ c∈w,c < 128:=fun c m=>by
  rcases h c m with q | q
  · unfold isAl Vbiraa.isSmall Vbiraa.isDigit at q
    simp only [Bool.or_eq_true,Bool.and_eq_true,decide_eq_true_eq] at q
    omega
  · omega
theorem va (w:List Nat) (f:Nat→Bool):(sOf w).cps.all f=w.all f:=by
  show w.toArray.all f=w.all f
  simp
theorem pw {w:List Nat} {f g:Nat→Bool} (h:∀ c∈w,f c=g c):w.all f=w.all g:=by
  induction w with
  | nil=>rfl
  | cons c w ih =>
    rw [List.all_cons,List.all_cons,h c (List.mem_cons_self ..),ih fun d hd=>h d (List.mem_cons_of_mem _ hd)]
theorem uG (w:List Nat):decide ((sOf w).length > 0)=!w.isEmpty:=by
  cases w <;> rfl
theorem qz {w:List Nat} (h:Sg w):Txt.isdigit (sOf w)=(!w.isEmpty && w.all Vbiraa.isDigit):=by
  show (decide ((sOf w).length > 0) && (sOf w).cps.all Unicode.isDigit)=_
  rw [uG,va,pw fun c hc=>vh c (h.lt c hc) (h c hc)]
theorem qA {w:List Nat} (h:Sg w):Txt.isalpha (sOf w)=(!w.isEmpty && w.all Vbiraa.isSmall):=by
  show (decide ((sOf w).length > 0) && (sOf w).cps.all Unicode.isAlpha)=_
  rw [uG,va,pw fun c hc=>vi c (h.lt c hc) (h c hc)]
def iy (w:List Nat):Bool:=(!w.isEmpty && w.all Vbiraa.isDigit) && (decide (w.length≤8) && (decide (w=[48]) || !decide (w.head?=some 48)))
theorem eA (w:List Nat):iy w=true↔¬ (w.isEmpty=true∨w.all Vbiraa.isDigit=false∨8 < w.length∨(1 < w.length∧w.head?=some 48)):=by
  unfold iy
  simp only [Bool.and_eq_true,Bool.or_eq_true,Bool.not_eq_true',decide_eq_true_eq,decide_eq_false_iff_not]
  cases w with
  | nil=>simp
  | cons c r =>
    cases r with
    | nil =>
      simp
      exact fun _=>Decidable.em _
    | cons d r =>
      simp only [List.isEmpty_cons,List.head?_cons,List.length_cons,Option.some.injEq,List.cons.injEq,reduceCtorEq,and_false,false_or,Bool.not_eq_false]
      simp
theorem sD (w:List Nat) (n:Nat):w.foldl (fun n c=>10 * n + (c - 48)) n=w.foldl (fun acc c=>acc * 10 + (c - 48)) n:=by
  congr 1
  funext a c
  omega
theorem lf {w:List Nat} (h:iy w=true):PySem.intText? (sOf w)=some ((Vbiraa.value w:Nat):Int):=by
  have h':=(eA w).mp h
  simp only [not_or] at h'
  obtain ⟨h1,h2,h3,_⟩:=h'
  have hd:w.all Vbiraa.isDigit=true:=by
    cases e:w.all Vbiraa.isDigit with
    | true=>rfl
    | false=>exact absurd e h2
  have e:=intText_digits (x:=sOf w) (by
    intro c hc
    have:=List.all_eq_true.mp hd c hc
    unfold Vbiraa.isDigit at this
    simp only [Bool.and_eq_true,decide_eq_true_eq] at this
    omega) (by
    intro z
    have z:w=[]:=z
    rw [z] at h1
    exact h1 rfl) (by rw [cH]; omega)
  rw [e]
  unfold Vbiraa.value
  rw [sD]
  rfl
theorem lG (lo hi:Nat) (w:List Nat):(Vbiraa.numberIn lo hi w).isSome=(iy w && (decide (lo≤Vbiraa.value w) && decide (Vbiraa.value w≤hi))):=by
  unfold Vbiraa.numberIn
  by_cases h:iy w=true
  · rw [if_neg ((eA w).mp h),h,Bool.true_and]
    show (if lo≤Vbiraa.value w∧Vbiraa.value w≤hi then some (Vbiraa.value w) else none).isSome=_
    by_cases q:lo≤Vbiraa.value w∧Vbiraa.value w≤hi
    · rw [if_pos q,decide_eq_true q.1,decide_eq_true q.2]
      rfl
    · rw [if_neg q]
      symm
      show (decide _ && decide _)=false
      rw [Bool.and_eq_false_iff,decide_eq_false_iff_not,decide_eq_false_iff_not]
      omega
  · rw [if_pos (Decidable.byContradiction fun z=>h ((eA w).mpr z)),Bool.eq_false_iff.mpr h]
    rfl
theorem aT {lo hi n:Nat} {w:List Nat} (h:Vbiraa.numberIn lo hi w=some n):n=Vbiraa.value w∧lo≤n∧n≤hi∧iy w=true:=by
  have hs:=lG lo hi w
  rw [h] at hs
  have hs2:(iy w && (decide (lo≤Vbiraa.value w) && decide (Vbiraa.value w≤hi)))=true:=hs.symm
  simp only [Bool.and_eq_true,decide_eq_true_eq] at hs2
  unfold Vbiraa.numberIn at h
  rw [if_neg ((eA w).mp hs2.1)] at h
  have h:(if lo≤Vbiraa.value w∧Vbiraa.value w≤hi then some (Vbiraa.value w) else none)=some n:=h
  rw [if_pos hs2.2] at h
  have e:Vbiraa.value w=n:=Option.some.inj h
  subst e
  exact ⟨rfl,hs2.2.1,hs2.2.2,hs2.1⟩
def cP:List (List Nat):=[Vbiraa.text "reach",Vbiraa.text "from",Vbiraa.text "delay",Vbiraa.text "loss",Vbiraa.text "soak",Vbiraa.text "cap",Vbiraa.text "gate"]
theorem formV:([.str "reach",.str "from",.str "delay",.str "loss",.str "soak",.str "cap",.str "gate"]:List V)=b0 cP:=by decide +kernel
theorem kL {l:List (List Nat)} {i:Nat} {w:List Nat} (h:l[i]?=some w):(b0 l)[i]?=some (V.str (sOf w)):=by
  unfold b0
  rw [List.getElem?_map,h]
  rfl
def dR (ws:List (List Nat)):Bool:=decide (ws.length=14) && (List.range 7).all fun k=>decide (ws.getD (2 * k) []=cP.getD k [])
def fZ:List Nat:=[0,0,0,1,0]
def f6:List Nat:=[10,99,1000,100000,100]
def fV (ds:List (List Nat)):Bool:=(List.range ds.length).all fun k=>(Vbiraa.numberIn (fZ.getD k 0) (f6.getD k 0) (ds.getD k [])).isSome
section
variable {P:Program} {w:World} {K:PySem.W.Frag} {mg:Str→Option Value} {base:Heap}
def spForm:Sp:=fun vs H Q _=>∃ (l:Addr) (ws:List (List Nat)),vs=[.ref l]∧H l=some (.lst (b0 ws))∧∀ H',Same H H'→Q (.bl (dR ws)) H'
theorem re (T:Txt K mg):FnOk P w K mg base CX0 1 T.has_form.f T.has_form.fd ["words"] spForm:=by
  refine T.has_form.F.ok hJ (fun vs H Q E h=>?_) (fun cdv A outer s H vs Q E hr h=>?_)
  · obtain ⟨l,ws,rfl,_⟩:=h
    rfl
  · obtain ⟨l,ws,rfl,hl,k⟩:=h
    refine ⟨_,(ae (aU (aM j5 (aF (ax (K:=K)) (by rfl) T.n_len PySem.boot_len (aa (pv 0) ad)) (aG fS af (aF (ax (K:=K)) (by rfl) T.n_len PySem.boot_len (aa (j3 T.t_FORM.m) ad))) (aP _))
      (ag (au mO))
      aI)
      (ag (au (aF (ma (K:=K) rfl) (by rfl) T.n_all iZ (aa (gg (own:=[("k",1)]) rfl hJ.nd (cI rfl T.n_range (aa (aF (ax (K:=K)) (by rfl) T.n_len PySem.boot_len (aa (j3 T.t_FORM.m) ad)) ad)) (bh (N:=["words", "k"]) (sc:=aj gz) (by decide +kernel)) (fun _ _ _ _ _=>(aJ (i:=1) hJ.nd rfl (by first | exact Or.inl rfl | exact Or.inr rfl))) (fun _ _ _ _ _=>bI) (fun _ _ _ _ _=>(dP du (ay (ak (K:=K)) (pv 0) (aG fS af (pv 1)) (fun _ _=>rfl)) (ay (aR (K:=K)) (j3 T.t_FORM.m) (pv 1) (fun _ _=>rfl)) (aP _)))) ad))))),?_⟩
    refine ⟨_,rfl,l,_,rfl,.inl (SqL.of hl),T.t_FORM.a,_,rfl,.inr (T.t_FORM.is _),_,_,rfl,rfl,.inl ⟨by decide,by decide⟩,rfl,_,rfl,?_⟩
    have e0:(!decide (V.int ((b0 ws).length:Int)=V.int (2 * ((([.str "reach",.str "from",.str "delay",.str "loss",.str "soak",.str "cap",.str "gate"]:List V).length:Nat):Int))))=decide (¬ ws.length=14):=by
      rw [show (2 * ((([.str "reach",.str "from",.str "delay",.str "loss",.str "soak",.str "cap",.str "gate"]:List V).length:Nat):Int))=((14:Nat):Int) from rfl,cX,gb]
      exact decide_not.symm
    refine (congrArg (fun b=>if b=true then _ else _) e0).mpr ?_
    refine ite2 (fun c1=>?_) (fun c1=>?_)
    · have c1:¬ ws.length=14:=of_decide_eq_true c1
      have:=k H (Same.refl _)
      unfold dR at this
      rw [decide_eq_false c1,Bool.false_and] at this
      exact this
    · have c1:ws.length=14:=Decidable.byContradiction fun z=>c1 (decide_eq_true z)
      refine ⟨T.t_FORM.a,_,rfl,.inr (T.t_FORM.is _),7,rfl,by decide,by decide,fun D hD=>?_⟩
      refine fX (n:=7) ((List.range 7).map fun k=>V.bl (decide (ws.getD (2 * k) []=cP.getD k []))) (by simp) hD (by decide) ?_ ?_
      · rintro i y H2 hi hy s2 Q' kq
        have hy:y=V.bl (decide (ws.getD (2 * i) []=cP.getD i [])):=by
          rw [List.getElem?_map,List.getElem?_range hi] at hy
          exact (Option.some.inj hy).symm
        subst hy
        have h1:ws[2 * i]?=some (ws.getD (2 * i) []):=by
          rw [List.getD_eq_getElem?_getD,List.getElem?_eq_getElem (by omega)]
          rfl
        have h2:cP[i]?=some (cP.getD i []):=by
          rw [List.getD_eq_getElem?_getD,List.getElem?_eq_getElem (show i < cP.length from hi)]
          rfl
        refine ⟨rfl,_,rfl,_,rfl,_,_,rfl,rfl,.inl ⟨by decide,by decide⟩,l,_,_,_,rfl,rfl,SqL.of (s2 _ _ hl),aC (j:=2 * i) (by omega) (kL h1),_,rfl,T.t_FORM.a,_,_,V.str (sOf (cP.getD i [])),rfl,rfl,T.t_FORM.is _,aC (j:=i) (by omega) (by rw [formV]; exact kL h2),rfl,?_⟩
        rw [fz]
        exact kq _ (Same.refl _)
      · rintro H2 s2 hD2
        refine ⟨D,(List.range 7).map fun k=>decide (ws.getD (2 * k) []=cP.getD k []),rfl,?_,?_⟩
        · rw [List.map_map]
          exact SqL.of hD2
        · have:=k H2 s2
          unfold dR at this
          rw [decide_eq_true c1,Bool.true_and] at this
          rw [List.all_map]
          exact this
def spNum:Sp:=fun vs H Q _=>∃ u:List Nat,vs=[.str (sOf u)]∧Sg u∧u.length≤5000∧Q (.bl (iy u)) H
theorem pR (T:Txt K mg):FnOk P w K mg base CX0 1 T.is_number.f T.is_number.fd ["word"] spNum:=by
  refine T.is_number.F.ok pF (fun vs H Q E h=>?_) (fun cdv A outer s H vs Q E hr h=>?_)
  · obtain ⟨u,rfl,_⟩:=h
    rfl
  · obtain ⟨u,rfl,hs,hn,k⟩:=h
    refine ⟨_,(ag (au (mP (pe_m0 F.slot_str_isdigit F.type_str_isdigit tD (pv 0)) (mP (dP cN (aF kn (by rfl) T.n_len PySem.boot_len (aa (pv 0) ad)) (a8 T.c_LONGEST_NUMBER) (aP _)) (pM (pe_or (dP du (pv 0) bW (aP _)) (pM (dP j5 (ay tL (pv 0) af (fun _ _=>rfl)) bW (aP _))))))))),?_⟩
    unfold iy at k
    refine ⟨_,rfl,⟨_,rfl⟩,_,rfl,rfl,trivial,_,rfl,?_⟩
    rw [qz hs]
    cases c1:(!u.isEmpty && u.all Vbiraa.isDigit) with
    | false =>
      rw [c1,Bool.false_and] at k
      exact iteF k
    | true =>
      rw [c1,Bool.true_and] at k
      refine iteT ⟨_,rfl,_,rfl,Nat.le_of_lt (aO (by rw [cH]; omega)),_,_,rfl,rfl,_,rfl,?_⟩
      rw [show decide (((sOf u).length:Int)≤8)=decide (u.length≤8) from decide_eq_decide.mpr (by rw [cH]; omega)]
      cases c2:decide (u.length≤8) with
      | false =>
        rw [c2,Bool.false_and] at k
        exact iteF k
      | true =>
        rw [c2,Bool.true_and] at k
        refine iteT ⟨_,rfl,rfl,_,rfl,?_⟩
        have e0:decide (V.str (sOf u)=V.str "0")=decide (u=[48]):=by
          rw [show ("0" : Str)=sOf [48] from by decide +kernel,fz]
        rw [e0]
        cases c3:decide (u=[48]) with
        | true =>
          rw [c3,Bool.true_or] at k
          exact iteT k
        | false =>
          rw [c3,Bool.false_or] at k
          cases u with
          | nil=>cases c1
          | cons d r =>
            refine iteF ⟨_,rfl,_,_,d,rfl,rfl,Nat.le_of_lt (aO (by rw [cH]; omega)),aC (j:=0) rfl rfl,rfl,?_⟩
            have e1:(!decide (V.str ⟨#[d]⟩=V.str "0"))=!decide ((d :: r).head?=some 48):=by
              rw [show ("0" : Str)=sOf [48] from by decide +kernel,show (⟨#[d]⟩:Str)=sOf [d] from rfl,fz]
              congr 1
              exact decide_eq_decide.mpr (by simp)
            rw [e1]
            exact k
def spNums:Sp:=fun vs H Q _=>∃ (l:Addr) (ds:List (List Nat)),vs=[.ref l]∧H l=some (.lst (b0 ds))∧ds.length=5∧(∀ u∈ds,Sg u∧u.length≤5000)∧∀ H',Same H H'→Q (.bl (fV ds)) H'
theorem il (T:Txt K mg):FnOk P w K mg base CX0 2 T.are_numbers_right.f T.are_numbers_right.fd ["words"] spNums:=by
  refine T.are_numbers_right.F.ok cx (fun vs H Q E h=>?_) (fun cdv A outer s H vs Q E hr h=>?_)
  · obtain ⟨l,ds,rfl,_⟩:=h
    rfl
  · obtain ⟨l,ds,rfl,hl,h5,hS,k⟩:=h
    refine ⟨_,(ae (bS PassesOwn.never rfl (iU rfl T.n_enumerate (aa (pv 0) ad)) (dO (K:=K) (n:=2) rfl (bd (aJ (i:=1) cx.nd rfl (by first | exact Or.inl rfl | exact Or.inr rfl)) (bd (aJ (i:=2) cx.nd rfl (by first | exact Or.inl rfl | exact Or.inr rfl)) dN)))
      (ag (aU (dX (aZ (aL (K:=K) (aD T.is_number (pR T) (hr.mono (by decide)) si (aa (pv 2) ad)) (fun _=>rfl))) (dH (aZ (eX cN cN (ay (aR (K:=K)) (j3 T.t_LEAST.m) (pv 1) (fun _ _=>rfl)) (cJ kr (by rfl) T.n_int pd (aa (pv 2) ad)) (ay (aR (K:=K)) (j3 T.t_GREATEST.m) (pv 1) (fun _ _=>rfl)))))).pt
      (ag (au mO))
      aI)))
      (ag (au mO))),?_⟩
    refine ⟨_,rfl,l,_,rfl,SqL.of hl,iz (K:=K) (a:=l) (xs:=b0 ds) (fun j σ H'=>Same H H'∧((List.range j).all fun k=>(Vbiraa.numberIn (fZ.getD k 0) (f6.getD k 0) (ds.getD k [])).isSome)=true∧∃ v v':Option V,σ=[some (.ref l),v,v'])
      ⟨Same.refl _,rfl,none,none,rfl⟩ (fun j σ H' _ p=>SqL.of (p.1 _ _ hl)) ?_ ?_⟩
    · rintro j x σ H' t hx ⟨sm,hj,v,v',rfl⟩ ht
      have hjl:j < ds.length:=by
        have:=(List.getElem?_eq_some_iff.mp hx).1
        rw [gb] at this
        exact this
      have hu:ds[j]?=some (ds.getD j []):=by
        rw [List.getD_eq_getElem?_getD,List.getElem?_eq_getElem hjl]
        rfl
      have hx2:=kL hu
      rw [hx] at hx2
      have hx2:=Option.some.inj hx2
      subst hx2
      obtain ⟨g1,g2⟩:=hS _ (List.mem_of_getElem? hu)
      have sm2:Same H (upd H' t (.tup [.int (j:Nat),V.str (sOf (ds.getD j []))])):=aQ sm (sm.free ht)
      have hne:=lG (fZ.getD j 0) (f6.getD j 0) (ds.getD j [])
      have bad:(Vbiraa.numberIn (fZ.getD j 0) (f6.getD j 0) (ds.getD j [])).isSome=false→fV ds=false:=fun z=>by
        unfold fV
        rw [List.all_eq_false]
        exact ⟨j,List.mem_range.mpr hjl,by rw [z]; exact Bool.false_ne_true⟩
      refine ⟨t,_,rfl,SqT.of ac,rfl,_,_,rfl,_,_,rfl,rfl,?_⟩
      refine ⟨_,rfl,_,rfl,g1,g2,_,rfl,?_⟩
      cases c1:iy (ds.getD j []) with
      | false =>
        rw [c1,Bool.false_and] at hne
        have:=k _ sm2
        rw [bad hne] at this
        exact this
      | true =>
        rw [c1,Bool.true_and] at hne
        have i5:j < 5:=by omega
        have hlo:fZ[j]?=some (fZ.getD j 0):=by
          rw [List.getD_eq_getElem?_getD,List.getElem?_eq_getElem (show j < fZ.length from i5)]
          rfl
        have hhi:f6[j]?=some (f6.getD j 0):=by
          rw [List.getD_eq_getElem?_getD,List.getElem?_eq_getElem (show j < f6.length from i5)]
          rfl
        generalize elo:fZ.getD j 0=lo at hne hlo bad
        generalize ehi:f6.getD j 0=hi at hne hhi bad
        have n1:([.int 0,.int 0,.int 0,.int 1,.int 0]:List V)[j]?=some (.int lo):=by
          rw [show ([.int 0,.int 0,.int 0,.int 1,.int 0]:List V)=ao fZ from rfl]
          unfold ao
          rw [List.getElem?_map,hlo]
          rfl
        have n2:([.int 10,.int 99,.int 1000,.int 100000,.int 100]:List V)[j]?=some (.int hi):=by
          rw [show ([.int 10,.int 99,.int 1000,.int 100000,.int 100]:List V)=ao f6 from rfl]
          unfold ao
          rw [List.getElem?_map,hhi]
          rfl
        refine iteF ⟨_,rfl,T.t_LEAST.a,_,_,_,rfl,rfl,T.t_LEAST.is _,aX n1,_,rfl,_,_,rfl,lf c1,?_,_,_,rfl,rfl,_,rfl,?_⟩
        · rw [cH]
          have:=(eA _).mp c1
          simp only [not_or] at this
          omega
        rw [k9]
        cases c2:decide (lo≤Vbiraa.value (ds.getD j [])) with
        | false =>
          have hne:_=(decide (lo≤Vbiraa.value (ds.getD j [])) && decide (Vbiraa.value (ds.getD j [])≤hi)):=hne
          rw [c2,Bool.false_and] at hne
          have:=k _ sm2
          rw [bad hne] at this
          exact ⟨_,rfl,this⟩
        | true =>
          have hne:_=(decide (lo≤Vbiraa.value (ds.getD j [])) && decide (Vbiraa.value (ds.getD j [])≤hi)):=hne
          rw [c2,Bool.true_and] at hne
          refine iteT ⟨_,rfl,T.t_GREATEST.a,_,_,_,rfl,rfl,T.t_GREATEST.is _,aX n2,_,_,rfl,rfl,_,rfl,?_⟩
          rw [k9]
          cases c3:decide (Vbiraa.value (ds.getD j [])≤hi) with
          | false =>
            rw [c3] at hne
            have:=k _ sm2
            rw [bad hne] at this
            exact this
          | true =>
            rw [c3] at hne
            refine ⟨sm2,?_,_,_,rfl⟩
            rw [List.range_succ,List.all_append,hj,List.all_cons,List.all_nil]
            show (true && ((Vbiraa.numberIn (fZ.getD j 0) (f6.getD j 0) (ds.getD j [])).isSome && true))=true
            rw [elo,ehi,hne]
            rfl
    · rintro σ H' ⟨sm,hj,v,v',rfl⟩
      have:=k H' sm
      unfold fV at this
      rw [gb] at hj
      rw [hj] at this
      exact this
end
end CN
namespace CN
open PySem PySem.Spec PyProof.Rows L2
theorem RsAt.at_ {C l:Addr} {H:Hp} {ns:Vbiraa.Net} (R:RsAt C H l ns) {i:Nat} (hi:i < ns.length):∃ (xs:List V) (a dx:Addr),H l=some (.lst xs)∧xs.length=ns.length∧xs[i]?=some (.ref a)∧H a=some (.ins C dx (rf ns i)):=by
  obtain ⟨as,h1,h2,h3⟩:=R.ex
  obtain ⟨a,ha⟩:∃ a,as[i]?=some a:=⟨_,List.getElem?_eq_getElem (by omega)⟩
  obtain ⟨dx,hx⟩:=h3 i a ha
  exact ⟨_,a,dx,h1,by rw [List.length_map]; exact h2,by rw [List.getElem?_map,ha]; rfl,hx⟩
theorem RsAt.list {C l:Addr} {H:Hp} {ns:Vbiraa.Net} (R:RsAt C H l ns):∃ xs:List V,H l=some (.lst xs)∧xs.length=ns.length∧∀ i x,xs[i]?=some x→∃ a dx:Addr,x=.ref a∧H a=some (.ins C dx (rf ns i)):=by
  obtain ⟨as,h1,h2,h3⟩:=R.ex
  refine ⟨_,h1,by rw [List.length_map]; exact h2,fun i x e=>?_⟩
  rw [List.getElem?_map] at e
  obtain ⟨a,ha,e⟩:=Option.map_eq_some_iff.mp e
  obtain ⟨dx,hx⟩:=h3 i a ha
  exact ⟨a,dx,e.symm,hx⟩
theorem n9 {ns:Vbiraa.Net} {u:List Nat}:(Vbiraa.find ns u).isNone=((List.range ns.length).map fun i=>!decide ((Vbiraa.reachAt ns i).name=u)).all id:=by
  rw [Bool.eq_iff_iff,Option.isNone_iff_eq_none,List.all_map,List.all_eq_true]
  unfold Vbiraa.find
  rw [List.findIdx?_eq_none_iff]
  constructor
  · intro h i hi
    have hi:=List.mem_range.mp hi
    have:=h _ (List.mem_of_getElem? (gH hi))
    show (!decide _)=true
    rw [Bool.not_eq_true',decide_eq_false_iff_not]
    intro e
    rw [e,beq_self_eq_true] at this
    cases this
  · intro h r hr
    obtain ⟨i,hi,e⟩:=List.getElem_of_mem hr
    have:=h i (List.mem_range.mpr hi)
    have this:(!decide ((Vbiraa.reachAt ns i).name=u))=true:=this
    rw [Bool.not_eq_true',decide_eq_false_iff_not,fk (by rw [List.getElem?_eq_getElem hi,e])] at this
    exact beq_eq_false_iff_ne.mpr this
theorem xM (u:List Nat) (l:List (List Nat)):inV (V.str (sOf u)) (b0 l)=l.any fun v=>decide (v=u):=by
  unfold inV b0
  rw [List.any_map]
  congr 1
  funext v
  show (sOf v == sOf u)=decide (v=u)
  rw [Bool.eq_iff_iff,beq_iff_eq,decide_eq_true_eq]
  exact ⟨ur,fun h=>by rw [h]⟩
theorem yQ (u:List Nat):Vbiraa.isName u=((!u.isEmpty && u.all Vbiraa.isSmall) && (decide (u.length≤8) && (!(cP.any fun v=>decide (v=u)) && !decide (u=Vbiraa.text "source")))):=by
  unfold Vbiraa.isName
  have e:Vbiraa.KEYS.contains u=((cP.any fun v=>decide (v=u)) || decide (u=Vbiraa.text "source")):=by
    rw [Bool.eq_iff_iff,List.contains_iff_mem,Bool.or_eq_true,List.any_eq_true,decide_eq_true_eq]
    simp only [decide_eq_true_eq]
    show u∈[Vbiraa.text "reach",Vbiraa.text "from",Vbiraa.text "source",Vbiraa.text "delay",Vbiraa.text "loss",Vbiraa.text "soak",Vbiraa.text "cap",Vbiraa.text "gate"]↔_
    constructor
    · intro h
      simp only [List.mem_cons,List.not_mem_nil,or_false] at h
      rcases h with h | h | h | h | h | h | h | h
      · exact .inl ⟨_,by simp [cP],h.symm⟩
      · exact .inl ⟨_,by simp [cP],h.symm⟩
      · exact .inr h
      · exact .inl ⟨_,by simp [cP],h.symm⟩
      · exact .inl ⟨_,by simp [cP],h.symm⟩
      · exact .inl ⟨_,by simp [cP],h.symm⟩
      · exact .inl ⟨_,by simp [cP],h.symm⟩
      · exact .inl ⟨_,by simp [cP],h.symm⟩
    · rintro (⟨v,hv,rfl⟩ | h)
      · unfold cP at hv
        simp only [List.mem_cons,List.not_mem_nil,or_false] at hv ⊢
        rcases hv with h | h | h | h | h | h | h <;> simp [h]
      · simp [h]
  rw [e]
  have e2:decide (1≤u.length)=!u.isEmpty:=by
    cases u <;> simp
  rw [e2]
  cases (!u.isEmpty) <;> cases decide (u.length≤8) <;> cases (u.all Vbiraa.isSmall) <;> simp
def mL (ns:Vbiraa.Net) (u:List Nat):Int:=if u=Vbiraa.text "source" then -1 else match Vbiraa.find ns u with
  | some i=>(i:Int)
  | none=>-2
section
variable {P:Program} {w:World} {K:PySem.W.Frag} {mg:Str→Option Value} {base:Heap}
def spFree (C:Addr):Sp:=fun vs H Q _=>∃ (l:Addr) (ns:Vbiraa.Net) (u:List Nat),vs=[.str (sOf u),.ref l]∧Sg u∧u.length≤5000∧RsAt C H l ns∧ns.length≤1000∧∀ H',Same H H'→Q (.bl (Vbiraa.isName u && (Vbiraa.find ns u).isNone)) H'
theorem lS (T:Txt K mg):FnOk P w K mg base CX0 1 T.is_name_free.f T.is_name_free.fd ["name", "reaches"] (spFree T.a_Reach):=by
  refine T.is_name_free.F.ok dZ (fun vs H Q E h=>?_) (fun cdv A outer s H vs Q E hr h=>?_)
  · obtain ⟨l,ns,u,rfl,_⟩:=h
    rfl
  · obtain ⟨l,ns,u,rfl,hs,hn,R,hz,k⟩:=h
    refine ⟨_,(ae (aU (dX (aZ (aL (K:=K) (pe_m0 F.slot_str_isalpha F.type_str_isalpha tE (pv 0)) (fun _=>rfl))) (dH (aM j6 (aF kn (by rfl) T.n_len PySem.boot_len (aa (pv 0) ad)) (a8 T.c_LONGEST_NAME) (aP _)))).pt
      (ag (au mO))
      aI)
      (ae (aU (dX (aM (jA (K:=K)) (pv 0) (j3 T.t_FORM.m) (by with_unfolding_all rfl)) (dH (aM du (pv 0) bW (aP _)))).pt
      (ag (au mO))
      aI)
      (ag (au (aF (ma (K:=K) rfl) (by rfl) T.n_all iZ (aa (gg (own:=[("reach",2)]) rfl dZ.nd (bV (pv 1)) (bh (N:=["name", "reaches", "reach"]) (sc:=aj dk) (by decide +kernel)) (fun _ _ _ _ _=>(aJ (i:=2) dZ.nd rfl (by first | exact Or.inl rfl | exact Or.inr rfl))) (fun _ _ _ _ _=>bI) (fun _ _ _ _ _=>(dP j5 (am (K:=K) (pv 2) rfl) (pv 0) (aP _)))) ad)))))),?_⟩
    rw [yQ] at k
    refine ⟨_,rfl,⟨_,rfl⟩,_,rfl,rfl,trivial,_,rfl,?_⟩
    rw [qA hs]
    cases c1:(!u.isEmpty && u.all Vbiraa.isSmall) with
    | false =>
      rw [c1] at k
      exact k H (Same.refl _)
    | true =>
      rw [c1,Bool.true_and] at k
      refine iteF ⟨_,rfl,_,rfl,Nat.le_of_lt (aO (by rw [cH]; omega)),_,_,rfl,rfl,_,rfl,?_⟩
      have e8:decide ((8:Int) < ((sOf u).length:Int))=!decide (u.length≤8):=by
        rw [cH,←decide_not]
        exact decide_eq_decide.mpr (by omega)
      rw [e8]
      cases c2:decide (u.length≤8) with
      | false =>
        rw [c2] at k
        exact k H (Same.refl _)
      | true =>
        rw [c2,Bool.true_and] at k
        refine iteF ?_
        refine ⟨_,rfl,T.t_FORM.a,b0 cP,rfl,.inr (by rw [←formV]; exact T.t_FORM.is _),rfl,by rfl,_,rfl,?_⟩
        show if inV (V.str (sOf u)) (b0 cP)=true then _ else _
        rw [xM]
        cases c3:(cP.any fun v=>decide (v=u)) with
        | true =>
          rw [c3] at k
          exact iteT (iteT (k H (Same.refl _)))
        | false =>
          rw [c3,Bool.not_false,Bool.true_and] at k
          refine iteF ⟨_,rfl,rfl,_,rfl,?_⟩
          have e0:decide (V.str (sOf u)=V.str "source")=decide (u=Vbiraa.text "source"):=by
            rw [show ("source" : Str)=sOf (Vbiraa.text "source") from by decide +kernel,fz]
          rw [e0]
          cases c4:decide (u=Vbiraa.text "source") with
          | true =>
            rw [c4] at k
            exact iteT (k H (Same.refl _))
          | false =>
            rw [c4,Bool.not_false,Bool.true_and] at k
            refine iteF ?_
            obtain ⟨xs,h1,h2,h3⟩:=R.list
            refine ⟨_,rfl,l,rfl,⟨_,SqL.of h1⟩,fun D hD=>?_⟩
            refine bX ((List.range ns.length).map fun i=>V.bl (!decide ((Vbiraa.reachAt ns i).name=u))) (by simp [h2]) hD (SqL.of h1) (aO (by omega)) ?_ ?_
            · rintro i x y H2 hx hy s2 Q' kq
              obtain ⟨a,dx,rfl,ha⟩:=h3 i x hx
              have hi:i < ns.length:=by
                rw [←h2]
                exact (List.getElem?_eq_some_iff.mp hx).1
              rw [List.getElem?_map,List.getElem?_range hi] at hy
              have hy:=Option.some.inj hy
              subst hy
              refine ⟨rfl,_,rfl,a,T.a_Reach,dx,_,_,rfl,s2 _ _ ha,T.cl_Reach,T.na_Reach_name,nq,_,rfl,rfl,?_⟩
              rw [fz]
              exact kq _ (Same.refl _)
            · rintro H2 s2 hD2
              refine ⟨D,(List.range ns.length).map fun i=>!decide ((Vbiraa.reachAt ns i).name=u),rfl,?_,?_⟩
              · rw [List.map_map]
                exact SqL.of hD2
              · have:=k H2 s2
                rw [n9] at this
                exact this
def yt (C:Addr):Sp:=fun vs H Q _=>∃ (l:Addr) (ns:Vbiraa.Net) (u:List Nat),vs=[.str (sOf u),.ref l]∧RsAt C H l ns∧∀ H',Same H H'→Q (.int (mL ns u)) H'
theorem rc (T:Txt K mg):FnOk P w K mg base CX0 1 T.place_of.f T.place_of.fd ["where", "reaches"] (yt T.a_Reach):=by
  refine T.place_of.F.ok hG (fun vs H Q E h=>?_) (fun cdv A outer s H vs Q E hr h=>?_)
  · obtain ⟨l,ns,u,rfl,_⟩:=h
    rfl
  · obtain ⟨l,ns,u,rfl,R,k⟩:=h
    refine ⟨_,(ae (aU (aM du (pv 0) bW (aP _))
      (ag (au (a8 T.c_SOURCE)))
      aI)
      (ae (bS PassesOwn.never rfl (iU rfl T.n_enumerate (aa (pv 1) ad)) (dO (K:=K) (n:=2) rfl (bd (aJ (i:=2) hG.nd rfl (by first | exact Or.inl rfl | exact Or.inr rfl)) (bd (aJ (i:=3) hG.nd rfl (by first | exact Or.inl rfl | exact Or.inr rfl)) dN)))
      (ag (aU (aM du (am (K:=K) (pv 3) rfl) (pv 0) (aP _))
      (ag (au (pv 2)))
      aI)))
      (ag (au (a8 T.c_NOWHERE))))),?_⟩
    refine ⟨_,rfl,rfl,_,rfl,?_⟩
    have e0:decide (V.str (sOf u)=V.str "source")=decide (u=Vbiraa.text "source"):=by
      rw [show ("source" : Str)=sOf (Vbiraa.text "source") from by decide +kernel,fz]
    rw [e0]
    unfold mL at k
    refine ite2 (fun c1=>?_) (fun c1=>?_)
    · have c1:u=Vbiraa.text "source" := of_decide_eq_true c1
      rw [if_pos c1] at k
      exact k H (Same.refl _)
    · have c1:¬ u=Vbiraa.text "source" := fun z=>c1 (decide_eq_true z)
      rw [if_neg c1] at k
      obtain ⟨xs,h1,h2,h3⟩:=R.list
      refine ⟨_,rfl,l,_,rfl,SqL.of h1,iz (K:=K) (a:=l) (xs:=xs) (fun j σ H'=>Same H H'∧(∀ i,i < j→¬ (Vbiraa.reachAt ns i).name=u)∧∃ v v':Option V,σ=[some (.str (sOf u)),some (.ref l),v,v'])
        ⟨Same.refl _,fun i h=>absurd h (Nat.not_lt_zero i),none,none,rfl⟩ (fun j σ H' _ p=>SqL.of (p.1 _ _ h1)) ?_ ?_⟩
      · rintro j x σ H' t hx ⟨sm,hj,v,v',rfl⟩ ht
        obtain ⟨a,dx,rfl,ha⟩:=h3 j x hx
        have hi:j < ns.length:=by
          rw [←h2]
          exact (List.getElem?_eq_some_iff.mp hx).1
        have sm2:Same H (upd H' t (.tup [.int (j:Nat),V.ref a])):=aQ sm (sm.free ht)
        refine ⟨t,_,rfl,SqT.of ac,rfl,_,_,rfl,_,_,rfl,rfl,?_⟩
        refine ⟨_,rfl,a,T.a_Reach,dx,_,_,rfl,sm2 _ _ ha,T.cl_Reach,T.na_Reach_name,nq,_,rfl,rfl,_,rfl,?_⟩
        rw [fz]
        refine ite2 (fun c2=>?_) (fun c2=>?_)
        · have c2:=of_decide_eq_true c2
          have e:Vbiraa.find ns u=some j:=by
            unfold Vbiraa.find
            rw [List.findIdx?_eq_some_iff_getElem]
            refine ⟨hi,?_,fun m hm=>?_⟩
            · have:=fk (List.getElem?_eq_getElem hi)
              rw [this] at c2
              exact beq_iff_eq.mpr c2
            · have:=hj m hm
              rw [fk (List.getElem?_eq_getElem (show m < ns.length by omega))] at this
              rw [beq_iff_eq]
              exact this
          rw [e] at k
          exact ⟨_,rfl,k _ sm2⟩
        · have c2:¬ (Vbiraa.reachAt ns j).name=u:=fun z=>c2 (decide_eq_true z)
          refine ⟨sm2,fun i hi=>?_,_,_,rfl⟩
          rcases Nat.lt_or_eq_of_le (Nat.lt_succ_iff.mp hi) with q | q
          · exact hj i q
          · rw [q]
            exact c2
      · rintro σ H' ⟨sm,hj,v,v',rfl⟩
        rw [h2] at hj
        have e:Vbiraa.find ns u=none:=by
          unfold Vbiraa.find
          rw [List.findIdx?_eq_none_iff]
          intro r hr
          obtain ⟨i,hi,e⟩:=List.getElem_of_mem hr
          have:=hj i hi
          rw [fk (by rw [List.getElem?_eq_getElem hi,e])] at this
          exact beq_eq_false_iff_ne.mpr this
        rw [e] at k
        exact k H' sm
def yr (C:Addr):Sp:=fun vs H Q _=>∃ (x dx nl:Addr) (nm:Str) (b a d D L S Cp G:Int),vs=[.ref x,.str nm,.int b,.int a,.int d,.ref nl]∧H x=some (.ins C dx [])∧H nl=some (.lst [.int D,.int L,.int S,.int Cp,.int G]) ∧
  ∀ H':Hp,H' x=some (.ins C dx (rfs nm b a d D L S Cp G))→(∀ b o,H b=some o→b≠x→H' b=some o)→Q .non H'
theorem fU (T:Txt K mg):FnOk P w K mg base CX0 1 T.Reach_init.f T.Reach_init.fd ["self", "name", "begins", "above", "depth", "numbers"] (yr T.a_Reach):=by
  refine T.Reach_init.F.ok nV (fun vs H Q E h=>?_) (fun cdv A outer s H vs Q E hr h=>?_)
  · obtain ⟨x,dx,nl,nm,b,a,d,D,L,S,Cp,G,rfl,_⟩:=h
    rfl
  · obtain ⟨x,dx,nl,nm,b,a,d,D,L,S,Cp,G,rfl,hx,hn,k⟩:=h
    refine ⟨_,(ae (bT (pv 0) (pv 1) rfl)
      (ae (bT (pv 0) (pv 2) rfl)
      (ae (bT (pv 0) (pv 3) rfl)
      (ae (bT (pv 0) (pv 4) rfl)
      (ae (bT (pv 0) (ay (ak (K:=K)) (pv 5) af (fun _ _=>rfl)) rfl)
      (ae (bT (pv 0) (ay (ak (K:=K)) (pv 5) af (fun _ _=>rfl)) rfl)
      (ae (bT (pv 0) (ay (ak (K:=K)) (pv 5) af (fun _ _=>rfl)) rfl)
      (ae (bT (pv 0) (ay (ak (K:=K)) (pv 5) af (fun _ _=>rfl)) rfl)
      (ag (bT (pv 0) (ay (ak (K:=K)) (pv 5) af (fun _ _=>rfl)) rfl)))))))))),?_⟩
    have ne:nl≠x:=bK hn hx (by intro q; cases q)
    have nn:∀ {H':Hp} {o:HO},H' nl=some (.lst [.int D,.int L,.int S,.int Cp,.int G])→(upd H' x o) nl=some (.lst [.int D,.int L,.int S,.int Cp,.int G]):=fun h=>by rw [ai ne]; exact h
    refine ⟨_,rfl,_,rfl,x,T.a_Reach,dx,_,rfl,hx,T.cl_Reach,T.na_Reach_name,by decide,?_⟩
    refine ⟨_,rfl,_,rfl,x,T.a_Reach,dx,_,rfl,ac,T.cl_Reach,T.na_Reach_begins,by show 1 < 1000; decide,?_⟩
    refine ⟨_,rfl,_,rfl,x,T.a_Reach,dx,_,rfl,ac,T.cl_Reach,T.na_Reach_above,by show 2 < 1000; decide,?_⟩
    refine ⟨_,rfl,_,rfl,x,T.a_Reach,dx,_,rfl,ac,T.cl_Reach,T.na_Reach_depth,by show 3 < 1000; decide,?_⟩
    refine ⟨_,rfl,nl,_,_,_,rfl,rfl,SqL.of (nn (nn (nn (nn hn)))),aC (j:=0) rfl rfl,_,rfl,x,T.a_Reach,dx,_,rfl,ac,T.cl_Reach,T.na_Reach_delay,by show 4 < 1000; decide,?_⟩
    refine ⟨_,rfl,nl,_,_,_,rfl,rfl,SqL.of (nn (nn (nn (nn (nn hn))))),aC (j:=1) rfl rfl,_,rfl,x,T.a_Reach,dx,_,rfl,ac,T.cl_Reach,T.na_Reach_loss,by show 5 < 1000; decide,?_⟩
    refine ⟨_,rfl,nl,_,_,_,rfl,rfl,SqL.of (nn (nn (nn (nn (nn (nn hn)))))),aC (j:=2) rfl rfl,_,rfl,x,T.a_Reach,dx,_,rfl,ac,T.cl_Reach,T.na_Reach_soak,by show 6 < 1000; decide,?_⟩
    refine ⟨_,rfl,nl,_,_,_,rfl,rfl,SqL.of (nn (nn (nn (nn (nn (nn (nn hn))))))),aC (j:=3) rfl rfl,_,rfl,x,T.a_Reach,dx,_,rfl,ac,T.cl_Reach,T.na_Reach_cap,by show 7 < 1000; decide,?_⟩
    refine ⟨_,rfl,nl,_,_,_,rfl,rfl,SqL.of (nn (nn (nn (nn (nn (nn (nn (nn hn)))))))),aC (j:=4) rfl rfl,_,rfl,x,T.a_Reach,dx,_,rfl,ac,T.cl_Reach,T.na_Reach_gate,by show 8 < 1000; decide,?_⟩
    refine k _ (ac.trans ?_) ?_
    · rfl
    · intro b o e hb
      simp only [ai hb]
      exact e
end
end CN
namespace CN
open PySem PySem.Spec PyProof.Rows L2
theorem nv {ws:List (List Nat)} (h:dR ws=true):∃ n p d o s m v:List Nat,ws=[Vbiraa.text "reach",n,Vbiraa.text "from",p,Vbiraa.text "delay",d,Vbiraa.text "loss",o,Vbiraa.text "soak",s,Vbiraa.text "cap",m,Vbiraa.text "gate",v]:=by
  unfold dR at h
  rw [Bool.and_eq_true,decide_eq_true_eq,List.all_eq_true] at h
  obtain ⟨hl,h⟩:=h
  match ws,hl,h with
  | [k,n,f,p,a,d,b,o,c,s,e,m,g,v],_,h =>
    have h0:k=Vbiraa.text "reach" := of_decide_eq_true (h 0 (by decide))
    have h1:f=Vbiraa.text "from" := of_decide_eq_true (h 1 (by decide))
    have h2:a=Vbiraa.text "delay" := of_decide_eq_true (h 2 (by decide))
    have h3:b=Vbiraa.text "loss" := of_decide_eq_true (h 3 (by decide))
    have h4:c=Vbiraa.text "soak" := of_decide_eq_true (h 4 (by decide))
    have h5:e=Vbiraa.text "cap" := of_decide_eq_true (h 5 (by decide))
    have h6:g=Vbiraa.text "gate" := of_decide_eq_true (h 6 (by decide))
    subst h0 h1 h2 h3 h4 h5 h6
    exact ⟨n,p,d,o,s,m,v,rfl⟩
theorem uR {ns:Vbiraa.Net} {ws:List (List Nat)} (h:dR ws=false):Vbiraa.lineOf ns ws=none:=by
  unfold Vbiraa.lineOf
  split
  · rename_i k n f p a d b o c s e m g v
    rw [if_neg]
    rintro ⟨h0,h1,h2,h3,h4,h5,h6,_⟩
    subst h0 h1 h2 h3 h4 h5 h6
    have:dR [Vbiraa.text "reach",n,Vbiraa.text "from",p,Vbiraa.text "delay",d,Vbiraa.text "loss",o,Vbiraa.text "soak",s,Vbiraa.text "cap",m,Vbiraa.text "gate",v]=true:=by
      unfold dR
      rw [Bool.and_eq_true,decide_eq_true_eq,List.all_eq_true]
      refine ⟨rfl,fun k hk=>?_⟩
      have hk:=List.mem_range.mp hk
      match k,hk with
      | 0,_=>exact decide_eq_true rfl
      | 1,_=>exact decide_eq_true rfl
      | 2,_=>exact decide_eq_true rfl
      | 3,_=>exact decide_eq_true rfl
      | 4,_=>exact decide_eq_true rfl
      | 5,_=>exact decide_eq_true rfl
      | 6,_=>exact decide_eq_true rfl
      | n + 7,h=>omega
    rw [this] at h
    cases h
  · rfl
def fQ (ns:Vbiraa.Net) (p:List Nat):Option (Option Nat):=if p=Vbiraa.text "source" then some none else (Vbiraa.find ns p).map fun i=>some i
def dpOf (ns:Vbiraa.Net):Option Nat→Nat
  | none=>1
  | some i=>depth ns i + 1
def abOf (ns:Vbiraa.Net):Option Nat→Nat
  | none=>0
  | some i=>above ns i + (Vbiraa.reachAt ns i).delay
theorem xi (ns:Vbiraa.Net) (p:List Nat):mL ns p=match fQ ns p with | some q=>pInt q | none=>-2:=by
  unfold mL fQ
  by_cases h:p=Vbiraa.text "source"
  · rw [if_pos h,if_pos h]
    rfl
  · rw [if_neg h,if_neg h]
    cases Vbiraa.find ns p <;> rfl
theorem oI {ns:Vbiraa.Net} {p:List Nat} {i:Nat} (h:fQ ns p=some (some i)):i < ns.length:=by
  unfold fQ at h
  by_cases c:p=Vbiraa.text "source"
  · rw [if_pos c] at h
    cases h
  · rw [if_neg c] at h
    obtain ⟨j,hj,e⟩:=Option.map_eq_some_iff.mp h
    cases e
    exact zb hj
theorem yK (q:Option Nat):¬ pInt q=-2:=by
  cases q <;> simp only [pInt] <;> omega
theorem gK {d o s m v:List Nat}:fV [d,o,s,m,v]=true↔(Vbiraa.numberIn 0 10 d).isSome=true∧(Vbiraa.numberIn 0 99 o).isSome=true∧(Vbiraa.numberIn 0 1000 s).isSome=true∧(Vbiraa.numberIn 1 100000 m).isSome=true∧(Vbiraa.numberIn 0 100 v).isSome=true:=by
  show ((Vbiraa.numberIn 0 10 d).isSome && ((Vbiraa.numberIn 0 99 o).isSome && ((Vbiraa.numberIn 0 1000 s).isSome && ((Vbiraa.numberIn 1 100000 m).isSome && ((Vbiraa.numberIn 0 100 v).isSome && true)))))=true↔_
  simp only [Bool.and_eq_true,and_true]
def fitR (ns:Vbiraa.Net) (q:Option Nat) (dp:Nat) (G:Nat):Bool:=decide (ns.length < 30) && (decide (dp≤8) && decide (Vbiraa.gatesAt ns q + G≤100))
def newR (q:Option Nat) (n d o s m v:List Nat):Vbiraa.Reach:={ name:=n,parent:=q,delay:=Vbiraa.value d,loss:=Vbiraa.value o,soak:=Vbiraa.value s,cap:=Vbiraa.value m,gate:=Vbiraa.value v }
def p5 (ns:Vbiraa.Net):Option Nat→Bool
  | none=>true
  | some i=>decide ((Vbiraa.way ns i).length < 8)
theorem fv (ns:Vbiraa.Net) (n p d o s m v:List Nat) :
    Vbiraa.lineOf ns [Vbiraa.text "reach",n,Vbiraa.text "from",p,Vbiraa.text "delay",d,Vbiraa.text "loss",o,Vbiraa.text "soak",s,Vbiraa.text "cap",m,Vbiraa.text "gate",v] =
      if (Vbiraa.isName n && (Vbiraa.find ns n).isNone)=true∧ns.length < 30 then
        (match fQ ns p,Vbiraa.numberIn 0 10 d,Vbiraa.numberIn 0 99 o,Vbiraa.numberIn 0 1000 s,Vbiraa.numberIn 1 100000 m,Vbiraa.numberIn 0 100 v with
        | some q,some d,some o,some s,some m,some v=>if Vbiraa.gatesAt ns q + v≤100∧p5 ns q=true then some (ns++[{ name:=n,parent:=q,delay:=d,loss:=o,soak:=s,cap:=m,gate:=v }]) else none
        | _,_,_,_,_,_=>none) else none:=by
  unfold Vbiraa.lineOf fQ
  simp only [true_and,Bool.and_eq_true,and_assoc]
  rfl
theorem oO {ns:Vbiraa.Net} {n p d o s m v:List Nat} (h:(Vbiraa.isName n && (Vbiraa.find ns n).isNone)=false) :
    Vbiraa.lineOf ns [Vbiraa.text "reach",n,Vbiraa.text "from",p,Vbiraa.text "delay",d,Vbiraa.text "loss",o,Vbiraa.text "soak",s,Vbiraa.text "cap",m,Vbiraa.text "gate",v]=none:=by
  rw [fv,if_neg]
  rw [h]
  exact fun z=>Bool.false_ne_true z.1
theorem oN {ns:Vbiraa.Net} {n p d o s m v:List Nat} (h:fV [d,o,s,m,v]=false) :
    Vbiraa.lineOf ns [Vbiraa.text "reach",n,Vbiraa.text "from",p,Vbiraa.text "delay",d,Vbiraa.text "loss",o,Vbiraa.text "soak",s,Vbiraa.text "cap",m,Vbiraa.text "gate",v]=none:=by
  rw [fv]
  split
  · split
    · rename_i h1 h2 h3 h4 h5 h6
      have:fV [d,o,s,m,v]=true:=gK.mpr ⟨by rw [h2]; rfl,by rw [h3]; rfl,by rw [h4]; rfl,by rw [h5]; rfl,by rw [h6]; rfl⟩
      rw [this] at h
      cases h
    · rfl
  · rfl
theorem ni {ns:Vbiraa.Net} {n p d o s m v:List Nat} (h:fQ ns p=none) :
    Vbiraa.lineOf ns [Vbiraa.text "reach",n,Vbiraa.text "from",p,Vbiraa.text "delay",d,Vbiraa.text "loss",o,Vbiraa.text "soak",s,Vbiraa.text "cap",m,Vbiraa.text "gate",v]=none:=by
  rw [fv,h]
  split <;> rfl
theorem oP {ns:Vbiraa.Net} {n p d o s m v:List Nat} {q:Option Nat} (h1:(Vbiraa.isName n && (Vbiraa.find ns n).isNone)=true) (h2:fV [d,o,s,m,v]=true) (h3:fQ ns p=some q) :
    Vbiraa.lineOf ns [Vbiraa.text "reach",n,Vbiraa.text "from",p,Vbiraa.text "delay",d,Vbiraa.text "loss",o,Vbiraa.text "soak",s,Vbiraa.text "cap",m,Vbiraa.text "gate",v] =
      if fitR ns q (dpOf ns q) (Vbiraa.value v)=true then some (ns++[newR q n d o s m v]) else none:=by
  obtain ⟨a1,a2,a3,a4,a5⟩:=gK.mp h2
  obtain ⟨d',e1⟩:=Option.isSome_iff_exists.mp a1
  obtain ⟨o',e2⟩:=Option.isSome_iff_exists.mp a2
  obtain ⟨s',e3⟩:=Option.isSome_iff_exists.mp a3
  obtain ⟨m',e4⟩:=Option.isSome_iff_exists.mp a4
  obtain ⟨v',e5⟩:=Option.isSome_iff_exists.mp a5
  rw [fv,h3,e1,e2,e3,e4,e5,h1]
  have f1:=(aT e1).1
  have f2:=(aT e2).1
  have f3:=(aT e3).1
  have f4:=(aT e4).1
  have f5:=(aT e5).1
  subst f1 f2 f3 f4 f5
  unfold fitR newR
  simp only [Bool.and_eq_true,decide_eq_true_eq,true_and]
  have ed:(p5 ns q=true)=(dpOf ns q≤8):=by
    cases q with
    | none=>simp [dpOf,p5]
    | some i =>
      simp only [decide_eq_true_eq,dpOf,depth,p5]
      exact propext (by omega)
  by_cases c1:ns.length < 30
  · rw [if_pos c1]
    simp only [ed]
    by_cases c2:Vbiraa.gatesAt ns q + Vbiraa.value v≤100∧dpOf ns q≤8
    · rw [if_pos c2,if_pos ⟨c1,c2.2,c2.1⟩]
    · rw [if_neg c2,if_neg (fun z=>c2 ⟨z.2.2,z.2.1⟩)]
  · rw [if_neg c1,if_neg (fun z=>c1 z.1)]
def RObj (C:Addr) (H:Hp) (x:Addr) (fs:List (Str × V)):Prop:=∃ dx,H x=some (.ins C dx fs)
section
variable {P:Program} {w:World} {K:PySem.W.Frag} {mg:Str→Option Value} {base:Heap}
def vv (C:Addr):Sp:=fun vs H Q _=>∃ (l nl:Addr) (ns:Vbiraa.Net) (nm:Str) (q:Option Nat) (D L S Cp G:Nat),vs=[.str nm,.int (pInt q),.ref nl,.ref l]∧H nl=some (.lst [.int D,.int L,.int S,.int Cp,.int G])∧RsAt C H l ns∧(∀ i,q=some i→i < ns.length) ∧
  ∀ (H':Hp) (x:Addr),Same H H'→H x=none→RObj C H' x (rfs nm (pInt q) (abOf ns q) (dpOf ns q) D L S Cp G)→Q (.ref x) H'
theorem rb (T:Txt K mg):FnOk P w K mg base CX0 3 T.reach_at.f T.reach_at.fd ["name", "place", "numbers", "reaches"] (vv T.a_Reach):=by
  refine T.reach_at.F.ok ly (fun vs H Q E h=>?_) (fun cdv A outer s H vs Q E hr h=>?_)
  · obtain ⟨l,nl,ns,nm,q,D,L,S,Cp,G,rfl,_⟩:=h
    rfl
  · obtain ⟨l,nl,ns,nm,q,D,L,S,Cp,G,rfl,hn,R,hq,k⟩:=h
    refine ⟨_,(ae (aU (aM du (pv 1) (a8 T.c_SOURCE) (aP _))
      (ag (au (pN T.mk_Reach (fU T) (hr.mono (by decide)) rfl T.m_Reach gT .nil lA (aa (pv 0) (aa (pv 1) (aa af (aa af (aa (pv 2) ad))))))))
      aI)
      (ae (aw (i:=4) ly.nd rfl (by first | exact Or.inl rfl | exact Or.inr rfl) (ay (ak (K:=K)) (pv 3) (pv 1) (fun _ _=>rfl)))
      (ag (au (pN T.mk_Reach (fU T) (hr.mono (by decide)) rfl T.m_Reach gT .nil lA (aa (pv 0) (aa (pv 1) (aa (aG bu (am (K:=K) (pv 4) rfl) (am (K:=K) (pv 4) rfl)) (aa (aG bu (am (K:=K) (pv 4) rfl) af) (aa (pv 2) ad)))))))))),?_⟩
    refine ⟨_,rfl,rfl,_,rfl,?_⟩
    cases q with
    | none =>
      refine iteT ?_
      refine ⟨_,rfl,_,rfl,_,rfl,?_⟩
      intro x dx nx nd ne
      have nnl:(upd (upd H dx (.own x)) x (.ins T.a_Reach dx [])) nl=some (.lst [.int D,.int L,.int S,.int Cp,.int G]):=by
        rw [ai (aq hn nx),ai (aq hn nd)]
        exact hn
      refine ⟨x,dx,nl,nm,_,0,1,_,_,_,_,_,rfl,ac,nnl,fun H2 h2 kp=>⟨rfl,?_⟩⟩
      exact k H2 x (Same.made nx nd kp) nx ⟨dx,h2⟩
    | some i =>
      have e:decide (V.int (pInt (some i))=V.int (-1))=false:=by
        rw [decide_eq_false_iff_not]
        intro z
        have z:((i:Nat):Int)=-1:=V.int.inj z
        omega
      rw [e]
      refine iteF ?_
      have hi:=hq i rfl
      obtain ⟨xs,a,da,h1,h2,h3,h4⟩:=R.at_ hi
      refine ⟨_,rfl,_,rfl,l,_,_,_,rfl,rfl,SqL.of h1,aX h3,?_⟩
      refine ⟨_,rfl,_,rfl,_,rfl,a,T.a_Reach,da,_,_,rfl,h4,T.cl_Reach,T.na_Reach_above,gO,_,rfl,a,T.a_Reach,da,_,_,rfl,h4,T.cl_Reach,T.na_Reach_delay,kh,_,_,rfl,rfl,_,rfl,a,T.a_Reach,da,_,_,rfl,h4,T.cl_Reach,T.na_Reach_depth,pX,_,_,rfl,rfl,_,rfl,?_⟩
      intro x dx nx nd ne
      have nnl:(upd (upd H dx (.own x)) x (.ins T.a_Reach dx [])) nl=some (.lst [.int D,.int L,.int S,.int Cp,.int G]):=by
        rw [ai (aq hn nx),ai (aq hn nd)]
        exact hn
      refine ⟨x,dx,nl,nm,_,_,_,_,_,_,_,_,rfl,ac,nnl,fun H2 h2 kp=>⟨rfl,?_⟩⟩
      exact k H2 x (Same.made nx nd kp) nx ⟨dx,h2⟩
def spFits (C:Addr):Sp:=fun vs H Q _=>∃ (x l:Addr) (ns:Vbiraa.Net) (nm:Str) (q:Option Nat) (ab dp D L S Cp G:Nat),vs=[.ref x,.ref l]∧RObj C H x (rfs nm (pInt q) ab dp D L S Cp G)∧RsAt C H l ns∧ns.length≤1000∧∀ H',Same H H'→Q (.bl (fitR ns q dp G)) H'
theorem yM (T:Txt K mg):FnOk P w K mg base CX0 2 T.fits.f T.fits.fd ["reach", "reaches"] (spFits T.a_Reach):=by
  refine T.fits.F.ok pG (fun vs H Q E h=>?_) (fun cdv A outer s H vs Q E hr h=>?_)
  · obtain ⟨x,l,ns,nm,q,ab,dp,D,L,S,Cp,G,rfl,_⟩:=h
    rfl
  · obtain ⟨x,l,ns,nm,q,ab,dp,D,L,S,Cp,G,rfl,⟨dx,hx⟩,R,hz,k⟩:=h
    refine ⟨_,(ae (ig (i:=2) (own:=[("k",3)]) rfl pG.nd rfl rfl (jX rfl rfl rfl rfl) (bV (aD T.beginning_at (bC T) (hr.mono (by decide)) bL (aa (pv 1) (aa (am (K:=K) (pv 0) rfl) ad)))) (bh (N:=["reach", "reaches", "beside", "k"]) (sc:=aj pJ) (by decide +kernel)) (fun _ _ _ _ _=>(aJ (i:=3) pG.nd rfl (by first | exact Or.inl rfl | exact Or.inr rfl))) (fun _ _ _ _ _=>bI) (fun _ _ _ _ _=>(am (K:=K) (ay (ak (K:=K)) (pv 1) (pv 3) (fun _ _=>rfl)) rfl)))
      (ag (au (mP (dP qX (aF (ax (K:=K)) (by rfl) T.n_len PySem.boot_len (aa (pv 1) ad)) (a8 T.c_MOST_REACHES) (aP _)) (mP (dP cN (am (K:=K) (pv 0) rfl) (a8 T.c_LONGEST_WAY) (aP _)) (pM (dP cN (aG bu (aF (p6 (K:=K) rfl) (by rfl) T.n_sum lm (aa (pv 2) ad)) (am (K:=K) (pv 0) rfl)) af (aP _)))))))),?_⟩
    refine ⟨_,rfl,_,rfl,x,T.a_Reach,dx,_,_,rfl,hx,T.cl_Reach,T.na_Reach_begins,cU,l,ns,q,rfl,R,hz,fun H1 b s1 hb hb1=>?_⟩
    refine ⟨b,rfl,⟨_,SqL.of hb1⟩,fun Dd hD=>?_⟩
    have hcl:=ei ns q
    refine bX (ao ((Vbiraa.children ns q).map fun i=>(Vbiraa.reachAt ns i).gate)) (by rw [aB,aB,List.length_map]) hD (SqL.of hb1) (aO (by rw [aB]; omega)) ?_ ?_
    · rintro i v y H2 hv hy s2 Q' kq
      obtain ⟨c,hc,rfl⟩:=aW hv
      obtain ⟨g,hg,rfl⟩:=aW hy
      rw [List.getElem?_map,hc] at hg
      have hg:(Vbiraa.reachAt ns c).gate=g:=Option.some.inj hg
      subst hg
      obtain ⟨xs,a,da,h1,h2,h3,h4⟩:=(R.same (s1.trans s2)).at_ (bx (List.mem_of_getElem? hc))
      exact ⟨rfl,_,rfl,_,rfl,l,_,_,_,rfl,rfl,SqL.of h1,aX h3,a,T.a_Reach,da,_,_,rfl,h4,T.cl_Reach,T.na_Reach_gate,nr,kq _ (Same.refl _)⟩
    · rintro H2 s2 hD2
      have R2:=R.same (s1.trans s2)
      have hx2:=(s1.trans s2) _ _ hx
      obtain ⟨xs,h1,h2,_⟩:=R2.list
      have k2:=k H2 (s1.trans s2)
      unfold fitR at k2
      refine ⟨_,rfl,l,_,rfl,.inl (SqL.of h1),_,_,rfl,rfl,_,rfl,?_⟩
      rw [show decide ((xs.length:Int) < 30)=decide (ns.length < 30) from decide_eq_decide.mpr (by omega)]
      cases c1:decide (ns.length < 30) with
      | false =>
        rw [c1] at k2
        exact iteF k2
      | true =>
        rw [c1,Bool.true_and] at k2
        refine iteT ⟨_,rfl,x,T.a_Reach,dx,_,_,rfl,hx2,T.cl_Reach,T.na_Reach_depth,pX,_,_,rfl,rfl,_,rfl,?_⟩
        rw [show decide ((dp:Int)≤8)=decide (dp≤8) from decide_eq_decide.mpr (by omega)]
        cases c2:decide (dp≤8) with
        | false =>
          rw [c2] at k2
          exact iteF k2
        | true =>
          rw [c2,Bool.true_and] at k2
          refine iteT ⟨_,rfl,Dd,((Vbiraa.children ns q).map fun i=>(Vbiraa.reachAt ns i).gate).map fun (n:Nat)=>(n:Int),rfl,?_,_,rfl,x,T.a_Reach,dx,_,_,rfl,hx2,T.cl_Reach,T.na_Reach_gate,nr,_,_,rfl,rfl,_,_,rfl,rfl,?_⟩
          · rw [et] at hD2
            exact SqL.of hD2
          have e:decide ((((Vbiraa.children ns q).map fun i=>(Vbiraa.reachAt ns i).gate).map fun (n:Nat)=>(n:Int)).sum + (G:Int)≤100)=decide (Vbiraa.gatesAt ns q + G≤100):=by
            rw [jY]
            unfold Vbiraa.gatesAt
            rw [ci]
            exact decide_eq_decide.mpr (by omega)
          show Q (V.bl (decide ((((Vbiraa.children ns q).map fun i=>(Vbiraa.reachAt ns i).gate).map fun (n:Nat)=>(n:Int)).sum + (G:Int)≤100))) H2
          rw [e]
          exact k2
def spRead (C:Addr):Sp:=fun vs H Q _=>∃ (wl l:Addr) (ns:Vbiraa.Net) (ws:List (List Nat)),vs=[.ref wl,.ref l]∧H wl=some (.lst (b0 ws))∧(∀ u∈ws,Sg u∧u.length≤5000)∧RsAt C H l ns∧WF ns ∧
  (Vbiraa.lineOf ns ws=none→∀ H',Same H H'→Q .non H')∧∀ ns2,Vbiraa.lineOf ns ws=some ns2→∀ (H':Hp) (x:Addr),Same H H'→H x=none→RObj C H' x (rf ns2 ns.length)→Q (.ref x) H'
theorem nW (T:Txt K mg):FnOk P w K mg base CX0 4 T.read_reach.f T.read_reach.fd ["words", "reaches"] (spRead T.a_Reach):=by
  refine T.read_reach.F.ok bG (fun vs H Q E h=>?_) (fun cdv A outer s H vs Q E hr h=>?_)
  · obtain ⟨wl,l,ns,ws,rfl,_⟩:=h
    rfl
  · obtain ⟨wl,l,ns,ws,rfl,hw,hS,R,hwf,k0,k1⟩:=h
    refine ⟨_,(ae (aU (aZ (aL (K:=K) (aD T.has_form (re T) (hr.mono (by decide)) ug (aa (pv 0) ad)) (fun _=>rfl)))
      (ag (au fR))
      aI)
      (ae (ig (i:=2) (own:=[("k",3)]) rfl bG.nd rfl rfl (jX rfl rfl rfl rfl) (pi_tup (gI (aa af (aa af (aa af (aa af (aa af ad))))))) (bh (N:=["words", "reaches", "told", "k", "place", "reach", "word"]) (sc:=aj dj) (by decide +kernel)) (fun _ _ _ _ _=>(aJ (i:=3) bG.nd rfl (by first | exact Or.inl rfl | exact Or.inr rfl))) (fun _ _ _ _ _=>bI) (fun _ _ _ _ _=>(ay (ak (K:=K)) (pv 0) (pv 3) (fun _ _=>rfl))))
      (ae (aU (dX (aZ (aL (K:=K) (aD T.is_name_free (lS T) (hr.mono (by decide)) nI (aa (ay (ak (K:=K)) (pv 0) af (fun _ _=>rfl)) (aa (pv 1) ad))) (fun _=>rfl))) (dH (aZ (aL (K:=K) (aD T.are_numbers_right (il T) (hr.mono (by decide)) i4 (aa (pv 2) ad)) (fun _=>rfl))))).pt
      (ag (au fR))
      aI)
      (ae (aw (i:=4) bG.nd rfl (by first | exact Or.inl rfl | exact Or.inr rfl) (aD T.place_of (rc T) (hr.mono (by decide)) ue (aa (ay (ak (K:=K)) (pv 0) af (fun _ _=>rfl)) (aa (pv 1) ad))))
      (ae (aU (aM du (pv 4) (a8 T.c_NOWHERE) (aP _))
      (ag (au fR))
      aI)
      (ae (aw (i:=5) bG.nd rfl (by first | exact Or.inl rfl | exact Or.inr rfl) (aD T.reach_at (rb T) (hr.mono (by decide)) ud (aa (ay (ak (K:=K)) (pv 0) af (fun _ _=>rfl)) (aa (pv 4) (aa (gg (own:=[("word",6)]) rfl bG.nd (bV (pv 2)) (bh (N:=["words", "reaches", "told", "k", "place", "reach", "word"]) (sc:=aj dj) (by decide +kernel)) (fun _ _ _ _ _=>(aJ (i:=6) bG.nd rfl (by first | exact Or.inl rfl | exact Or.inr rfl))) (fun _ _ _ _ _=>bI) (fun _ _ _ _ _=>(cJ kr (by rfl) T.n_int pd (aa (pv 6) ad)))) (aa (pv 1) ad))))))
      (ae (aU (aZ (aL (K:=K) (aD T.fits (yM T) (hr.mono (by decide)) b_fits (aa (pv 5) (aa (pv 1) ad))) (fun _=>rfl)))
      (ag (au fR))
      aI)
      (ag (au (pv 5)))))))))),?_⟩
    have hlen:=hwf.len
    refine ⟨_,rfl,wl,ws,rfl,hw,fun H1 s1=>⟨_,rfl,?_⟩⟩
    cases cf:dR ws with
    | false=>exact iteT (k0 (uR cf) H1 s1)
    | true =>
    refine iteF ?_
    obtain ⟨n,p,d,o,s',m,v,rfl⟩:=nv cf
    refine ⟨(by show 5≤sizeLine; decide),fun tp htp=>?_⟩
    have st:Same H1 (upd H1 tp (.tup [.int 5,.int 7,.int 9,.int 11,.int 13])):=ah htp
    refine ⟨tp,rfl,⟨_,SqT.of ac⟩,fun D hD=>?_⟩
    have sS:∀ u,u∈[d,o,s',m,v]→Sg u∧u.length≤5000:=fun u hu=>hS u (by simp only [List.mem_cons,List.not_mem_nil,or_false] at hu ⊢; rcases hu with h | h | h | h | h <;> simp [h])
    refine rH (xs:=[.int 5,.int 7,.int 9,.int 11,.int 13]) (b0 [d,o,s',m,v]) rfl hD (fun H' s'=>SqT.of (s' _ _ ac)) (by show 5 < sizeLine; decide) ?_ ?_
    · rintro i x y H2 hx hy s2 Q' kq
      have hw2:=s2 _ _ (st _ _ (s1 _ _ hw))
      match i,hx,hy with
      | 0,hx,hy =>
        cases hx; cases hy
        exact ⟨rfl,_,rfl,_,rfl,wl,_,_,_,rfl,rfl,SqL.of hw2,aC (j:=5) rfl rfl,kq _ (Same.refl _)⟩
      | 1,hx,hy =>
        cases hx; cases hy
        exact ⟨rfl,_,rfl,_,rfl,wl,_,_,_,rfl,rfl,SqL.of hw2,aC (j:=7) rfl rfl,kq _ (Same.refl _)⟩
      | 2,hx,hy =>
        cases hx; cases hy
        exact ⟨rfl,_,rfl,_,rfl,wl,_,_,_,rfl,rfl,SqL.of hw2,aC (j:=9) rfl rfl,kq _ (Same.refl _)⟩
      | 3,hx,hy =>
        cases hx; cases hy
        exact ⟨rfl,_,rfl,_,rfl,wl,_,_,_,rfl,rfl,SqL.of hw2,aC (j:=11) rfl rfl,kq _ (Same.refl _)⟩
      | 4,hx,hy =>
        cases hx; cases hy
        exact ⟨rfl,_,rfl,_,rfl,wl,_,_,_,rfl,rfl,SqL.of hw2,aC (j:=13) rfl rfl,kq _ (Same.refl _)⟩
      | j + 5,hx,_=>cases hx
    · rintro H2 s2 hD2
      have t2:Same H H2:=(s1.trans st).trans s2
      obtain ⟨gn1,gn2⟩:=hS n (by simp)
      refine ⟨_,rfl,wl,_,_,_,rfl,rfl,SqL.of (t2 _ _ hw),aC (j:=1) rfl rfl,_,rfl,l,ns,n,rfl,gn1,gn2,R.same t2,by omega,fun H3 s3=>⟨_,rfl,?_⟩⟩
      have t3:=t2.trans s3
      cases cn:(Vbiraa.isName n && (Vbiraa.find ns n).isNone) with
      | false=>exact iteT (iteT (k0 (oO cn) H3 t3))
      | true =>
      refine iteF ⟨_,rfl,D,_,rfl,s3 _ _ hD2,rfl,sS,fun H4 s4=>⟨_,rfl,?_⟩⟩
      have t4:=t3.trans s4
      cases cm:fV [d,o,s',m,v] with
      | false=>exact iteT (k0 (oN cm) H4 t4)
      | true =>
      refine iteF ?_
      refine ⟨_,rfl,wl,_,_,_,rfl,rfl,SqL.of (t4 _ _ hw),aC (j:=3) rfl rfl,_,rfl,l,ns,p,rfl,R.same t4,fun H5 s5=>?_⟩
      have t5:=t4.trans s5
      refine ⟨_,rfl,rfl,_,rfl,?_⟩
      have ep:=xi ns p
      cases cp:fQ ns p with
      | none =>
        rw [cp] at ep
        rw [ep]
        exact iteT (k0 (ni cp) H5 t5)
      | some q =>
      rw [cp] at ep
      have ep:mL ns p=pInt q:=ep
      rw [ep]
      have e2:decide (V.int (pInt q)=V.int (-2))=false:=decide_eq_false fun z=>yK q (V.int.inj z)
      rw [e2]
      refine iteF ?_
      have hq:∀ i,q=some i→i < ns.length:=fun i e=>oI (by rw [cp,e])
      have hlast:=oP cn cm cp
      obtain ⟨a1,a2,a3,a4,a5⟩:=gK.mp cm
      obtain ⟨d',e1⟩:=Option.isSome_iff_exists.mp a1
      obtain ⟨o',e2⟩:=Option.isSome_iff_exists.mp a2
      obtain ⟨s'',e3⟩:=Option.isSome_iff_exists.mp a3
      obtain ⟨m',e4⟩:=Option.isSome_iff_exists.mp a4
      obtain ⟨v',e5⟩:=Option.isSome_iff_exists.mp a5
      have f1:=aT e1
      have f2:=aT e2
      have f3:=aT e3
      have f4:=aT e4
      have f5:=aT e5
      have hD5:=s5 _ _ (s4 _ _ (s3 _ _ hD2))
      refine ⟨_,rfl,wl,_,_,_,rfl,rfl,SqL.of (t5 _ _ hw),aC (j:=1) rfl rfl,_,rfl,_,rfl,D,rfl,⟨_,SqL.of hD5⟩,fun nl hnl=>?_⟩
      refine bX (xs:=b0 [d,o,s',m,v]) (ao [Vbiraa.value d,Vbiraa.value o,Vbiraa.value s',Vbiraa.value m,Vbiraa.value v]) rfl hnl (SqL.of hD5) (by show 5 < sizeLine; decide) ?_ ?_
      · have small:∀ {u:List Nat},iy u=true→(sOf u).length≤640:=fun {u} h=>by
          rw [cH]
          have:=(eA _).mp h
          simp only [not_or] at this
          omega
        rintro i x y H6 hx hy s6 Q' kq
        match i,hx,hy with
        | 0,hx,hy =>
          cases hx; cases hy
          exact ⟨rfl,_,rfl,_,_,rfl,lf f1.2.2.2,small f1.2.2.2,kq _ (Same.refl _)⟩
        | 1,hx,hy =>
          cases hx; cases hy
          exact ⟨rfl,_,rfl,_,_,rfl,lf f2.2.2.2,small f2.2.2.2,kq _ (Same.refl _)⟩
        | 2,hx,hy =>
          cases hx; cases hy
          exact ⟨rfl,_,rfl,_,_,rfl,lf f3.2.2.2,small f3.2.2.2,kq _ (Same.refl _)⟩
        | 3,hx,hy =>
          cases hx; cases hy
          exact ⟨rfl,_,rfl,_,_,rfl,lf f4.2.2.2,small f4.2.2.2,kq _ (Same.refl _)⟩
        | 4,hx,hy =>
          cases hx; cases hy
          exact ⟨rfl,_,rfl,_,_,rfl,lf f5.2.2.2,small f5.2.2.2,kq _ (Same.refl _)⟩
        | j + 5,hx,_=>cases hx
      · rintro H6 s6 hnl6
        have t6:=t5.trans s6
        refine ⟨_,rfl,l,nl,ns,sOf n,q,Vbiraa.value d,Vbiraa.value o,Vbiraa.value s',Vbiraa.value m,Vbiraa.value v,rfl,hnl6,R.same t6,hq,fun H7 x s7 hx hx7=>?_⟩
        have t7:=t6.trans s7
        have fx:H x=none:=t6.free hx
        refine ⟨_,rfl,_,rfl,x,l,ns,sOf n,q,_,_,_,_,_,_,_,rfl,hx7,R.same t7,by omega,fun H8 s8=>⟨_,rfl,?_⟩⟩
        have t8:=t7.trans s8
        cases cg:fitR ns q (dpOf ns q) (Vbiraa.value v) with
        | false =>
          rw [cg,if_neg Bool.false_ne_true] at hlast
          exact iteT (k0 hlast H8 t8)
        | true =>
          rw [cg,if_pos rfl] at hlast
          refine iteF ⟨_,rfl,k1 _ hlast H8 x t8 fx ?_⟩
          obtain ⟨dx,hdx⟩:=hx7
          refine ⟨dx,(s8 _ _ hdx).trans ?_⟩
          have hp:∀ i,(newR q n d o s' m v).parent=some i→i < ns.length:=fun i e=>hq i e
          have ea:=wt hwf.par hp
          have ed:=oW hwf.par hp
          unfold rf
          rw [cz,ea,ed]
          cases q <;> rfl
end
end CN
namespace CN
open PySem PySem.Spec PyProof.Rows L2
def wayQ (ns:Vbiraa.Net):Option Nat→List Nat
  | none=>[]
  | some j=>Vbiraa.way ns j
theorem ve {ns:Vbiraa.Net} (hp:Par ns) {j:Nat} (hj:j < ns.length):Vbiraa.way ns j=wayQ ns (Vbiraa.reachAt ns j).parent++[j]:=by
  rw [df hp hj]
  cases (Vbiraa.reachAt ns j).parent <;> rfl
section
variable {P:Program} {w:World} {K:PySem.W.Frag} {mg:Str→Option Value} {base:Heap}
def spWay (C:Addr):Sp:=fun vs H Q _=>∃ (l:Addr) (ns:Vbiraa.Net) (i:Nat),vs=[.ref l,.int i]∧RsAt C H l ns∧WF ns∧i < ns.length∧NewL H Q (ao (Vbiraa.way ns i))
theorem kZ (T:Txt K mg):FnOk P w K mg base CX0 1 T.way_to.f T.way_to.fd ["reaches", "i"] (spWay T.a_Reach):=by
  refine T.way_to.F.ok iM (fun vs H Q E h=>?_) (fun cdv A outer s H vs Q E hr h=>?_)
  · obtain ⟨l,ns,i,rfl,_⟩:=h
    rfl
  · obtain ⟨l,ns,i,rfl,R,hwf,hi,k⟩:=h
    refine ⟨_,(ae (aw (i:=2) iM.nd rfl (by first | exact Or.inl rfl | exact Or.inr rfl) (aE ad))
      (ae (aw (i:=3) iM.nd rfl (by first | exact Or.inl rfl | exact Or.inr rfl) (pv 1))
      (ae (j1 PassesOwn.never (aM j5 (pv 3) (a8 T.c_SOURCE) (aP _))
      (ae (bU (fo PySem.F.plainAttrs_list PySem.F.slot_list_append PySem.F.type_list_append cM (pv 2) (aa (pv 3) ad)))
      (ag (aw (i:=3) iM.nd rfl (by first | exact Or.inl rfl | exact Or.inr rfl) (am (K:=K) (ay (ak (K:=K)) (pv 0) (pv 3) (fun _ _=>rfl)) rfl)))))
      (ag (au (lz rfl (by rfl) T.n_list gR (by rfl) T.n_reversed (pv 2))))))),?_⟩
    refine ⟨Nat.zero_le _,fun ul hul=>⟨_,rfl,?_⟩⟩
    have hdeep:=hwf.deep i hi
    unfold depth at hdeep
    refine jR (fun σ H'=>Same H H'∧∃ (U:List Nat) (q:Option Nat),H' ul=some (.lst (ao U))∧Vbiraa.way ns i=wayQ ns q++U.reverse∧(∀ j,q=some j→j < ns.length)∧σ=[some (.ref l),some (.int i),some (.ref ul),some (.int (pInt q))])
      (fun σ _=>match σ with | [_,_,_,some (.int z)]=>(z + 1).toNat | _=>0) ⟨ah hul,[],some i,ac,by simp [wayQ],fun j e=>by cases e; exact hi,rfl⟩ ?_ ?_
    · rintro σ H' ⟨sm,U,q,hU,hw,hq,rfl⟩
      refine ⟨_,rfl,rfl,_,rfl,?_⟩
      cases q with
      | none =>
        refine iteF ?_
        refine ⟨_,rfl,ul,_,rfl,SqL.of hU,fun p hp=>?_⟩
        have hw:Vbiraa.way ns i=U.reverse:=hw
        refine k _ p (aQ sm (sm.free hp)) (sm.free hp) ?_
        rw [ac,hw]
        unfold ao
        rw [List.map_reverse]
      | some j =>
        have hj:=hq j rfl
        have e:(!decide (V.int (pInt (some j))=V.int (-1)))=true:=by
          rw [Bool.not_eq_true',decide_eq_false_iff_not]
          intro z
          have z:((j:Nat):Int)=-1:=V.int.inj z
          omega
        rw [e]
        have hUl:U.length≤8:=by
          have:=congrArg List.length hw
          rw [List.length_append,List.length_reverse] at this
          omega
        obtain ⟨xs,a,da,h1,h2,h3,h4⟩:=(R.same sm).at_ hj
        obtain ⟨us,eus,_⟩:=R.ex
        have hne:l≠ul:=aq eus hul
        have hna:a≠ul:=bK h4 hU (by intro z; cases z)
        refine iteT ⟨_,rfl,.inl ⟨rfl,_,SqL.of hU⟩,_,rfl,ul,_,_,rfl,rfl,hU,aO (by rw [aB]; omega),?_⟩
        refine ⟨_,rfl,_,rfl,l,_,_,_,rfl,rfl,SqL.of (by rw [ai hne]; exact h1),aX h3,a,T.a_Reach,da,_,_,rfl,by rw [ai hna]; exact h4,T.cl_Reach,T.na_Reach_begins,cU,?_⟩
        refine ⟨⟨aQ sm hul,U++[j],(Vbiraa.reachAt ns j).parent,?_,?_,?_,rfl⟩,?_⟩
        · rw [ac,←gk]
          rfl
        · rw [hw]
          show Vbiraa.way ns j++U.reverse=_
          rw [ve hwf.par hj,List.reverse_append,List.append_assoc]
          rfl
        · intro p hp
          have:=hwf.par j p hj hp
          omega
        · show (pInt (Vbiraa.reachAt ns j).parent + 1).toNat < ((j:Int) + 1).toNat
          cases e:(Vbiraa.reachAt ns j).parent with
          | none =>
            simp only [pInt]
            omega
          | some p =>
            have:=hwf.par j p hj e
            simp only [pInt]
            omega
    · intro σ H Q Q' m h
      obtain ⟨v,e1,e2,b,e3,h⟩:=h
      exact ⟨v,e1,e2,b,e3,m _ _ h⟩
theorem vU {K:PySem.W.Frag} {a:Addr} {xs:List V} {g:TG} {tb:TS} {D:Ends} {σ:L2.St} {H:Hp} (Pv:Nat→L2.St→Hp→Prop) (h0:Pv 0 σ H) (hl:∀ i σ H,i≤xs.length→Pv i σ H→SqL K H a xs)
    (hs:∀ (i:Nat) (x:V) (σ:L2.St) (H:Hp) (T:Addr),xs[i]?=some x→Pv i σ H→H T=none→g (.ref T) σ (upd H T (.tup [.int ((i + 1:Nat):Int),x])) fun σ2 H2=>tb { D with nx:=Pv (i + 1),ct:=Pv (i + 1),bk:=D.nx } σ2 H2) (hd:∀ σ H,Pv xs.length σ H→D.nx σ H) :
    ∃ W:Nat→Nat→L2.St→Hp→Prop,(∃ m,W 0 m σ H)∧∀ i m σ H,W i m σ H →
      ((Ite1 K a).stop i H∧D.nx σ H)∨((Ite1 K a).go i H∧∃ N:L2.St→Hp→Prop,(∀ σ' H',N σ' H'→∃ m',m' < m∧W (i + 1) m' σ' H')∧∀ x H',(Ite1 K a).yld i H x H'→g x σ H' fun σ2 H2=>tb { D with nx:=N,ct:=N,bk:=D.nx } σ2 H2):=by
  refine ⟨fun i m σ H=>m=xs.length - i∧i≤xs.length∧Pv i σ H,⟨xs.length,by simp,Nat.zero_le _,h0⟩,?_⟩
  rintro i m σ H ⟨rfl,hi,p⟩
  have q:=hl i σ H hi p
  by_cases hlt:i < xs.length
  · refine .inr ⟨⟨xs,xs[i],q,by simp [hlt]⟩,Pv (i + 1),fun σ' H' p'=>⟨xs.length - (i + 1),by omega,rfl,hlt,p'⟩,fun v H' y=>?_⟩
    obtain ⟨T,x,e1,e2,e3,y⟩:=y
    subst e1 e3
    exact hs i x σ H T (y xs q) p e2
  · have e:i=xs.length:=by omega
    subst e
    exact .inl ⟨⟨xs,q,Nat.le_refl _⟩,hd σ H p⟩
def i8:Vbiraa.Net→List (List Nat)→Option Vbiraa.Net
  | ns,[]=>some ns
  | ns,l :: r=>if (Vbiraa.wordsOf l).isEmpty=true then i8 ns r else (Vbiraa.lineOf ns (Vbiraa.wordsOf l)).bind fun x=>i8 x r
theorem i9 (i:Nat) (ns:Vbiraa.Net) (l:List Nat) (r:List (List Nat)):Vbiraa.readFrom i ns (l :: r)=if (Vbiraa.wordsOf l).isEmpty=true then Vbiraa.readFrom (i + 1) ns r else match Vbiraa.lineOf ns (Vbiraa.wordsOf l) with
    | some x=>Vbiraa.readFrom (i + 1) x r
    | none=>.error i:=rfl
theorem fj:∀ (ls:List (List Nat)) (k:Nat) (i:Nat) (ns ms:Vbiraa.Net),i8 ns (ls.take k)=some ms→Vbiraa.readFrom i ns ls=Vbiraa.readFrom (i + (ls.take k).length) ms (ls.drop k)
  | ls,0,i,ns,ms,h=>by
    have:ns=ms:=Option.some.inj h
    subst this
    rfl
  | [],k + 1,i,ns,ms,h=>by
    have:ns=ms:=Option.some.inj h
    subst this
    rfl
  | l :: r,k + 1,i,ns,ms,h=>by
    rw [List.take_succ_cons] at h ⊢
    rw [List.drop_succ_cons]
    unfold i8 at h
    rw [i9]
    by_cases c:(Vbiraa.wordsOf l).isEmpty=true
    · rw [if_pos c] at h ⊢
      rw [fj r k (i + 1) ns ms h,List.length_cons,show i + 1 + (r.take k).length=i + ((r.take k).length + 1) by omega]
    · rw [if_neg c] at h ⊢
      cases e:Vbiraa.lineOf ns (Vbiraa.wordsOf l) with
      | none =>
        rw [e] at h
        cases h
      | some x =>
        rw [e] at h
        show Vbiraa.readFrom (i + 1) x r=_
        rw [fj r k (i + 1) x ms h,List.length_cons,show i + 1 + (r.take k).length=i + ((r.take k).length + 1) by omega]
theorem jz:∀ (ls:List (List Nat)) (l:List Nat) (ns ms:Vbiraa.Net),i8 ns ls=some ms→i8 ns (ls++[l])=(if (Vbiraa.wordsOf l).isEmpty=true then some ms else Vbiraa.lineOf ms (Vbiraa.wordsOf l))
  | [],l,ns,ms,h=>by
    have:ns=ms:=Option.some.inj h
    subst this
    show i8 ns [l]=_
    unfold i8
    split
    · rfl
    · cases Vbiraa.lineOf ns (Vbiraa.wordsOf l) <;> rfl
  | x :: ls,l,ns,ms,h=>by
    rw [List.cons_append]
    unfold i8 at h ⊢
    split
    · rename_i c
      rw [if_pos c] at h
      exact jz ls l ns ms h
    · rename_i c
      rw [if_neg c] at h
      cases e:Vbiraa.lineOf ns (Vbiraa.wordsOf x) with
      | none =>
        rw [e] at h
        cases h
      | some y =>
        rw [e] at h
        exact jz ls l y ms h
theorem oQ {ns ns2:Vbiraa.Net} {ws:List (List Nat)} (hwf:WF ns) (h:Vbiraa.lineOf ns ws=some ns2):WF ns2∧∃ r,ns2=ns++[r]:=by
  cases cf:dR ws with
  | false =>
    rw [uR cf] at h
    cases h
  | true =>
    obtain ⟨n,p,d,o,s,m,v,rfl⟩:=nv cf
    cases cn:(Vbiraa.isName n && (Vbiraa.find ns n).isNone) with
    | false =>
      rw [oO cn] at h
      cases h
    | true =>
    cases cm:fV [d,o,s,m,v] with
    | false =>
      rw [oN cm] at h
      cases h
    | true =>
    cases cp:fQ ns p with
    | none =>
      rw [ni cp] at h
      cases h
    | some q =>
    rw [oP cn cm cp] at h
    by_cases cg:fitR ns q (dpOf ns q) (Vbiraa.value v)=true
    · rw [if_pos cg] at h
      have e:=(Option.some.inj h).symm
      subst e
      obtain ⟨a1,a2,a3,a4,a5⟩:=gK.mp cm
      obtain ⟨d',e1⟩:=Option.isSome_iff_exists.mp a1
      obtain ⟨o',e2⟩:=Option.isSome_iff_exists.mp a2
      obtain ⟨s'',e3⟩:=Option.isSome_iff_exists.mp a3
      obtain ⟨m',e4⟩:=Option.isSome_iff_exists.mp a4
      obtain ⟨v',e5⟩:=Option.isSome_iff_exists.mp a5
      have f1:=aT e1
      have f2:=aT e2
      have f3:=aT e3
      have f4:=aT e4
      have f5:=aT e5
      have f1e:=f1.1
      have f2e:=f2.1
      have f3e:=f3.1
      have f4e:=f4.1
      have f5e:=f5.1
      subst f1e f2e f3e f4e f5e
      unfold fitR at cg
      simp only [Bool.and_eq_true,decide_eq_true_eq] at cg cn
      refine ⟨yg hwf (fun i e=>oI (by rw [cp]; exact congrArg some e)) (uD cn.1) ?_ ⟨f1.2.2.1,f2.2.2.1,f3.2.2.1,f4.2.1,f4.2.2.1,f5.2.2.1⟩ cg.1 cg.2.2 (xA cn.1),_,rfl⟩
      have h3:=cg.2.1
      show (match q with | none=>1 | some i=>depth ns i + 1)≤8
      cases q <;> exact h3
    · rw [if_neg cg] at h
      cases h
theorem RsAt.snoc {C l x:Addr} {H H':Hp} {ns:Vbiraa.Net} {r:Vbiraa.Reach} {xs:List V} (R:RsAt C H l ns) (hl:H l=some (.lst xs)) (hp:Par ns) (sm:∀ b o,H b=some o→b≠l→H' b=some o) (hx:RObj C H' x (rf (ns++[r]) ns.length)) (hl':H' l=some (.lst (xs++[.ref x]))):RsAt C H' l (ns++[r]):=by
  obtain ⟨as,h1,h2,h3⟩:=R.ex
  have e:xs=as.map V.ref:=by
    rw [h1] at hl
    cases hl
    rfl
  subst e
  refine ⟨as++[x],by rw [hl',List.map_append]; rfl,by rw [List.length_append,List.length_append,h2]; rfl,fun i a e=>?_⟩
  by_cases hi:i < as.length
  · rw [List.getElem?_append_left hi] at e
    obtain ⟨dx,hd⟩:=h3 i a e
    refine ⟨dx,?_⟩
    have hne:a≠l:=bK hd h1 (by intro z; cases z)
    rw [sm _ _ hd hne]
    have hin:i < ns.length:=by omega
    unfold rf
    rw [bD hin,nS hp hin,jG hp hin]
  · rw [List.getElem?_append_right (by omega)] at e
    cases z:i - as.length with
    | zero =>
      rw [z] at e
      have e1:x=a:=Option.some.inj e
      subst e1
      have:i=ns.length:=by omega
      subst this
      exact hx
    | succ m =>
      rw [z] at e
      cases e
end
end CN
namespace CN
open PySem PySem.Spec PyProof.Rows L2
def su (l:Addr) (H H':Hp):Prop:=∀ b o,H b=some o→b≠l→H' b=some o
theorem su.trans {l:Addr} {H H1 H2:Hp} (a:su l H H1) (b:Same H1 H2):su l H H2:=fun c o h n=>b c o (a c o h n)
section
variable {P:Program} {w:World} {K:PySem.W.Frag} {mg:Str→Option Value} {base:Heap}
def spNet (C:Addr):Sp:=fun vs H Q _=>∃ (tl:Addr) (bs:List Nat),vs=[.ref tl]∧H tl=some (.lst (ao bs))∧bs.length≤4000 ∧
  (∀ i,Vbiraa.readNet bs=.error i→∀ (H':Hp) (p e:Addr),Same H H'→H' p=some (.tup [.ref e,.int (i:Nat)])→H' e=some (.lst [])→Q (.ref p) H') ∧
  ∀ ns,Vbiraa.readNet bs=.ok ns→∀ (H':Hp) (p l:Addr),Same H H'→H' p=some (.tup [.ref l,.int 0])→RsAt C H' l ns→WF ns→ns≠[]→H l=none→Q (.ref p) H'
theorem q0 (T:Txt K mg):FnOk P w K mg base CX0 5 T.read_net.f T.read_net.fd ["text"] (spNet T.a_Reach):=by
  refine T.read_net.F.ok cw (fun vs H Q E h=>?_) (fun cdv A outer s H vs Q E hr h=>?_)
  · obtain ⟨tl,bs,rfl,_⟩:=h
    rfl
  · obtain ⟨tl,bs,rfl,ht,hn,ke,ko⟩:=h
    refine ⟨_,(ae (aw (i:=1) cw.nd rfl (by first | exact Or.inl rfl | exact Or.inr rfl) (aE ad))
      (ae (aw (i:=2) cw.nd rfl (by first | exact Or.inl rfl | exact Or.inr rfl) (aD T.lines_of (rd T) (hr.mono (by decide)) uf (aa (pv 0) ad)))
      (ae (bS PassesOwn.never rfl (xj rfl T.n_enumerate (aa (pv 2) ad)) (dO (K:=K) (n:=2) rfl (bd (aJ (i:=3) cw.nd rfl (by first | exact Or.inl rfl | exact Or.inr rfl)) (bd (aJ (i:=4) cw.nd rfl (by first | exact Or.inl rfl | exact Or.inr rfl)) dN)))
      (ae (aw (i:=5) cw.nd rfl (by first | exact Or.inl rfl | exact Or.inr rfl) (aD T.words_of (qY T) (hr.mono (by decide)) ua (aa (pv 4) ad)))
      (ag (aU (aM j6 (aF (ax (K:=K)) (by rfl) T.n_len PySem.boot_len (aa (pv 5) ad)) af (aP _))
      (ae (aw (i:=6) cw.nd rfl (by first | exact Or.inl rfl | exact Or.inr rfl) (aD T.read_reach (nW T) (hr.mono (by decide)) qg (aa (pv 5) (aa (pv 1) ad))))
      (ae (aU (aM xp (pv 6) fR (aP _))
      (ag (au (gI (aa (aE ad) (aa (pv 3) ad)))))
      aI)
      (ag (bU (fo PySem.F.plainAttrs_list PySem.F.slot_list_append PySem.F.type_list_append cM (pv 1) (aa (pv 6) ad))))))
      aI))))
      (ae (aU (aM du (aF (ax (K:=K)) (by rfl) T.n_len PySem.boot_len (aa (pv 1) ad)) af (aP _))
      (ag (au (gI (aa (aE ad) (aa (aG bu (aF (ax (K:=K)) (by rfl) T.n_len PySem.boot_len (aa (pv 2) ad)) af) ad)))))
      aI)
      (ag (au (gI (aa (pv 1) (aa af ad))))))))),?_⟩
    refine ⟨Nat.zero_le _,fun rl hrl=>?_⟩
    have s0:Same H (upd H rl (.lst [])):=ah hrl
    refine ⟨_,rfl,tl,bs,rfl,s0 _ _ ht,by omega,fun H1 lp s1 hls=>?_⟩
    obtain ⟨as,g1,g2,g3,g4⟩:=hls
    have hlc:=rD bs
    have nlr:lp≠rl:=(aq ac g3).symm
    refine ⟨_,rfl,lp,_,rfl,SqL.of g1,vU (K:=K) (a:=lp) (xs:=as.map V.ref)
      (fun j σ H'=>su rl H1 H'∧∃ (ns:Vbiraa.Net) (v1 v2 v3 v4:Option V),i8 [] ((Vbiraa.linesOf bs).take j)=some ns∧WF ns∧RsAt T.a_Reach H' rl ns∧σ=[some (.ref tl),some (.ref rl),some (.ref lp),v1,v2,v3,v4])
      ⟨fun b o e _=>e,[],none,none,none,none,rfl,sw,⟨[],s1 _ _ ac,rfl,fun i a e=>by cases e⟩,rfl⟩ ?_ ?_ ?_⟩
    · rintro j σ H' _ ⟨sm,_⟩
      exact SqL.of (sm _ _ g1 nlr)
    · rintro j x σ H' t hx ⟨sm,ns,v1,v2,v3,v4,hk,hwf,R,rfl⟩ htt
      obtain ⟨a,ha,rfl⟩:∃ a,as[j]?=some a∧V.ref a=x:=by
        rw [List.getElem?_map] at hx
        exact Option.map_eq_some_iff.mp hx
      have hjl:j < (Vbiraa.linesOf bs).length:=by
        rw [←g2.1]
        exact (List.getElem?_eq_some_iff.mp ha).1
      obtain ⟨ln,hln⟩:∃ ln,(Vbiraa.linesOf bs)[j]?=some ln:=⟨_,List.getElem?_eq_getElem hjl⟩
      have hlen:=vI (List.mem_of_getElem? hln)
      have hna:a≠rl:=fun q=>by
        have:=g4 a (List.mem_of_getElem? ha)
        rw [q,ac] at this
        cases this
      have ha':=sm _ _ (g2.2 j a ln ha hln) hna
      have st:Same H' (upd H' t (.tup [.int ((j + 1:Nat):Int),V.ref a])):=ah htt
      have hsnoc:=jz ((Vbiraa.linesOf bs).take j) ln [] ns hk
      rw [←bJ hln] at hsnoc
      have hread:Vbiraa.readNet bs=Vbiraa.readFrom (1 + j) ns (ln :: (Vbiraa.linesOf bs).drop (j + 1)):=by
        unfold Vbiraa.readNet
        rw [fj _ j 1 [] ns hk,List.length_take,Nat.min_eq_left (by omega),List.drop_eq_getElem_cons hjl]
        congr 1
        rw [List.getElem?_eq_getElem hjl] at hln
        rw [Option.some.inj hln]
      refine ⟨t,_,rfl,SqT.of ac,rfl,_,_,rfl,_,_,rfl,rfl,?_⟩
      refine ⟨_,rfl,a,ln,rfl,st _ _ ha',by omega,fun H2 wl s2 hwl hwl2=>?_⟩
      have t2:Same H' H2:=st.trans s2
      refine ⟨_,rfl,wl,_,rfl,.inl (SqL.of hwl2),_,_,rfl,rfl,_,rfl,?_⟩
      have e0:decide ((0:Int) < ((b0 (sgs (Vbiraa.wordsOf ln))).length:Int))=!(Vbiraa.wordsOf ln).isEmpty:=by
        rw [gb,uq]
        cases Vbiraa.wordsOf ln <;> simp
      rw [e0]
      cases ce:(Vbiraa.wordsOf ln).isEmpty with
      | true =>
        rw [ce,if_pos rfl] at hsnoc
        exact iteF ⟨sm.trans t2,ns,_,_,_,_,hsnoc,hwf,R.same t2,rfl⟩
      | false =>
        rw [ce,if_neg Bool.false_ne_true] at hsnoc
        rw [i9,ce,if_neg Bool.false_ne_true] at hread
        refine iteT ?_
        have hline:Vbiraa.lineOf ns (sgs (Vbiraa.wordsOf ln))=Vbiraa.lineOf ns (Vbiraa.wordsOf ln):=yU hwf.names _
        refine ⟨_,rfl,_,rfl,wl,rl,ns,sgs (Vbiraa.wordsOf ln),rfl,hwl2,?_,R.same t2,hwf,?_,?_⟩
        · intro u hu
          unfold sgs at hu
          obtain ⟨v,hv,rfl⟩:=List.mem_map.mp hu
          refine ⟨sg_Sg v,?_⟩
          rw [List.length_map]
          have:=vb hv
          omega
        · intro hno H3 s3
          rw [hline] at hno
          rw [hno] at hread
          have t3:=t2.trans s3
          refine ⟨_,rfl,rfl,_,rfl,iteT ?_⟩
          refine ⟨Nat.zero_le _,fun e he=>⟨_,rfl,(by show 2≤sizeLine; decide),fun p hp=>?_⟩⟩
          have t4:Same H3 (upd H3 e (.lst [])):=ah he
          have t5:=ah (o:=.tup [.ref e,.int ((j + 1:Nat):Int)]) hp
          refine ke (1 + j) hread _ p e ?_ ?_ (t5 _ _ ac)
          · have z:su rl H1 (upd (upd H3 e (.lst [])) p (.tup [.ref e,.int ((j + 1:Nat):Int)])):=sm.trans ((t3.trans t4).trans t5)
            exact fun b o q=>z b o (s1 _ _ (s0 _ _ q)) (aq q hrl)
          · rw [show 1 + j=j + 1 by omega]
            exact ac
        · intro ns2 hyes H3 x s3 hx hx3
          rw [hline] at hyes
          rw [hyes] at hsnoc
          have t3:=t2.trans s3
          obtain ⟨hwf2,r,rfl⟩:=oQ hwf hyes
          obtain ⟨dx,hdx⟩:=hx3
          refine ⟨_,rfl,rfl,_,rfl,?_⟩
          refine iteF ?_
          have R3:=R.same t3
          obtain ⟨xs,h1,h2,_⟩:=R3.list
          have hlen30:=hwf.len
          refine ⟨_,rfl,.inl ⟨rfl,_,SqL.of h1⟩,_,rfl,rl,_,_,rfl,rfl,h1,aO (by omega),?_⟩
          have hxr:x≠rl:=bK hdx h1 (by intro z; cases z)
          refine ⟨?_,ns++[r],_,_,_,_,hsnoc,hwf2,?_,rfl⟩
          · intro b o q nb
            rw [ai nb]
            exact (sm.trans t3) b o q nb
          · exact R3.snoc h1 hwf.par (fun b o q nb=>by rw [ai nb]; exact q) ⟨dx,by rw [ai hxr]; exact hdx⟩ ac
    · rintro σ H' ⟨sm,ns,v1,v2,v3,v4,hk,hwf,R,rfl⟩
      rw [List.length_map,g2.1,List.take_length] at hk
      have hread:Vbiraa.readNet bs=Vbiraa.readFrom (1 + (Vbiraa.linesOf bs).length) ns []:=by
        unfold Vbiraa.readNet
        rw [fj _ (Vbiraa.linesOf bs).length 1 [] ns (by rw [List.take_length]; exact hk),List.take_length,List.drop_length]
      have smH:Same H H':=fun b o q=>sm b o (s1 _ _ (s0 _ _ q)) (aq q hrl)
      obtain ⟨xs,h1,h2,_⟩:=R.list
      refine ⟨_,rfl,rl,_,rfl,.inl (SqL.of h1),rfl,_,rfl,?_⟩
      have e0:decide (V.int ((xs.length:Nat):Int)=V.int 0)=ns.isEmpty:=by
        rw [show (V.int 0)=V.int ((0:Nat):Int) from rfl,cX,h2]
        cases ns <;> simp
      rw [e0]
      cases cn:ns.isEmpty with
      | true =>
        have hread:Vbiraa.readNet bs=.error (1 + (Vbiraa.linesOf bs).length):=by
          rw [hread]
          unfold Vbiraa.readFrom
          rw [cn,if_pos rfl]
        refine iteT ⟨Nat.zero_le _,fun e he=>?_⟩
        have t4:Same H' (upd H' e (.lst [])):=ah he
        have g1':=sm _ _ g1 nlr
        refine ⟨_,rfl,lp,_,rfl,.inl (SqL.of (t4 _ _ g1')),_,_,rfl,rfl,(by show 2≤sizeLine; decide),fun p hp=>?_⟩
        have t5:=ah (o:=.tup [.ref e,.int (((as.map V.ref).length:Int) + 1)]) hp
        refine ke _ hread _ p e ((smH.trans t4).trans t5) ?_ (t5 _ _ ac)
        rw [←g2.1,show ((1 + as.length:Nat):Int)=((as.map V.ref).length:Int) + 1 by rw [List.length_map]; omega]
        exact ac
      | false =>
        have hread:Vbiraa.readNet bs=.ok ns:=by
          rw [hread]
          unfold Vbiraa.readFrom
          rw [cn,if_neg Bool.false_ne_true]
        refine iteF ⟨_,rfl,(by show 2≤sizeLine; decide),fun p hp=>?_⟩
        have t5:=ah (o:=.tup [.ref rl,.int 0]) hp
        refine ko ns hread _ p rl (smH.trans t5) ac (R.same t5) hwf ?_ hrl
        intro z
        rw [z] at cn
        cases cn
end
end CN
namespace CN
open PySem PySem.Spec PyProof.Rows L2
def nf (l wl sl:Addr):List (Str × V):=[("reaches",.ref l),("waters",.ref wl),("settings",.ref sl)]
theorem aH {l wl sl:Addr}:(nf l wl sl).lookup ("reaches" : Str)=some (.ref l):=by rfl
theorem dJ {l wl sl:Addr}:(nf l wl sl).lookup ("waters" : Str)=some (.ref wl):=by rfl
theorem c8 {l wl sl:Addr}:(nf l wl sl).lookup ("settings" : Str)=some (.ref sl):=by rfl
def waters (h:Vbiraa.House):List Nat:=if h.net.isEmpty=true then [] else (List.range 60).map (Vbiraa.letAt h)
structure bB (CR CN:Addr) (H:Hp) (n:Addr) (h:Vbiraa.House) (dn l wl sl:Addr):Prop where
  obj:H n=some (.ins CN dn (nf l wl sl))
  rs:RsAt CR H l h.net
  ws:H wl=some (.lst (ao (waters h)))
  ss:fY H sl h.settings
theorem bB.same {CR CN n dn l wl sl:Addr} {H H':Hp} {h:Vbiraa.House} (N:bB CR CN H n h dn l wl sl) (s:Same H H'):bB CR CN H' n h dn l wl sl:=⟨s _ _ N.obj,N.rs.same s,s _ _ N.ws,N.ss.same s⟩
def yd (h:Vbiraa.House):Prop:=∀ i t,i < h.net.length→Vbiraa.partAt h i t≤100
theorem y9 {K:PySem.W.Frag} {a:Addr} {xs:List V} {g:TG} {tb:TS} {D:Ends} {σ:L2.St} {H:Hp} (Pv:Nat→L2.St→Hp→Prop) (h0:Pv 0 σ H) (hl:∀ i σ H,i≤xs.length→Pv i σ H→SqL K H a xs)
    (hs:∀ (i:Nat) (x:V) (σ:L2.St) (H:Hp),xs.reverse[i]?=some x→Pv i σ H→g x σ H fun σ2 H2=>tb { D with nx:=Pv (i + 1),ct:=Pv (i + 1),bk:=D.nx } σ2 H2) (hd:∀ σ H,Pv xs.length σ H→D.nx σ H) :
    ∃ W:Nat→Nat→L2.St→Hp→Prop,(∃ m,W 0 m σ H)∧∀ i m σ H,W i m σ H →
      ((Itv K a xs.length).stop i H∧D.nx σ H)∨((Itv K a xs.length).go i H∧∃ N:L2.St→Hp→Prop,(∀ σ' H',N σ' H'→∃ m',m' < m∧W (i + 1) m' σ' H')∧∀ x H',(Itv K a xs.length).yld i H x H'→g x σ H' fun σ2 H2=>tb { D with nx:=N,ct:=N,bk:=D.nx } σ2 H2):=by
  refine ⟨fun i m σ H=>m=xs.length - i∧i≤xs.length∧Pv i σ H,⟨xs.length,by simp,Nat.zero_le _,h0⟩,?_⟩
  rintro i m σ H ⟨rfl,hi,p⟩
  have q:=hl i σ H hi p
  by_cases hlt:i < xs.length
  · refine .inr ⟨⟨hlt,xs,xs[xs.length - 1 - i],q,List.getElem?_eq_getElem (by omega)⟩,Pv (i + 1),fun σ' H' p'=>⟨xs.length - (i + 1),by omega,rfl,hlt,p'⟩,fun x H' y=>?_⟩
    obtain ⟨e,y⟩:=y
    subst e
    exact hs i x σ _ (by rw [List.getElem?_reverse hlt]; exact y xs q) p
  · have e:i=xs.length:=by omega
    subst e
    exact .inl ⟨Nat.le_refl _,hd σ H p⟩
def qV (q:Vbiraa.Q):List V:=[.int (q.n:Nat),.int (q.d:Nat)]
structure FrAt (H:Hp) (l:Addr) (qs:List Vbiraa.Q):Prop where
  ex:∃ as:List Addr,H l=some (.lst (as.map V.ref))∧as.length=qs.length∧∀ (i:Nat) (a:Addr) (q:Vbiraa.Q),as[i]?=some a→qs[i]?=some q→H a=some (.lst (qV q))
theorem FrAt.same {l:Addr} {H H':Hp} {qs:List Vbiraa.Q} (R:FrAt H l qs) (s:Same H H'):FrAt H' l qs:=by
  obtain ⟨as,h1,h2,h3⟩:=R.ex
  exact ⟨as,s _ _ h1,h2,fun i a x e e'=>s _ _ (h3 i a x e e')⟩
theorem FrAt.at_ {l:Addr} {H:Hp} {qs:List Vbiraa.Q} (R:FrAt H l qs) {i:Nat} {q:Vbiraa.Q} (hr:qs[i]?=some q):∃ (xs:List V) (a:Addr),H l=some (.lst xs)∧xs.length=qs.length∧xs[i]?=some (.ref a)∧H a=some (.lst (qV q)):=by
  obtain ⟨as,h1,h2,h3⟩:=R.ex
  have hi:i < qs.length:=(List.getElem?_eq_some_iff.mp hr).1
  obtain ⟨a,ha⟩:∃ a,as[i]?=some a:=⟨_,List.getElem?_eq_getElem (by omega)⟩
  exact ⟨_,a,h1,by rw [List.length_map]; exact h2,by rw [List.getElem?_map,ha]; rfl,h3 i a q ha hr⟩
theorem x8 {n:Nat} (h:n≤10 ^ 80):((n:Nat):Int).natAbs < 2 ^ 1000:=by
  rw [Int.natAbs_natCast]
  exact Nat.lt_of_le_of_lt h (by decide)
theorem big2 {a b:Nat} (h1:a≤10 ^ 80) (h2:b≤10 ^ 80):pz (a:Nat) (b:Nat):=⟨x8 h1,x8 h2⟩
section
variable {P:Program} {w:World} {K:PySem.W.Frag} {mg:Str→Option Value} {base:Heap}
def spGcd:Sp:=fun vs H Q _=>∃ a b:Nat,vs=[.int a,.int b]∧Q (.int (Nat.gcd a b)) H
theorem j8 (T:Txt K mg):FnOk P w K mg base CX0 1 T.common_divisor.f T.common_divisor.fd ["a", "b"] spGcd:=by
  refine T.common_divisor.F.ok bo (fun vs H Q E h=>?_) (fun cdv A outer s H vs Q E hr h=>?_)
  · obtain ⟨a,b,rfl,_⟩:=h
    rfl
  · obtain ⟨a,b,rfl,k⟩:=h
    refine ⟨_,(ae (aw (i:=2) bo.nd rfl (by first | exact Or.inl rfl | exact Or.inr rfl) (pv 0))
      (ae (aw (i:=3) bo.nd rfl (by first | exact Or.inl rfl | exact Or.inr rfl) (pv 1))
      (ae (j1 PassesOwn.never (aM j6 (pv 3) af (aP _))
      (ae (aw (i:=4) bo.nd rfl (by first | exact Or.inl rfl | exact Or.inr rfl) (aG op_mod (pv 2) (pv 3)))
      (ae (aw (i:=2) bo.nd rfl (by first | exact Or.inl rfl | exact Or.inr rfl) (pv 3))
      (ag (aw (i:=3) bo.nd rfl (by first | exact Or.inl rfl | exact Or.inr rfl) (pv 4))))))
      (ag (au (pv 2)))))),?_⟩
    refine ⟨_,rfl,_,rfl,?_⟩
    refine jR (fun σ H'=>H'=H∧∃ (x y:Nat) (v:Option V),σ=[some (.int a),some (.int b),some (.int x),some (.int y),v]∧Nat.gcd x y=Nat.gcd a b)
      (fun σ _=>match σ with | [_,_,_,some (.int y),_]=>y.toNat | _=>0) ⟨rfl,a,b,none,rfl,rfl⟩ ?_ ?_
    · rintro σ H' ⟨rfl,x,y,v,rfl,e⟩
      refine ⟨_,rfl,_,_,rfl,rfl,_,rfl,ite2 (fun hy=>?_) (fun hy=>?_)⟩
      · have hy:(0:Int) < y:=of_decide_eq_true hy
        refine ⟨_,rfl,_,rfl,_,_,rfl,rfl,hy,_,rfl,_,rfl,?_⟩
        refine ⟨⟨rfl,y,x % y,some (.int ((x % y:Nat):Int)),rfl,?_⟩,?_⟩
        · rw [←e,Nat.gcd_comm x y,Nat.gcd_comm y (x % y),←Nat.gcd_rec]
        · show ((x:Int) % (y:Int)).toNat < (y:Int).toNat
          have:=Int.emod_lt_of_pos (x:Int) hy
          have:=Int.emod_nonneg (x:Int) (show (y:Int)≠0 by omega)
          omega
      · have hy:¬ (0:Int) < y:=fun z=>hy (decide_eq_true z)
        have y0:y=0:=by omega
        subst y0
        rw [Nat.gcd_zero_right] at e
        subst e
        exact ⟨_,rfl,k⟩
    · intro σ H Q Q' m h
      obtain ⟨v,e1,i,j,e2,e3,b,e4,h⟩:=h
      exact ⟨v,e1,i,j,e2,e3,b,e4,m _ _ h⟩
def spLow:Sp:=fun vs H Q _=>∃ a b:Nat,vs=[.int a,.int b]∧0 < b∧b < 2 ^ 1000∧NewL H Q (qV (Vbiraa.mk a b))
theorem gi (T:Txt K mg):FnOk P w K mg base CX0 2 T.lowest.f T.lowest.fd ["top", "bottom"] spLow:=by
  refine T.lowest.F.ok oF (fun vs H Q E h=>?_) (fun cdv A outer s H vs Q E hr h=>?_)
  · obtain ⟨a,b,rfl,_⟩:=h
    rfl
  · obtain ⟨a,b,rfl,hb,hB,k⟩:=h
    refine ⟨_,(ae (aw (i:=2) oF.nd rfl (by first | exact Or.inl rfl | exact Or.inr rfl) (aD T.common_divisor (j8 T) (hr.mono (by decide)) lr (aa (pv 0) (aa (pv 1) ad))))
      (ag (au (aE (aa (aG j7 (pv 0) (pv 2)) (aa (aG j7 (pv 1) (pv 2)) ad)))))),?_⟩
    have g0:0 < Nat.gcd a b:=Nat.gcd_pos_of_pos_right a hb
    have g1:Nat.gcd a b≤b:=Nat.gcd_le_right a hb
    have c:yf a (Nat.gcd a b:Nat):=by
      refine ⟨by omega,?_⟩
      have:((2 ^ 1000:Nat):Int)=2 ^ 1000:=by norm_cast
      omega
    refine ⟨_,rfl,_,rfl,a,b,rfl,?_⟩
    refine ⟨_,rfl,_,rfl,_,_,rfl,rfl,c,_,rfl,_,rfl,_,_,rfl,rfl,c,(by show 2≤sizeLine; decide),fun p hp=>?_⟩
    refine k _ p (ah hp) hp ?_
    rw [ac,gL hb]
    rfl
def yp:Sp:=fun vs H Q _=>∃ (l:Addr) (qs:List Vbiraa.Q),vs=[.ref l]∧FrAt H l qs∧(∀ q∈qs,Low q∧q.n≤100000 * q.d)∧qs.length≤30∧b8 qs≤100 ^ 31∧NewL H Q (qV (Vbiraa.sumQ qs))
theorem xq (T:Txt K mg):FnOk P w K mg base CX0 3 T.total.f T.total.fd ["fractions"] yp:=by
  refine T.total.F.ok gc (fun vs H Q E h=>?_) (fun cdv A outer s H vs Q E hr h=>?_)
  · obtain ⟨l,qs,rfl,_⟩:=h
    rfl
  · obtain ⟨l,qs,rfl,R,hq,hlen,hB,k⟩:=h
    refine ⟨_,(ae (aw (i:=1) gc.nd rfl (by first | exact Or.inl rfl | exact Or.inr rfl) af)
      (ae (aw (i:=2) gc.nd rfl (by first | exact Or.inl rfl | exact Or.inr rfl) af)
      (ae (bS PassesOwn.never rfl (bV (pv 0)) (aJ (i:=3) gc.nd rfl (by first | exact Or.inl rfl | exact Or.inr rfl))
      (ae (aw (i:=1) gc.nd rfl (by first | exact Or.inl rfl | exact Or.inr rfl) (aG bu (aG cW (pv 1) (ay (ak (K:=K)) (pv 3) af (fun _ _=>rfl))) (aG cW (ay (ak (K:=K)) (pv 3) af (fun _ _=>rfl)) (pv 2))))
      (ag (aw (i:=2) gc.nd rfl (by first | exact Or.inl rfl | exact Or.inr rfl) (aG cW (pv 2) (ay (ak (K:=K)) (pv 3) af (fun _ _=>rfl)))))))
      (ag (au (aD T.lowest (gi T) (hr.mono (by decide)) iJ (aa (pv 1) (aa (pv 2) ad)))))))),?_⟩
    obtain ⟨as,h1,h2,h3⟩:=R.ex
    have hlow:∀ q∈qs,Low q:=fun q hm=>(hq q hm).1
    have bnd:∀ j,(totN (qs.take j)).2=b8 (qs.take j)∧(totN (qs.take j)).2≤100 ^ 31∧0 < (totN (qs.take j)).2∧(totN (qs.take j)).1≤10 ^ 79:=fun j=>by
      obtain ⟨b1,b2,_⟩:=mq (M:=100000) (qs.take j) fun q hm=>hq q (List.mem_of_mem_take hm)
      have b3:=Nat.le_trans (sW hlow j) hB
      refine ⟨b1,by rw [b1]; exact b3,by rw [b1]; exact iT fun q hm=>hlow q (List.mem_of_mem_take hm),Nat.le_trans b2 ?_⟩
      have b4:(qs.take j).length≤30:=by
        rw [List.length_take]
        omega
      exact Nat.le_trans (Nat.mul_le_mul (Nat.mul_le_mul_left _ b4) b3) (by decide)
    refine ⟨_,rfl,l,rfl,⟨_,SqL.of h1⟩,fe (K:=K) (a:=l) (xs:=as.map V.ref)
      (fun j σ H'=>H'=H∧∃ v:Option V,σ=[some (.ref l),some (.int ((totN (qs.take j)).1:Nat)),some (.int ((totN (qs.take j)).2:Nat)),v]) ⟨rfl,none,rfl⟩ ?_ ?_ ?_⟩
    · rintro j σ H' _ ⟨rfl,_⟩
      exact SqL.of h1
    · rintro j y σ H' hj ⟨rfl,v,rfl⟩
      obtain ⟨b,hb,rfl⟩:∃ b,as[j]?=some b∧V.ref b=y:=by
        rw [List.getElem?_map] at hj
        exact Option.map_eq_some_iff.mp hj
      have hjl:j < qs.length:=by
        have:=(List.getElem?_eq_some_iff.mp hb).1
        omega
      obtain ⟨q,hqj⟩:∃ q,qs[j]?=some q:=⟨_,List.getElem?_eq_getElem hjl⟩
      have ht:=h3 j b q hb hqj
      have hm:=List.mem_of_getElem? hqj
      obtain ⟨c1,c2,c3,c4⟩:=bnd j
      obtain ⟨d1,d2,d3,d4⟩:=bnd (j + 1)
      have es:totN (qs.take (j + 1))=((totN (qs.take j)).1 * q.d + q.n * (totN (qs.take j)).2,(totN (qs.take j)).2 * q.d):=by
        rw [bJ hqj,oB]
      have qd:q.d≤100 ^ 31:=by
        rw [es] at d2
        exact Nat.le_trans (Nat.le_mul_of_pos_left _ c3) d2
      have qn:q.n≤10 ^ 79:=Nat.le_trans (hq q hm).2 (Nat.le_trans (Nat.mul_le_mul_left _ qd) (by decide))
      have x1:∀ {n:Nat},n≤100 ^ 31→n≤10 ^ 80:=fun h=>Nat.le_trans h (by decide)
      have x2:∀ {n:Nat},n≤10 ^ 79→n≤10 ^ 80:=fun h=>Nat.le_trans h (by decide)
      rw [es]
      generalize totN (qs.take j)=c at c1 c2 c3 c4
      refine ⟨_,rfl,_,rfl,b,_,_,_,rfl,rfl,SqL.of ht,aC (j:=1) rfl rfl,_,_,rfl,rfl,big2 (x2 c4) (x1 qd),_,rfl,b,_,_,_,rfl,rfl,SqL.of ht,aC (j:=0) rfl rfl,_,rfl,_,_,rfl,rfl,big2 (x2 qn) (x1 c2),_,_,rfl,rfl,?_⟩
      refine ⟨_,rfl,_,rfl,b,_,_,_,rfl,rfl,SqL.of ht,aC (j:=1) rfl rfl,_,_,rfl,rfl,big2 (x1 c2) (x1 qd),?_⟩
      refine ⟨rfl,some (.ref b),?_⟩
      rw [Int.natCast_add,Int.natCast_mul,Int.natCast_mul,Int.natCast_mul]
      rfl
    · rintro σ H' ⟨rfl,v,rfl⟩
      rw [List.length_map,h2,List.take_length]
      obtain ⟨c1,c2,c3,c4⟩:=bnd qs.length
      rw [List.take_length] at c1 c2 c3 c4
      refine ⟨_,rfl,_,rfl,_,_,rfl,c3,Nat.lt_of_le_of_lt c2 (by decide),?_⟩
      rw [←(mq (M:=100000) qs hq).2.2]
      exact k
def wL (C:Addr):Sp:=fun vs H Q _=>∃ (a wa dx:Addr) (ns:Vbiraa.Net) (i:Nat) (q:Vbiraa.Q),vs=[.ref a,.ref wa]∧H a=some (.ins C dx (rf ns i))∧(Vbiraa.reachAt ns i).loss≤99∧(Vbiraa.reachAt ns i).soak≤1000∧H wa=some (.lst (qV q))∧Low q∧q.n≤10 ^ 75∧q.d≤10 ^ 75∧NewL H Q (qV (bf (Vbiraa.reachAt ns i) q))
theorem mT (T:Txt K mg):FnOk P w K mg base CX0 3 T.to_take.f T.to_take.fd ["reach", "water"] (wL T.a_Reach):=by
  refine T.to_take.F.ok mx (fun vs H Q E h=>?_) (fun cdv A outer s H vs Q E hr h=>?_)
  · obtain ⟨a,wa,dx,ns,i,q,rfl,_⟩:=h
    rfl
  · obtain ⟨a,wa,dx,ns,i,q,rfl,ha,hl,hs,hw,lq,qn,qd,k⟩:=h
    refine ⟨_,(ae (aw (i:=2) mx.nd rfl (by first | exact Or.inl rfl | exact Or.inr rfl) (aG cZ af (am (K:=K) (pv 0) rfl)))
      (ag (au (aD T.lowest (gi T) (hr.mono (by decide)) iJ (aa (aG bu (aG cW (ay (ak (K:=K)) (pv 1) af (fun _ _=>rfl)) af) (aG cW (aG cW (am (K:=K) (pv 0) rfl) (pv 2)) (ay (ak (K:=K)) (pv 1) af (fun _ _=>rfl)))) (aa (aG cW (ay (ak (K:=K)) (pv 1) af (fun _ _=>rfl)) (pv 2)) ad)))))),?_⟩
    have ek:(100:Int) - ((Vbiraa.reachAt ns i).loss:Nat)=((100 - (Vbiraa.reachAt ns i).loss:Nat):Int):=by omega
    have x1:∀ {n:Nat},n≤10 ^ 75→n≤10 ^ 80:=fun h=>Nat.le_trans h (by decide)
    have kb:pz ((Vbiraa.reachAt ns i).soak:Nat) ((100:Int) - ((Vbiraa.reachAt ns i).loss:Nat)):=by
      rw [ek]
      exact big2 (Nat.le_trans hs (by decide)) (Nat.le_trans (Nat.sub_le _ _) (by decide))
    have kc:pz (((Vbiraa.reachAt ns i).soak:Int) * ((100:Int) - ((Vbiraa.reachAt ns i).loss:Nat))) (q.d:Nat):=by
      rw [ek,←Int.natCast_mul]
      exact big2 (Nat.le_trans (Nat.mul_le_mul hs (Nat.sub_le _ _)) (by decide)) (x1 qd)
    have kd:pz (q.d:Nat) ((100:Int) - ((Vbiraa.reachAt ns i).loss:Nat)):=by
      rw [ek]
      exact big2 (x1 qd) (Nat.le_trans (Nat.sub_le _ _) (by decide))
    have e1:((q.n * 100 + (Vbiraa.reachAt ns i).soak * (100 - (Vbiraa.reachAt ns i).loss) * q.d:Nat):Int)=(q.n:Int) * 100 + ((Vbiraa.reachAt ns i).soak:Int) * ((100:Int) - ((Vbiraa.reachAt ns i).loss:Nat)) * (q.d:Int):=by
      rw [ek,Int.natCast_add,Int.natCast_mul,Int.natCast_mul,Int.natCast_mul]
      rfl
    have e2:((q.d * (100 - (Vbiraa.reachAt ns i).loss):Nat):Int)=(q.d:Int) * ((100:Int) - ((Vbiraa.reachAt ns i).loss:Nat)):=by
      rw [ek,Int.natCast_mul]
    refine ⟨_,rfl,a,T.a_Reach,dx,_,_,rfl,ha,T.cl_Reach,T.na_Reach_loss,pW,_,_,rfl,rfl,?_⟩
    refine ⟨_,rfl,wa,_,_,_,rfl,rfl,SqL.of hw,aC (j:=0) rfl rfl,_,_,rfl,rfl,big2 (x1 qn) (b:=100) (by decide),_,rfl,a,T.a_Reach,dx,_,_,rfl,ha,T.cl_Reach,T.na_Reach_soak,pV,_,rfl,_,_,rfl,rfl,kb,_,rfl,wa,_,_,_,rfl,rfl,SqL.of hw,aC (j:=1) rfl rfl,_,_,rfl,rfl,kc,_,_,rfl,rfl,
      _,rfl,wa,_,_,_,rfl,rfl,SqL.of hw,aC (j:=1) rfl rfl,_,rfl,_,_,rfl,rfl,kd,q.n * 100 + (Vbiraa.reachAt ns i).soak * (100 - (Vbiraa.reachAt ns i).loss) * q.d,q.d * (100 - (Vbiraa.reachAt ns i).loss),?_,eJ hl lq,?_,k⟩
    · rw [e1,e2]
      rfl
    · exact Nat.lt_of_le_of_lt (Nat.mul_le_mul qd (Nat.sub_le _ _)) (by decide)
def spCan (C:Addr):Sp:=fun vs H Q _=>∃ (a wa dx:Addr) (ns:Vbiraa.Net) (i:Nat) (q:Vbiraa.Q),vs=[.ref a,.ref wa]∧H a=some (.ins C dx (rf ns i))∧(Vbiraa.reachAt ns i).cap≤100000∧H wa=some (.lst (qV q))∧q.d≤10 ^ 80∧Q (.bl (decide (q.n≤(Vbiraa.reachAt ns i).cap * q.d))) H
theorem lD (T:Txt K mg):FnOk P w K mg base CX0 1 T.can_take.f T.can_take.fd ["reach", "water"] (spCan T.a_Reach):=by
  refine T.can_take.F.ok qJ (fun vs H Q E h=>?_) (fun cdv A outer s H vs Q E hr h=>?_)
  · obtain ⟨a,wa,dx,ns,i,q,rfl,_⟩:=h
    rfl
  · obtain ⟨a,wa,dx,ns,i,q,rfl,ha,hc,hw,qd,k⟩:=h
    refine ⟨_,(ag (au (dP cN (ay (ak (K:=K)) (pv 1) af (fun _ _=>rfl)) (aG cW (am (K:=K) (pv 0) rfl) (ay (ak (K:=K)) (pv 1) af (fun _ _=>rfl))) (aP _)))),?_⟩
    have e:decide ((q.n:Int)≤((Vbiraa.reachAt ns i).cap:Int) * (q.d:Int))=decide (q.n≤(Vbiraa.reachAt ns i).cap * q.d):=by
      rw [←Int.natCast_mul]
      exact decide_eq_decide.mpr (by omega)
    rw [←e] at k
    exact ⟨_,rfl,wa,_,_,_,rfl,rfl,SqL.of hw,aC (j:=0) rfl rfl,_,rfl,a,T.a_Reach,dx,_,_,rfl,ha,T.cl_Reach,T.na_Reach_cap,uJ,_,rfl,wa,_,_,_,rfl,rfl,SqL.of hw,aC (j:=1) rfl rfl,_,_,rfl,rfl,big2 (Nat.le_trans hc (by decide)) qd,_,_,rfl,rfl,k⟩
def spNeed (CR CN:Addr):Sp:=fun vs H Q _=>∃ (n dn l wl sl:Addr) (h:Vbiraa.House) (i t x:Nat),vs=[.ref n,.int i,.int t,.int x]∧bB CR CN H n h dn l wl sl∧WF h.net∧yd h∧i < h.net.length∧x≤1000000 ∧
  (Vbiraa.need h i t (Vbiraa.whole x)=none→∀ H',Same H H'→Q .non H')∧∀ q,Vbiraa.need h i t (Vbiraa.whole x)=some q→NewL H Q (qV q)
theorem vD (T:Txt K mg):FnOk P w K mg base CX0 4 T.needed.f T.needed.fd ["net", "i", "tick", "water"] (spNeed T.a_Reach T.a_Net):=by
  refine T.needed.F.ok dE (fun vs H Q E h=>?_) (fun cdv A outer s H vs Q E hr h=>?_)
  · obtain ⟨n,dn,l,wl,sl,h,i,t,x,rfl,_⟩:=h
    rfl
  · obtain ⟨n,dn,l,wl,sl,h,i,t,x,rfl,N,hwf,hP,hi,hx6,k0,k1⟩:=h
    refine ⟨_,(ae (aU (aM du (pv 3) af (aP _))
      (ag (au (aE (aa af (aa af ad)))))
      aI)
      (ae (aw (i:=4) dE.nd rfl (by first | exact Or.inl rfl | exact Or.inr rfl) (aE (aa (pv 3) (aa af ad))))
      (ae (bS PassesOwn.never rfl (qP rfl T.n_reversed (aa (aD T.way_to (kZ T) (hr.mono (by decide)) nF (aa (am (K:=K) (pv 0) rfl) (aa (pv 1) ad))) ad)) (aJ (i:=5) dE.nd rfl (by first | exact Or.inl rfl | exact Or.inr rfl))
      (ae (aw (i:=6) dE.nd rfl (by first | exact Or.inl rfl | exact Or.inr rfl) (ay (ak (K:=K)) (am (K:=K) (pv 0) rfl) (pv 5) (fun _ _=>rfl)))
      (ae (aw (i:=7) dE.nd rfl (by first | exact Or.inl rfl | exact Or.inr rfl) (aD T.gate_part (eh T) (hr.mono (by decide)) fC (aa (am (K:=K) (pv 0) rfl) (aa (am (K:=K) (pv 0) rfl) (aa (pv 5) (aa (aG bu (pv 2) (am (K:=K) (pv 6) rfl)) ad))))))
      (ae (aw (i:=8) dE.nd rfl (by first | exact Or.inl rfl | exact Or.inr rfl) (aD T.to_take (mT T) (hr.mono (by decide)) pk (aa (pv 6) (aa (pv 4) ad))))
      (ae (aU (dX (aM du (pv 7) af (aP _)) (dH (aZ (aL (K:=K) (aD T.can_take (lD T) (hr.mono (by decide)) nJ (aa (pv 6) (aa (pv 8) ad))) (fun _=>rfl))))).pt
      (ag (au fR))
      aI)
      (ag (aw (i:=4) dE.nd rfl (by first | exact Or.inl rfl | exact Or.inr rfl) (aD T.lowest (gi T) (hr.mono (by decide)) iJ (aa (aG cW (ay (ak (K:=K)) (pv 8) af (fun _ _=>rfl)) af) (aa (aG cW (ay (ak (K:=K)) (pv 8) af (fun _ _=>rfl)) (pv 7)) ad))))))))))
      (ag (au (pv 4)))))),?_⟩
    have hneed:=xy hwf hi t x
    refine ⟨_,rfl,rfl,_,rfl,?_⟩
    rw [show (V.int 0)=V.int ((0:Nat):Int) from rfl,cX]
    refine ite2 (fun c1=>?_) (fun c1=>?_)
    · have c1:x=0:=of_decide_eq_true c1
      rw [if_pos c1] at hneed
      refine ⟨(by show 2≤sizeLine; decide),fun p hp=>k1 _ hneed _ p (ah hp) hp ?_⟩
      rw [ac]
      rfl
    · have c1:¬ x=0:=fun z=>c1 (decide_eq_true z)
      rw [if_neg c1] at hneed
      have hdeep:=hwf.deep i hi
      unfold depth at hdeep
      refine ⟨_,rfl,(by show 2≤sizeLine; decide),fun w0 hw0=>?_⟩
      have s0:=ah (o:=.lst [.int x,.int 1]) hw0
      have N0:=N.same s0
      refine ⟨_,rfl,n,T.a_Net,dn,_,_,rfl,N0.obj,T.cl_Net,T.na_Net_reaches,aH,_,rfl,l,h.net,i,rfl,N0.rs,hwf,hi,fun H1 wp s1 hwp hwp1=>?_⟩
      refine ⟨wp,_,rfl,SqL.of hwp1,y9 (K:=K) (a:=wp) (xs:=ao (Vbiraa.way h.net i))
        (fun j σ H'=>Same H1 H'∧∃ (q:Vbiraa.Q) (wa:Addr) (v1 v2 v3 v4:Option V),cK h.net (ptAt h t) ((Vbiraa.way h.net i).reverse.take j) (Vbiraa.whole x)=some q∧Low q∧q.n≠0∧q.d≤10000 ^ j∧q.n≤10 ^ 60∧H wa=none∧H' wa=some (.lst (qV q))∧σ=[some (.ref n),some (.int i),some (.int t),some (.int x),some (.ref wa),v1,v2,v3,v4])
        ⟨Same.refl _,Vbiraa.whole x,w0,none,none,none,none,rfl,dL x,c1,Nat.le_refl _,Nat.le_trans hx6 (by decide),hw0,s1 _ _ ac,rfl⟩ (fun j σ H' _ p=>SqL.of (p.1 _ _ hwp1)) ?_ ?_⟩
      · rintro j v σ H' hv ⟨sm,q,wa,v1,v2,v3,v4,hnd,lq,qnz,qd,qn,hwa,hwa1,rfl⟩
        have hv2:(ao (Vbiraa.way h.net i).reverse)[j]?=some v:=by
          have e:ao (Vbiraa.way h.net i).reverse=(ao (Vbiraa.way h.net i)).reverse:=by
            unfold ao
            rw [List.map_reverse]
          rw [e]
          exact hv
        obtain ⟨c,hc,rfl⟩:=aW hv2
        have hj8:j < 8:=by
          have:=(List.getElem?_eq_some_iff.mp hc).1
          rw [List.length_reverse] at this
          omega
        have hcl:c < h.net.length:=ml hwf.par i hi c (List.mem_reverse.mp (List.mem_of_getElem? hc))
        have sm2:=(s0.trans s1).trans sm
        have N2:=N.same sm2
        obtain ⟨xs,ca,dc,h1,h2,h3,h4⟩:=N2.rs.at_ hcl
        obtain ⟨_,nl,nsk,nc1,nc2,_⟩:=hwf.num c hcl
        have hpc:ptAt h t c≤100:=hP c (t + above h.net c) hcl
        have hall:cK h.net (ptAt h t) (Vbiraa.way h.net i).reverse (Vbiraa.whole x)=(ndQ (Vbiraa.reachAt h.net c) (ptAt h t c) q).bind (cK h.net (ptAt h t) ((Vbiraa.way h.net i).reverse.drop (j + 1))):=by
          conv=>lhs; rw [←List.take_append_drop (j + 1) (Vbiraa.way h.net i).reverse,bJ hc,List.append_assoc]
          rw [ip,hnd]
          rfl
        have hstep:cK h.net (ptAt h t) ((Vbiraa.way h.net i).reverse.take (j + 1)) (Vbiraa.whole x)=ndQ (Vbiraa.reachAt h.net c) (ptAt h t c) q:=by
          rw [bJ hc,ip,hnd]
          show (ndQ _ _ q).bind _=_
          cases ndQ (Vbiraa.reachAt h.net c) (ptAt h t c) q <;> rfl
        have qd2:q.d≤10000 ^ 8:=Nat.le_trans qd (Nat.pow_le_pow_right (by decide) (by omega))
        refine ⟨_,rfl,n,T.a_Net,dn,_,_,rfl,N2.obj,T.cl_Net,T.na_Net_reaches,aH,_,rfl,l,_,_,_,rfl,rfl,SqL.of h1,aX h3,?_⟩
        refine ⟨_,rfl,n,T.a_Net,dn,_,_,rfl,N2.obj,T.cl_Net,T.na_Net_reaches,aH,_,rfl,n,T.a_Net,dn,_,_,rfl,N2.obj,T.cl_Net,T.na_Net_settings,c8,_,rfl,_,rfl,_,rfl,ca,T.a_Reach,dc,_,_,rfl,h4,T.cl_Reach,T.na_Reach_above,gO,_,_,rfl,rfl,
          l,sl,h.net,h.settings,c,t + above h.net c,rfl,N2.rs,N2.ss,hcl,?_⟩
        refine ⟨_,rfl,_,rfl,ca,wa,dc,h.net,c,q,rfl,h4,nl,nsk,hwa1,lq,Nat.le_trans qn (by decide),Nat.le_trans qd2 (by decide),fun H3 ta s3 hta hta1=>?_⟩
        have lt:=jV nl lq
        have td1:(bf (Vbiraa.reachAt h.net c) q).d≤q.d * 100:=Nat.le_trans (kf (eJ nl lq)) (Nat.mul_le_mul_left _ (Nat.sub_le _ _))
        have td2:(bf (Vbiraa.reachAt h.net c) q).d≤10 ^ 34:=Nat.le_trans td1 (Nat.le_trans (Nat.mul_le_mul_right _ qd2) (by decide))
        have h43:=s3 _ _ h4
        refine ⟨_,rfl,rfl,_,rfl,?_⟩
        have e3:decide (V.int ((ja h.net h.settings c (t + above h.net c):Nat):Int)=V.int ((0:Nat):Int))=decide (ptAt h t c=0):=cX
        have none_:(ptAt h t c=0∨¬ (bf (Vbiraa.reachAt h.net c) q).n≤(Vbiraa.reachAt h.net c).cap * (bf (Vbiraa.reachAt h.net c) q).d)→Vbiraa.need h i t (Vbiraa.whole x)=none:=fun z=>by
          rw [hneed,hall]
          unfold ndQ
          rw [if_pos z]
          rfl
        refine (congrArg (fun b=>if b=true then _ else _) e3).mpr ?_
        refine ite2 (fun c2=>?_) (fun c2=>?_)
        · exact iteT (k0 (none_ (.inl (of_decide_eq_true c2))) H3 (sm2.trans s3))
        · have c2:¬ ptAt h t c=0:=fun z=>c2 (decide_eq_true z)
          refine ⟨_,rfl,_,rfl,ca,ta,dc,h.net,c,bf (Vbiraa.reachAt h.net c) q,rfl,h43,nc2,hta1,Nat.le_trans td2 (by decide),_,rfl,?_⟩
          by_cases c3:(bf (Vbiraa.reachAt h.net c) q).n≤(Vbiraa.reachAt h.net c).cap * (bf (Vbiraa.reachAt h.net c) q).d
          · rw [decide_eq_true c3]
            refine iteF ?_
            have tn:(bf (Vbiraa.reachAt h.net c) q).n≤10 ^ 40:=Nat.le_trans c3 (Nat.le_trans (Nat.mul_le_mul nc2 td2) (by decide))
            have pp:0 < (bf (Vbiraa.reachAt h.net c) q).d * ptAt h t c:=Nat.mul_pos lt.pos (by omega)
            have m2:pz ((bf (Vbiraa.reachAt h.net c) q).d:Nat) (ja h.net h.settings c (t + above h.net c):Nat):=big2 (Nat.le_trans td2 (by decide)) (Nat.le_trans (show ptAt h t c≤100 from hpc) (by decide))
            refine ⟨_,rfl,ta,_,_,_,rfl,rfl,SqL.of hta1,aC (j:=0) rfl rfl,_,_,rfl,rfl,big2 (b:=100) (Nat.le_trans tn (by decide)) (by decide),_,rfl,ta,_,_,_,rfl,rfl,SqL.of hta1,aC (j:=1) rfl rfl,_,rfl,_,_,rfl,rfl,m2,
              (bf (Vbiraa.reachAt h.net c) q).n * 100,(bf (Vbiraa.reachAt h.net c) q).d * ptAt h t c,?_,pp,?_,fun H4 wb s4 hwb hwb1=>?_⟩
            · rw [Int.natCast_mul,Int.natCast_mul]
              rfl
            · exact Nat.lt_of_le_of_lt (Nat.mul_le_mul td2 hpc) (by decide)
            have en:ndQ (Vbiraa.reachAt h.net c) (ptAt h t c) q=some (Vbiraa.mk ((bf (Vbiraa.reachAt h.net c) q).n * 100) ((bf (Vbiraa.reachAt h.net c) q).d * ptAt h t c)):=by
              unfold ndQ
              rw [if_neg (fun z=>z.elim c2 (fun z=>z c3))]
            obtain ⟨lq',nz'⟩:=rq nl lq qnz en
            refine ⟨(sm.trans s3).trans s4,_,wb,_,_,_,_,hstep.trans en,lq',nz',?_,?_,?_,hwb1,rfl⟩
            · refine Nat.le_trans (kf pp) (Nat.le_trans (Nat.mul_le_mul td1 hpc) ?_)
              rw [Nat.pow_succ,Nat.mul_assoc]
              exact Nat.mul_le_mul_right _ qd
            · exact Nat.le_trans (yT pp) (Nat.le_trans (Nat.mul_le_mul_right _ tn) (by decide))
            · exact sm2.free (s3.free hwb)
          · rw [decide_eq_false c3]
            exact iteT (k0 (none_ (.inr c3)) H3 (sm2.trans s3))
      · rintro σ H' ⟨sm,q,wa,v1,v2,v3,v4,hnd,lq,qnz,qd,qn,hwa,hwa1,rfl⟩
        rw [aB,←List.length_reverse,List.take_length] at hnd
        exact ⟨_,rfl,k1 _ (hneed.trans hnd) _ wa ((s0.trans s1).trans sm) hwa hwa1⟩
end
end CN
namespace CN
open PySem PySem.Spec PyProof.Rows L2
def tCallV (P:Program) (w:World) (K:PySem.W.Frag) (mg:Str→Option Value) (base:Heap) (k:Nat) (tv:TE) (t:TA):TE:=fun σ H Q=>tv σ H fun v H0=>H0=H∧∃ f fd ps sp,v=.ref f∧FnOk P w K mg base CX0 k f fd ps sp∧PySem.W.keepIn K (.ref f)=true∧aK K fd ps []∧t σ H fun vs H1=>sp (vs++[]) H1 Q E0
theorem xm {X:Cx} {x:Str} {k:Nat} {e:Expr} {es:List Expr} {tv:TE} {t:TA} {p pos:Pos} (hr:Room k X.A) (hv:PE X (.Name x p) tv) (ha:PA X (e :: es) t)
    (he:starEach (e :: es) X.env=(false,eval e X.env) :: starEach es X.env:=by rfl) (hpl:(backTo pos (starEach es X.env)).any (·.1)=false:=by rfl) :
    PE X (.Call (.Name x p) (e :: es) [] pos) (tCallV X.prog X.w X.K X.mg X.base k tv t):=by
  intro pins s σ H Q I h
  refine wpAny_Call_Name_kw (thn (hv pins s σ H _ I h) fun u s0 ⟨v,H0,I0,r0,e0,f,fd,ps,sp,ev,F,hk,hb,q⟩=>?_)
  subst e0 ev
  obtain rfl:u=Value.ref f:=r0
  refine PySem.W.callWith_K (h₀:=X.base) I.ok.mod.kin hk (thn (ha pos pins s0 σ H0 _ I0 q) fun us s1 ⟨vs,H1,I1,r,q1⟩=>⟨I1.kIn,?_⟩) he hpl
  exact sV F hr hb .nil lA I1 r q1
def aS (l:List Int):List V:=l.map V.int
theorem oT {l:List Int} {i:Nat} {z:Int} (h:l[i]?=some z):(aS l)[i]?=some (.int z):=by
  unfold aS
  rw [List.getElem?_map,h]
  rfl
theorem br (l:List Int):(aS l).length=l.length:=by
  unfold aS
  rw [List.length_map]
def Post (CR CN:Addr) (H:Hp) (Q:VK) (n l wl sl:Addr) (res:Vbiraa.House × List Int):Prop:=∀ (H':Hp) (p dn' l' wl' sl':Addr),bB CR CN H' n res.1 dn' l' wl' sl'→(l'=l∨H l'=none)→(wl'=wl∨H wl'=none)→(sl'=sl∨H sl'=none)→(∀ b o,H b=some o→b≠n→b≠wl→H' b=some o)→H p=none→H' p=some (.lst (aS res.2))→Q (.ref p) H'
theorem Post.new {CR CN n dn l wl sl:Addr} {H H':Hp} {Q:VK} {h:Vbiraa.House} {ans:List Int} {p:Addr} (k:Post CR CN H Q n l wl sl (h,ans)) (N:bB CR CN H n h dn l wl sl) (s:Same H H') (hp:H p=none) (e:H' p=some (.lst (aS ans))):Q (.ref p) H' :=
  k H' p dn l wl sl (N.same s) (.inl rfl) (.inl rfl) (.inl rfl) (fun b o q _ _=>s b o q) hp e
def uP:Vbiraa.Call→Bool
  | .net _=>true
  | _=>false
def spFn (CR CN:Addr) (C:List Int→List Int→Option Vbiraa.Call):Sp:=fun vs H Q _=>∃ (n nl rl dn l wl sl:Addr) (h:Vbiraa.House) (nums rs:List Int) (c:Vbiraa.Call),vs=[.ref n,.ref nl,.ref rl]∧bB CR CN H n h dn l wl sl∧HInv h∧(uP c=false→h.net≠[])∧H nl=some (.lst (aS nums))∧H rl=some (.lst (aS rs))∧rl≠wl∧rs.length≤4000∧C nums rs=some c∧Post CR CN H Q n l wl sl (Vbiraa.step h c)
theorem bn {h:Vbiraa.House} (hne:h.net≠[]) (f:Vbiraa.Net→Vbiraa.House × Vbiraa.Ans):Vbiraa.onNet h f=f h.net:=by
  unfold Vbiraa.onNet
  rw [if_neg (by rw [List.isEmpty_iff]; exact hne)]
section
variable {P:Program} {w:World} {K:PySem.W.Frag} {mg:Str→Option Value} {base:Heap}
def vy (CR CN:Addr):Sp:=fun vs H Q _=>∃ (n dn l wl sl:Addr) (h:Vbiraa.House) (i:Int),vs=[.ref n,.int i]∧bB CR CN H n h dn l wl sl∧Q (.bl (Vbiraa.isReach h i)) H
theorem bP (T:Txt K mg):FnOk P w K mg base CX0 1 T.is_reach.f T.is_reach.fd ["net", "i"] (vy T.a_Reach T.a_Net):=by
  refine T.is_reach.F.ok qI (fun vs H Q E h=>?_) (fun cdv A outer s H vs Q E hr h=>?_)
  · obtain ⟨n,dn,l,wl,sl,h,i,rfl,_⟩:=h
    rfl
  · obtain ⟨n,dn,l,wl,sl,h,i,rfl,N,k⟩:=h
    refine ⟨_,(ag (au (mN cN qX af (pv 1) (aF (ax (K:=K)) (by rfl) T.n_len PySem.boot_len (aa (am (K:=K) (pv 0) rfl) ad))))),?_⟩
    unfold Vbiraa.isReach Vbiraa.within at k
    obtain ⟨xs,h1,h2,_⟩:=N.rs.list
    refine ⟨_,rfl,_,_,rfl,rfl,_,rfl,?_⟩
    cases c1:decide ((0:Int)≤i) with
    | false =>
      rw [c1] at k
      exact iteF k
    | true =>
      rw [c1,Bool.true_and] at k
      refine iteT ⟨_,rfl,n,T.a_Net,dn,_,_,rfl,N.obj,T.cl_Net,T.na_Net_reaches,aH,l,_,rfl,.inl (SqL.of h1),_,_,rfl,rfl,?_⟩
      rw [show decide (i≤(h.net.length:Int) - 1)=decide (i < (xs.length:Int)) from decide_eq_decide.mpr (by omega)] at k
      exact k
def wQ:Sp:=fun vs H Q _=>∃ t:Int,vs=[.int t]∧Q (.bl (Vbiraa.isTick t)) H
theorem cB (T:Txt K mg):FnOk P w K mg base CX0 1 T.is_tick.f T.is_tick.fd ["tick"] wQ:=by
  refine T.is_tick.F.ok sT (fun vs H Q E h=>?_) (fun cdv A outer s H vs Q E hr h=>?_)
  · obtain ⟨t,rfl,_⟩:=h
    rfl
  · obtain ⟨t,rfl,k⟩:=h
    refine ⟨_,(ag (au (mN cN qX af (pv 0) (a8 T.c_TICKS)))),?_⟩
    unfold Vbiraa.isTick Vbiraa.within at k
    refine ⟨_,rfl,_,_,rfl,rfl,_,rfl,?_⟩
    cases c1:decide ((0:Int)≤t) with
    | false =>
      rw [c1] at k
      exact iteF k
    | true =>
      rw [c1,Bool.true_and] at k
      refine iteT ⟨_,_,rfl,rfl,?_⟩
      rw [show decide (t≤((Vbiraa.TICKS:Nat):Int) - 1)=decide (t < 60) from decide_eq_decide.mpr (by show t≤(60:Int) - 1↔_; omega)] at k
      exact k
def vx:Sp:=fun vs H Q _=>∃ t:Int,vs=[.int t]∧Q (.bl (Vbiraa.within t 0 Vbiraa.LET)) H
theorem ik (T:Txt K mg):FnOk P w K mg base CX0 1 T.is_water.f T.is_water.fd ["number"] vx:=by
  refine T.is_water.F.ok qH (fun vs H Q E h=>?_) (fun cdv A outer s H vs Q E hr h=>?_)
  · obtain ⟨t,rfl,_⟩:=h
    rfl
  · obtain ⟨t,rfl,k⟩:=h
    refine ⟨_,(ag (au (mN cN cN af (pv 0) (a8 T.c_MOST_WATER)))),?_⟩
    unfold Vbiraa.within at k
    refine ⟨_,rfl,_,_,rfl,rfl,_,rfl,?_⟩
    cases c1:decide ((0:Int)≤t) with
    | false =>
      rw [c1] at k
      exact iteF k
    | true =>
      rw [c1,Bool.true_and] at k
      exact iteT ⟨_,_,rfl,rfl,k⟩
end
end CN
namespace CN
open PySem PySem.Spec PyProof.Rows L2
def cLet:List Int→List Int→Option Vbiraa.Call
  | [t],l=>some (.let_ t l)
  | _,_=>none
def u5:List Int→List Int→Option Vbiraa.Call
  | [i,t,p],_=>some (.gate i t p)
  | _,_=>none
def cWay:List Int→List Int→Option Vbiraa.Call
  | [i],_=>some (.way i)
  | _,_=>none
def u1:List Int→List Int→Option Vbiraa.Call
  | [i,t,x],_=>some (.need i t x)
  | _,_=>none
theorem se {a b:List Int} {c:Vbiraa.Call} (h:cLet a b=some c):∃ t,a=[t]∧c=.let_ t b:=by
  unfold cLet at h
  split at h
  · cases h
    exact ⟨_,rfl,rfl⟩
  · cases h
theorem o8 {a b:List Int} {c:Vbiraa.Call} (h:u5 a b=some c):∃ i t p,a=[i,t,p]∧c=.gate i t p:=by
  unfold u5 at h
  split at h
  · cases h
    exact ⟨_,_,_,rfl,rfl⟩
  · cases h
theorem r8 {a b:List Int} {c:Vbiraa.Call} (h:cWay a b=some c):∃ i,a=[i]∧c=.way i:=by
  unfold cWay at h
  split at h
  · cases h
    exact ⟨_,rfl,rfl⟩
  · cases h
theorem o6 {a b:List Int} {c:Vbiraa.Call} (h:u1 a b=some c):∃ i t x,a=[i,t,x]∧c=.need i t x:=by
  unfold u1 at h
  split at h
  · cases h
    exact ⟨_,_,_,rfl,rfl⟩
  · cases h
theorem bQ {h:Vbiraa.House} {i:Int} (e:Vbiraa.isReach h i=true):∃ j:Nat,i=(j:Int)∧j < h.net.length:=by
  unfold Vbiraa.isReach Vbiraa.within at e
  rw [Bool.and_eq_true,decide_eq_true_eq,decide_eq_true_eq] at e
  exact ⟨i.toNat,by omega,by omega⟩
theorem cC {t:Int} (e:Vbiraa.isTick t=true):∃ j:Nat,t=(j:Int)∧j < 60:=by
  unfold Vbiraa.isTick Vbiraa.within at e
  rw [Bool.and_eq_true,decide_eq_true_eq,decide_eq_true_eq] at e
  have e2:t≤(60:Int) - 1:=e.2
  exact ⟨t.toNat,by omega,by omega⟩
theorem eD {x a b:Int} (e:Vbiraa.within x a b=true):a≤x∧x≤b:=by
  unfold Vbiraa.within at e
  rw [Bool.and_eq_true,decide_eq_true_eq,decide_eq_true_eq] at e
  exact e
theorem HInv.partsB {h:Vbiraa.House} (I:HInv h):yd h:=fun i t hi=>I.partB hi t
section
variable {P:Program} {w:World} {K:PySem.W.Frag} {mg:Str→Option Value} {base:Heap}
theorem nY (T:Txt K mg):FnOk P w K mg base CX0 2 T.answer_way.f T.answer_way.fd ["net", "numbers", "row"] (spFn T.a_Reach T.a_Net cWay):=by
  refine T.answer_way.F.ok fH (fun vs H Q E h=>?_) (fun cdv A outer s H vs Q E hr h=>?_)
  · obtain ⟨n,nl,rl,dn,l,wl,sl,h,nums,rs,c,rfl,_⟩:=h
    rfl
  · obtain ⟨n,nl,rl,dn,l,wl,sl,h,nums,rs,c,rfl,N,hI,hne,hnl,hrl,hrw,hrs,hC,k⟩:=h
    refine ⟨_,(ae (aU (aZ (aL (K:=K) (aD T.is_reach (bP T) (hr.mono (by decide)) cD (aa (pv 0) (aa (ay (ak (K:=K)) (pv 1) af (fun _ _=>rfl)) ad))) (fun _=>rfl)))
      (ag (au (aE (aa (a8 T.c_OUT_OF_RANGE) ad))))
      aI)
      (ae (aw (i:=3) fH.nd rfl (by first | exact Or.inl rfl | exact Or.inr rfl) (ay (ak (K:=K)) (am (K:=K) (pv 0) rfl) (ay (ak (K:=K)) (pv 1) af (fun _ _=>rfl)) (fun _ _=>rfl)))
      (ae (aw (i:=4) fH.nd rfl (by first | exact Or.inl rfl | exact Or.inr rfl) (aD T.way_to (kZ T) (hr.mono (by decide)) nF (aa (am (K:=K) (pv 0) rfl) (aa (ay (ak (K:=K)) (pv 1) af (fun _ _=>rfl)) ad))))
      (ag (au (aG dw (aE (aa af (aa (aG bu (am (K:=K) (pv 3) rfl) (am (K:=K) (pv 3) rfl)) (aa (aF (ax (K:=K)) (by rfl) T.n_len PySem.boot_len (aa (pv 4) ad)) ad)))) (pv 4))))))),?_⟩
    obtain ⟨i,rfl,rfl⟩:=r8 hC
    have hs:Vbiraa.step h (.way i)=if Vbiraa.isReach h i=false then (h,[-1]) else (h,0 :: (Vbiraa.delayOf h.net (Vbiraa.way h.net i.toNat):Int) :: ((Vbiraa.way h.net i.toNat).length:Int) :: Vbiraa.nums (Vbiraa.way h.net i.toNat)):=by
      rw [Vbiraa.step,bn (hne rfl)]
      rfl
    rw [hs] at k
    refine ⟨_,rfl,_,rfl,nl,_,_,_,rfl,rfl,SqL.of hnl,aC (j:=0) rfl rfl,n,dn,l,wl,sl,h,i,rfl,N,_,rfl,?_⟩
    cases c1:Vbiraa.isReach h i with
    | false =>
      rw [c1,if_pos rfl] at k
      refine iteT ⟨(by show 1≤sizeLine; decide),fun p hp=>k.new N (ah hp) hp ac⟩
    | true =>
      rw [c1,if_neg (by decide)] at k
      refine iteF ?_
      obtain ⟨j,rfl,hj⟩:=bQ c1
      have hwf:=hI.wf
      obtain ⟨xs,a,dx,h1,h2,h3,h4⟩:=N.rs.at_ hj
      refine ⟨_,rfl,n,T.a_Net,dn,_,_,rfl,N.obj,T.cl_Net,T.na_Net_reaches,aH,_,rfl,nl,_,_,_,rfl,rfl,SqL.of hnl,aC (j:=0) rfl rfl,l,_,_,_,rfl,rfl,SqL.of h1,aX h3,?_⟩
      refine ⟨_,rfl,n,T.a_Net,dn,_,_,rfl,N.obj,T.cl_Net,T.na_Net_reaches,aH,_,rfl,nl,_,_,_,rfl,rfl,SqL.of hnl,aC (j:=0) rfl rfl,l,h.net,j,rfl,N.rs,hwf,hj,fun H1 wp s1 hwp hwp1=>?_⟩
      have h4':=s1 _ _ h4
      refine ⟨_,rfl,a,T.a_Reach,dx,_,_,rfl,h4',T.cl_Reach,T.na_Reach_above,gO,_,rfl,a,T.a_Reach,dx,_,_,rfl,h4',T.cl_Reach,T.na_Reach_delay,kh,_,_,rfl,rfl,_,rfl,wp,_,rfl,.inl (SqL.of hwp1),(by show 3≤sizeLine; decide),fun q hq=>?_⟩
      have s2:=ah (o:=.lst [.int 0,.int ((above h.net j:Int) + ((Vbiraa.reachAt h.net j).delay:Int)),.int ((ao (Vbiraa.way h.net j)).length:Int)]) hq
      refine ⟨_,rfl,q,wp,_,_,rfl,rfl,ac,s2 _ _ hwp1,?_,fun p hp=>?_⟩
      · have:=hwf.deep j hj
        unfold depth at this
        rw [aB]
        exact Nat.le_of_lt (aO (by show 3 + (Vbiraa.way h.net j).length < 1000000; omega))
      · have s3:=ah (o:=.lst ([.int 0,.int ((above h.net j:Int) + ((Vbiraa.reachAt h.net j).delay:Int)),.int ((ao (Vbiraa.way h.net j)).length:Int)]++ao (Vbiraa.way h.net j))) hp
        refine k.new N ((s1.trans s2).trans s3) (s1.free (s2.free hp)) (ac.trans ?_)
        rw [Int.toNat_natCast,vd hwf.par hj,aB]
        congr 2
        show _=V.int 0 :: V.int ((above h.net j + (Vbiraa.reachAt h.net j).delay:Nat):Int) :: V.int ((Vbiraa.way h.net j).length:Int) :: aS (Vbiraa.nums (Vbiraa.way h.net j))
        rw [show aS (Vbiraa.nums (Vbiraa.way h.net j))=ao (Vbiraa.way h.net j) by unfold aS Vbiraa.nums; rw [et],Int.natCast_add]
        rfl
theorem mW (T:Txt K mg):FnOk P w K mg base CX0 5 T.answer_need.f T.answer_need.fd ["net", "numbers", "row"] (spFn T.a_Reach T.a_Net u1):=by
  refine T.answer_need.F.ok hZ (fun vs H Q E h=>?_) (fun cdv A outer s H vs Q E hr h=>?_)
  · obtain ⟨n,nl,rl,dn,l,wl,sl,h,nums,rs,c,rfl,_⟩:=h
    rfl
  · obtain ⟨n,nl,rl,dn,l,wl,sl,h,nums,rs,c,rfl,N,hI,hne,hnl,hrl,hrw,hrs,hC,k⟩:=h
    refine ⟨_,(ae (aU (dX (aZ (aL (K:=K) (aD T.is_reach (bP T) (hr.mono (by decide)) cD (aa (pv 0) (aa (ay (ak (K:=K)) (pv 1) af (fun _ _=>rfl)) ad))) (fun _=>rfl))) (dX (aZ (aL (K:=K) (aD T.is_tick (cB T) (hr.mono (by decide)) c9 (aa (ay (ak (K:=K)) (pv 1) af (fun _ _=>rfl)) ad)) (fun _=>rfl))) (dH (aZ (aL (K:=K) (aD T.is_water (ik T) (hr.mono (by decide)) jK (aa (ay (ak (K:=K)) (pv 1) af (fun _ _=>rfl)) ad)) (fun _=>rfl)))))).pt
      (ag (au (aE (aa (a8 T.c_OUT_OF_RANGE) ad))))
      aI)
      (ae (aw (i:=3) hZ.nd rfl (by first | exact Or.inl rfl | exact Or.inr rfl) (aD T.needed (vD T) (hr.mono (by decide)) x9 (aa (pv 0) (aa (ay (ak (K:=K)) (pv 1) af (fun _ _=>rfl)) (aa (ay (ak (K:=K)) (pv 1) af (fun _ _=>rfl)) (aa (ay (ak (K:=K)) (pv 1) af (fun _ _=>rfl)) ad))))))
      (ae (aU (aM xp (pv 3) fR (aP _))
      (ag (au (aE (aa af (aa af ad)))))
      aI)
      (ag (au (aG dw (aE (aa af (aa af ad))) (pv 3))))))),?_⟩
    obtain ⟨i,t,x,rfl,rfl⟩:=o6 hC
    have hs:Vbiraa.step h (.need i t x)=if (Vbiraa.isReach h i && (Vbiraa.isTick t && Vbiraa.within x 0 Vbiraa.LET))=false then (h,[-1]) else (match Vbiraa.need h i.toNat t.toNat (Vbiraa.whole x.toNat) with | none=>(h,[0,0]) | some q=>(h,0 :: 1 :: Vbiraa.qRow q)):=by
      rw [Vbiraa.step,bn (hne rfl)]
      rfl
    rw [hs] at k
    have bad:(Vbiraa.isReach h i && (Vbiraa.isTick t && Vbiraa.within x 0 Vbiraa.LET))=false→tRet (tLst (jW (tC (V.int (-1))) tNil)) { nx:=fun x H'=>Q V.non H',rt:=Q } (L2.start ["net", "numbers", "row", "water"] [V.ref n,V.ref nl,V.ref rl]) H:=fun z=>by
      rw [if_pos z] at k
      exact ⟨(by show 1≤sizeLine; decide),fun p hp=>k.new N (ah hp) hp ac⟩
    refine ⟨_,rfl,_,rfl,nl,_,_,_,rfl,rfl,SqL.of hnl,aC (j:=0) rfl rfl,n,dn,l,wl,sl,h,i,rfl,N,_,rfl,?_⟩
    cases c1:Vbiraa.isReach h i with
    | false=>exact iteT (iteT (bad (by rw [c1,Bool.false_and])))
    | true =>
    refine iteF ⟨_,rfl,nl,_,_,_,rfl,rfl,SqL.of hnl,aC (j:=1) rfl rfl,t,rfl,_,rfl,?_⟩
    cases c2:Vbiraa.isTick t with
    | false=>exact iteT (iteT (bad (by rw [c1,c2,Bool.false_and,Bool.true_and])))
    | true =>
    refine iteF ⟨_,rfl,nl,_,_,_,rfl,rfl,SqL.of hnl,aC (j:=2) rfl rfl,x,rfl,_,rfl,?_⟩
    cases c3:Vbiraa.within x 0 Vbiraa.LET with
    | false=>exact iteT (bad (by rw [c1,c2,c3]; rfl))
    | true =>
    refine iteF ?_
    rw [c1,c2,c3,if_neg (by decide)] at k
    obtain ⟨j,rfl,hj⟩:=bQ c1
    obtain ⟨u,rfl,hu⟩:=cC c2
    obtain ⟨y,rfl⟩:∃ y:Nat,x=(y:Int):=⟨x.toNat,by have:=(eD c3).1; omega⟩
    simp only [Int.toNat_natCast] at k
    refine ⟨_,rfl,_,rfl,nl,_,_,_,rfl,rfl,SqL.of hnl,aC (j:=0) rfl rfl,_,rfl,nl,_,_,_,rfl,rfl,SqL.of hnl,aC (j:=1) rfl rfl,_,rfl,nl,_,_,_,rfl,rfl,SqL.of hnl,aC (j:=2) rfl rfl,n,dn,l,wl,sl,h,j,u,y,rfl,N,hI.wf,hI.partsB,hj,(by have:=(eD c3).2; have:(y:Int)≤1000000:=this; omega),fun hno H1 s1=>?_,fun q hq H1 wp s1 hwp hwp1=>?_⟩
    · rw [hno] at k
      refine ⟨_,rfl,rfl,_,rfl,iteT ⟨(by show 2≤sizeLine; decide),fun p hp=>k.new N (s1.trans (ah hp)) (s1.free hp) ac⟩⟩
    · rw [hq] at k
      refine ⟨_,rfl,rfl,_,rfl,iteF ⟨(by show 2≤sizeLine; decide),fun e he=>?_⟩⟩
      have s2:=ah (o:=.lst [.int 0,.int 1]) he
      refine ⟨_,rfl,e,wp,_,_,rfl,rfl,ac,s2 _ _ hwp1,(by show 4≤sizeLine; decide),fun p hp=>?_⟩
      have s3:=ah (o:=.lst ([.int 0,.int 1]++qV q)) hp
      exact k.new N ((s1.trans s2).trans s3) (s1.free (s2.free hp)) ac
end
end CN
namespace CN
open PySem PySem.Spec PyProof.Rows L2
def wJ (h:Vbiraa.House) (t:Nat) (vs:List Nat) (j:Nat):List Nat:=(List.range 60).map fun k=>if t≤k∧k < t + j then vs.getD (k - t) 0 else Vbiraa.letAt h k
theorem yj (h:Vbiraa.House) (t:Nat) (vs:List Nat):wJ h t vs 0=(List.range 60).map (Vbiraa.letAt h):=by
  unfold wJ
  refine List.map_congr_left fun k _=>?_
  rw [if_neg (by omega)]
theorem wx (h:Vbiraa.House) (t:Nat) (vs:List Nat) (j:Nat):(wJ h t vs j).length=60:=by
  unfold wJ
  rw [List.length_map,List.length_range]
theorem yk (h:Vbiraa.House) {t:Nat} {vs:List Nat} {j v:Nat} (hv:vs[j]?=some v) (hb:t + j < 60):(wJ h t vs j).set (t + j) v=wJ h t vs (j + 1):=by
  refine List.ext_getElem? fun k=>?_
  by_cases c:k=t + j
  · subst c
    rw [List.getElem?_set_self (by rw [wx]; exact hb)]
    unfold wJ
    rw [List.getElem?_map,List.getElem?_range hb]
    show some v=some (if t≤t + j∧t + j < t + (j + 1) then vs.getD (t + j - t) 0 else Vbiraa.letAt h (t + j))
    rw [if_pos (by omega),show t + j - t=j by omega,List.getD_eq_getElem?_getD,hv]
    rfl
  · rw [List.getElem?_set_ne (fun z=>c z.symm)]
    unfold wJ
    rw [List.getElem?_map,List.getElem?_map]
    by_cases d:k < 60
    · rw [List.getElem?_range d]
      show some (if t≤k∧k < t + j then vs.getD (k - t) 0 else Vbiraa.letAt h k)=some (if t≤k∧k < t + (j + 1) then vs.getD (k - t) 0 else Vbiraa.letAt h k)
      by_cases e:t≤k∧k < t + j
      · rw [if_pos e,if_pos (by omega)]
      · rw [if_neg e,if_neg (by omega)]
    · rw [List.getElem?_eq_none (by rw [List.length_range]; omega)]
      rfl
theorem wJ_put (h:Vbiraa.House) (t:Nat) (vs:List Nat):wJ h t vs vs.length=Vbiraa.put h.lets t vs:=rfl
theorem sx {h:Vbiraa.House} (hne:h.net≠[]) (t:Nat) (vs:List Nat):waters { h with lets:=Vbiraa.put h.lets t vs }=Vbiraa.put h.lets t vs:=by
  unfold waters
  show (if h.net.isEmpty=true then [] else _)=_
  rw [if_neg (by rw [List.isEmpty_iff]; exact hne)]
  refine List.ext_getElem? fun k=>?_
  rw [List.getElem?_map]
  by_cases d:k < 60
  · rw [List.getElem?_range d]
    show some ((Vbiraa.put h.lets t vs).getD k 0)=_
    rw [List.getD_eq_getElem?_getD]
    have:k < (Vbiraa.put h.lets t vs).length:=by
      unfold Vbiraa.put
      rw [List.length_map,List.length_range]
      exact d
    rw [List.getElem?_eq_getElem this]
    rfl
  · rw [List.getElem?_eq_none (by rw [List.length_range]; omega),List.getElem?_eq_none (by unfold Vbiraa.put; rw [List.length_map,List.length_range]; show 60≤k; omega)]
    rfl
theorem cE {h:Vbiraa.House} (hne:h.net≠[]):waters h=(List.range 60).map (Vbiraa.letAt h):=by
  unfold waters
  rw [if_neg (by rw [List.isEmpty_iff]; exact hne)]
theorem jh {l:List Int} {f:Int→Bool}:(l.map f).all id=l.all f:=by
  rw [List.all_map]
  rfl
theorem bB.apart {CR CN n dn l wl sl:Addr} {H:Hp} {h:Vbiraa.House} (N:bB CR CN H n h dn l wl sl) (hne:h.net≠[]):l≠wl∧sl≠wl∧n≠wl:=by
  have w60:(ao (waters h)).length=60:=by rw [aB,cE hne,List.length_map,List.length_range]
  refine ⟨?_,?_,?_⟩
  · intro z
    obtain ⟨as,h1,h2,_⟩:=N.rs.ex
    rw [z,N.ws] at h1
    have e:ao (waters h)=as.map V.ref:=HO.lst.inj (Option.some.inj h1)
    cases as with
    | nil =>
      rw [e] at w60
      cases w60
    | cons a as =>
      cases ew:waters h with
      | nil =>
        rw [ew] at w60
        cases w60
      | cons x r =>
        rw [ew] at e
        cases e
  · intro z
    obtain ⟨as,h1,h2,_⟩:=N.ss.ex
    rw [z,N.ws] at h1
    have e:ao (waters h)=as.map V.ref:=HO.lst.inj (Option.some.inj h1)
    cases as with
    | nil =>
      rw [e] at w60
      cases w60
    | cons a as =>
      cases ew:waters h with
      | nil =>
        rw [ew] at w60
        cases w60
      | cons x r =>
        rw [ew] at e
        cases e
  · exact bK N.obj N.ws (by intro z; cases z)
theorem bB.water {CR CN n dn l wl sl:Addr} {H H':Hp} {h g:Vbiraa.House} (N:bB CR CN H n h dn l wl sl) (hne:h.net≠[]) (kp:∀ b o,H b=some o→b≠wl→H' b=some o) (hw:H' wl=some (.lst (ao (waters g)))) (e1:g.net=h.net) (e2:g.settings=h.settings):bB CR CN H' n g dn l wl sl:=by
  obtain ⟨a1,a2,a3⟩:=N.apart hne
  refine ⟨kp _ _ N.obj a3,?_,hw,?_⟩
  · rw [e1]
    obtain ⟨as,h1,h2,h3⟩:=N.rs.ex
    refine ⟨as,kp _ _ h1 a1,h2,fun i a e=>?_⟩
    obtain ⟨dx,hx⟩:=h3 i a e
    exact ⟨dx,kp _ _ hx (bK hx N.ws (by intro z; cases z))⟩
  · rw [e2]
    obtain ⟨as,h1,h2,h3⟩:=N.ss.ex
    exact ⟨as,kp _ _ h1 a2,h2,fun i a x q q'=>kp _ _ (h3 i a x q q') (bK (h3 i a x q q') N.ws (by intro z; cases z))⟩
section
variable {P:Program} {w:World} {K:PySem.W.Frag} {mg:Str→Option Value} {base:Heap}
theorem n8 (T:Txt K mg):FnOk P w K mg base CX0 2 T.answer_let.f T.answer_let.fd ["net", "numbers", "row"] (spFn T.a_Reach T.a_Net cLet):=by
  refine T.answer_let.F.ok cb (fun vs H Q E h=>?_) (fun cdv A outer s H vs Q E hr h=>?_)
  · obtain ⟨n,nl,rl,dn,l,wl,sl,h,nums,rs,c,rfl,_⟩:=h
    rfl
  · obtain ⟨n,nl,rl,dn,l,wl,sl,h,nums,rs,c,rfl,N,hI,hne0,hnl,hrl,hrw,hrs,hC,k⟩:=h
    refine ⟨_,(ae (aw (i:=3) cb.nd rfl (by first | exact Or.inl rfl | exact Or.inr rfl) (ay (ak (K:=K)) (pv 1) af (fun _ _=>rfl)))
      (ae (aU (dX (aZ (aL (K:=K) (aD T.is_tick (cB T) (hr.mono (by decide)) c9 (aa (pv 3) ad)) (fun _=>rfl))) (dX (aM j6 (aF (ax (K:=K)) (by rfl) T.n_len PySem.boot_len (aa (pv 2) ad)) (aG cZ (a8 T.c_TICKS) (pv 3)) (aP _)) (dH (aZ (aL (K:=K) (aF (ma (K:=K) rfl) (by rfl) T.n_all iZ (aa (gg (own:=[("water",4)]) rfl cb.nd (bV (pv 2)) (bh (N:=["net", "numbers", "row", "tick", "water", "k"]) (sc:=aj eg) (by decide +kernel)) (fun _ _ _ _ _=>(aJ (i:=4) cb.nd rfl (by first | exact Or.inl rfl | exact Or.inr rfl))) (fun _ _ _ _ _=>bI) (fun _ _ _ _ _=>(aD T.is_water (ik T) (hr.mono (by decide)) jK (aa (pv 4) ad)))) ad)) (fun _=>rfl)))))).pt
      (ag (au (aE (aa (a8 T.c_OUT_OF_RANGE) ad))))
      aI)
      (ae (bS PassesOwn.never rfl (iU rfl T.n_enumerate (aa (pv 2) ad)) (dO (K:=K) (n:=2) rfl (bd (aJ (i:=5) cb.nd rfl (by first | exact Or.inl rfl | exact Or.inr rfl)) (bd (aJ (i:=4) cb.nd rfl (by first | exact Or.inl rfl | exact Or.inr rfl)) dN)))
      (ag (xg (pv 4) (xk (am (K:=K) (pv 0) rfl) (aG bu (pv 3) (pv 5)) qG))))
      (ag (au (aE (aa af ad))))))),?_⟩
    obtain ⟨t,rfl,rfl⟩:=se hC
    have hne:=hne0 rfl
    have hs:Vbiraa.step h (.let_ t rs)=if (Vbiraa.isTick t && (Vbiraa.within (t + (rs.length:Int)) 0 (Vbiraa.TICKS:Int) && rs.all fun x=>Vbiraa.within x 0 Vbiraa.LET))=false then (h,[-1]) else ({ h with lets:=Vbiraa.put h.lets t.toNat (rs.map Int.toNat) },[0]):=by
      rw [Vbiraa.step,bn hne]
      rfl
    rw [hs] at k
    refine ⟨_,rfl,nl,_,_,_,rfl,rfl,SqL.of hnl,aC (j:=0) rfl rfl,?_⟩
    have bad:∀ {H1:Hp} {v1 v2 v3:Option V},Same H H1→(Vbiraa.isTick t && (Vbiraa.within (t + (rs.length:Int)) 0 (Vbiraa.TICKS:Int) && rs.all fun x=>Vbiraa.within x 0 Vbiraa.LET))=false→tRet (tLst (jW (tC (V.int (-1))) tNil)) { nx:=fun x H'=>Q V.non H',rt:=Q } [some (V.ref n),some (V.ref nl),some (V.ref rl),v1,v2,v3] H1:=fun s1 z=>by
      rw [if_pos z] at k
      exact ⟨(by show 1≤sizeLine; decide),fun p hp=>k.new N (s1.trans (ah hp)) (s1.free hp) ac⟩
    refine ⟨_,rfl,t,rfl,_,rfl,?_⟩
    cases c1:Vbiraa.isTick t with
    | false=>exact iteT (iteT (bad (Same.refl _) (by rw [c1,Bool.false_and])))
    | true =>
    obtain ⟨u,rfl,hu⟩:=cC c1
    refine iteF ⟨_,rfl,rl,_,rfl,.inl (SqL.of hrl),_,rfl,_,_,rfl,rfl,_,_,rfl,rfl,_,rfl,?_⟩
    have e1:decide ((60:Int) - (u:Int) < ((aS rs).length:Int))=!Vbiraa.within ((u:Int) + (rs.length:Int)) 0 (Vbiraa.TICKS:Int):=by
      rw [br]
      unfold Vbiraa.within
      rw [Bool.eq_iff_iff,Bool.not_eq_true',decide_eq_true_eq,Bool.and_eq_false_iff,decide_eq_false_iff_not,decide_eq_false_iff_not]
      show _↔_∨¬ ((u:Int) + (rs.length:Int))≤60
      omega
    refine (congrArg (fun b=>if b=true then _ else _) e1).mpr ?_
    cases c2:Vbiraa.within ((u:Int) + (rs.length:Int)) 0 (Vbiraa.TICKS:Int) with
    | false=>exact iteT (iteT (bad (Same.refl _) (by rw [c1,c2]; rfl)))
    | true =>
    have hlen:u + rs.length≤60:=by
      have:(u:Int) + (rs.length:Int)≤60:=(eD c2).2
      omega
    refine iteF ⟨_,rfl,rl,rfl,⟨_,SqL.of hrl⟩,fun D hD=>?_⟩
    refine bX (xs:=aS rs) (rs.map fun x=>V.bl (Vbiraa.within x 0 Vbiraa.LET)) (by rw [br,List.length_map]) hD (SqL.of hrl) (aO (by rw [br]; omega)) ?_ ?_
    · rintro i x y H2 hx hy s2 Q' kq
      unfold aS at hx
      rw [List.getElem?_map] at hx hy
      obtain ⟨z,hz,rfl⟩:=Option.map_eq_some_iff.mp hx
      rw [hz] at hy
      have hy:=Option.some.inj hy
      subst hy
      exact ⟨rfl,_,rfl,z,rfl,kq _ (Same.refl _)⟩
    · rintro H2 s2 hD2
      refine ⟨D,rs.map fun x=>Vbiraa.within x 0 Vbiraa.LET,rfl,?_,_,rfl,?_⟩
      · rw [List.map_map]
        exact SqL.of hD2
      rw [jh]
      cases c3:(rs.all fun x=>Vbiraa.within x 0 Vbiraa.LET) with
      | false=>exact iteT (bad s2 (by rw [c1,c2,c3]; rfl))
      | true =>
      refine iteF ?_
      rw [c1,c2,c3,if_neg (by decide),Int.toNat_natCast] at k
      have hpos:∀ x∈rs,0≤x∧x≤1000000:=fun x hx=>eD (List.all_eq_true.mp c3 x hx)
      have N2:=N.same s2
      have hws:ao (waters h)=ao (wJ h u (rs.map Int.toNat) 0):=by rw [cE hne,yj]
      obtain ⟨ap1,ap2,ap3⟩:=N.apart hne
      refine ⟨_,rfl,rl,_,rfl,SqL.of (s2 _ _ hrl),iz (K:=K) (a:=rl) (xs:=aS rs)
        (fun j σ H'=>(∀ b o,H b=some o→b≠wl→H' b=some o)∧H' wl=some (.lst (ao (wJ h u (rs.map Int.toNat) j)))∧∃ v1 v2:Option V,σ=[some (.ref n),some (.ref nl),some (.ref rl),some (.int u),v1,v2])
        ⟨fun b o e _=>s2 b o e,by rw [←hws]; exact s2 _ _ N.ws,_,_,rfl⟩ (fun j σ H' _ p=>SqL.of (p.1 _ _ hrl hrw)) ?_ ?_⟩
      · rintro j x σ H' tt hx ⟨kp,hw,v1,v2,rfl⟩ htt
        unfold aS at hx
        rw [List.getElem?_map] at hx
        obtain ⟨z,hz,rfl⟩:=Option.map_eq_some_iff.mp hx
        have hj:j < rs.length:=(List.getElem?_eq_some_iff.mp hz).1
        obtain ⟨z0,z1⟩:=hpos z (List.mem_of_getElem? hz)
        have st:=ah (o:=.tup [.int (j:Nat),V.int z]) htt
        have N3:=st _ _ (kp _ _ N.obj ap3)
        have hw3:=st _ _ hw
        refine ⟨tt,_,rfl,SqT.of ac,rfl,_,_,rfl,_,_,rfl,rfl,?_⟩
        refine ⟨_,rfl,_,rfl,n,T.a_Net,dn,_,_,rfl,N3,T.cl_Net,T.na_Net_waters,dJ,_,rfl,_,rfl,_,_,rfl,rfl,wl,_,_,u + j,rfl,rfl,hw3,?_,?_⟩
        · unfold ixN
          rw [aB,wx,if_pos (by omega),if_pos (by omega)]
          congr 1
        · refine ⟨fun b o e nb=>?_,?_,_,_,rfl⟩
          · rw [ai nb]
            exact st _ _ (kp b o e nb)
          · rw [ac,←yk h (v:=z.toNat) (by rw [List.getElem?_map,hz]; rfl) (by omega)]
            unfold ao
            rw [List.map_set]
            congr 3
            show V.int z=V.int ((z.toNat:Nat):Int)
            rw [Int.toNat_of_nonneg z0]
      · rintro σ H' ⟨kp,hw,v1,v2,rfl⟩
        refine ⟨(by show 1≤sizeLine; decide),fun p hp=>?_⟩
        have st:=ah (o:=.lst [.int 0]) hp
        rw [br,show rs.length=(rs.map Int.toNat).length by rw [List.length_map],wJ_put,←sx hne] at hw
        have hpn:H p=none:=by
          cases q:H p with
          | none=>rfl
          | some o =>
            by_cases z:p=wl
            · rw [z,hw] at hp
              cases hp
            · rw [kp p o q z] at hp
              cases hp
        refine k _ p dn l wl sl ?_ (.inl rfl) (.inl rfl) (.inl rfl) (fun b o e _ nb=>st _ _ (kp b o e nb)) hpn ac
        exact N.water hne (fun b o e nb=>st _ _ (kp b o e nb)) (st _ _ hw) rfl rfl
end
end CN
namespace CN
open PySem PySem.Spec PyProof.Rows L2
def cNet:List Int→List Int→Option Vbiraa.Call
  | [],t=>if (t.all fun x=>decide (0≤x))=true then some (.net (t.map Int.toNat)) else none
  | _,_=>none
theorem sd {a b:List Int} {c:Vbiraa.Call} (h:cNet a b=some c):a=[]∧c=.net (b.map Int.toNat)∧∀ x∈b,0≤x:=by
  unfold cNet at h
  split at h
  · split at h
    · rename_i e
      cases h
      exact ⟨rfl,rfl,fun x hx=>of_decide_eq_true (List.all_eq_true.mp e x hx)⟩
    · cases h
  · cases h
theorem fY.snoc {H:Hp} {sl ql tp:Addr} {ss:List Vbiraa.Setting} {s:Vbiraa.Setting} {xs:List V} (S:fY H sl ss) (h1:H sl=some (.lst xs)) (hq:H ql=some (.lst (xs++[.ref tp]))) (ht:H tp=some (.tup [.int s.reach,.int s.tick,.int s.part])):fY H ql (ss++[s]):=by
  obtain ⟨as,g1,g2,g3⟩:=S.ex
  have e:xs=as.map V.ref:=by
    rw [h1] at g1
    exact HO.lst.inj (Option.some.inj g1)
  subst e
  refine ⟨as++[tp],by rw [hq,List.map_append]; rfl,by rw [List.length_append,List.length_append,g2]; rfl,fun i a q e e'=>?_⟩
  by_cases hi:i < as.length
  · rw [List.getElem?_append_left hi] at e
    rw [List.getElem?_append_left (by omega)] at e'
    exact g3 i a q e e'
  · rw [List.getElem?_append_right (by omega)] at e
    rw [List.getElem?_append_right (by omega),←g2] at e'
    cases z:i - as.length with
    | zero =>
      rw [z] at e e'
      have e1:tp=a:=Option.some.inj e
      have e2:s=q:=Option.some.inj e'
      subst e1 e2
      exact ht
    | succ m =>
      rw [z] at e
      cases e
theorem vN (l:List Int) (h:∀ x∈l,0≤x):aS l=ao (l.map Int.toNat):=by
  unfold aS ao
  rw [List.map_map]
  refine List.map_congr_left fun x hx=>?_
  show V.int x=V.int ((x.toNat:Nat):Int)
  rw [Int.toNat_of_nonneg (h x hx)]
section
variable {P:Program} {w:World} {K:PySem.W.Frag} {mg:Str→Option Value} {base:Heap}
theorem mY (T:Txt K mg):FnOk P w K mg base CX0 3 T.answer_gate.f T.answer_gate.fd ["net", "numbers", "row"] (spFn T.a_Reach T.a_Net u5):=by
  refine T.answer_gate.F.ok eP (fun vs H Q E h=>?_) (fun cdv A outer s H vs Q E hr h=>?_)
  · obtain ⟨n,nl,rl,dn,l,wl,sl,h,nums,rs,c,rfl,_⟩:=h
    rfl
  · obtain ⟨n,nl,rl,dn,l,wl,sl,h,nums,rs,c,rfl,N,hI,hne0,hnl,hrl,hrw,hrs,hC,k⟩:=h
    refine ⟨_,(ae (aw (i:=3) eP.nd rfl (by first | exact Or.inl rfl | exact Or.inr rfl) (ay (ak (K:=K)) (pv 1) af (fun _ _=>rfl)))
      (ae (aU (dX (aZ (aL (K:=K) (aD T.is_reach (bP T) (hr.mono (by decide)) cD (aa (pv 0) (aa (pv 3) ad))) (fun _=>rfl))) (dX (aZ (aL (K:=K) (aD T.is_tick (cB T) (hr.mono (by decide)) c9 (aa (ay (ak (K:=K)) (pv 1) af (fun _ _=>rfl)) ad)) (fun _=>rfl))) (dH (aZ (eX cN cN af (ay (ak (K:=K)) (pv 1) af (fun _ _=>rfl)) af))))).pt
      (ag (au (aE (aa (a8 T.c_OUT_OF_RANGE) ad))))
      aI)
      (ae (aw (i:=4) eP.nd rfl (by first | exact Or.inl rfl | exact Or.inr rfl) (aG dw (am (K:=K) (pv 0) rfl) (aE (aa (gI (aa (pv 3) (aa (ay (ak (K:=K)) (pv 1) af (fun _ _=>rfl)) (aa (ay (ak (K:=K)) (pv 1) af (fun _ _=>rfl)) ad)))) ad))))
      (ae (aU (aZ (aL (K:=K) (aD T.parts_fit (pQ T) (hr.mono (by decide)) sh (aa (am (K:=K) (pv 0) rfl) (aa (pv 4) (aa (am (K:=K) (ay (ak (K:=K)) (am (K:=K) (pv 0) rfl) (pv 3) (fun _ _=>rfl)) rfl) ad)))) (fun _=>rfl)))
      (ag (au (aE (aa (a8 T.c_TOO_MUCH_PARTED) ad))))
      aI)
      (ae (aU (aM j6 (aF (ax (K:=K)) (by rfl) T.n_len PySem.boot_len (aa (pv 4) ad)) (a8 T.c_MOST_SETTINGS) (aP _))
      (ag (au (aE (aa (a8 T.c_TOO_MANY_SETTINGS) ad))))
      aI)
      (ae (bT (pv 0) (pv 4) rfl)
      (ag (au (aE (aa af ad)))))))))),?_⟩
    obtain ⟨i,t,pt,rfl,rfl⟩:=o8 hC
    have hne:=hne0 rfl
    have hs:Vbiraa.step h (.gate i t pt)=if (Vbiraa.isReach h i && (Vbiraa.isTick t && Vbiraa.within pt 0 100))=false then (h,[-1]) else
        if Vbiraa.gatesOk { h with settings:=h.settings++[{ reach:=i.toNat,tick:=t.toNat,part:=pt.toNat }] } (Vbiraa.reachAt h.net i.toNat).parent=false then (h,[-7]) else if Vbiraa.SETTINGS≤h.settings.length then (h,[-6]) else ({ h with settings:=h.settings++[{ reach:=i.toNat,tick:=t.toNat,part:=pt.toNat }] },[0]):=by
      rw [Vbiraa.step,bn hne]
      rfl
    rw [hs] at k
    refine ⟨_,rfl,nl,_,_,_,rfl,rfl,SqL.of hnl,aC (j:=0) rfl rfl,?_⟩
    have bad:(Vbiraa.isReach h i && (Vbiraa.isTick t && Vbiraa.within pt 0 100))=false→∀ v4:Option V,tRet (tLst (jW (tC (V.int (-1))) tNil)) { nx:=fun x H'=>Q V.non H',rt:=Q } [some (V.ref n),some (V.ref nl),some (V.ref rl),some (V.int i),v4] H:=fun z v4=>by
      rw [if_pos z] at k
      exact ⟨(by show 1≤sizeLine; decide),fun p hp=>k.new N (ah hp) hp ac⟩
    refine ⟨_,rfl,_,rfl,n,dn,l,wl,sl,h,i,rfl,N,_,rfl,?_⟩
    cases c1:Vbiraa.isReach h i with
    | false=>exact iteT (iteT (bad (by rw [c1,Bool.false_and]) none))
    | true =>
    refine iteF ⟨_,rfl,nl,_,_,_,rfl,rfl,SqL.of hnl,aC (j:=1) rfl rfl,t,rfl,_,rfl,?_⟩
    cases c2:Vbiraa.isTick t with
    | false=>exact iteT (iteT (bad (by rw [c1,c2,Bool.false_and,Bool.true_and]) none))
    | true =>
    refine iteF ⟨_,rfl,nl,_,_,_,rfl,rfl,SqL.of hnl,aC (j:=2) rfl rfl,_,_,rfl,rfl,_,rfl,?_⟩
    have hwi:Vbiraa.within pt 0 100=(decide ((0:Int)≤pt) && decide (pt≤100)):=rfl
    cases c3:decide ((0:Int)≤pt) with
    | false =>
      refine iteF ⟨_,rfl,iteT (bad ?_ none)⟩
      rw [c1,c2,hwi,c3]
      rfl
    | true =>
    refine iteT ⟨_,_,rfl,rfl,_,rfl,?_⟩
    cases c4:decide (pt≤(100:Int)) with
    | false =>
      refine iteT (bad ?_ none)
      rw [c1,c2,hwi,c3,c4]
      rfl
    | true =>
    refine iteF ?_
    rw [c1,c2,hwi,c3,c4,if_neg (by decide)] at k
    obtain ⟨j,rfl,hj⟩:=bQ c1
    obtain ⟨u,rfl,hu⟩:=cC c2
    obtain ⟨y,rfl⟩:∃ y:Nat,pt=(y:Int):=⟨pt.toNat,by have:=of_decide_eq_true c3; omega⟩
    have hy:y≤100:=by
      have:=of_decide_eq_true c4
      omega
    simp only [Int.toNat_natCast] at k
    have hticks:∀ q∈h.settings++[({ reach:=j,tick:=u,part:=y }:Vbiraa.Setting)],q.tick < 60:=fun q hq=>by
      rcases List.mem_append.mp hq with hq | hq
      · exact (hI.sets q hq).2.1
      · rw [List.mem_singleton.mp hq]
        exact hu
    rw [nu (h:={ h with settings:=h.settings++[{ reach:=j,tick:=u,part:=y }] }) hticks] at k
    obtain ⟨as,g1,g2,g3⟩:=N.ss.ex
    refine ⟨_,rfl,n,T.a_Net,dn,_,_,rfl,N.obj,T.cl_Net,T.na_Net_settings,c8,_,rfl,_,rfl,nl,_,_,_,rfl,rfl,SqL.of hnl,aC (j:=1) rfl rfl,_,rfl,nl,_,_,_,rfl,rfl,SqL.of hnl,aC (j:=2) rfl rfl,(by show 3≤sizeLine; decide),fun tp htp=>?_⟩
    have s1:=ah (o:=.tup [.int (j:Int),.int (u:Int),.int (y:Int)]) htp
    refine ⟨(by show 1≤sizeLine; decide),fun e1 he1=>?_⟩
    have s2:=ah (o:=.lst [.ref tp]) he1
    refine ⟨sl,e1,_,_,rfl,rfl,s2 _ _ (s1 _ _ g1),ac,?_,fun ql hql=>?_⟩
    · rw [List.length_map,g2]
      have:=hI.setN
      exact Nat.le_of_lt (aO (by show h.settings.length + 1 < 1000000; omega))
    have s3:=ah (o:=.lst (as.map V.ref++[.ref tp])) hql
    have sA:=(s1.trans s2).trans s3
    have S3:fY _ ql (h.settings++[{ reach:=j,tick:=u,part:=y }]):=(N.ss.same sA).snoc (sA _ _ g1) ac (s3 _ _ (s2 _ _ ac))
    obtain ⟨xs,a,dx,h1,h2,h3,h4⟩:=(N.rs.same sA).at_ hj
    have NA:=N.same sA
    have hqn:H ql=none:=(s1.trans s2).free hql
    refine ⟨_,rfl,n,T.a_Net,dn,_,_,rfl,NA.obj,T.cl_Net,T.na_Net_reaches,aH,_,rfl,_,rfl,n,T.a_Net,dn,_,_,rfl,NA.obj,T.cl_Net,T.na_Net_reaches,aH,_,rfl,l,_,_,_,rfl,rfl,SqL.of h1,aX h3,a,T.a_Reach,dx,_,_,rfl,h4,T.cl_Reach,T.na_Reach_begins,cU,
      l,ql,h.net,h.settings++[{ reach:=j,tick:=u,part:=y }],(Vbiraa.reachAt h.net j).parent,rfl,NA.rs,S3,by have:=hI.wf.len; omega,fun H4 s4=>⟨_,rfl,?_⟩⟩
    have sB:=sA.trans s4
    rw [show fitN h.net (h.settings++[{ reach:=j,tick:=u,part:=y }]) (Vbiraa.reachAt h.net j).parent 60=fitH { h with settings:=h.settings++[{ reach:=j,tick:=u,part:=y }] } (Vbiraa.reachAt h.net j).parent from rfl]
    cases c5:fitH { h with settings:=h.settings++[{ reach:=j,tick:=u,part:=y }] } (Vbiraa.reachAt h.net j).parent with
    | false =>
      rw [c5,if_pos rfl] at k
      exact iteT ⟨(by show 1≤sizeLine; decide),fun p hp=>k.new N (sB.trans (ah hp)) (sB.free hp) ac⟩
    | true =>
    rw [c5,if_neg (by decide)] at k
    have hql4:=s4 ql _ ac
    refine iteF ⟨_,rfl,ql,_,rfl,.inl (SqL.of hql4),_,_,rfl,rfl,_,rfl,?_⟩
    have e6:decide ((60:Int) < ((as.map V.ref++[V.ref tp]).length:Int))=decide (Vbiraa.SETTINGS≤h.settings.length):=by
      rw [List.length_append,List.length_map,g2]
      refine decide_eq_decide.mpr ?_
      show (60:Int) < ((h.settings.length + 1:Nat):Int)↔60≤h.settings.length
      omega
    refine (congrArg (fun b=>if b=true then _ else _) e6).mpr ?_
    refine ite2 (fun c6=>?_) (fun c6=>?_)
    · have c6:=of_decide_eq_true c6
      rw [if_pos c6] at k
      exact ⟨(by show 1≤sizeLine; decide),fun p hp=>k.new N (sB.trans (ah hp)) (sB.free hp) ac⟩
    · have c6:¬ Vbiraa.SETTINGS≤h.settings.length:=fun z=>c6 (decide_eq_true z)
      rw [if_neg c6] at k
      have NB:=N.same sB
      refine ⟨_,rfl,_,rfl,n,T.a_Net,dn,_,rfl,NB.obj,T.cl_Net,T.na_Net_settings,by show 3 < 1000; decide,?_⟩
      refine ⟨(by show 1≤sizeLine; decide),fun p hp=>?_⟩
      have st:=ah (o:=.lst [.int 0]) hp
      have kp:∀ b o,H4 b=some o→b≠n→(upd (upd H4 n (.ins T.a_Net dn (putF "settings" (.ref ql) (nf l wl sl)))) p (.lst [.int 0])) b=some o:=fun b o e nb=>st _ _ (by rw [ai nb]; exact e)
      have hpn:H p=none:=by
        cases q:H p with
        | none=>rfl
        | some o =>
          by_cases z:p=n
          · rw [z,ac] at hp
            cases hp
          · rw [ai z,sB p o q] at hp
            cases hp
      refine k _ p dn l wl ql ⟨st _ _ ?_,?_,kp _ _ NB.ws (bK NB.ws NB.obj (by intro z; cases z)),?_⟩ (.inl rfl) (.inl rfl) (.inr hqn) (fun b o e nb _=>kp b o (sB b o e) nb) hpn ac
      · rw [ac]
        rfl
      · obtain ⟨bs,k1,k2,k3⟩:=NB.rs.ex
        have hnn:∀ {b:Addr} {xs:List V},H4 b=some (.lst xs)→b≠n:=fun e=>bK e NB.obj (by intro z; cases z)
        refine ⟨bs,kp _ _ k1 (hnn k1),k2,fun i b e=>?_⟩
        obtain ⟨d2,hd2⟩:=k3 i b e
        refine ⟨d2,kp _ _ hd2 (bK hd2 NB.obj ?_)⟩
        intro z
        have z1:=HO.ins.inj z
        have z2:=congrArg List.length z1.2.2
        exact absurd z2 (by show ¬ 9=3; decide)
      · obtain ⟨bs,k1,k2,k3⟩:=(S3.same s4).ex
        refine ⟨bs,kp _ _ k1 (bK k1 NB.obj (by intro z; cases z)),k2,fun i b q e e'=>?_⟩
        exact kp _ _ (k3 i b q e e') (bK (k3 i b q e e') NB.obj (by intro z; cases z))
def yw (C:Addr):Sp:=fun vs H Q _=>∃ (x dx:Addr),vs=[.ref x]∧H x=some (.ins C dx [])∧∀ (H':Hp) (l wl sl:Addr),H' x=some (.ins C dx (nf l wl sl))→H' l=some (.lst [])→H' wl=some (.lst [])→H' sl=some (.lst [])→(∀ b o,H b=some o→b≠x→H' b=some o)→Q .non H'
theorem lF (T:Txt K mg):FnOk P w K mg base CX0 1 T.Net_init.f T.Net_init.fd ["self"] (yw T.a_Net):=by
  refine T.Net_init.F.ok qK (fun vs H Q E h=>?_) (fun cdv A outer s H vs Q E hr h=>?_)
  · obtain ⟨x,dx,rfl,_⟩:=h
    rfl
  · obtain ⟨x,dx,rfl,hx,k⟩:=h
    refine ⟨_,(ae (bT (pv 0) (aE ad) rfl)
      (ae (bT (pv 0) (aE ad) rfl)
      (ag (bT (pv 0) (aE ad) rfl)))),?_⟩
    refine ⟨Nat.zero_le _,fun l hl=>?_⟩
    have nlx:l≠x:=(aq hx hl).symm
    refine ⟨_,rfl,x,T.a_Net,dx,_,rfl,by rw [ai nlx.symm]; exact hx,T.cl_Net,T.na_Net_reaches,by decide,?_⟩
    refine ⟨Nat.zero_le _,fun wl hwl=>?_⟩
    have nwx:wl≠x:=(aq ac hwl).symm
    refine ⟨_,rfl,x,T.a_Net,dx,_,rfl,by rw [ai nwx.symm]; exact ac,T.cl_Net,T.na_Net_waters,by show 1 < 1000; decide,?_⟩
    refine ⟨Nat.zero_le _,fun sl hsl=>?_⟩
    have nsx:sl≠x:=(aq ac hsl).symm
    refine ⟨_,rfl,x,T.a_Net,dx,_,rfl,by rw [ai nsx.symm]; exact ac,T.cl_Net,T.na_Net_settings,by show 2 < 1000; decide,?_⟩
    have nwl:wl≠l:=fun z=>by
      rw [z,ai nlx,ac] at hwl
      cases hwl
    have nsl:sl≠l:=fun z=>by
      rw [z,ai nlx,ai nwl.symm,ai nlx,ac] at hsl
      cases hsl
    have nsw:sl≠wl:=fun z=>by
      rw [z,ai nwx,ac] at hsl
      cases hsl
    refine k _ l wl sl ac ?_ ?_ ?_ ?_
    · rw [ai nlx,ai nsl.symm,ai nlx,ai nwl.symm,ai nlx,ac]
    · rw [ai nwx,ai nsw.symm,ai nwx,ac]
    · rw [ai nsx,ac]
    · intro b o e nb
      have nbl:b≠l:=aq e hl
      have nbw:b≠wl:=fun z=>by
        rw [←z,ai nb,ai nbl,e] at hwl
        cases hwl
      have nbs:b≠sl:=fun z=>by
        rw [←z,ai nb,ai nbw,ai nb,ai nbl,e] at hsl
        cases hsl
      rw [ai nb,ai nbs,ai nb,ai nbw,ai nb,ai nbl]
      exact e
def yq (C:Addr):Sp:=fun vs H Q _=>∃ (n dn l wl sl l2:Addr),vs=[.ref n,.ref l2]∧H n=some (.ins C dn (nf l wl sl))∧∀ (H':Hp) (wl' sl':Addr),H' n=some (.ins C dn (nf l2 wl' sl'))→H' wl'=some (.lst (ao (List.replicate 60 0)))→H' sl'=some (.lst [])→H wl'=none→H sl'=none→(∀ b o,H b=some o→b≠n→H' b=some o)→Q .non H'
theorem pS (T:Txt K mg):FnOk P w K mg base CX0 1 T.Net_renew.f T.Net_renew.fd ["self", "reaches"] (yq T.a_Net):=by
  refine T.Net_renew.F.ok pH (fun vs H Q E h=>?_) (fun cdv A outer s H vs Q E hr h=>?_)
  · obtain ⟨n,dn,l,wl,sl,l2,rfl,_⟩:=h
    rfl
  · obtain ⟨n,dn,l,wl,sl,l2,rfl,hn,k⟩:=h
    refine ⟨_,(ae (bT (pv 0) (pv 1) rfl)
      (ae (bT (pv 0) (aG xo (aE (aa af ad)) (a8 T.c_TICKS)) rfl)
      (ag (bT (pv 0) (aE ad) rfl)))),?_⟩
    refine ⟨_,rfl,_,rfl,n,T.a_Net,dn,_,rfl,hn,T.cl_Net,T.na_Net_reaches,by show 3 < 1000; decide,?_⟩
    refine ⟨(by show 1≤sizeLine; decide),fun z hz=>?_⟩
    have nzn:n≠z:=aq ac hz
    refine ⟨z,60,_,rfl,rfl,ac,by decide,by decide,(by show 60≤sizeLine; decide),fun w2 hw2=>?_⟩
    have nwz:w2≠z:=fun q=>by
      rw [q,ac] at hw2
      cases hw2
    have nwn:w2≠n:=fun q=>by
      rw [q,ai nzn,ac] at hw2
      cases hw2
    refine ⟨_,rfl,n,T.a_Net,dn,_,rfl,by rw [ai nwn.symm,ai nzn]; exact ac,T.cl_Net,T.na_Net_waters,by show 3 < 1000; decide,?_⟩
    refine ⟨Nat.zero_le _,fun s2 hs2=>?_⟩
    have nsn:s2≠n:=fun q=>by
      rw [q,ac] at hs2
      cases hs2
    have nsw:s2≠w2:=fun q=>by
      rw [q,ai nwn,ac] at hs2
      cases hs2
    have nsz:s2≠z:=fun q=>by
      rw [q,ai nzn.symm,ai nwz.symm,ac] at hs2
      cases hs2
    refine ⟨_,rfl,n,T.a_Net,dn,_,rfl,by rw [ai nsn.symm]; exact ac,T.cl_Net,T.na_Net_settings,by show 3 < 1000; decide,?_⟩
    refine k _ w2 s2 ac ?_ ?_ ?_ ?_ ?_
    · rw [ai nwn,ai nsw.symm,ai nwn,ac]
      rfl
    · rw [ai nsn,ac]
    · rw [ai nwz,ai nwn] at hw2
      exact hw2
    · rw [ai nsn,ai nsw,ai nsz,ai nsn] at hs2
      exact hs2
    · intro b o e nb
      have nbz:b≠z:=fun q=>by
        rw [←q,ai nb,e] at hz
        cases hz
      have nbw:b≠w2:=fun q=>by
        rw [←q,ai nbz,ai nb,e] at hw2
        cases hw2
      have nbs:b≠s2:=fun q=>by
        rw [←q,ai nb,ai nbw,ai nbz,ai nb,e] at hs2
        cases hs2
      rw [ai nb,ai nbs,ai nb,ai nbw,ai nbz,ai nb]
      exact e
theorem sy {ns:Vbiraa.Net} (hne:ns≠[]):waters { net:=ns }=List.replicate 60 0:=by
  rw [cE (h:={ net:=ns }) hne]
  rfl
theorem nZ (T:Txt K mg):FnOk P w K mg base CX0 6 T.answer_net.f T.answer_net.fd ["net", "numbers", "row"] (spFn T.a_Reach T.a_Net cNet):=by
  refine T.answer_net.F.ok fI (fun vs H Q E h=>?_) (fun cdv A outer s H vs Q E hr h=>?_)
  · obtain ⟨n,nl,rl,dn,l,wl,sl,h,nums,rs,c,rfl,_⟩:=h
    rfl
  · obtain ⟨n,nl,rl,dn,l,wl,sl,h,nums,rs,c,rfl,N,hI,hne0,hnl,hrl,hrw,hrs,hC,k⟩:=h
    refine ⟨_,(ae (aw (i:=3) fI.nd rfl (by first | exact Or.inl rfl | exact Or.inr rfl) (aD T.read_net (q0 T) (hr.mono (by decide)) uc (aa (pv 2) ad)))
      (ae (aw (i:=4) fI.nd rfl (by first | exact Or.inl rfl | exact Or.inr rfl) (ay (aR (K:=K)) (pv 3) af (fun _ _=>rfl)))
      (ae (aU (aM du (aF (ax (K:=K)) (by rfl) T.n_len PySem.boot_len (aa (pv 4) ad)) af (aP _))
      (ag (au (aE (aa af (aa (ay (aR (K:=K)) (pv 3) af (fun _ _=>rfl)) ad)))))
      aI)
      (ae (bU (yG (pv 0) T.cl_Net T.me_Net_renew (pS T) (hr.mono (by decide)) sj .nil lA (aa (pv 4) ad)))
      (ag (au (aE (aa af (aa (aF (ax (K:=K)) (by rfl) T.n_len PySem.boot_len (aa (pv 4) ad)) (aa (aF (ax (K:=K)) (by rfl) T.n_len PySem.boot_len (aa (aD T.ends_of (dI T) (hr.mono (by decide)) eC (aa (pv 4) ad)) ad)) ad)))))))))),?_⟩
    obtain ⟨rfl,rfl,hpos⟩:=sd hC
    have hs:Vbiraa.step h (.net (rs.map Int.toNat))=match Vbiraa.readNet (rs.map Int.toNat) with | .error i=>(h,[1,(i:Int)]) | .ok ns=>({ net:=ns },0 :: Vbiraa.nums [ns.length,(Vbiraa.ends ns).length]):=by
      rw [Vbiraa.step]
      cases Vbiraa.readNet (rs.map Int.toNat) <;> rfl
    rw [hs] at k
    refine ⟨_,rfl,rl,rs.map Int.toNat,rfl,by rw [←vN rs hpos]; exact hrl,by rw [List.length_map]; exact hrs,fun i hi H1 p e s1 hp1 he1=>?_,fun ns hns H1 p l2 s1 hp1 R hwf hnn hl2=>?_⟩
    · rw [hi] at k
      refine ⟨_,rfl,p,_,0,_,rfl,rfl,SqT.of hp1,rfl,?_⟩
      refine ⟨_,rfl,e,_,rfl,.inl (SqL.of he1),rfl,_,rfl,iteT ?_⟩
      refine ⟨_,rfl,p,_,1,_,rfl,rfl,SqT.of hp1,rfl,(by show 2≤sizeLine; decide),fun q hq=>?_⟩
      exact k.new N (s1.trans (ah hq)) (s1.free hq) ac
    · rw [hns] at k
      obtain ⟨xs,h1,h2,_⟩:=R.list
      refine ⟨_,rfl,p,_,0,_,rfl,rfl,SqT.of hp1,rfl,?_⟩
      refine ⟨_,rfl,l2,_,rfl,.inl (SqL.of h1),rfl,_,rfl,?_⟩
      have e0:decide (V.int ((xs.length:Nat):Int)=V.int 0)=false:=by
        refine decide_eq_false fun z=>?_
        have z:((xs.length:Nat):Int)=0:=V.int.inj z
        rw [h2] at z
        exact hnn (List.length_eq_zero_iff.mp (by omega))
      rw [e0]
      have N1:=N.same s1
      refine iteF ⟨_,rfl,n,dn,_,rfl,N1.obj,rfl,_,rfl,n,dn,l,wl,sl,l2,rfl,N1.obj,fun H2 w2 s2 a1 a2 a3 a4 a5 kp=>?_⟩
      have hl2n:l2≠n:=bK h1 N1.obj (by intro z; cases z)
      have R2:RsAt T.a_Reach H2 l2 ns:=by
        obtain ⟨as,b1,b2,b3⟩:=R.ex
        refine ⟨as,kp _ _ b1 hl2n,b2,fun i a e=>?_⟩
        obtain ⟨dx,hx⟩:=b3 i a e
        refine ⟨dx,kp _ _ hx (bK hx N1.obj ?_)⟩
        intro z
        have z2:=congrArg List.length (HO.ins.inj z).2.2
        exact absurd z2 (by show ¬ 9=3; decide)
      have h1':=kp _ _ h1 hl2n
      have hlen:=hwf.len
      refine ⟨_,rfl,l2,_,rfl,.inl (SqL.of h1'),_,rfl,l2,ns,rfl,R2,by omega,fun H3 ep s3 hep hep3=>?_⟩
      refine ⟨ep,_,rfl,.inl (SqL.of hep3),(by show 3≤sizeLine; decide),fun q hq=>?_⟩
      have st:=ah (o:=.lst [.int 0,.int (xs.length:Int),.int ((ao (Vbiraa.ends ns)).length:Int)]) hq
      have sE:=s3.trans st
      have kpn:∀ b o,H b=some o→b≠n→_=some o:=fun b o e nb=>sE b o (kp b o (s1 b o e) nb)
      have hqn:H q=none:=by
        cases z:H q with
        | none=>rfl
        | some o =>
          by_cases c:q=n
          · rw [c] at hq
            rw [s3 _ _ a1] at hq
            cases hq
          · rw [s3 _ _ (kp q o (s1 _ _ z) c)] at hq
            cases hq
      refine k _ q dn l2 w2 s2 ⟨sE _ _ a1,R2.same sE,?_,⟨[],sE _ _ a3,rfl,fun i a s e=>by cases e⟩⟩ (.inr hl2) (.inr (s1.free a4)) (.inr (s1.free a5)) (fun b o e nb _=>kpn b o e nb) hqn ?_
      · rw [sy hnn]
        exact sE _ _ a2
      · rw [ac,aB,h2]
        rfl
end
end CN
namespace CN
open PySem PySem.Spec PyProof.Rows L2
def rowV (r:Nat × Nat × Nat):List V:=[.int (r.1:Nat),.int (r.2.1:Nat),.int (r.2.2:Nat)]
structure fg (H:Hp) (l:Addr) (rs:List (Nat × Nat × Nat)):Prop where
  ex:∃ as:List Addr,H l=some (.lst (as.map V.ref))∧as.length=rs.length∧∀ (i:Nat) (a:Addr) (r:Nat × Nat × Nat),as[i]?=some a→rs[i]?=some r→H a=some (.tup (rowV r))
theorem fg.same {l:Addr} {H H':Hp} {rs:List (Nat × Nat × Nat)} (R:fg H l rs) (s:Same H H'):fg H' l rs:=by
  obtain ⟨as,h1,h2,h3⟩:=R.ex
  exact ⟨as,s _ _ h1,h2,fun i a x e e'=>s _ _ (h3 i a x e e')⟩
theorem fg.at_ {l:Addr} {H:Hp} {rs:List (Nat × Nat × Nat)} (R:fg H l rs) {i:Nat} {r:Nat × Nat × Nat} (hr:rs[i]?=some r):∃ (xs:List V) (a:Addr),H l=some (.lst xs)∧xs.length=rs.length∧xs[i]?=some (.ref a)∧H a=some (.tup (rowV r)):=by
  obtain ⟨as,h1,h2,h3⟩:=R.ex
  have hi:i < rs.length:=(List.getElem?_eq_some_iff.mp hr).1
  obtain ⟨a,ha⟩:∃ a,as[i]?=some a:=⟨_,List.getElem?_eq_getElem (by omega)⟩
  exact ⟨_,a,h1,by rw [List.length_map]; exact h2,by rw [List.getElem?_map,ha]; rfl,h3 i a r ha hr⟩
theorem fg.snoc {H H':Hp} {l tp:Addr} {rs:List (Nat × Nat × Nat)} {r:Nat × Nat × Nat} {xs:List V} (S:fg H l rs) (h1:H l=some (.lst xs)) (kp:∀ b o,H b=some o→b≠l→H' b=some o) (hq:H' l=some (.lst (xs++[.ref tp]))) (ht:H' tp=some (.tup (rowV r))):fg H' l (rs++[r]):=by
  obtain ⟨as,g1,g2,g3⟩:=S.ex
  have e:xs=as.map V.ref:=by
    rw [h1] at g1
    exact HO.lst.inj (Option.some.inj g1)
  subst e
  refine ⟨as++[tp],by rw [hq,List.map_append]; rfl,by rw [List.length_append,List.length_append,g2]; rfl,fun i a q e e'=>?_⟩
  by_cases hi:i < as.length
  · rw [List.getElem?_append_left hi] at e
    rw [List.getElem?_append_left (by omega)] at e'
    exact kp _ _ (g3 i a q e e') (bK (g3 i a q e e') h1 (by intro z; cases z))
  · rw [List.getElem?_append_right (by omega)] at e
    rw [List.getElem?_append_right (by omega),←g2] at e'
    cases z:i - as.length with
    | zero =>
      rw [z] at e e'
      have e1:tp=a:=Option.some.inj e
      have e2:r=q:=Option.some.inj e'
      subst e1 e2
      exact ht
    | succ m =>
      rw [z] at e
      cases e
theorem mm {h:Vbiraa.House} (hne:h.net≠[]) {t:Nat} (ht:t < 60):(ao (waters h))[t]?=some (.int (Vbiraa.letAt h t:Nat)):=by
  unfold ao
  rw [cE hne,List.getElem?_map,List.getElem?_map,List.getElem?_range ht]
  rfl
theorem rE {h:Vbiraa.House} (I:HInv h) (t:Nat):Vbiraa.letAt h t≤1000000:=by
  unfold Vbiraa.letAt
  rw [List.getD_eq_getElem?_getD]
  cases e:h.lets[t]? with
  | none=>exact Nat.zero_le _
  | some y=>exact I.letB y (List.mem_of_getElem? e)
theorem DDi:((DD:Nat):Int)=100000000000000000000000000000000:=by decide
theorem xD (a b:Nat):(if (b:Int) < (a:Int) then (b:Int) else (a:Int))=((min a b:Nat):Int):=by
  by_cases h:b < a
  · rw [if_pos (by omega),Nat.min_eq_right (by omega)]
  · rw [if_neg (by omega),Nat.min_eq_left (by omega)]
theorem kE {i:Nat} {v:V} {t u:TS} {D:Ends} {σ:L2.St} {H:Hp} (h:tSeq t u D (σ.set i (some v)) H):rN i v σ H (tSeq t u D):=h
theorem gx {t u:TS} {D:Ends} {σ:L2.St} {H:Hp} (Pv:L2.St→Hp→Prop) (h1:∀ N:L2.St→Hp→Prop,(∀ σ' H',Pv σ' H'→N σ' H')→t { D with nx:=N } σ H) (h2:∀ σ' H',Pv σ' H'→u D σ' H'):tSeq t u D σ H:=h1 _ h2
section
variable {P:Program} {w:World} {K:PySem.W.Frag} {mg:Str→Option Value} {base:Heap}
def yu (CR CN:Addr):Sp:=fun vs H Q _=>∃ (n dn l wl sl:Addr) (h:Vbiraa.House) (i t W:Nat),vs=[.ref n,.int i,.int t,.int W]∧bB CR CN H n h dn l wl sl∧HInv h∧i < h.net.length ∧
  ∀ (H':Hp) (p:Addr),Same H H'→H p=none→H' p=some (.tup (rowV (cy (Vbiraa.reachAt h.net i) W (ptAt h t i))))→Q (.ref p) H'
theorem gW (T:Txt K mg):FnOk P w K mg base CX0 2 T.pass_through.f T.pass_through.fd ["net", "i", "tick", "water"] (yu T.a_Reach T.a_Net):=by
  refine T.pass_through.F.ok b5 (fun vs H Q E h=>?_) (fun cdv A outer s H vs Q E hr h=>?_)
  · obtain ⟨n,dn,l,wl,sl,h,i,t,W,rfl,_⟩:=h
    rfl
  · obtain ⟨n,dn,l,wl,sl,h,j,t,W,rfl,N,hI,hj,k⟩:=h
    refine ⟨_,(ae (aw (i:=4) b5.nd rfl (by first | exact Or.inl rfl | exact Or.inr rfl) (ay (ak (K:=K)) (am (K:=K) (pv 0) rfl) (pv 1) (fun _ _=>rfl)))
      (ae (aw (i:=5) b5.nd rfl (by first | exact Or.inl rfl | exact Or.inr rfl) (aG j7 (aG fS (pv 3) (aD T.gate_part (eh T) (hr.mono (by decide)) fC (aa (am (K:=K) (pv 0) rfl) (aa (am (K:=K) (pv 0) rfl) (aa (pv 1) (aa (aG bu (pv 2) (am (K:=K) (pv 4) rfl)) ad)))))) af))
      (ae (aw (i:=6) b5.nd rfl (by first | exact Or.inl rfl | exact Or.inr rfl) (aF (o0 rfl) (by rfl) T.n_min pc (aa (pv 5) (aa (aG fS (am (K:=K) (pv 4) rfl) (a8 T.c_DROPS)) ad))))
      (ae (aw (i:=7) b5.nd rfl (by first | exact Or.inl rfl | exact Or.inr rfl) (aG cZ (pv 6) (aF (o0 rfl) (by rfl) T.n_min pc (aa (pv 6) (aa (aG fS (am (K:=K) (pv 4) rfl) (a8 T.c_DROPS)) ad)))))
      (ag (au (gI (aa (pv 5) (aa (pv 6) (aa (aG j7 (aG fS (pv 7) (aG cZ af (am (K:=K) (pv 4) rfl))) af) ad)))))))))),?_⟩
    have hwf:=hI.wf
    obtain ⟨xs,a,dx,h1,h2,h3,ha⟩:=N.rs.at_ hj
    obtain ⟨_,nl,nsk,nc1,nc2,_⟩:=hwf.num j hj
    have hpt:ptAt h t j≤100:=hI.partB hj _
    have ck:(100:Int) - ((Vbiraa.reachAt h.net j).loss:Nat)=((100 - (Vbiraa.reachAt h.net j).loss:Nat):Int):=by omega
    have eo:((W:Int) * ((ptAt h t j:Nat):Int)) / 100=((W * ptAt h t j / 100:Nat):Int):=by
      rw [←Int.natCast_mul]
      rfl
    have hrow:cy (Vbiraa.reachAt h.net j) W (ptAt h t j)=cy (Vbiraa.reachAt h.net j) W (ptAt h t j):=rfl
    generalize hR:cy (Vbiraa.reachAt h.net j) W (ptAt h t j)=r at hrow k
    have er1:r.1=W * ptAt h t j / 100:=by rw [←hR]; rfl
    have er2:r.2.1=min (W * ptAt h t j / 100) ((Vbiraa.reachAt h.net j).cap * DD):=by rw [←hR]; rfl
    have e22:r.2.2=(r.2.1 - min r.2.1 ((Vbiraa.reachAt h.net j).soak * DD)) * (100 - (Vbiraa.reachAt h.net j).loss) / 100:=by rw [←hR]; rfl
    refine ⟨_,rfl,n,T.a_Net,dn,_,_,rfl,N.obj,T.cl_Net,T.na_Net_reaches,aH,_,rfl,l,_,_,_,rfl,rfl,SqL.of h1,aX h3,?_⟩
    refine ⟨_,rfl,_,rfl,n,T.a_Net,dn,_,_,rfl,N.obj,T.cl_Net,T.na_Net_reaches,aH,_,rfl,n,T.a_Net,dn,_,_,rfl,N.obj,T.cl_Net,T.na_Net_settings,c8,_,rfl,_,rfl,_,rfl,a,T.a_Reach,dx,_,_,rfl,ha,T.cl_Reach,T.na_Reach_above,gO,_,_,rfl,rfl,
      l,sl,h.net,h.settings,j,t + above h.net j,rfl,N.rs,N.ss,hj,_,_,rfl,rfl,.inr ⟨?_,?_⟩,_,_,rfl,rfl,xZ _,?_⟩
    · show -(2 ^ 64:Int) < ((ptAt h t j:Nat):Int)
      omega
    · show ((ptAt h t j:Nat):Int) < 2 ^ 64
      omega
    with_reducible refine kE ?_
    refine gx (fun σ' H2=>H2=H∧σ'=[some (.ref n),some (.int (j:Nat)),some (.int t),some (.int (W:Nat)),some (.ref a),some (.int (r.1:Nat)),some (.int (r.2.1:Nat)),none]) (fun Nx hN=>?_) ?_
    · refine ⟨_,rfl,_,rfl,a,T.a_Reach,dx,_,_,rfl,ha,T.cl_Reach,T.na_Reach_cap,uJ,_,_,rfl,rfl,.inl ⟨by omega,by omega⟩,_,_,rfl,hN _ _ ⟨rfl,?_⟩⟩
      have e2:(if ((Vbiraa.reachAt h.net j).cap:Int) * 100000000000000000000000000000000 < ((W:Int) * ((ptAt h t j:Nat):Int)) / 100 then ((Vbiraa.reachAt h.net j).cap:Int) * 100000000000000000000000000000000 else ((W:Int) * ((ptAt h t j:Nat):Int)) / 100)=(r.2.1:Nat):=by
        rw [eo,er2,←xD,Int.natCast_mul,DDi]
      rw [←e2]
      have e3:((r.1:Nat):Int)=((W:Int) * ((ptAt h t j:Nat):Int)) / 100:=by
        rw [eo,er1]
      rw [e3]
      rfl
    rintro σ' H2 ⟨rfl,rfl⟩
    refine ⟨_,rfl,_,rfl,_,rfl,a,T.a_Reach,dx,_,_,rfl,ha,T.cl_Reach,T.na_Reach_soak,pV,_,_,rfl,rfl,.inl ⟨by omega,by omega⟩,_,_,rfl,_,_,rfl,rfl,?_⟩
    have el:(r.2.1:Int) - (if ((Vbiraa.reachAt h.net j).soak:Int) * 100000000000000000000000000000000 < (r.2.1:Int) then ((Vbiraa.reachAt h.net j).soak:Int) * 100000000000000000000000000000000 else (r.2.1:Int))=((r.2.1 - min r.2.1 ((Vbiraa.reachAt h.net j).soak * DD):Nat):Int):=by
      have e5:=xD r.2.1 ((Vbiraa.reachAt h.net j).soak * DD)
      rw [Int.natCast_mul,DDi] at e5
      have e6:(if ((Vbiraa.reachAt h.net j).soak:Int) * 100000000000000000000000000000000 < (r.2.1:Int) then ((Vbiraa.reachAt h.net j).soak:Int) * 100000000000000000000000000000000 else (r.2.1:Int))=((min r.2.1 ((Vbiraa.reachAt h.net j).soak * DD):Nat):Int):=e5
      rw [e6]
      have:=Nat.min_le_left r.2.1 ((Vbiraa.reachAt h.net j).soak * DD)
      omega
    have e7:((r.2.1:Int) - (if ((Vbiraa.reachAt h.net j).soak:Int) * 100000000000000000000000000000000 < (r.2.1:Int) then ((Vbiraa.reachAt h.net j).soak:Int) * 100000000000000000000000000000000 else (r.2.1:Int))) * ((100:Int) - ((Vbiraa.reachAt h.net j).loss:Nat)) / 100=((r.2.2:Nat):Int):=by
      rw [el,ck,e22,←Int.natCast_mul]
      rfl
    refine ⟨_,rfl,_,rfl,_,rfl,_,rfl,a,T.a_Reach,dx,_,_,rfl,ha,T.cl_Reach,T.na_Reach_loss,pW,_,_,rfl,rfl,_,_,rfl,rfl,.inr ⟨by omega,by omega⟩,_,_,rfl,rfl,xZ _,(by show 3≤sizeLine; decide),fun tp htp=>k _ tp (ah htp) htp ?_⟩
    rw [ac]
    show some (HO.tup [V.int (r.1:Int),V.int (r.2.1:Int),V.int (((r.2.1:Int) - (if ((Vbiraa.reachAt h.net j).soak:Int) * 100000000000000000000000000000000 < (r.2.1:Int) then ((Vbiraa.reachAt h.net j).soak:Int) * 100000000000000000000000000000000 else (r.2.1:Int))) * ((100:Int) - ((Vbiraa.reachAt h.net j).loss:Nat)) / 100)])=some (HO.tup (rowV r))
    rw [e7]
    rfl
def wN (CR CN:Addr):Sp:=fun vs H Q _=>∃ (n dn l wl sl:Addr) (h:Vbiraa.House) (t:Nat),vs=[.ref n,.int t]∧bB CR CN H n h dn l wl sl∧HInv h∧h.net≠[]∧t < 60 ∧
  ∀ (H':Hp) (p:Addr),Same H H'→H p=none→fg H' p (rows h.net (ptAt h t) (letD h t) h.net.length)→Q (.ref p) H'
theorem k5 (T:Txt K mg):FnOk P w K mg base CX0 3 T.passes.f T.passes.fd ["net", "tick"] (wN T.a_Reach T.a_Net):=by
  refine T.passes.F.ok er (fun vs H Q E h=>?_) (fun cdv A outer s H vs Q E hr h=>?_)
  · obtain ⟨n,dn,l,wl,sl,h,t,rfl,_⟩:=h
    rfl
  · obtain ⟨n,dn,l,wl,sl,h,t,rfl,N,hI,hne,ht,k⟩:=h
    refine ⟨_,(ae (aw (i:=2) er.nd rfl (by first | exact Or.inl rfl | exact Or.inr rfl) (aE ad))
      (ae (bS PassesOwn.never rfl (iU rfl T.n_enumerate (aa (am (K:=K) (pv 0) rfl) ad)) (dO (K:=K) (n:=2) rfl (bd (aJ (i:=3) er.nd rfl (by first | exact Or.inl rfl | exact Or.inr rfl)) (bd (aJ (i:=4) er.nd rfl (by first | exact Or.inl rfl | exact Or.inr rfl)) dN)))
      (ae (aw (i:=5) er.nd rfl (by first | exact Or.inl rfl | exact Or.inr rfl) (aG fS (ay (ak (K:=K)) (am (K:=K) (pv 0) rfl) (pv 1) (fun _ _=>rfl)) (a8 T.c_DROPS)))
      (ae (aU (aM j5 (am (K:=K) (pv 4) rfl) (a8 T.c_SOURCE) (aP _))
      (ag (aw (i:=5) er.nd rfl (by first | exact Or.inl rfl | exact Or.inr rfl) (ay (aR (K:=K)) (ay (ak (K:=K)) (pv 2) (am (K:=K) (pv 4) rfl) (fun _ _=>rfl)) af (fun _ _=>rfl))))
      aI)
      (ag (bU (fo PySem.F.plainAttrs_list PySem.F.slot_list_append PySem.F.type_list_append cM (pv 2) (aa (aD T.pass_through (gW T) (hr.mono (by decide)) iI (aa (pv 0) (aa (pv 3) (aa (pv 1) (aa (pv 5) ad))))) ad)))))))
      (ag (au (pv 2))))),?_⟩
    have hwf:=hI.wf
    have hlen:=hwf.len
    refine ⟨Nat.zero_le _,fun rl hrl=>?_⟩
    have s0:=ah (o:=.lst []) hrl
    have N0:=N.same s0
    obtain ⟨xs,h1,h2,h3⟩:=N.rs.list
    refine ⟨_,rfl,n,T.a_Net,dn,_,_,rfl,N0.obj,T.cl_Net,T.na_Net_reaches,aH,l,_,rfl,SqL.of (s0 _ _ h1),iz (K:=K) (a:=l) (xs:=xs)
      (fun j σ H'=>Same H H'∧fg H' rl (rows h.net (ptAt h t) (letD h t) j)∧∃ v3 v4 v5:Option V,σ=[some (.ref n),some (.int t),some (.ref rl),v3,v4,v5])
      ⟨s0,⟨[],ac,rfl,fun i a r e=>by cases e⟩,none,none,none,rfl⟩ (fun j σ H' _ p=>SqL.of (p.1 _ _ h1)) ?_ ?_⟩
    · rintro j x σ H' tt hx ⟨sm,RA,v3,v4,v5,rfl⟩ htt
      obtain ⟨a,dx,rfl,ha⟩:=h3 j x hx
      have hj:j < h.net.length:=by
        rw [←h2]
        exact (List.getElem?_eq_some_iff.mp hx).1
      have hlet:=rE hI t
      have st:=ah (o:=.tup [.int (j:Nat),V.ref a]) htt
      have sm2:Same H _:=sm.trans st
      have N2:=N.same sm2
      have ha2:=sm2 _ _ ha
      have RA2:=RA.same st
      obtain ⟨rs,g1,g2,g3⟩:=RA2.ex
      refine ⟨tt,_,rfl,SqT.of ac,rfl,_,_,rfl,_,_,rfl,rfl,?_⟩
      refine ⟨_,rfl,n,T.a_Net,dn,_,_,rfl,N2.obj,T.cl_Net,T.na_Net_waters,dJ,_,rfl,wl,_,_,_,rfl,rfl,SqL.of N2.ws,aX (mm hne ht),_,_,rfl,rfl,.inl ⟨by omega,by omega⟩,?_⟩
      with_reducible refine kE ?_
      refine gx (fun σ' H2=>H2=upd H' tt (.tup [.int (j:Nat),V.ref a])∧σ'=[some (.ref n),some (.int t),some (.ref rl),some (.int (j:Nat)),some (.ref a),some (.int (winQ h.net (ptAt h t) (letD h t) (Vbiraa.reachAt h.net j).parent:Nat))]) (fun Nx hN=>?_) ?_
      · refine ⟨_,rfl,a,T.a_Reach,dx,_,_,rfl,ha2,T.cl_Reach,T.na_Reach_begins,cU,rfl,_,rfl,?_⟩
        cases ep:(Vbiraa.reachAt h.net j).parent with
        | none =>
          refine iteF (hN _ _ ⟨rfl,?_⟩)
          rw [ep]
          show [_,_,_,_,_,some (V.int ((Vbiraa.letAt h t:Int) * 100000000000000000000000000000000))]=[_,_,_,_,_,some (V.int ((Vbiraa.letAt h t * DD:Nat):Int))]
          rw [Int.natCast_mul,DDi]
        | some p =>
          have hp:=hwf.par j p hj ep
          have e:(!decide (V.int (pInt (some p))=V.int (-1)))=true:=by
            rw [Bool.not_eq_true',decide_eq_false_iff_not]
            intro z
            have z:((p:Nat):Int)=-1:=V.int.inj z
            omega
          rw [e]
          obtain ⟨rxs,ra,q1,q2,q3,q4⟩:=RA2.at_ (gf (ns:=h.net) (pt:=ptAt h t) (W:=letD h t) hp)
          have lb:(rf h.net j).lookup ("begins" : Str)=some (.int (p:Nat)):=by
            unfold rf
            rw [ep]
            exact cU
          refine iteT ⟨_,rfl,_,rfl,a,T.a_Reach,dx,_,_,rfl,ha2,T.cl_Reach,T.na_Reach_begins,lb,rl,_,_,_,rfl,rfl,SqL.of q1,aX q3,ra,_,2,_,rfl,rfl,SqT.of q4,rfl,hN _ _ ⟨rfl,?_⟩⟩
          rw [ep]
          rfl
      · rintro σ' H2 ⟨rfl,rfl⟩
        have hrow:=mI (ns:=h.net) (pt:=ptAt h t) (W:=letD h t) hwf.par hj
        have hrows:rows h.net (ptAt h t) (letD h t) (j + 1)=rows h.net (ptAt h t) (letD h t) j++[row h.net (ptAt h t) (letD h t) j]:=by
          show rows h.net (ptAt h t) (letD h t) j++[_]=_
          rw [qt fun p e=>hwf.par j p hj e,hrow]
        refine ⟨_,rfl,.inl ⟨rfl,_,SqL.of g1⟩,_,rfl,_,rfl,_,rfl,_,rfl,n,dn,l,wl,sl,h,j,t,_,rfl,N2,hI,hj,fun H3 tp s3 htp htp3=>?_⟩
        rw [←hrow] at htp3
        have hlen2:(rs.map V.ref).length < sizeLine:=by
          rw [List.length_map,g2,eV]
          exact aO (by omega)
        have g13:=s3 _ _ g1
        have hne2:rl≠tp:=aq g1 htp
        refine ⟨rl,_,_,rfl,rfl,g13,hlen2,?_⟩
        refine ⟨aQ (sm2.trans s3) hrl,?_,_,_,_,rfl⟩
        rw [hrows]
        refine fg.snoc (xs:=rs.map V.ref) (tp:=tp) (RA2.same s3) g13 (fun b o e nb=>by rw [ai nb]; exact e) ac ?_
        rw [ai hne2.symm]
        exact htp3
    · rintro σ H' ⟨sm,RA,v3,v4,v5,rfl⟩
      rw [h2] at RA
      exact ⟨_,rfl,k H' rl sm hrl RA⟩
end
end CN
namespace CN
open PySem PySem.Spec PyProof.Rows L2
def rowZ (h:Vbiraa.House) (i:Nat) (t:Int):Nat × Nat × Nat:=if t < 0 then (0,0,0) else rowT h t.toNat i
def lvD (h:Vbiraa.House) (i t:Nat):Nat:=(rowZ h i ((t:Int) - (above h.net i:Int) - ((Vbiraa.reachAt h.net i).delay:Int))).2.2
theorem xF {h:Vbiraa.House} (hw:WF h.net) {i:Nat} (hi:i < h.net.length) (t:Nat):Vbiraa.leavesAt h i t=Vbiraa.mk (lvD h i t) DD:=by
  rw [rF hw hi]
  unfold lvD rowZ
  by_cases c:t < above h.net i + (Vbiraa.reachAt h.net i).delay
  · rw [if_pos c,if_pos (by omega),fu bv]
  · rw [if_neg c,if_neg (by omega),show ((t:Int) - (above h.net i:Int) - ((Vbiraa.reachAt h.net i).delay:Int)).toNat=t - above h.net i - (Vbiraa.reachAt h.net i).delay by omega]
def ofD (h:Vbiraa.House) (i t:Nat):Nat × Nat × Nat:=rowZ h i ((t:Int) - (above h.net i:Int))
theorem xu {h:Vbiraa.House} (hw:WF h.net) {i:Nat} (hi:i < h.net.length) (t:Nat):Vbiraa.offerAt h i t=Vbiraa.mk (ofD h i t).1 DD:=by
  rw [jC hw hi]
  unfold ofD rowZ
  by_cases c:t < above h.net i
  · rw [if_pos c,if_pos (by omega),fu bv]
  · rw [if_neg c,if_neg (by omega),show ((t:Int) - (above h.net i:Int)).toNat=t - above h.net i by omega]
theorem rj {h:Vbiraa.House} (hw:WF h.net) {i:Nat} (hi:i < h.net.length) (t:Nat):Vbiraa.taken (Vbiraa.reachAt h.net i) (Vbiraa.offerAt h i t)=Vbiraa.mk (ofD h i t).2.1 DD∧Vbiraa.spilled (Vbiraa.reachAt h.net i) (Vbiraa.offerAt h i t)=Vbiraa.mk ((ofD h i t).1 - (ofD h i t).2.1) DD∧(ofD h i t).2.1≤(ofD h i t).1:=by
  rw [xu hw hi]
  unfold ofD rowZ
  by_cases c:(t:Int) - (above h.net i:Int) < 0
  · rw [if_pos c,mr,jm]
    simp
  · rw [if_neg c]
    obtain ⟨_,a2,a3,_⟩:=dW (pt:=ptAt h ((t:Int) - (above h.net i:Int)).toNat) hw (gm h ((t:Int) - (above h.net i:Int)).toNat) hi
    exact ⟨a2,a3,(w6 hw hi).1⟩
section
variable {P:Program} {w:World} {K:PySem.W.Frag} {mg:Str→Option Value} {base:Heap}
def spPass (CR CN:Addr):Sp:=fun vs H Q _=>∃ (n dn l wl sl:Addr) (h:Vbiraa.House) (i:Nat) (t:Int),vs=[.ref n,.int i,.int t]∧bB CR CN H n h dn l wl sl∧HInv h∧i < h.net.length∧t < 60 ∧
  ∀ (H':Hp) (p:Addr),Same H H'→H' p=some (.tup (rowV (rowZ h i t)))→Q (.ref p) H'
theorem mU (T:Txt K mg):FnOk P w K mg base CX0 4 T.pass_of.f T.pass_of.fd ["net", "i", "tick"] (spPass T.a_Reach T.a_Net):=by
  refine T.pass_of.F.ok sR (fun vs H Q E h=>?_) (fun cdv A outer s H vs Q E hr h=>?_)
  · obtain ⟨n,dn,l,wl,sl,h,i,t,rfl,_⟩:=h
    rfl
  · obtain ⟨n,dn,l,wl,sl,h,i,t,rfl,N,hI,hi,ht,k⟩:=h
    refine ⟨_,(ae (aU (aM qX (pv 2) af (aP _))
      (ag (au (gI (aa af (aa af (aa af ad))))))
      aI)
      (ag (au (ay (ak (K:=K)) (aD T.passes (k5 T) (hr.mono (by decide)) nG (aa (pv 0) (aa (pv 2) ad))) (pv 1) (fun _ _=>rfl))))),?_⟩
    refine ⟨_,rfl,_,_,rfl,rfl,_,rfl,ite2 (fun c=>?_) (fun c=>?_)⟩
    · have c:t < 0:=of_decide_eq_true c
      refine ⟨(by show 3≤sizeLine; decide),fun p hp=>k _ p (ah hp) ?_⟩
      rw [ac]
      unfold rowZ
      rw [if_pos c]
      rfl
    · have c:¬ t < 0:=fun z=>c (decide_eq_true z)
      obtain ⟨u,rfl⟩:∃ u:Nat,t=(u:Int):=⟨t.toNat,by omega⟩
      have hne:h.net≠[]:=fun z=>by
        rw [z] at hi
        cases hi
      refine ⟨_,rfl,_,rfl,n,dn,l,wl,sl,h,u,rfl,N,hI,hne,by omega,fun H1 p s1 hp R=>?_⟩
      obtain ⟨xs,a,g1,g2,g3,g4⟩:=R.at_ (gf hi)
      refine ⟨_,rfl,p,_,_,_,rfl,rfl,SqL.of g1,aX g3,k H1 a s1 ?_⟩
      rw [g4]
      unfold rowZ
      rw [if_neg c]
      rfl
def yy (CR CN:Addr):Sp:=fun vs H Q _=>∃ (n dn l wl sl:Addr) (h:Vbiraa.House) (i t:Nat),vs=[.ref n,.int i,.int t]∧bB CR CN H n h dn l wl sl∧HInv h∧i < h.net.length∧t < 60∧∀ H',Same H H'→Q (.int (lvD h i t:Nat)) H'
theorem jc (T:Txt K mg):FnOk P w K mg base CX0 5 T.leaving_at.f T.leaving_at.fd ["net", "i", "tick"] (yy T.a_Reach T.a_Net):=by
  refine T.leaving_at.F.ok i7 (fun vs H Q E h=>?_) (fun cdv A outer s H vs Q E hr h=>?_)
  · obtain ⟨n,dn,l,wl,sl,h,i,t,rfl,_⟩:=h
    rfl
  · obtain ⟨n,dn,l,wl,sl,h,i,t,rfl,N,hI,hi,ht,k⟩:=h
    refine ⟨_,(ae (aw (i:=3) i7.nd rfl (by first | exact Or.inl rfl | exact Or.inr rfl) (ay (ak (K:=K)) (am (K:=K) (pv 0) rfl) (pv 1) (fun _ _=>rfl)))
      (ag (au (ay (aR (K:=K)) (aD T.pass_of (mU T) (hr.mono (by decide)) pq (aa (pv 0) (aa (pv 1) (aa (aG cZ (aG cZ (pv 2) (am (K:=K) (pv 3) rfl)) (am (K:=K) (pv 3) rfl)) ad)))) af (fun _ _=>rfl))))),?_⟩
    obtain ⟨xs,a,dx,h1,h2,h3,h4⟩:=N.rs.at_ hi
    refine ⟨_,rfl,n,T.a_Net,dn,_,_,rfl,N.obj,T.cl_Net,T.na_Net_reaches,aH,_,rfl,l,_,_,_,rfl,rfl,SqL.of h1,aX h3,?_⟩
    refine ⟨_,rfl,_,rfl,_,rfl,_,rfl,a,T.a_Reach,dx,_,_,rfl,h4,T.cl_Reach,T.na_Reach_above,gO,_,_,rfl,rfl,_,rfl,a,T.a_Reach,dx,_,_,rfl,h4,T.cl_Reach,T.na_Reach_delay,kh,_,_,rfl,rfl,n,dn,l,wl,sl,h,i,_,rfl,N,hI,hi,by omega,fun H1 p s1 hp=>?_⟩
    exact ⟨p,_,2,_,rfl,rfl,SqT.of hp,rfl,k H1 s1⟩
def spFlow (CR CN:Addr):Sp:=fun vs H Q _=>∃ (n dn l wl sl:Addr) (h:Vbiraa.House) (i t:Nat),vs=[.ref n,.int i,.int t]∧bB CR CN H n h dn l wl sl∧HInv h∧i < h.net.length∧t < 60∧NewL H Q (ao [(ofD h i t).1,(ofD h i t).2.1,(ofD h i t).1 - (ofD h i t).2.1,lvD h i t])
theorem tw (T:Txt K mg):FnOk P w K mg base CX0 6 T.flow_at.f T.flow_at.fd ["net", "i", "tick"] (spFlow T.a_Reach T.a_Net):=by
  refine T.flow_at.F.ok mz (fun vs H Q E h=>?_) (fun cdv A outer s H vs Q E hr h=>?_)
  · obtain ⟨n,dn,l,wl,sl,h,i,t,rfl,_⟩:=h
    rfl
  · obtain ⟨n,dn,l,wl,sl,h,i,t,rfl,N,hI,hi,ht,k⟩:=h
    refine ⟨_,(ae (aw (i:=3) mz.nd rfl (by first | exact Or.inl rfl | exact Or.inr rfl) (aD T.pass_of (mU T) (hr.mono (by decide)) pq (aa (pv 0) (aa (pv 1) (aa (aG cZ (pv 2) (am (K:=K) (ay (ak (K:=K)) (am (K:=K) (pv 0) rfl) (pv 1) (fun _ _=>rfl)) rfl)) ad)))))
      (ag (au (aE (aa (ay (aR (K:=K)) (pv 3) af (fun _ _=>rfl)) (aa (ay (aR (K:=K)) (pv 3) af (fun _ _=>rfl)) (aa (aG cZ (ay (aR (K:=K)) (pv 3) af (fun _ _=>rfl)) (ay (aR (K:=K)) (pv 3) af (fun _ _=>rfl))) (aa (aD T.leaving_at (jc T) (hr.mono (by decide)) kz (aa (pv 0) (aa (pv 1) (aa (pv 2) ad)))) ad)))))))),?_⟩
    obtain ⟨xs,a,dx,h1,h2,h3,h4⟩:=N.rs.at_ hi
    refine ⟨_,rfl,_,rfl,_,rfl,_,rfl,n,T.a_Net,dn,_,_,rfl,N.obj,T.cl_Net,T.na_Net_reaches,aH,_,rfl,l,_,_,_,rfl,rfl,SqL.of h1,aX h3,a,T.a_Reach,dx,_,_,rfl,h4,T.cl_Reach,T.na_Reach_above,gO,_,_,rfl,rfl,n,dn,l,wl,sl,h,i,_,rfl,N,hI,hi,by omega,fun H1 p s1 hp=>?_⟩
    have hp:H1 p=some (.tup (rowV (ofD h i t))):=hp
    have hle:=(rj hI.wf hi t).2.2
    refine ⟨_,rfl,p,_,0,_,rfl,rfl,SqT.of hp,rfl,_,rfl,p,_,1,_,rfl,rfl,SqT.of hp,rfl,_,rfl,p,_,0,_,rfl,rfl,SqT.of hp,rfl,_,rfl,p,_,1,_,rfl,rfl,SqT.of hp,rfl,_,_,rfl,rfl,_,rfl,_,rfl,_,rfl,n,dn,l,wl,sl,h,i,t,rfl,N.same s1,hI,hi,ht,fun H2 s2=>?_⟩
    refine ⟨(by show 4≤sizeLine; decide),fun q hq=>k _ q ((s1.trans s2).trans (ah hq)) ((s1.trans s2).free hq) ?_⟩
    rw [ac]
    show some (HO.lst [V.int ((ofD h i t).1:Int),V.int ((ofD h i t).2.1:Int),V.int (((ofD h i t).1:Int) - ((ofD h i t).2.1:Int)),V.int (lvD h i t:Int)])=some (HO.lst [V.int ((ofD h i t).1:Int),V.int ((ofD h i t).2.1:Int),V.int (((ofD h i t).1 - (ofD h i t).2.1:Nat):Int),V.int (lvD h i t:Int)])
    rw [Int.natCast_sub hle]
def qsV (l:List Nat):List V:=l.flatMap fun x=>qV (Vbiraa.mk x DD)
theorem fm (l:List Nat):(qsV l).length=2 * l.length:=by
  unfold qsV
  induction l with
  | nil=>rfl
  | cons x l ih =>
    rw [List.flatMap_cons,List.length_append,ih,List.length_cons]
    show 2 + 2 * l.length=2 * (l.length + 1)
    omega
theorem xb (l:List Nat) (x:Nat):qsV (l++[x])=qsV l++qV (Vbiraa.mk x DD):=by
  unfold qsV
  rw [List.flatMap_append]
  simp
def spTold:Sp:=fun vs H Q _=>∃ (l:Addr) (ws:List Nat),vs=[.ref l]∧H l=some (.lst (ao ws))∧ws.length≤1000∧NewL H Q (qsV ws)
theorem gJ (T:Txt K mg):FnOk P w K mg base CX0 3 T.told.f T.told.fd ["waters"] spTold:=by
  refine T.told.F.ok pE (fun vs H Q E h=>?_) (fun cdv A outer s H vs Q E hr h=>?_)
  · obtain ⟨l,ws,rfl,_⟩:=h
    rfl
  · obtain ⟨l,ws,rfl,hl,hn,k⟩:=h
    refine ⟨_,(ae (aw (i:=1) pE.nd rfl (by first | exact Or.inl rfl | exact Or.inr rfl) (aE ad))
      (ae (bS PassesOwn.never rfl (bV (pv 0)) (aJ (i:=2) pE.nd rfl (by first | exact Or.inl rfl | exact Or.inr rfl))
      (ag (bU (fo PySem.F.plainAttrs_list PySem.F.slot_list_extend PySem.F.type_list_extend gl (pv 1) (aa (aD T.lowest (gi T) (hr.mono (by decide)) iJ (aa (pv 2) (aa (a8 T.c_DROPS) ad))) ad)))))
      (ag (au (pv 1))))),?_⟩
    refine ⟨Nat.zero_le _,fun nl hnl=>?_⟩
    have s0:=ah (o:=.lst []) hnl
    refine ⟨_,rfl,l,rfl,⟨_,SqL.of (s0 _ _ hl)⟩,fe (K:=K) (a:=l) (xs:=ao ws) (fun j σ H'=>Same H H'∧H' nl=some (.lst (qsV (ws.take j)))∧∃ v:Option V,σ=[some (.ref l),some (.ref nl),v]) ⟨s0,ac,none,rfl⟩ (fun j σ H' _ p=>SqL.of (p.1 _ _ hl)) ?_ ?_⟩
    · rintro j x σ H' hx ⟨sm,hw,v,rfl⟩
      obtain ⟨y,hy,rfl⟩:=aW hx
      have hj:j < ws.length:=(List.getElem?_eq_some_iff.mp hy).1
      refine ⟨_,rfl,.inl ⟨rfl,_,SqL.of hw⟩,_,rfl,y,DD,rfl,bv,by decide,fun H1 q s1 hq hq1=>?_⟩
      have hw1:=s1 _ _ hw
      refine ⟨nl,q,_,_,rfl,rfl,hw1,hq1,?_,?_⟩
      · rw [fm,List.length_take]
        show 2 * min j ws.length + 2≤sizeLine
        exact Nat.le_of_lt (aO (by omega))
      · refine ⟨aQ (sm.trans s1) hnl,?_,some (.int y),rfl⟩
        rw [ac,bJ hy,xb]
    · rintro σ H' ⟨sm,hw,v,rfl⟩
      rw [aB,List.take_length] at hw
      exact ⟨_,rfl,k H' nl sm hnl hw⟩
end
end CN
namespace CN
open PySem PySem.Spec PyProof.Rows L2
def offD (h:Vbiraa.House) (t:Nat):Nat:=letD h t * (100 - bO h none t) / 100 + sumN h.net.length (vOff h t (letD h t))
def accN (h:Vbiraa.House) (t:Nat):List Nat:=[sumN h.net.length (vEnd h t (letD h t)),sumN h.net.length (cT h t (letD h t)),sumN h.net.length (ba h t (letD h t)),offD h t]
theorem vR_le {h:Vbiraa.House} (hw:WF h.net) {t W i:Nat} (hi:i < h.net.length):(vR h t W i).2.1≤(vR h t W i).1∧(vR h t W i).2.2≤(vR h t W i).2.1:=w6 hw hi
theorem rR {ns:Vbiraa.Net} {i:Nat} (hi:i < ns.length):i∈Vbiraa.ends ns↔(Vbiraa.children ns (some i)).isEmpty=true:=by
  unfold Vbiraa.ends
  rw [List.mem_filter,List.mem_range]
  exact ⟨fun h=>h.2,fun h=>⟨hi,h⟩⟩
theorem xN (i:Nat) (l:List Nat):inV (.int (i:Nat)) (ao l)=decide (i∈l):=by
  unfold inV ao
  rw [List.any_map,Bool.eq_iff_iff,List.any_eq_true,decide_eq_true_eq]
  constructor
  · rintro ⟨x,hx,e⟩
    have e:((x:Int) == (i:Int))=true:=e
    rw [beq_iff_eq] at e
    have:x=i:=by omega
    rw [←this]
    exact hx
  · intro h
    exact ⟨i,h,by show ((i:Int) == (i:Int))=true; exact beq_self_eq_true _⟩
section
variable {P:Program} {w:World} {K:PySem.W.Frag} {mg:Str→Option Value} {base:Heap}
def spAcc (CR CN:Addr):Sp:=fun vs H Q _=>∃ (n dn l wl sl:Addr) (h:Vbiraa.House) (t:Nat),vs=[.ref n,.int t]∧bB CR CN H n h dn l wl sl∧HInv h∧h.net≠[]∧t < 60∧NewL H Q (ao (accN h t))
theorem jd (T:Txt K mg):FnOk P w K mg base CX0 4 T.account_of.f T.account_of.fd ["net", "tick"] (spAcc T.a_Reach T.a_Net):=by
  refine T.account_of.F.ok aV (fun vs H Q E h=>?_) (fun cdv A outer s H vs Q E hr h=>?_)
  · obtain ⟨n,dn,l,wl,sl,h,t,rfl,_⟩:=h
    rfl
  · obtain ⟨n,dn,l,wl,sl,h,t,rfl,N,hI,hne,ht,k⟩:=h
    refine ⟨_,(ae (aw (i:=2) aV.nd rfl (by first | exact Or.inl rfl | exact Or.inr rfl) (aD T.ends_of (dI T) (hr.mono (by decide)) eC (aa (am (K:=K) (pv 0) rfl) ad)))
      (ae (aw (i:=3) aV.nd rfl (by first | exact Or.inl rfl | exact Or.inr rfl) af)
      (ae (aw (i:=4) aV.nd rfl (by first | exact Or.inl rfl | exact Or.inr rfl) af)
      (ae (aw (i:=5) aV.nd rfl (by first | exact Or.inl rfl | exact Or.inr rfl) af)
      (ae (aw (i:=6) aV.nd rfl (by first | exact Or.inl rfl | exact Or.inr rfl) (aG fS (ay (ak (K:=K)) (am (K:=K) (pv 0) rfl) (pv 1) (fun _ _=>rfl)) (a8 T.c_DROPS)))
      (ae (bS PassesOwn.never rfl (iU rfl T.n_enumerate (aa (aD T.passes (k5 T) (hr.mono (by decide)) nG (aa (pv 0) (aa (pv 1) ad))) ad)) (dO (K:=K) (n:=2) rfl (bd (aJ (i:=7) aV.nd rfl (by first | exact Or.inl rfl | exact Or.inr rfl)) (bd (aJ (i:=8) aV.nd rfl (by first | exact Or.inl rfl | exact Or.inr rfl)) dN)))
      (ae (aw (i:=5) aV.nd rfl (by first | exact Or.inl rfl | exact Or.inr rfl) (aG cZ (aG bu (pv 5) (ay (aR (K:=K)) (pv 8) af (fun _ _=>rfl))) (ay (aR (K:=K)) (pv 8) af (fun _ _=>rfl))))
      (ae (aw (i:=4) aV.nd rfl (by first | exact Or.inl rfl | exact Or.inr rfl) (aG cZ (aG bu (pv 4) (ay (aR (K:=K)) (pv 8) af (fun _ _=>rfl))) (ay (aR (K:=K)) (pv 8) af (fun _ _=>rfl))))
      (ae (aw (i:=6) aV.nd rfl (by first | exact Or.inl rfl | exact Or.inr rfl) (aG cZ (pv 6) (ay (aR (K:=K)) (pv 8) af (fun _ _=>rfl))))
      (ag (aU (aM (jA (K:=K)) (pv 7) (pv 2) (by with_unfolding_all rfl))
      (ag (aw (i:=3) aV.nd rfl (by first | exact Or.inl rfl | exact Or.inr rfl) (aG bu (pv 3) (ay (aR (K:=K)) (pv 8) af (fun _ _=>rfl)))))
      (ag (aw (i:=6) aV.nd rfl (by first | exact Or.inl rfl | exact Or.inr rfl) (aG bu (pv 6) (ay (aR (K:=K)) (pv 8) af (fun _ _=>rfl)))))))))))
      (ag (au (aE (aa (pv 3) (aa (pv 4) (aa (pv 5) (aa (pv 6) ad))))))))))))),?_⟩
    have hwf:=hI.wf
    have hlen:=hwf.len
    have hlet:=rE hI t
    refine ⟨_,rfl,n,T.a_Net,dn,_,_,rfl,N.obj,T.cl_Net,T.na_Net_reaches,aH,l,h.net,rfl,N.rs,by omega,fun H1 ep s1 hep hep1=>?_⟩
    have N1:=N.same s1
    refine ⟨_,rfl,n,T.a_Net,dn,_,_,rfl,N1.obj,T.cl_Net,T.na_Net_waters,dJ,_,rfl,wl,_,_,_,rfl,rfl,SqL.of N1.ws,aX (mm hne ht),_,_,rfl,rfl,.inl ⟨by omega,by omega⟩,?_⟩
    refine ⟨_,rfl,_,rfl,n,dn,l,wl,sl,h,t,rfl,N1,hI,hne,ht,fun H2 rp s2 hrp R=>?_⟩
    obtain ⟨as,g1,g2,g3⟩:=R.ex
    rw [eV] at g2
    have s12:=s1.trans s2
    refine ⟨rp,_,rfl,SqL.of g1,iz (K:=K) (a:=rp) (xs:=as.map V.ref)
      (fun j σ H'=>Same H2 H'∧∃ v7 v8:Option V,σ=[some (.ref n),some (.int t),some (.ref ep),some (.int (sumN j (vEnd h t (letD h t)):Nat)),some (.int (sumN j (cT h t (letD h t)):Nat)),some (.int (sumN j (ba h t (letD h t)):Nat)),
        some (.int ((letD h t:Int) - (sumN j (fun i=>(vR h t (letD h t) i).1):Nat) + (sumN j (fun i=>if (Vbiraa.children h.net (some i)).isEmpty=true then 0 else (vR h t (letD h t) i).2.2):Nat))),v7,v8])
      ⟨Same.refl _,none,none,?_⟩ (fun j σ H' _ p=>SqL.of (p.1 _ _ g1)) ?_ ?_⟩
    · show [_,_,_,_,_,_,some (V.int ((Vbiraa.letAt h t:Int) * 100000000000000000000000000000000)),_,_]=[_,_,_,_,_,_,some (V.int ((letD h t:Int) - ((0:Nat):Int) + ((0:Nat):Int))),_,_]
      rw [show (letD h t:Int)=(Vbiraa.letAt h t:Int) * 100000000000000000000000000000000 by unfold letD; rw [Int.natCast_mul,DDi]]
      rw [show ((Vbiraa.letAt h t:Int) * 100000000000000000000000000000000 - ((0:Nat):Int) + ((0:Nat):Int))=(Vbiraa.letAt h t:Int) * 100000000000000000000000000000000 by omega]
      rfl
    · rintro j x σ H' tt hx ⟨sm,v7,v8,rfl⟩ htt
      obtain ⟨a,ha,rfl⟩:∃ a,as[j]?=some a∧V.ref a=x:=by
        rw [List.getElem?_map] at hx
        exact Option.map_eq_some_iff.mp hx
      have hj:j < h.net.length:=by
        rw [←g2]
        exact (List.getElem?_eq_some_iff.mp ha).1
      have hrow:=g3 j a _ ha (gf hj)
      have hrow:H2 a=some (.tup (rowV (vR h t (letD h t) j))):=hrow
      obtain ⟨q1,q2⟩:=vR_le hwf (t:=t) (W:=letD h t) hj
      have st:=ah (o:=.tup [.int (j:Nat),V.ref a]) htt
      have sm2:=sm.trans st
      have hr2:=sm2 _ _ hrow
      refine ⟨tt,_,rfl,SqT.of ac,rfl,_,_,rfl,_,_,rfl,rfl,?_⟩
      refine ⟨_,rfl,_,rfl,a,_,0,_,rfl,rfl,SqT.of hr2,rfl,_,_,rfl,rfl,_,rfl,a,_,1,_,rfl,rfl,SqT.of hr2,rfl,_,_,rfl,rfl,?_⟩
      refine ⟨_,rfl,_,rfl,a,_,1,_,rfl,rfl,SqT.of hr2,rfl,_,_,rfl,rfl,_,rfl,a,_,2,_,rfl,rfl,SqT.of hr2,rfl,_,_,rfl,rfl,?_⟩
      refine ⟨_,rfl,_,rfl,a,_,0,_,rfl,rfl,SqT.of hr2,rfl,_,_,rfl,rfl,?_⟩
      refine ⟨_,rfl,_,rfl,ep,_,rfl,.inl (SqL.of (sm2 _ _ (s2 _ _ hep1))),rfl,?_,_,rfl,?_⟩
      · unfold ao
        rw [List.all_map]
        exact List.all_eq_true.mpr fun _ _=>rfl
      have e1:(if false=true then !inV (V.int (j:Nat)) (ao (Vbiraa.ends h.net)) else inV (V.int (j:Nat)) (ao (Vbiraa.ends h.net)))=(Vbiraa.children h.net (some j)).isEmpty:=by
        rw [if_neg Bool.false_ne_true,xN,Bool.eq_iff_iff,decide_eq_true_eq]
        exact rR hj
      refine (congrArg (fun b=>if b=true then _ else _) e1).mpr ?_
      have eS:sumN (j + 1) (ba h t (letD h t))=sumN j (ba h t (letD h t)) + ((vR h t (letD h t) j).1 - (vR h t (letD h t) j).2.1):=a9 _ _
      have eL:sumN (j + 1) (cT h t (letD h t))=sumN j (cT h t (letD h t)) + ((vR h t (letD h t) j).2.1 - (vR h t (letD h t) j).2.2):=a9 _ _
      have eO:sumN (j + 1) (fun i=>(vR h t (letD h t) i).1)=sumN j (fun i=>(vR h t (letD h t) i).1) + (vR h t (letD h t) j).1:=a9 _ _
      have eE:=a9 j (vEnd h t (letD h t))
      have eN:=a9 j (fun i=>if (Vbiraa.children h.net (some i)).isEmpty=true then 0 else (vR h t (letD h t) i).2.2)
      unfold vEnd at eE
      have iS:((sumN (j + 1) (ba h t (letD h t)):Nat):Int)=(sumN j (ba h t (letD h t)):Nat) + ((vR h t (letD h t) j).1:Nat) - ((vR h t (letD h t) j).2.1:Nat):=by omega
      have iL:((sumN (j + 1) (cT h t (letD h t)):Nat):Int)=(sumN j (cT h t (letD h t)):Nat) + ((vR h t (letD h t) j).2.1:Nat) - ((vR h t (letD h t) j).2.2:Nat):=by omega
      cases c:(Vbiraa.children h.net (some j)).isEmpty with
      | true =>
        rw [c,if_pos rfl] at eE eN
        have iE:((sumN (j + 1) (vEnd h t (letD h t)):Nat):Int)=(sumN j (vEnd h t (letD h t)):Nat) + ((vR h t (letD h t) j).2.2:Nat):=by
          have:=eE
          unfold vEnd
          omega
        have iP:(letD h t:Int) - (sumN (j + 1) (fun i=>(vR h t (letD h t) i).1):Nat) + (sumN (j + 1) (fun i=>if (Vbiraa.children h.net (some i)).isEmpty=true then 0 else (vR h t (letD h t) i).2.2):Nat)=(letD h t:Int) - (sumN j (fun i=>(vR h t (letD h t) i).1):Nat) + (sumN j (fun i=>if (Vbiraa.children h.net (some i)).isEmpty=true then 0 else (vR h t (letD h t) i).2.2):Nat) - ((vR h t (letD h t) j).1:Nat):=by omega
        refine iteT ⟨_,rfl,_,rfl,a,_,2,_,rfl,rfl,SqT.of hr2,rfl,_,_,rfl,rfl,sm2,some (.int (j:Nat)),some (.ref a),?_⟩
        rw [iS,iL,iE,iP]
        rfl
      | false =>
        rw [c,if_neg Bool.false_ne_true] at eE eN
        have iE:((sumN (j + 1) (vEnd h t (letD h t)):Nat):Int)=(sumN j (vEnd h t (letD h t)):Nat):=by
          have:=eE
          unfold vEnd
          omega
        have iP:(letD h t:Int) - (sumN (j + 1) (fun i=>(vR h t (letD h t) i).1):Nat) + (sumN (j + 1) (fun i=>if (Vbiraa.children h.net (some i)).isEmpty=true then 0 else (vR h t (letD h t) i).2.2):Nat)=(letD h t:Int) - (sumN j (fun i=>(vR h t (letD h t) i).1):Nat) + (sumN j (fun i=>if (Vbiraa.children h.net (some i)).isEmpty=true then 0 else (vR h t (letD h t) i).2.2):Nat) - ((vR h t (letD h t) j).1:Nat) + ((vR h t (letD h t) j).2.2:Nat):=by omega
        refine iteF ⟨_,rfl,_,rfl,a,_,2,_,rfl,rfl,SqT.of hr2,rfl,_,_,rfl,rfl,sm2,some (.int (j:Nat)),some (.ref a),?_⟩
        rw [iS,iL,iE,iP]
        rfl
    · rintro σ H' ⟨sm,v7,v8,rfl⟩
      rw [List.length_map,g2]
      have hb:=rh (h:=h) (t0:=t) hwf (gm h t) hI.parts
      have hb2:offD h t + sumN h.net.length (fun i=>(vR h t (letD h t) i).1)=letD h t + sumN h.net.length (fun i=>if (Vbiraa.children h.net (some i)).isEmpty=true then 0 else (vR h t (letD h t) i).2.2):=hb
      have iO:(letD h t:Int) - (sumN h.net.length (fun i=>(vR h t (letD h t) i).1):Nat) + (sumN h.net.length (fun i=>if (Vbiraa.children h.net (some i)).isEmpty=true then 0 else (vR h t (letD h t) i).2.2):Nat)=((offD h t:Nat):Int):=by omega
      rw [iO]
      refine ⟨_,rfl,_,rfl,_,rfl,_,rfl,(by show 4≤sizeLine; decide),fun p hp=>k _ p ((s12.trans sm).trans (ah hp)) ((s12.trans sm).free hp) ?_⟩
      rw [ac]
      rfl
end
end CN
namespace CN
open PySem PySem.Spec PyProof.Rows L2
section
variable {K:PySem.W.Frag} {a b:Addr} {xs zs:List V} {g:TG} {te:TE} {vs:List Nat} {σ:L2.St} {H1:Hp} {D:Addr} {Qd:Hp→Prop}
theorem lL (ys:List V) (hl:ys.length=xs.length) (hl2:zs.length=xs.length) (hD:H1 D=none) (hq:SqL K H1 a xs) (hq2:SqL K H1 b zs) (hz:xs.length < sizeLine)
    (hs:∀ (i:Nat) (x z y:V) (H:Hp) (T:Addr),xs[i]?=some x→zs[i]?=some z→ys[i]?=some y→Same H1 H→H T=none→∀ Q:VK,(∀ H',Same (upd H T (.tup [x,z])) H'→Q y H')→g (.ref T) (wipe σ vs) (upd H T (.tup [x,z])) fun σ2 H2=>wipe σ2 vs=wipe σ vs∧te σ2 H2 Q)
    (hd:∀ H,Same H1 H→H D=some (.lst ys)→Qd H) :
    ∃ W:Nat→Nat→Hp→Prop,(∃ m,W 0 m (upd H1 D (.lst [])))∧∀ i m H,W i m H →
      ((Itz K a b).stop i H∧Qd H)∨((Itz K a b).go i H∧∃ Nx:Hp→Prop,(∀ H',Nx H'→∃ m',m' < m∧W (i + 1) m' H')∧∀ x H',(Itz K a b).yld i H x H'→g x (wipe σ vs) H' fun σ2 H2=>wipe σ2 vs=wipe σ vs∧tYes σ2 H2 fun b H3 =>
        if b=true then te σ2 H3 fun y H4=>∃ acc,H4 D=some (.lst acc)∧acc.length < sizeLine∧Nx (upd H4 D (.lst (acc++[y]))) else Nx H3):=by
  refine ⟨fun i m H=>m=xs.length - i∧i≤xs.length∧Same H1 H∧H D=some (.lst (ys.take i)),⟨xs.length,by simp,Nat.zero_le _,ah hD,ac⟩,?_⟩
  rintro i m H ⟨rfl,hi,sm,hH⟩
  have q1:=sm.seq hq
  have q2:=sm.seq hq2
  by_cases hlt:i < xs.length
  · refine .inr ⟨⟨xs,zs,xs[i],zs[i],q1,q2,by simp [hlt],List.getElem?_eq_getElem (by omega)⟩,fun H=>Same H1 H∧H D=some (.lst (ys.take (i + 1))),fun H' p'=>⟨xs.length - (i + 1),by omega,rfl,hlt,p'⟩,fun v H' y=>?_⟩
    obtain ⟨T,x,z,e1,e2,e3,y1,y2⟩:=y
    subst e1 e3
    obtain ⟨r,hr⟩:∃ r,ys[i]?=some r:=⟨_,List.getElem?_eq_getElem (by omega)⟩
    simp only [tYes,if_true]
    have st:Same H (upd H T (.tup [x,z])):=ah e2
    refine hs i x z r H T (y1 xs q1) (y2 zs q2) hr sm e2 _ fun H' s2=>kg hD (by omega) sm hH hr (st.trans s2)
  · have e:i=xs.length:=by omega
    subst e
    rw [←hl,List.take_length] at hH
    exact .inl ⟨⟨xs,zs,q1,q2,.inl (Nat.le_refl _)⟩,hd H sm hH⟩
end
def ji (h:Vbiraa.House) (j:Nat):List Nat:=[sumN j fun t=>sumN h.net.length (vEnd h t (letD h t)),sumN j fun t=>sumN h.net.length (cT h t (letD h t)),sumN j fun t=>sumN h.net.length (ba h t (letD h t)),sumN j (offD h)]
theorem ui (h:Vbiraa.House) (j:Nat) {i x z y:Nat} (hx:(ji h j)[i]?=some x) (hz:(accN h j)[i]?=some z) (hy:(ji h (j + 1))[i]?=some y):y=x + z:=by
  unfold ji at hx hy
  unfold accN at hz
  simp only [a9] at hy
  match i,hx,hz,hy with
  | 0,hx,hz,hy=>cases hx; cases hz; cases hy; rfl
  | 1,hx,hz,hy=>cases hx; cases hz; cases hy; rfl
  | 2,hx,hz,hy=>cases hx; cases hz; cases hy; rfl
  | 3,hx,hz,hy=>cases hx; cases hz; cases hy; rfl
  | n + 4,hx,hz,hy=>cases hx
theorem so {h:Vbiraa.House} (I:HInv h) (t:Nat):aS (Vbiraa.accountRow (Vbiraa.account h t))=qsV (accN h t):=by
  rw [nQ I.wf I.parts]
  rfl
theorem kG {h:Vbiraa.House} (I:HInv h):aS (Vbiraa.accountRow (Vbiraa.accounts h))=qsV (ji h 60):=by
  rw [ou h _ _ _ _ fun t _=>nQ I.wf I.parts t]
  rfl
section
variable {P:Program} {w:World} {K:PySem.W.Frag} {mg:Str→Option Value} {base:Heap}
def spAccs (CR CN:Addr):Sp:=fun vs H Q _=>∃ (n dn l wl sl:Addr) (h:Vbiraa.House),vs=[.ref n]∧bB CR CN H n h dn l wl sl∧HInv h∧h.net≠[]∧∀ (H':Hp) (p:Addr),Same H H'→H' p=some (.lst (ao (ji h 60)))→Q (.ref p) H'
theorem fq (T:Txt K mg):FnOk P w K mg base CX0 5 T.account_of_all.f T.account_of_all.fd ["net"] (spAccs T.a_Reach T.a_Net):=by
  refine T.account_of_all.F.ok bq (fun vs H Q E h=>?_) (fun cdv A outer s H vs Q E hr h=>?_)
  · obtain ⟨n,dn,l,wl,sl,h,rfl,_⟩:=h
    rfl
  · obtain ⟨n,dn,l,wl,sl,h,rfl,N,hI,hne,k⟩:=h
    refine ⟨_,(ae (aw (i:=1) bq.nd rfl (by first | exact Or.inl rfl | exact Or.inr rfl) (aE (aa af (aa af (aa af (aa af ad))))))
      (ae (bS PassesOwn.never rfl (cI rfl T.n_range (aa (aF (ax (K:=K)) (by rfl) T.n_len PySem.boot_len (aa (am (K:=K) (pv 0) rfl) ad)) ad)) (aJ (i:=2) bq.nd rfl (by first | exact Or.inl rfl | exact Or.inr rfl))
      (ag (ig (i:=1) (own:=[("total",3),("more",4)]) rfl bq.nd rfl rfl (jX rfl rfl rfl rfl) (sY rfl T.n_zip (aa (pv 1) (aa (aD T.account_of (jd T) (hr.mono (by decide)) kD (aa (pv 0) (aa (pv 2) ad))) ad))) (bh (N:=["net", "totals", "tick", "total", "more"]) (sc:=aj cG) (by decide +kernel)) (fun _ _ _ _ _=>(dO (K:=K) (n:=2) rfl (bd (aJ (i:=3) bq.nd rfl (by first | exact Or.inl rfl | exact Or.inr rfl)) (bd (aJ (i:=4) bq.nd rfl (by first | exact Or.inl rfl | exact Or.inr rfl)) dN)))) (fun _ _ _ _ _=>bI) (fun _ _ _ _ _=>(aG bu (pv 3) (pv 4))))))
      (ag (au (pv 1))))),?_⟩
    have w60:(ao (waters h)).length=60:=by rw [aB,cE hne,List.length_map,List.length_range]
    refine ⟨(by show 4≤sizeLine; decide),fun t0 ht0=>?_⟩
    have s0:=ah (o:=.lst [.int 0,.int 0,.int 0,.int 0]) ht0
    have N0:=N.same s0
    refine ⟨_,rfl,n,T.a_Net,dn,_,_,rfl,N0.obj,T.cl_Net,T.na_Net_waters,dJ,wl,_,rfl,.inl (SqL.of N0.ws),_,rfl,by rw [w60]; decide,by rw [w60]; decide,?_⟩
    rw [w60]
    refine iW (n:=60) (fun j σ H'=>Same H H'∧∃ (tp:Addr) (v2 v3 v4:Option V),H' tp=some (.lst (ao (ji h j)))∧σ=[some (.ref n),some (.ref tp),v2,v3,v4]) ⟨s0,t0,none,none,none,ac,rfl⟩ ?_ ?_
    · rintro j σ H' hj ⟨sm,tp,v2,v3,v4,htp,rfl⟩
      refine ⟨_,rfl,_,rfl,_,rfl,n,dn,l,wl,sl,h,j,by rw [Int.zero_add]; rfl,N.same sm,hI,hne,hj,fun H1 ap s1 hap hap1=>?_⟩
      refine ⟨tp,ap,_,_,rfl,SqL.of (s1 _ _ htp),SqL.of hap1,fun D hD=>?_⟩
      refine lL (xs:=ao (ji h j)) (zs:=ao (accN h j)) (ao (ji h (j + 1))) rfl rfl hD (SqL.of (s1 _ _ htp)) (SqL.of hap1) (by show 4 < sizeLine; decide) ?_ ?_
      · rintro i x z y H2 tt hx hz hy s2 htt Q' kq
        obtain ⟨x,hx1,rfl⟩:=aW hx
        obtain ⟨z,hz1,rfl⟩:=aW hz
        obtain ⟨y,hy1,rfl⟩:=aW hy
        have e:=ui h j hx1 hz1 hy1
        refine ⟨tt,_,rfl,SqT.of ac,rfl,_,_,rfl,_,_,rfl,rfl,rfl,_,rfl,_,rfl,_,_,rfl,rfl,?_⟩
        have:=kq _ (Same.refl _)
        rw [e,Int.natCast_add] at this
        exact this
      · rintro H2 s2 hD2
        exact ⟨(sm.trans s1).trans s2,D,_,_,_,hD2,rfl⟩
    · rintro σ H' ⟨sm,tp,v2,v3,v4,htp,rfl⟩
      exact ⟨_,rfl,k H' tp sm htp⟩
def u6:List Int→List Int→Option Vbiraa.Call
  | [i,t],_=>some (.flow i t)
  | _,_=>none
def qf:List Int→List Int→Option Vbiraa.Call
  | [i,t,n],_=>some (.comes i t n)
  | _,_=>none
def ku:List Int→List Int→Option Vbiraa.Call
  | [t],_=>some (.account t)
  | _,_=>none
def iY:List Int→List Int→Option Vbiraa.Call
  | [],_=>some .accounts
  | _,_=>none
theorem o9 {a b:List Int} {c:Vbiraa.Call} (h:u6 a b=some c):∃ i t,a=[i,t]∧c=.flow i t:=by
  unfold u6 at h
  split at h
  · cases h
    exact ⟨_,_,rfl,rfl⟩
  · cases h
theorem nE {a b:List Int} {c:Vbiraa.Call} (h:qf a b=some c):∃ i t n,a=[i,t,n]∧c=.comes i t n:=by
  unfold qf at h
  split at h
  · cases h
    exact ⟨_,_,_,rfl,rfl⟩
  · cases h
theorem kt {a b:List Int} {c:Vbiraa.Call} (h:ku a b=some c):∃ t,a=[t]∧c=.account t:=by
  unfold ku at h
  split at h
  · cases h
    exact ⟨_,rfl,rfl⟩
  · cases h
theorem jg {a b:List Int} {c:Vbiraa.Call} (h:iY a b=some c):a=[]∧c=.accounts:=by
  unfold iY at h
  split at h
  · cases h
    exact ⟨rfl,rfl⟩
  · cases h
theorem mZ (T:Txt K mg):FnOk P w K mg base CX0 7 T.answer_flow.f T.answer_flow.fd ["net", "numbers", "row"] (spFn T.a_Reach T.a_Net u6):=by
  refine T.answer_flow.F.ok mD (fun vs H Q E h=>?_) (fun cdv A outer s H vs Q E hr h=>?_)
  · obtain ⟨n,nl,rl,dn,l,wl,sl,h,nums,rs,c,rfl,_⟩:=h
    rfl
  · obtain ⟨n,nl,rl,dn,l,wl,sl,h,nums,rs,c,rfl,N,hI,hne0,hnl,hrl,hrw,hrs,hC,k⟩:=h
    refine ⟨_,(ae (aU (dX (aZ (aL (K:=K) (aD T.is_reach (bP T) (hr.mono (by decide)) cD (aa (pv 0) (aa (ay (ak (K:=K)) (pv 1) af (fun _ _=>rfl)) ad))) (fun _=>rfl))) (dH (aZ (aL (K:=K) (aD T.is_tick (cB T) (hr.mono (by decide)) c9 (aa (ay (ak (K:=K)) (pv 1) af (fun _ _=>rfl)) ad)) (fun _=>rfl))))).pt
      (ag (au (aE (aa (a8 T.c_OUT_OF_RANGE) ad))))
      aI)
      (ag (au (aG dw (aE (aa af ad)) (aD T.told (gJ T) (hr.mono (by decide)) jJ (aa (aD T.flow_at (tw T) (hr.mono (by decide)) wn (aa (pv 0) (aa (ay (ak (K:=K)) (pv 1) af (fun _ _=>rfl)) (aa (ay (ak (K:=K)) (pv 1) af (fun _ _=>rfl)) ad)))) ad)))))),?_⟩
    obtain ⟨i,t,rfl,rfl⟩:=o9 hC
    have hne:=hne0 rfl
    have hs:Vbiraa.step h (.flow i t)=if (Vbiraa.isReach h i && Vbiraa.isTick t)=false then (h,[-1]) else (h,0 :: Vbiraa.qRow (Vbiraa.offerAt h i.toNat t.toNat)++(Vbiraa.qRow (Vbiraa.taken (Vbiraa.reachAt h.net i.toNat) (Vbiraa.offerAt h i.toNat t.toNat))++(Vbiraa.qRow (Vbiraa.spilled (Vbiraa.reachAt h.net i.toNat) (Vbiraa.offerAt h i.toNat t.toNat))++Vbiraa.qRow (Vbiraa.leavesAt h i.toNat t.toNat)))):=by
      rw [Vbiraa.step,bn hne]
      rfl
    rw [hs] at k
    have bad:(Vbiraa.isReach h i && Vbiraa.isTick t)=false→tRet (tLst (jW (tC (V.int (-1))) tNil)) { nx:=fun x H'=>Q V.non H',rt:=Q } (L2.start ["net", "numbers", "row"] [V.ref n,V.ref nl,V.ref rl]) H:=fun z=>by
      rw [if_pos z] at k
      exact ⟨(by show 1≤sizeLine; decide),fun p hp=>k.new N (ah hp) hp ac⟩
    refine ⟨_,rfl,_,rfl,nl,_,_,_,rfl,rfl,SqL.of hnl,aC (j:=0) rfl rfl,n,dn,l,wl,sl,h,i,rfl,N,_,rfl,?_⟩
    cases c1:Vbiraa.isReach h i with
    | false=>exact iteT (iteT (bad (by rw [c1,Bool.false_and])))
    | true =>
    refine iteF ⟨_,rfl,nl,_,_,_,rfl,rfl,SqL.of hnl,aC (j:=1) rfl rfl,t,rfl,_,rfl,?_⟩
    cases c2:Vbiraa.isTick t with
    | false=>exact iteT (bad (by rw [c1,c2,Bool.true_and]))
    | true =>
    refine iteF ?_
    rw [c1,c2,if_neg (by decide)] at k
    obtain ⟨j,rfl,hj⟩:=bQ c1
    obtain ⟨u,rfl,hu⟩:=cC c2
    simp only [Int.toNat_natCast] at k
    refine ⟨(by show 1≤sizeLine; decide),fun z hz=>?_⟩
    have s0:=ah (o:=.lst [.int 0]) hz
    refine ⟨_,rfl,_,rfl,nl,_,_,_,rfl,rfl,SqL.of (s0 _ _ hnl),aC (j:=0) rfl rfl,_,rfl,nl,_,_,_,rfl,rfl,SqL.of (s0 _ _ hnl),aC (j:=1) rfl rfl,n,dn,l,wl,sl,h,j,u,rfl,N.same s0,hI,hj,hu,fun H1 fp s1 hfp hfp1=>?_⟩
    refine ⟨fp,_,rfl,hfp1,by show 4≤1000; decide,fun H2 tp s2 htp htp2=>?_⟩
    refine ⟨z,tp,_,_,rfl,rfl,s2 _ _ (s1 _ _ ac),htp2,(by rw [fm]; show 1 + 8≤sizeLine; decide),fun p hp=>?_⟩
    have sA:=(s0.trans s1).trans s2
    have s3:=ah (o:=.lst ([.int 0]++qsV [(ofD h j u).1,(ofD h j u).2.1,(ofD h j u).1 - (ofD h j u).2.1,lvD h j u])) hp
    refine k.new N (sA.trans s3) (sA.free hp) (ac.trans ?_)
    obtain ⟨a2,a3,_⟩:=rj hI.wf hj u
    rw [a2,a3,xF hI.wf hj,xu hI.wf hj]
    rfl
theorem j9 (T:Txt K mg):FnOk P w K mg base CX0 5 T.answer_account.f T.answer_account.fd ["net", "numbers", "row"] (spFn T.a_Reach T.a_Net ku):=by
  refine T.answer_account.F.ok jZ (fun vs H Q E h=>?_) (fun cdv A outer s H vs Q E hr h=>?_)
  · obtain ⟨n,nl,rl,dn,l,wl,sl,h,nums,rs,c,rfl,_⟩:=h
    rfl
  · obtain ⟨n,nl,rl,dn,l,wl,sl,h,nums,rs,c,rfl,N,hI,hne0,hnl,hrl,hrw,hrs,hC,k⟩:=h
    refine ⟨_,(ae (aU (aZ (aL (K:=K) (aD T.is_tick (cB T) (hr.mono (by decide)) c9 (aa (ay (ak (K:=K)) (pv 1) af (fun _ _=>rfl)) ad)) (fun _=>rfl)))
      (ag (au (aE (aa (a8 T.c_OUT_OF_RANGE) ad))))
      aI)
      (ag (au (aG dw (aE (aa af ad)) (aD T.told (gJ T) (hr.mono (by decide)) jJ (aa (aD T.account_of (jd T) (hr.mono (by decide)) kD (aa (pv 0) (aa (ay (ak (K:=K)) (pv 1) af (fun _ _=>rfl)) ad))) ad)))))),?_⟩
    obtain ⟨t,rfl,rfl⟩:=kt hC
    have hne:=hne0 rfl
    have hs:Vbiraa.step h (.account t)=if Vbiraa.isTick t=false then (h,[-1]) else (h,0 :: Vbiraa.accountRow (Vbiraa.account h t.toNat)):=by
      rw [Vbiraa.step,bn hne]
      rfl
    rw [hs] at k
    refine ⟨_,rfl,nl,_,_,_,rfl,rfl,SqL.of hnl,aC (j:=0) rfl rfl,t,rfl,_,rfl,?_⟩
    cases c2:Vbiraa.isTick t with
    | false =>
      rw [c2,if_pos rfl] at k
      exact iteT ⟨(by show 1≤sizeLine; decide),fun p hp=>k.new N (ah hp) hp ac⟩
    | true =>
    refine iteF ?_
    rw [c2,if_neg (by decide)] at k
    obtain ⟨u,rfl,hu⟩:=cC c2
    rw [Int.toNat_natCast] at k
    refine ⟨(by show 1≤sizeLine; decide),fun z hz=>?_⟩
    have s0:=ah (o:=.lst [.int 0]) hz
    refine ⟨_,rfl,_,rfl,nl,_,_,_,rfl,rfl,SqL.of (s0 _ _ hnl),aC (j:=0) rfl rfl,n,dn,l,wl,sl,h,u,rfl,N.same s0,hI,hne,hu,fun H1 fp s1 hfp hfp1=>?_⟩
    refine ⟨fp,_,rfl,hfp1,by show 4≤1000; decide,fun H2 tp s2 htp htp2=>?_⟩
    refine ⟨z,tp,_,_,rfl,rfl,s2 _ _ (s1 _ _ ac),htp2,(by rw [fm]; show 1 + 8≤sizeLine; decide),fun p hp=>?_⟩
    have sA:=(s0.trans s1).trans s2
    have s3:=ah (o:=.lst ([.int 0]++qsV (accN h u))) hp
    refine k.new N (sA.trans s3) (sA.free hp) (ac.trans ?_)
    rw [←so hI]
    rfl
theorem jB (T:Txt K mg):FnOk P w K mg base CX0 6 T.answer_accounts.f T.answer_accounts.fd ["net", "numbers", "row"] (spFn T.a_Reach T.a_Net iY):=by
  refine T.answer_accounts.F.ok jo (fun vs H Q E h=>?_) (fun cdv A outer s H vs Q E hr h=>?_)
  · obtain ⟨n,nl,rl,dn,l,wl,sl,h,nums,rs,c,rfl,_⟩:=h
    rfl
  · obtain ⟨n,nl,rl,dn,l,wl,sl,h,nums,rs,c,rfl,N,hI,hne0,hnl,hrl,hrw,hrs,hC,k⟩:=h
    refine ⟨_,(ag (au (aG dw (aE (aa af ad)) (aD T.told (gJ T) (hr.mono (by decide)) jJ (aa (aD T.account_of_all (fq T) (hr.mono (by decide)) gr (aa (pv 0) ad)) ad))))),?_⟩
    obtain ⟨rfl,rfl⟩:=jg hC
    have hne:=hne0 rfl
    have hs:Vbiraa.step h .accounts=(h,0 :: Vbiraa.accountRow (Vbiraa.accounts h)):=by
      rw [Vbiraa.step,bn hne]
    rw [hs] at k
    refine ⟨(by show 1≤sizeLine; decide),fun z hz=>?_⟩
    have s0:=ah (o:=.lst [.int 0]) hz
    refine ⟨_,rfl,n,dn,l,wl,sl,h,rfl,N.same s0,hI,hne,fun H1 fp s1 hfp1=>?_⟩
    refine ⟨fp,_,rfl,hfp1,by show 4≤1000; decide,fun H2 tp s2 htp htp2=>?_⟩
    refine ⟨z,tp,_,_,rfl,rfl,s2 _ _ (s1 _ _ ac),htp2,(by rw [fm]; show 1 + 8≤sizeLine; decide),fun p hp=>?_⟩
    have sA:=(s0.trans s1).trans s2
    have s3:=ah (o:=.lst ([.int 0]++qsV (ji h 60))) hp
    refine k.new N (sA.trans s3) (sA.free hp) (ac.trans ?_)
    rw [←kG hI]
    rfl
theorem lW (T:Txt K mg):FnOk P w K mg base CX0 6 T.answer_comes.f T.answer_comes.fd ["net", "numbers", "row"] (spFn T.a_Reach T.a_Net qf):=by
  refine T.answer_comes.F.ok b7 (fun vs H Q E h=>?_) (fun cdv A outer s H vs Q E hr h=>?_)
  · obtain ⟨n,nl,rl,dn,l,wl,sl,h,nums,rs,c,rfl,_⟩:=h
    rfl
  · obtain ⟨n,nl,rl,dn,l,wl,sl,h,nums,rs,c,rfl,N,hI,hne0,hnl,hrl,hrw,hrs,hC,k⟩:=h
    refine ⟨_,(ae (aw (i:=3) b7.nd rfl (by first | exact Or.inl rfl | exact Or.inr rfl) (ay (ak (K:=K)) (pv 1) af (fun _ _=>rfl)))
      (ae (aw (i:=4) b7.nd rfl (by first | exact Or.inl rfl | exact Or.inr rfl) (ay (ak (K:=K)) (pv 1) af (fun _ _=>rfl)))
      (ae (aU (dX (aZ (aL (K:=K) (aD T.is_reach (bP T) (hr.mono (by decide)) cD (aa (pv 0) (aa (pv 3) ad))) (fun _=>rfl))) (dX (aZ (aL (K:=K) (aD T.is_tick (cB T) (hr.mono (by decide)) c9 (aa (pv 4) ad)) (fun _=>rfl))) (dH (aZ (eX cN cN af (ay (ak (K:=K)) (pv 1) af (fun _ _=>rfl)) (aG cZ (a8 T.c_TICKS) (pv 4))))))).pt
      (ag (au (aE (aa (a8 T.c_OUT_OF_RANGE) ad))))
      aI)
      (ag (au (aG dw (aE (aa af ad)) (aD T.told (gJ T) (hr.mono (by decide)) jJ (aa (gg (own:=[("k",5)]) rfl b7.nd (cI rfl T.n_range (aa (ay (ak (K:=K)) (pv 1) af (fun _ _=>rfl)) ad)) (bh (N:=["net", "numbers", "row", "i", "tick", "k"]) (sc:=aj dq) (by decide +kernel)) (fun _ _ _ _ _=>(aJ (i:=5) b7.nd rfl (by first | exact Or.inl rfl | exact Or.inr rfl))) (fun _ _ _ _ _=>bI) (fun _ _ _ _ _=>(aD T.leaving_at (jc T) (hr.mono (by decide)) kz (aa (pv 0) (aa (pv 3) (aa (aG bu (pv 4) (pv 5)) ad)))))) ad)))))))),?_⟩
    obtain ⟨i,t,m,rfl,rfl⟩:=nE hC
    have hne:=hne0 rfl
    have hs:Vbiraa.step h (.comes i t m)=if (Vbiraa.isReach h i && (Vbiraa.isTick t && Vbiraa.within m 1 ((Vbiraa.TICKS:Int) - t)))=false then (h,[-1]) else (h,0 :: (List.range m.toNat).flatMap fun k=>Vbiraa.qRow (Vbiraa.leavesAt h i.toNat (t.toNat + k))):=by
      rw [Vbiraa.step,bn hne]
      rfl
    rw [hs] at k
    refine ⟨_,rfl,nl,_,_,_,rfl,rfl,SqL.of hnl,aC (j:=0) rfl rfl,_,rfl,nl,_,_,_,rfl,rfl,SqL.of hnl,aC (j:=1) rfl rfl,?_⟩
    have bad:(Vbiraa.isReach h i && (Vbiraa.isTick t && Vbiraa.within m 1 ((Vbiraa.TICKS:Int) - t)))=false→tRet (tLst (jW (tC (V.int (-1))) tNil)) { nx:=fun x H'=>Q V.non H',rt:=Q } [some (V.ref n),some (V.ref nl),some (V.ref rl),some (V.int i),some (V.int t),none] H:=fun z=>by
      rw [if_pos z] at k
      exact ⟨(by show 1≤sizeLine; decide),fun p hp=>k.new N (ah hp) hp ac⟩
    refine ⟨_,rfl,_,rfl,n,dn,l,wl,sl,h,i,rfl,N,_,rfl,?_⟩
    cases c1:Vbiraa.isReach h i with
    | false=>exact iteT (iteT (bad (by rw [c1,Bool.false_and])))
    | true =>
    refine iteF ⟨_,rfl,t,rfl,_,rfl,?_⟩
    cases c2:Vbiraa.isTick t with
    | false=>exact iteT (iteT (bad (by rw [c1,c2,Bool.false_and,Bool.true_and])))
    | true =>
    have hwi:Vbiraa.within m 1 ((Vbiraa.TICKS:Int) - t)=(decide ((1:Int)≤m) && decide (m≤(60:Int) - t)):=rfl
    refine iteF ⟨_,rfl,nl,_,_,_,rfl,rfl,SqL.of hnl,aC (j:=2) rfl rfl,_,_,rfl,rfl,_,rfl,?_⟩
    cases c3:decide ((1:Int)≤m) with
    | false =>
      refine iteF ⟨_,rfl,iteT (bad ?_)⟩
      rw [c1,c2,hwi,c3]
      rfl
    | true =>
    refine iteT ⟨_,rfl,_,_,rfl,rfl,_,_,rfl,rfl,_,rfl,?_⟩
    cases c4:decide (m≤(60:Int) - t) with
    | false =>
      refine iteT (bad ?_)
      rw [c1,c2,hwi,c3,c4]
      rfl
    | true =>
    refine iteF ?_
    rw [c1,c2,hwi,c3,c4,if_neg (by decide)] at k
    obtain ⟨j,rfl,hj⟩:=bQ c1
    obtain ⟨u,rfl,hu⟩:=cC c2
    have m1:=of_decide_eq_true c3
    have m2:=of_decide_eq_true c4
    obtain ⟨y,rfl⟩:∃ y:Nat,m=(y:Int):=⟨m.toNat,by omega⟩
    simp only [Int.toNat_natCast] at k
    refine ⟨(by show 1≤sizeLine; decide),fun z hz=>?_⟩
    have s0:=ah (o:=.lst [.int 0]) hz
    refine ⟨_,rfl,nl,_,_,_,rfl,rfl,SqL.of (s0 _ _ hnl),aC (j:=2) rfl rfl,_,rfl,by omega,by omega,fun D hD=>?_⟩
    refine fX (n:=y) (ao ((List.range y).map fun k=>lvD h j (u + k))) (by rw [aB,List.length_map,List.length_range]) hD (aO (by omega)) ?_ ?_
    · rintro i v H2 hi hv s2 Q' kq
      obtain ⟨x,hx,rfl⟩:=aW hv
      rw [List.getElem?_map,List.getElem?_range hi] at hx
      have hx:lvD h j (u + i)=x:=Option.some.inj hx
      subst hx
      refine ⟨rfl,_,rfl,_,rfl,_,rfl,_,rfl,_,_,rfl,rfl,n,dn,l,wl,sl,h,j,u + i,?_,(N.same s0).same s2,hI,hj,by omega,fun H3 s3=>kq H3 s3⟩
      rw [Int.zero_add]
      rfl
    · rintro H2 s2 hD2
      refine ⟨D,_,rfl,hD2,by rw [List.length_map,List.length_range]; omega,fun H3 tp s3 htp htp3=>?_⟩
      refine ⟨z,tp,_,_,rfl,rfl,s3 _ _ (s2 _ _ ac),htp3,?_,fun p hp=>?_⟩
      · rw [fm,List.length_map,List.length_range]
        exact Nat.le_of_lt (aO (by show 1 + 2 * y < 1000000; omega))
      have sA:=(s0.trans s2).trans s3
      have s4:=ah (o:=.lst ([.int 0]++qsV ((List.range y).map fun k=>lvD h j (u + k)))) hp
      refine k.new N (sA.trans s4) (sA.free hp) (ac.trans ?_)
      congr 2
      show V.int 0 :: qsV ((List.range y).map fun k=>lvD h j (u + k))=V.int 0 :: aS ((List.range y).flatMap fun k=>Vbiraa.qRow (Vbiraa.leavesAt h j (u + k)))
      congr 1
      unfold qsV aS
      rw [List.flatMap_map,List.map_flatMap]
      congr 1
      funext q
      rw [xF hI.wf hj]
      rfl
end
end CN
namespace CN
open PySem PySem.Spec PyProof.Rows L2
def u4:List Int→List Int→Option Vbiraa.Call
  | [i,t],_=>some (.most i t)
  | _,_=>none
def u0:List Int→List Int→Option Vbiraa.Call
  | [i,t],_=>some (.part i t)
  | _,_=>none
def md:List Int→List Int→Option Vbiraa.Call
  | [],_=>some .spills
  | _,_=>none
def u7:List Int→List Int→Option Vbiraa.Call
  | [],_=>some .ends
  | _,_=>none
def me:List Int→List Int→Option Vbiraa.Call
  | [],_=>some .counts
  | _,_=>none
theorem o7 {a b:List Int} {c:Vbiraa.Call} (h:u4 a b=some c):∃ i t,a=[i,t]∧c=.most i t:=by
  unfold u4 at h
  split at h
  · cases h
    exact ⟨_,_,rfl,rfl⟩
  · cases h
theorem o5 {a b:List Int} {c:Vbiraa.Call} (h:u0 a b=some c):∃ i t,a=[i,t]∧c=.part i t:=by
  unfold u0 at h
  split at h
  · cases h
    exact ⟨_,_,rfl,rfl⟩
  · cases h
theorem lN {a b:List Int} {c:Vbiraa.Call} (h:md a b=some c):a=[]∧c=.spills:=by
  unfold md at h
  split at h
  · cases h
    exact ⟨rfl,rfl⟩
  · cases h
theorem pb {a b:List Int} {c:Vbiraa.Call} (h:u7 a b=some c):a=[]∧c=.ends:=by
  unfold u7 at h
  split at h
  · cases h
    exact ⟨rfl,rfl⟩
  · cases h
theorem lO {a b:List Int} {c:Vbiraa.Call} (h:me a b=some c):a=[]∧c=.counts:=by
  unfold me at h
  split at h
  · cases h
    exact ⟨rfl,rfl⟩
  · cases h
def spN (h:Vbiraa.House) (j:Nat):List Nat:=(List.range h.net.length).map fun i=>sumN j fun t=>ba h t (letD h t) i
theorem gw (h:Vbiraa.House) (j:Nat):(spN h j).length=h.net.length:=by
  unfold spN
  rw [List.length_map,List.length_range]
theorem um {h:Vbiraa.House} {j i x:Nat} (e:(spN h j)[i]?=some x):i < h.net.length∧x=sumN j fun t=>ba h t (letD h t) i:=by
  have hi:i < h.net.length:=by
    have:=(List.getElem?_eq_some_iff.mp e).1
    rw [gw] at this
    exact this
  unfold spN at e
  rw [List.getElem?_map,List.getElem?_range hi] at e
  exact ⟨hi,(Option.some.inj e).symm⟩
theorem zeros (n:Nat):(List.replicate n [V.int 0]).flatten=ao ((List.range n).map fun _=>0):=by
  induction n with
  | zero=>rfl
  | succ n ih =>
    rw [List.replicate_succ',List.flatten_append,ih,List.range_succ]
    unfold ao
    rw [List.map_append,List.map_append]
    rfl
theorem sO {h:Vbiraa.House} (I:HInv h):aS ((List.range h.net.length).flatMap fun i=>Vbiraa.qRow (Vbiraa.sumQ ((List.range (Vbiraa.TICKS + Vbiraa.DEEP * Vbiraa.DELAY)).map fun t=>Vbiraa.spilled (Vbiraa.reachAt h.net i) (Vbiraa.offerAt h i t))))=qsV (spN h 60):=by
  have e:((List.range h.net.length).flatMap fun i=>Vbiraa.qRow (Vbiraa.sumQ ((List.range (Vbiraa.TICKS + Vbiraa.DEEP * Vbiraa.DELAY)).map fun t=>Vbiraa.spilled (Vbiraa.reachAt h.net i) (Vbiraa.offerAt h i t))))=(List.range h.net.length).flatMap fun i=>Vbiraa.qRow (Vbiraa.mk (sumN 60 fun t=>ba h t (letD h t) i) DD):=by
    rw [List.flatMap_def,List.flatMap_def,List.map_congr_left fun i hi=>by rw [vo I.wf I.lets (List.mem_range.mp hi)]]
  rw [e]
  unfold aS qsV spN
  rw [List.map_flatMap,List.flatMap_map]
  rfl
section
variable {P:Program} {w:World} {K:PySem.W.Frag} {mg:Str→Option Value} {base:Heap}
def wM (CR CN:Addr):Sp:=fun vs H Q _=>∃ (n dn l wl sl:Addr) (h:Vbiraa.House),vs=[.ref n]∧bB CR CN H n h dn l wl sl∧HInv h∧h.net≠[]∧∀ (H':Hp) (p:Addr),Same H H'→H' p=some (.lst (ao (spN h 60)))→Q (.ref p) H'
theorem k4 (T:Txt K mg):FnOk P w K mg base CX0 4 T.spills_of_all.f T.spills_of_all.fd ["net"] (wM T.a_Reach T.a_Net):=by
  refine T.spills_of_all.F.ok bz (fun vs H Q E h=>?_) (fun cdv A outer s H vs Q E hr h=>?_)
  · obtain ⟨n,dn,l,wl,sl,h,rfl,_⟩:=h
    rfl
  · obtain ⟨n,dn,l,wl,sl,h,rfl,N,hI,hne,k⟩:=h
    refine ⟨_,(ae (aw (i:=1) bz.nd rfl (by first | exact Or.inl rfl | exact Or.inr rfl) (aG xo (aE (aa af ad)) (aF (ax (K:=K)) (by rfl) T.n_len PySem.boot_len (aa (am (K:=K) (pv 0) rfl) ad))))
      (ae (bS PassesOwn.never rfl (cI rfl T.n_range (aa (aF (ax (K:=K)) (by rfl) T.n_len PySem.boot_len (aa (am (K:=K) (pv 0) rfl) ad)) ad)) (aJ (i:=2) bz.nd rfl (by first | exact Or.inl rfl | exact Or.inr rfl))
      (ag (ig (i:=1) (own:=[("before",3),("row",4)]) rfl bz.nd rfl rfl (jX rfl rfl rfl rfl) (sY rfl T.n_zip (aa (pv 1) (aa (aD T.passes (k5 T) (hr.mono (by decide)) nG (aa (pv 0) (aa (pv 2) ad))) ad))) (bh (N:=["net", "spilled", "tick", "before", "row"]) (sc:=aj cV) (by decide +kernel)) (fun _ _ _ _ _=>(dO (K:=K) (n:=2) rfl (bd (aJ (i:=3) bz.nd rfl (by first | exact Or.inl rfl | exact Or.inr rfl)) (bd (aJ (i:=4) bz.nd rfl (by first | exact Or.inl rfl | exact Or.inr rfl)) dN)))) (fun _ _ _ _ _=>bI) (fun _ _ _ _ _=>(aG cZ (aG bu (pv 3) (ay (aR (K:=K)) (pv 4) af (fun _ _=>rfl))) (ay (aR (K:=K)) (pv 4) af (fun _ _=>rfl)))))))
      (ag (au (pv 1))))),?_⟩
    have hlen:=hI.wf.len
    have w60:(ao (waters h)).length=60:=by rw [aB,cE hne,List.length_map,List.length_range]
    obtain ⟨xs,h1,h2,h3⟩:=N.rs.list
    refine ⟨(by show 1≤sizeLine; decide),fun z hz=>?_⟩
    have s0:=ah (o:=.lst [.int 0]) hz
    have N0:=N.same s0
    refine ⟨_,rfl,n,T.a_Net,dn,_,_,rfl,N0.obj,T.cl_Net,T.na_Net_reaches,aH,l,_,rfl,.inl (SqL.of (s0 _ _ h1)),z,_,_,rfl,rfl,ac,by omega,by omega,?_,fun t0 ht0=>?_⟩
    · rw [Int.toNat_natCast,h2]
      show 1 * h.net.length≤sizeLine
      exact Nat.le_of_lt (aO (by omega))
    rw [Int.toNat_natCast,h2,zeros]
    have s1:=s0.trans (ah (o:=.lst (ao ((List.range h.net.length).map fun _=>0))) ht0)
    have N1:=N.same s1
    refine ⟨_,rfl,n,T.a_Net,dn,_,_,rfl,N1.obj,T.cl_Net,T.na_Net_waters,dJ,wl,_,rfl,.inl (SqL.of N1.ws),_,rfl,by rw [w60]; decide,by rw [w60]; decide,?_⟩
    rw [w60]
    refine iW (n:=60) (fun j σ H'=>Same H H'∧∃ (tp:Addr) (v2 v3 v4:Option V),H' tp=some (.lst (ao (spN h j)))∧σ=[some (.ref n),some (.ref tp),v2,v3,v4]) ⟨s1,t0,none,none,none,ac,rfl⟩ ?_ ?_
    · rintro j σ H' hj ⟨sm,tp,v2,v3,v4,htp,rfl⟩
      refine ⟨_,rfl,_,rfl,_,rfl,n,dn,l,wl,sl,h,j,by rw [Int.zero_add]; rfl,N.same sm,hI,hne,hj,fun H1 ap s2 hap R=>?_⟩
      obtain ⟨as,g1,g2,g3⟩:=R.ex
      rw [eV] at g2
      refine ⟨tp,ap,_,_,rfl,SqL.of (s2 _ _ htp),SqL.of g1,fun D hD=>?_⟩
      refine lL (xs:=ao (spN h j)) (zs:=as.map V.ref) (ao (spN h (j + 1))) ?_ ?_ hD (SqL.of (s2 _ _ htp)) (SqL.of g1) ?_ ?_ ?_
      · rw [aB,aB,gw,gw]
      · rw [aB,gw,List.length_map,g2]
      · rw [aB,gw]
        exact aO (by omega)
      · rintro i x y z' H2 tt hx hy hz' s3 htt Q' kq
        obtain ⟨x,hx1,rfl⟩:=aW hx
        obtain ⟨z',hz1,rfl⟩:=aW hz'
        obtain ⟨a,ha,rfl⟩:∃ a,as[i]?=some a∧V.ref a=y:=by
          rw [List.getElem?_map] at hy
          exact Option.map_eq_some_iff.mp hy
        obtain ⟨hi,ex⟩:=um hx1
        obtain ⟨_,ez⟩:=um hz1
        have hrow:H1 a=some (.tup (rowV (vR h j (letD h j) i))):=g3 i a _ ha (gf hi)
        obtain ⟨q1,q2⟩:=vR_le hI.wf (t:=j) (W:=letD h j) hi
        have hr2:=(s3.trans (ah (o:=.tup [V.int (x:Nat),V.ref a]) htt)) _ _ hrow
        refine ⟨tt,_,rfl,SqT.of ac,rfl,_,_,rfl,_,_,rfl,rfl,rfl,_,rfl,_,rfl,a,_,0,_,rfl,rfl,SqT.of hr2,rfl,_,_,rfl,rfl,_,rfl,a,_,1,_,rfl,rfl,SqT.of hr2,rfl,_,_,rfl,rfl,?_⟩
        have e:((z':Nat):Int)=(x:Int) + ((vR h j (letD h j) i).1:Nat) - ((vR h j (letD h j) i).2.1:Nat):=by
          have e1:z'=x + ((vR h j (letD h j) i).1 - (vR h j (letD h j) i).2.1):=by
            rw [ez,a9,ex]
            rfl
          omega
        have:=kq _ (Same.refl _)
        rw [e] at this
        exact this
      · rintro H2 s3 hD2
        exact ⟨(sm.trans s2).trans s3,D,_,_,_,hD2,rfl⟩
    · rintro σ H' ⟨sm,tp,v2,v3,v4,htp,rfl⟩
      exact ⟨_,rfl,k H' tp sm htp⟩
def spMost (CR CN:Addr):Sp:=fun vs H Q _=>∃ (n dn l wl sl:Addr) (h:Vbiraa.House) (i t:Nat),vs=[.ref n,.int i,.int t]∧bB CR CN H n h dn l wl sl∧HInv h∧i < h.net.length∧∀ (m:Nat),Vbiraa.mostOut h i t=Vbiraa.mk m DD→∀ H',Same H H'→Q (.int (m:Nat)) H'
theorem lR (T:Txt K mg):FnOk P w K mg base CX0 3 T.most_leaving.f T.most_leaving.fd ["net", "i", "tick"] (spMost T.a_Reach T.a_Net):=by
  refine T.most_leaving.F.ok b6 (fun vs H Q E h=>?_) (fun cdv A outer s H vs Q E hr h=>?_)
  · obtain ⟨n,dn,l,wl,sl,h,i,t,rfl,_⟩:=h
    rfl
  · obtain ⟨n,dn,l,wl,sl,h,i,t,rfl,N,hI,hi,k⟩:=h
    refine ⟨_,(ae (aw (i:=3) b6.nd rfl (by first | exact Or.inl rfl | exact Or.inr rfl) (aD T.way_to (kZ T) (hr.mono (by decide)) nF (aa (am (K:=K) (pv 0) rfl) (aa (pv 1) ad))))
      (ae (aw (i:=4) b6.nd rfl (by first | exact Or.inl rfl | exact Or.inr rfl) (aG fS (aG fS (am (K:=K) (ay (ak (K:=K)) (am (K:=K) (pv 0) rfl) (ay (ak (K:=K)) (pv 3) af (fun _ _=>rfl)) (fun _ _=>rfl)) rfl) af) (a8 T.c_DROPS)))
      (ae (bS PassesOwn.never rfl (bV (pv 3)) (aJ (i:=5) b6.nd rfl (by first | exact Or.inl rfl | exact Or.inr rfl))
      (ag (aw (i:=4) b6.nd rfl (by first | exact Or.inl rfl | exact Or.inr rfl) (ay (aR (K:=K)) (aD T.pass_through (gW T) (hr.mono (by decide)) iI (aa (pv 0) (aa (pv 5) (aa (pv 2) (aa (pv 4) ad))))) af (fun _ _=>rfl)))))
      (ag (au (pv 4)))))),?_⟩
    have hwf:=hI.wf
    refine ⟨_,rfl,n,T.a_Net,dn,_,_,rfl,N.obj,T.cl_Net,T.na_Net_reaches,aH,_,rfl,l,h.net,i,rfl,N.rs,hwf,hi,fun H1 wp s1 hwp hwp1=>?_⟩
    have N1:=N.same s1
    have hpos:0 < (Vbiraa.way h.net i).length:=by
      rw [eG hwf.par hi,List.length_append,List.length_singleton]
      omega
    obtain ⟨a0,ha0⟩:∃ a,(Vbiraa.way h.net i)[0]?=some a:=⟨_,List.getElem?_eq_getElem hpos⟩
    have hal:a0 < h.net.length:=ml hwf.par i hi a0 (List.mem_of_getElem? ha0)
    have hm:=yS hwf (fun i t hi=>hI.partB hi t) t hi ha0
    obtain ⟨xs,a,dx,h1,h2,h3,h4⟩:=N1.rs.at_ hal
    obtain ⟨_,nl,nsk,nc1,nc2,_⟩:=hwf.num a0 hal
    have hw0:(ao (Vbiraa.way h.net i))[0]?=some (.int (a0:Nat)):=by
      unfold ao
      rw [List.getElem?_map,ha0]
      rfl
    have kk:=k _ hm
    have eW:((((Vbiraa.reachAt h.net a0).cap * 100 * DD:Nat):Nat):Int)=((Vbiraa.reachAt h.net a0).cap:Int) * 100 * 100000000000000000000000000000000:=by
      rw [Int.natCast_mul,Int.natCast_mul,DDi]
      rfl
    generalize (Vbiraa.reachAt h.net a0).cap * 100 * DD=W at kk eW hm
    refine ⟨_,rfl,n,T.a_Net,dn,_,_,rfl,N1.obj,T.cl_Net,T.na_Net_reaches,aH,_,rfl,wp,_,_,_,rfl,rfl,SqL.of hwp1,aC (j:=0) rfl hw0,l,_,_,_,rfl,rfl,SqL.of h1,aX h3,a,T.a_Reach,dx,_,_,rfl,h4,T.cl_Reach,T.na_Reach_cap,uJ,_,_,rfl,rfl,.inl ⟨by omega,by omega⟩,_,_,rfl,rfl,.inl ⟨by omega,by omega⟩,?_⟩
    refine ⟨_,rfl,wp,rfl,⟨_,SqL.of hwp1⟩,fe (K:=K) (a:=wp) (xs:=ao (Vbiraa.way h.net i))
      (fun j σ H'=>Same H1 H'∧∃ v:Option V,σ=[some (.ref n),some (.int i),some (.int t),some (.ref wp),some (.int (iq h t ((Vbiraa.way h.net i).take j) W:Nat)),v]) ⟨Same.refl _,none,(by show [_,_,_,_,some (V.int (((Vbiraa.reachAt h.net a0).cap:Int) * 100 * 100000000000000000000000000000000)),_]=[_,_,_,_,some (V.int ((W:Nat):Int)),_]; rw [eW])⟩ (fun j σ H' _ p=>SqL.of (p.1 _ _ hwp1)) ?_ ?_⟩
    · rintro j x σ H' hx ⟨sm,v,rfl⟩
      obtain ⟨c,hc,rfl⟩:=aW hx
      have hcl:c < h.net.length:=ml hwf.par i hi c (List.mem_of_getElem? hc)
      refine ⟨_,rfl,_,rfl,_,rfl,_,rfl,n,dn,l,wl,sl,h,c,t,_,rfl,N1.same sm,hI,hcl,fun H2 p s2 hp hp2=>?_⟩
      refine ⟨p,_,2,_,rfl,rfl,SqT.of hp2,rfl,?_⟩
      refine ⟨sm.trans s2,some (.int c),?_⟩
      rw [bJ hc,m8]
      rfl
    · rintro σ H' ⟨sm,v,rfl⟩
      rw [aB,List.take_length]
      exact ⟨_,rfl,kk H' (s1.trans sm)⟩
theorem mX (T:Txt K mg):FnOk P w K mg base CX0 4 T.answer_most.f T.answer_most.fd ["net", "numbers", "row"] (spFn T.a_Reach T.a_Net u4):=by
  refine T.answer_most.F.ok mC (fun vs H Q E h=>?_) (fun cdv A outer s H vs Q E hr h=>?_)
  · obtain ⟨n,nl,rl,dn,l,wl,sl,h,nums,rs,c,rfl,_⟩:=h
    rfl
  · obtain ⟨n,nl,rl,dn,l,wl,sl,h,nums,rs,c,rfl,N,hI,hne0,hnl,hrl,hrw,hrs,hC,k⟩:=h
    refine ⟨_,(ae (aU (dX (aZ (aL (K:=K) (aD T.is_reach (bP T) (hr.mono (by decide)) cD (aa (pv 0) (aa (ay (ak (K:=K)) (pv 1) af (fun _ _=>rfl)) ad))) (fun _=>rfl))) (dH (aZ (aL (K:=K) (aD T.is_tick (cB T) (hr.mono (by decide)) c9 (aa (ay (ak (K:=K)) (pv 1) af (fun _ _=>rfl)) ad)) (fun _=>rfl))))).pt
      (ag (au (aE (aa (a8 T.c_OUT_OF_RANGE) ad))))
      aI)
      (ag (au (aG dw (aE (aa af ad)) (aD T.told (gJ T) (hr.mono (by decide)) jJ (aa (aE (aa (aD T.most_leaving (lR T) (hr.mono (by decide)) nH (aa (pv 0) (aa (ay (ak (K:=K)) (pv 1) af (fun _ _=>rfl)) (aa (ay (ak (K:=K)) (pv 1) af (fun _ _=>rfl)) ad)))) ad)) ad)))))),?_⟩
    obtain ⟨i,t,rfl,rfl⟩:=o7 hC
    have hne:=hne0 rfl
    have hs:Vbiraa.step h (.most i t)=if (Vbiraa.isReach h i && Vbiraa.isTick t)=false then (h,[-1]) else (h,0 :: Vbiraa.qRow (Vbiraa.mostOut h i.toNat t.toNat)):=by
      rw [Vbiraa.step,bn hne]
      rfl
    rw [hs] at k
    have bad:(Vbiraa.isReach h i && Vbiraa.isTick t)=false→tRet (tLst (jW (tC (V.int (-1))) tNil)) { nx:=fun x H'=>Q V.non H',rt:=Q } (L2.start ["net", "numbers", "row"] [V.ref n,V.ref nl,V.ref rl]) H:=fun z=>by
      rw [if_pos z] at k
      exact ⟨(by show 1≤sizeLine; decide),fun p hp=>k.new N (ah hp) hp ac⟩
    refine ⟨_,rfl,_,rfl,nl,_,_,_,rfl,rfl,SqL.of hnl,aC (j:=0) rfl rfl,n,dn,l,wl,sl,h,i,rfl,N,_,rfl,?_⟩
    cases c1:Vbiraa.isReach h i with
    | false=>exact iteT (iteT (bad (by rw [c1,Bool.false_and])))
    | true =>
    refine iteF ⟨_,rfl,nl,_,_,_,rfl,rfl,SqL.of hnl,aC (j:=1) rfl rfl,t,rfl,_,rfl,?_⟩
    cases c2:Vbiraa.isTick t with
    | false=>exact iteT (bad (by rw [c1,c2,Bool.true_and]))
    | true =>
    refine iteF ?_
    rw [c1,c2,if_neg (by decide)] at k
    obtain ⟨j,rfl,hj⟩:=bQ c1
    obtain ⟨u,rfl,hu⟩:=cC c2
    simp only [Int.toNat_natCast] at k
    refine ⟨(by show 1≤sizeLine; decide),fun z hz=>?_⟩
    have s0:=ah (o:=.lst [.int 0]) hz
    refine ⟨_,rfl,_,rfl,nl,_,_,_,rfl,rfl,SqL.of (s0 _ _ hnl),aC (j:=0) rfl rfl,_,rfl,nl,_,_,_,rfl,rfl,SqL.of (s0 _ _ hnl),aC (j:=1) rfl rfl,n,dn,l,wl,sl,h,j,u,rfl,N.same s0,hI,hj,fun m hm H1 s1=>?_⟩
    refine ⟨(by show 1≤sizeLine; decide),fun fp hfp=>?_⟩
    have s1':=s1.trans (ah (o:=.lst [.int (m:Nat)]) hfp)
    refine ⟨fp,[m],rfl,ac,by show 1≤1000; decide,fun H2 tp s2 htp htp2=>?_⟩
    refine ⟨z,tp,_,_,rfl,rfl,s2 _ _ (s1' _ _ ac),htp2,(by rw [fm]; show 1 + 2≤sizeLine; decide),fun p hp=>?_⟩
    have sA:=(s0.trans s1').trans s2
    have s3:=ah (o:=.lst ([.int 0]++qsV [m])) hp
    refine k.new N (sA.trans s3) (sA.free hp) (ac.trans ?_)
    rw [hm]
    rfl
theorem mV (T:Txt K mg):FnOk P w K mg base CX0 2 T.answer_part.f T.answer_part.fd ["net", "numbers", "row"] (spFn T.a_Reach T.a_Net u0):=by
  refine T.answer_part.F.ok mB (fun vs H Q E h=>?_) (fun cdv A outer s H vs Q E hr h=>?_)
  · obtain ⟨n,nl,rl,dn,l,wl,sl,h,nums,rs,c,rfl,_⟩:=h
    rfl
  · obtain ⟨n,nl,rl,dn,l,wl,sl,h,nums,rs,c,rfl,N,hI,hne0,hnl,hrl,hrw,hrs,hC,k⟩:=h
    refine ⟨_,(ae (aU (dX (aZ (aL (K:=K) (aD T.is_reach (bP T) (hr.mono (by decide)) cD (aa (pv 0) (aa (ay (ak (K:=K)) (pv 1) af (fun _ _=>rfl)) ad))) (fun _=>rfl))) (dH (aZ (aL (K:=K) (aD T.is_tick (cB T) (hr.mono (by decide)) c9 (aa (ay (ak (K:=K)) (pv 1) af (fun _ _=>rfl)) ad)) (fun _=>rfl))))).pt
      (ag (au (aE (aa (a8 T.c_OUT_OF_RANGE) ad))))
      aI)
      (ag (au (aE (aa af (aa (aD T.gate_part (eh T) (hr.mono (by decide)) fC (aa (am (K:=K) (pv 0) rfl) (aa (am (K:=K) (pv 0) rfl) (aa (ay (ak (K:=K)) (pv 1) af (fun _ _=>rfl)) (aa (ay (ak (K:=K)) (pv 1) af (fun _ _=>rfl)) ad))))) ad)))))),?_⟩
    obtain ⟨i,t,rfl,rfl⟩:=o5 hC
    have hne:=hne0 rfl
    have hs:Vbiraa.step h (.part i t)=if (Vbiraa.isReach h i && Vbiraa.isTick t)=false then (h,[-1]) else (h,[0,(Vbiraa.partAt h i.toNat t.toNat:Int)]):=by
      rw [Vbiraa.step,bn hne]
      rfl
    rw [hs] at k
    have bad:(Vbiraa.isReach h i && Vbiraa.isTick t)=false→tRet (tLst (jW (tC (V.int (-1))) tNil)) { nx:=fun x H'=>Q V.non H',rt:=Q } (L2.start ["net", "numbers", "row"] [V.ref n,V.ref nl,V.ref rl]) H:=fun z=>by
      rw [if_pos z] at k
      exact ⟨(by show 1≤sizeLine; decide),fun p hp=>k.new N (ah hp) hp ac⟩
    refine ⟨_,rfl,_,rfl,nl,_,_,_,rfl,rfl,SqL.of hnl,aC (j:=0) rfl rfl,n,dn,l,wl,sl,h,i,rfl,N,_,rfl,?_⟩
    cases c1:Vbiraa.isReach h i with
    | false=>exact iteT (iteT (bad (by rw [c1,Bool.false_and])))
    | true =>
    refine iteF ⟨_,rfl,nl,_,_,_,rfl,rfl,SqL.of hnl,aC (j:=1) rfl rfl,t,rfl,_,rfl,?_⟩
    cases c2:Vbiraa.isTick t with
    | false=>exact iteT (bad (by rw [c1,c2,Bool.true_and]))
    | true =>
    refine iteF ?_
    rw [c1,c2,if_neg (by decide)] at k
    obtain ⟨j,rfl,hj⟩:=bQ c1
    obtain ⟨u,rfl,hu⟩:=cC c2
    simp only [Int.toNat_natCast] at k
    refine ⟨_,rfl,n,T.a_Net,dn,_,_,rfl,N.obj,T.cl_Net,T.na_Net_reaches,aH,_,rfl,n,T.a_Net,dn,_,_,rfl,N.obj,T.cl_Net,T.na_Net_settings,c8,_,rfl,nl,_,_,_,rfl,rfl,SqL.of hnl,aC (j:=0) rfl rfl,_,rfl,nl,_,_,_,rfl,rfl,SqL.of hnl,aC (j:=1) rfl rfl,
      l,sl,h.net,h.settings,j,u,rfl,N.rs,N.ss,hj,(by show 2≤sizeLine; decide),fun p hp=>?_⟩
    exact k.new N (ah hp) hp ac
theorem k6 (T:Txt K mg):FnOk P w K mg base CX0 5 T.answer_spills.f T.answer_spills.fd ["net", "numbers", "row"] (spFn T.a_Reach T.a_Net md):=by
  refine T.answer_spills.F.ok kM (fun vs H Q E h=>?_) (fun cdv A outer s H vs Q E hr h=>?_)
  · obtain ⟨n,nl,rl,dn,l,wl,sl,h,nums,rs,c,rfl,_⟩:=h
    rfl
  · obtain ⟨n,nl,rl,dn,l,wl,sl,h,nums,rs,c,rfl,N,hI,hne0,hnl,hrl,hrw,hrs,hC,k⟩:=h
    refine ⟨_,(ag (au (aG dw (aE (aa af ad)) (aD T.told (gJ T) (hr.mono (by decide)) jJ (aa (aD T.spills_of_all (k4 T) (hr.mono (by decide)) lX (aa (pv 0) ad)) ad))))),?_⟩
    obtain ⟨rfl,rfl⟩:=lN hC
    have hne:=hne0 rfl
    have hlen:=hI.wf.len
    have hs:Vbiraa.step h .spills=(h,0 :: (List.range h.net.length).flatMap fun i=>Vbiraa.qRow (Vbiraa.sumQ ((List.range (Vbiraa.TICKS + Vbiraa.DEEP * Vbiraa.DELAY)).map fun t=>Vbiraa.spilled (Vbiraa.reachAt h.net i) (Vbiraa.offerAt h i t)))):=by
      rw [Vbiraa.step,bn hne]
    rw [hs] at k
    refine ⟨(by show 1≤sizeLine; decide),fun z hz=>?_⟩
    have s0:=ah (o:=.lst [.int 0]) hz
    refine ⟨_,rfl,n,dn,l,wl,sl,h,rfl,N.same s0,hI,hne,fun H1 fp s1 hfp1=>?_⟩
    refine ⟨fp,_,rfl,hfp1,by rw [gw]; omega,fun H2 tp s2 htp htp2=>?_⟩
    refine ⟨z,tp,_,_,rfl,rfl,s2 _ _ (s1 _ _ ac),htp2,?_,fun p hp=>?_⟩
    · rw [fm,gw]
      show 1 + 2 * h.net.length≤sizeLine
      exact Nat.le_of_lt (aO (by omega))
    have sA:=(s0.trans s1).trans s2
    have s3:=ah (o:=.lst ([.int 0]++qsV (spN h 60))) hp
    refine k.new N (sA.trans s3) (sA.free hp) (ac.trans ?_)
    rw [←sO hI]
    rfl
theorem m3 (T:Txt K mg):FnOk P w K mg base CX0 3 T.answer_ends.f T.answer_ends.fd ["net", "numbers", "row"] (spFn T.a_Reach T.a_Net u7):=by
  refine T.answer_ends.F.ok h7 (fun vs H Q E h=>?_) (fun cdv A outer s H vs Q E hr h=>?_)
  · obtain ⟨n,nl,rl,dn,l,wl,sl,h,nums,rs,c,rfl,_⟩:=h
    rfl
  · obtain ⟨n,nl,rl,dn,l,wl,sl,h,nums,rs,c,rfl,N,hI,hne0,hnl,hrl,hrw,hrs,hC,k⟩:=h
    refine ⟨_,(ae (aw (i:=3) h7.nd rfl (by first | exact Or.inl rfl | exact Or.inr rfl) (aD T.ends_of (dI T) (hr.mono (by decide)) eC (aa (am (K:=K) (pv 0) rfl) ad)))
      (ag (au (aG dw (aE (aa af (aa (aF (ax (K:=K)) (by rfl) T.n_len PySem.boot_len (aa (pv 3) ad)) ad))) (pv 3))))),?_⟩
    obtain ⟨rfl,rfl⟩:=pb hC
    have hne:=hne0 rfl
    have hlen:=hI.wf.len
    have hs:Vbiraa.step h .ends=(h,0 :: ((Vbiraa.ends h.net).length:Int) :: Vbiraa.nums (Vbiraa.ends h.net)):=by
      rw [Vbiraa.step,bn hne]
    rw [hs] at k
    have hel:(Vbiraa.ends h.net).length≤h.net.length:=by
      unfold Vbiraa.ends
      have:=List.length_filter_le (fun i=>(Vbiraa.children h.net (some i)).isEmpty) (List.range h.net.length)
      rw [List.length_range] at this
      exact this
    refine ⟨_,rfl,n,T.a_Net,dn,_,_,rfl,N.obj,T.cl_Net,T.na_Net_reaches,aH,l,h.net,rfl,N.rs,by omega,fun H1 ep s1 hep hep1=>?_⟩
    refine ⟨_,rfl,ep,_,rfl,.inl (SqL.of hep1),(by show 2≤sizeLine; decide),fun z hz=>?_⟩
    have s2:=ah (o:=.lst [.int 0,.int ((ao (Vbiraa.ends h.net)).length:Int)]) hz
    refine ⟨_,rfl,z,ep,_,_,rfl,rfl,ac,s2 _ _ hep1,?_,fun p hp=>?_⟩
    · rw [aB]
      show 2 + (Vbiraa.ends h.net).length≤sizeLine
      exact Nat.le_of_lt (aO (by omega))
    have s3:=ah (o:=.lst ([.int 0,.int ((ao (Vbiraa.ends h.net)).length:Int)]++ao (Vbiraa.ends h.net))) hp
    refine k.new N ((s1.trans s2).trans s3) (s1.free (s2.free hp)) (ac.trans ?_)
    rw [aB,show ao (Vbiraa.ends h.net)=aS (Vbiraa.nums (Vbiraa.ends h.net)) by unfold aS Vbiraa.nums; rw [et]]
    rfl
theorem xJ {h:Vbiraa.House} (hI:HInv h) (hne:h.net≠[]):(waters h).sum=h.lets.foldl (fun a b=>a + b) 0:=by
  rw [cE hne]
  exact wI h.lets 60 hI.lets
theorem k7 (T:Txt K mg):FnOk P w K mg base CX0 3 T.answer_counts.f T.answer_counts.fd ["net", "numbers", "row"] (spFn T.a_Reach T.a_Net me):=by
  refine T.answer_counts.F.ok kN (fun vs H Q E h=>?_) (fun cdv A outer s H vs Q E hr h=>?_)
  · obtain ⟨n,nl,rl,dn,l,wl,sl,h,nums,rs,c,rfl,_⟩:=h
    rfl
  · obtain ⟨n,nl,rl,dn,l,wl,sl,h,nums,rs,c,rfl,N,hI,hne0,hnl,hrl,hrw,hrs,hC,k⟩:=h
    refine ⟨_,(ag (au (aE (aa af (aa (aF (ax (K:=K)) (by rfl) T.n_len PySem.boot_len (aa (am (K:=K) (pv 0) rfl) ad)) (aa (aF (ax (K:=K)) (by rfl) T.n_len PySem.boot_len (aa (aD T.ends_of (dI T) (hr.mono (by decide)) eC (aa (am (K:=K) (pv 0) rfl) ad)) ad)) (aa (aF (ax (K:=K)) (by rfl) T.n_len PySem.boot_len (aa (am (K:=K) (pv 0) rfl) ad)) (aa (aF (p6 (K:=K) rfl) (by rfl) T.n_sum lm (aa (am (K:=K) (pv 0) rfl) ad)) ad)))))))),?_⟩
    obtain ⟨rfl,rfl⟩:=lO hC
    have hne:=hne0 rfl
    have hlen:=hI.wf.len
    have hs:Vbiraa.step h .counts=(h,0 :: Vbiraa.nums [h.net.length,(Vbiraa.ends h.net).length,h.settings.length,h.lets.foldl (fun a b=>a + b) 0]):=by
      rw [Vbiraa.step,bn hne]
    rw [hs,←xJ hI hne] at k
    obtain ⟨xs,h1,h2,h3⟩:=N.rs.list
    refine ⟨_,rfl,n,T.a_Net,dn,_,_,rfl,N.obj,T.cl_Net,T.na_Net_reaches,aH,l,_,rfl,.inl (SqL.of h1),?_⟩
    refine ⟨_,rfl,n,T.a_Net,dn,_,_,rfl,N.obj,T.cl_Net,T.na_Net_reaches,aH,l,h.net,rfl,N.rs,by omega,fun H1 ep s1 hep hep1=>?_⟩
    have N1:=N.same s1
    obtain ⟨as,g1,g2,g3⟩:=N1.ss.ex
    have hw:=N1.ws
    rw [et] at hw
    refine ⟨ep,_,rfl,.inl (SqL.of hep1),_,rfl,n,T.a_Net,dn,_,_,rfl,N1.obj,T.cl_Net,T.na_Net_settings,c8,sl,_,rfl,.inl (SqL.of g1),_,rfl,n,T.a_Net,dn,_,_,rfl,N1.obj,T.cl_Net,T.na_Net_waters,dJ,wl,_,rfl,SqL.of hw,(by show 5≤sizeLine; decide),fun p hp=>?_⟩
    refine k.new N (s1.trans (ah hp)) (s1.free hp) (ac.trans ?_)
    rw [h2,aB,List.length_map,g2,jY]
    rfl
end
end CN
namespace CN
open PySem PySem.Spec PyProof.Rows L2
section
variable {K:PySem.W.Frag} {a:Addr} {xs:List V} {g:TG} {te:TE} {vs:List Nat} {σ:L2.St} {H1:Hp} {D:Addr} {Qd:Hp→Prop}
theorem yX (Pv:Nat→Hp→Prop) (h0:Pv 0 (upd H1 D (.lst []))) (hl:∀ i H,Pv i H→SqL K H a xs)
    (hs:∀ (i:Nat) (x:V) (H:Hp) (T:Addr),xs[i]?=some x→Pv i H→H T=none→g (.ref T) (wipe σ vs) (upd H T (.tup [.int (i:Nat),x])) fun σ2 H2=>wipe σ2 vs=wipe σ vs∧te σ2 H2 fun y H4=>∃ acc,H4 D=some (.lst acc)∧acc.length < sizeLine∧Pv (i + 1) (upd H4 D (.lst (acc++[y]))))
    (hd:∀ H,Pv xs.length H→Qd H) :
    ∃ W:Nat→Nat→Hp→Prop,(∃ m,W 0 m (upd H1 D (.lst [])))∧∀ i m H,W i m H →
      ((Ite K a).stop i H∧Qd H)∨((Ite K a).go i H∧∃ Nx:Hp→Prop,(∀ H',Nx H'→∃ m',m' < m∧W (i + 1) m' H')∧∀ x H',(Ite K a).yld i H x H'→g x (wipe σ vs) H' fun σ2 H2=>wipe σ2 vs=wipe σ vs∧tYes σ2 H2 fun b H3 =>
        if b=true then te σ2 H3 fun y H4=>∃ acc,H4 D=some (.lst acc)∧acc.length < sizeLine∧Nx (upd H4 D (.lst (acc++[y]))) else Nx H3):=by
  refine ⟨fun i m H=>m=xs.length - i∧i≤xs.length∧Pv i H,⟨xs.length,by simp,Nat.zero_le _,h0⟩,?_⟩
  rintro i m H ⟨rfl,hi,p⟩
  have q:=hl i H p
  by_cases hlt:i < xs.length
  · refine .inr ⟨⟨xs,xs[i],q,by simp [hlt]⟩,Pv (i + 1),fun H' p'=>⟨xs.length - (i + 1),by omega,rfl,hlt,p'⟩,fun v H' y=>?_⟩
    obtain ⟨T,x,e1,e2,e3,y⟩:=y
    subst e1 e3
    simp only [tYes,if_true]
    exact hs i x H T (y xs q) p e2
  · have e:i=xs.length:=by omega
    subst e
    exact .inl ⟨⟨xs,q,Nat.le_refl _⟩,hd H p⟩
end
theorem rZ {ns:Vbiraa.Net} {i c:Nat} (hi:i < ns.length) (l:List Nat):Vbiraa.delayOf (be ns i c) l=Vbiraa.delayOf ns l:=by
  unfold Vbiraa.delayOf
  rw [List.map_congr_left fun j _=>vZ hi j]
theorem oZ {ns:Vbiraa.Net} {i c:Nat} (hi:i < ns.length) (j:Nat):above (be ns i c) j=above ns j:=by
  unfold above
  rw [p8 hi,rZ hi]
theorem oY {ns:Vbiraa.Net} {i c:Nat} (hi:i < ns.length) (j:Nat):depth (be ns i c) j=depth ns j:=by
  unfold depth
  rw [p8 hi]
theorem cap_rf {ns:Vbiraa.Net} {i c:Nat} (hi:i < ns.length) {j:Nat} (hj:j≠i):rf (be ns i c) j=rf ns j:=by
  unfold rf
  rw [oZ hi,oY hi,iG hi,if_neg hj]
theorem vY {ns:Vbiraa.Net} {i c:Nat} (hi:i < ns.length):rf (be ns i c) i=rfs (sOf (Vbiraa.reachAt ns i).name) (pInt (Vbiraa.reachAt ns i).parent) (above ns i) (depth ns i) (Vbiraa.reachAt ns i).delay (Vbiraa.reachAt ns i).loss (Vbiraa.reachAt ns i).soak c (Vbiraa.reachAt ns i).gate:=by
  unfold rf
  rw [oZ hi,oY hi,iG hi,if_pos rfl]
def qe:List Int→List Int→Option Vbiraa.Call
  | [i,c],_=>some (.ifCap i c)
  | _,_=>none
theorem nD {a b:List Int} {c:Vbiraa.Call} (h:qe a b=some c):∃ i t,a=[i,t]∧c=.ifCap i t:=by
  unfold qe at h
  split at h
  · cases h
    exact ⟨_,_,rfl,rfl⟩
  · cases h
section
variable {P:Program} {w:World} {K:PySem.W.Frag} {mg:Str→Option Value} {base:Heap}
def vt (C:Addr):Sp:=fun vs H Q _=>∃ (a dx:Addr) (ns:Vbiraa.Net) (i c:Nat),vs=[.ref a,.int (c:Nat)]∧H a=some (.ins C dx (rf ns i)) ∧
  ∀ (H':Hp) (x:Addr),Same H H'→H x=none→RObj C H' x (rfs (sOf (Vbiraa.reachAt ns i).name) (pInt (Vbiraa.reachAt ns i).parent) (above ns i) (depth ns i) (Vbiraa.reachAt ns i).delay (Vbiraa.reachAt ns i).loss (Vbiraa.reachAt ns i).soak c (Vbiraa.reachAt ns i).gate)→Q (.ref x) H'
theorem qZ (T:Txt K mg):FnOk P w K mg base CX0 3 T.with_cap.f T.with_cap.fd ["reach", "cap"] (vt T.a_Reach):=by
  refine T.with_cap.F.ok lx (fun vs H Q E h=>?_) (fun cdv A outer s H vs Q E hr h=>?_)
  · obtain ⟨a,dx,ns,i,c,rfl,_⟩:=h
    rfl
  · obtain ⟨a,dx,ns,i,c,rfl,ha,k⟩:=h
    refine ⟨_,(ae (aw (i:=2) lx.nd rfl (by first | exact Or.inl rfl | exact Or.inr rfl) (aE (aa (am (K:=K) (pv 0) rfl) (aa (am (K:=K) (pv 0) rfl) (aa (am (K:=K) (pv 0) rfl) (aa (pv 1) (aa (am (K:=K) (pv 0) rfl) ad)))))))
      (ag (au (pN T.mk_Reach (fU T) (hr.mono (by decide)) rfl T.m_Reach gT .nil lA (aa (am (K:=K) (pv 0) rfl) (aa (am (K:=K) (pv 0) rfl) (aa (am (K:=K) (pv 0) rfl) (aa (am (K:=K) (pv 0) rfl) (aa (pv 2) ad))))))))),?_⟩
    refine ⟨_,rfl,a,T.a_Reach,dx,_,_,rfl,ha,T.cl_Reach,T.na_Reach_delay,kh,_,rfl,a,T.a_Reach,dx,_,_,rfl,ha,T.cl_Reach,T.na_Reach_loss,pW,_,rfl,a,T.a_Reach,dx,_,_,rfl,ha,T.cl_Reach,T.na_Reach_soak,pV,_,rfl,_,rfl,a,T.a_Reach,dx,_,_,rfl,ha,T.cl_Reach,T.na_Reach_gate,nr,(by show 5≤sizeLine; decide),fun nl hnl=>?_⟩
    have s1:=ah (o:=.lst [.int ((Vbiraa.reachAt ns i).delay:Nat),.int ((Vbiraa.reachAt ns i).loss:Nat),.int ((Vbiraa.reachAt ns i).soak:Nat),.int (c:Nat),.int ((Vbiraa.reachAt ns i).gate:Nat)]) hnl
    have ha1:=s1 _ _ ha
    refine ⟨_,rfl,a,T.a_Reach,dx,_,_,rfl,ha1,T.cl_Reach,T.na_Reach_name,nq,_,rfl,a,T.a_Reach,dx,_,_,rfl,ha1,T.cl_Reach,T.na_Reach_begins,cU,_,rfl,a,T.a_Reach,dx,_,_,rfl,ha1,T.cl_Reach,T.na_Reach_above,gO,_,rfl,a,T.a_Reach,dx,_,_,rfl,ha1,T.cl_Reach,T.na_Reach_depth,pX,_,rfl,?_⟩
    intro x dy nx nd ne
    have hn1:(upd H nl (.lst [.int ((Vbiraa.reachAt ns i).delay:Nat),.int ((Vbiraa.reachAt ns i).loss:Nat),.int ((Vbiraa.reachAt ns i).soak:Nat),.int (c:Nat),.int ((Vbiraa.reachAt ns i).gate:Nat)])) nl=some (.lst [.int ((Vbiraa.reachAt ns i).delay:Nat),.int ((Vbiraa.reachAt ns i).loss:Nat),.int ((Vbiraa.reachAt ns i).soak:Nat),.int (c:Nat),.int ((Vbiraa.reachAt ns i).gate:Nat)]):=ac
    refine ⟨x,dy,nl,_,_,_,_,_,_,_,_,_,rfl,ac,(by rw [ai (aq hn1 nx),ai (aq hn1 nd)]; exact hn1),fun H2 h2 kp=>⟨rfl,?_⟩⟩
    exact k H2 x (s1.trans (Same.made nx nd kp)) (s1.free nx) ⟨dy,h2⟩
def wR (CR CN:Addr):Sp:=fun vs H Q _=>∃ (n dn l wl sl:Addr) (h:Vbiraa.House) (i c:Nat),vs=[.ref n,.int i,.int (c:Nat)]∧bB CR CN H n h dn l wl sl∧HInv h∧i < h.net.length ∧
  ∀ (H':Hp) (n2 dn2 l2 wl2 sl2:Addr),Same H H'→bB CR CN H' n2 (bF h i c) dn2 l2 wl2 sl2→Q (.ref n2) H'
theorem tu (T:Txt K mg):FnOk P w K mg base CX0 4 T.if_held.f T.if_held.fd ["net", "i", "cap"] (wR T.a_Reach T.a_Net):=by
  refine T.if_held.F.ok eM (fun vs H Q E h=>?_) (fun cdv A outer s H vs Q E hr h=>?_)
  · obtain ⟨n,dn,l,wl,sl,h,i,c,rfl,_⟩:=h
    rfl
  · obtain ⟨n,dn,l,wl,sl,h,i,c,rfl,N,hI,hi,k⟩:=h
    refine ⟨_,(ae (aw (i:=3) eM.nd rfl (by first | exact Or.inl rfl | exact Or.inr rfl) (qR T.mk_Net (lF T) (hr.mono (by decide)) rfl T.m_Net nP .nil lA))
      (ae (bT (pv 3) (gg (own:=[("k",4),("reach",5)]) rfl eM.nd (iU rfl T.n_enumerate (aa (am (K:=K) (pv 0) rfl) ad)) (bh (N:=["net", "i", "cap", "other", "k", "reach"]) (sc:=aj iN) (by decide +kernel)) (fun _ _ _ _ _=>(dO (K:=K) (n:=2) rfl (bd (aJ (i:=4) eM.nd rfl (by first | exact Or.inl rfl | exact Or.inr rfl)) (bd (aJ (i:=5) eM.nd rfl (by first | exact Or.inl rfl | exact Or.inr rfl)) dN)))) (fun _ _ _ _ _=>bI) (fun _ _ _ _ _=>(qS (aM du (pv 4) (pv 1) (aP _)) (aD T.with_cap (qZ T) (hr.mono (by decide)) ub (aa (pv 5) (aa (pv 2) ad))) (pv 5)))) rfl)
      (ae (bT (pv 3) (cJ km (by rfl) T.n_list gR (aa (am (K:=K) (pv 0) rfl) ad)) rfl)
      (ae (bT (pv 3) (cJ km (by rfl) T.n_list gR (aa (am (K:=K) (pv 0) rfl) ad)) rfl)
      (ag (au (pv 3))))))),?_⟩
    have hlen:=hI.wf.len
    intro n2 dn2 hn2 hdn2 ndn
    refine ⟨n2,dn2,rfl,ac,fun H1 l0 wl0 sl0 a1 a2 a3 a4 kp=>⟨rfl,?_⟩⟩
    have s1:Same H H1:=fun b o e=>kp b o (by rw [ai (aq e hn2),ai (aq e hdn2)]; exact e) (aq e hn2)
    have N1:=N.same s1
    obtain ⟨xs,h1,h2,h3⟩:=N1.rs.list
    refine ⟨_,rfl,n,T.a_Net,dn,_,_,rfl,N1.obj,T.cl_Net,T.na_Net_reaches,aH,l,_,rfl,SqL.of h1,fun D hD=>?_⟩
    refine yX (K:=K) (a:=l) (xs:=xs) (fun j H'=>Same H1 H'∧∃ as:List Addr,H' D=some (.lst (as.map V.ref))∧as.length=j∧∀ (q:Nat) (a:Addr),as[q]?=some a→RObj T.a_Reach H' a (rf (be h.net i c) q)) ⟨ah hD,[],ac,rfl,fun q a e=>by cases e⟩ (fun j H' p=>SqL.of (p.1 _ _ h1)) ?_ ?_
    · rintro j x H2 tt hx ⟨s2,as,g1,g2,g3⟩ htt
      obtain ⟨a,dx,rfl,ha⟩:=h3 j x hx
      have hj:j < h.net.length:=by
        rw [←h2]
        exact (List.getElem?_eq_some_iff.mp hx).1
      have st:=ah (o:=.tup [.int (j:Nat),V.ref a]) htt
      have s3:=s2.trans st
      have ha3:=s3 _ _ ha
      have hlenA:(as.map V.ref).length < sizeLine:=by
        rw [List.length_map,g2]
        exact aO (by omega)
      have fin:∀ (H4:Hp) (b:Addr),Same (upd H2 tt (.tup [.int (j:Nat),V.ref a])) H4→RObj T.a_Reach H4 b (rf (be h.net i c) j)→∃ acc,H4 D=some (.lst acc)∧acc.length < sizeLine∧(Same H1 (upd H4 D (.lst (acc++[.ref b])))∧∃ as:List Addr,(upd H4 D (.lst (acc++[.ref b]))) D=some (.lst (as.map V.ref))∧as.length=j + 1∧∀ (q:Nat) (a:Addr),as[q]?=some a→RObj T.a_Reach (upd H4 D (.lst (acc++[.ref b]))) a (rf (be h.net i c) q)):=by
        intro H4 b s4 ⟨db,hb⟩
        have gD:=s4 _ _ (st _ _ g1)
        refine ⟨_,gD,hlenA,aQ (s3.trans s4) hD,as++[b],?_,by rw [List.length_append,g2]; rfl,fun q z e=>?_⟩
        · rw [ac,List.map_append]
          rfl
        · by_cases hq:q < as.length
          · rw [List.getElem?_append_left hq] at e
            obtain ⟨dz,hz⟩:=g3 q z e
            have hz4:=s4 _ _ (st _ _ hz)
            exact ⟨dz,by rw [ai (bK hz4 gD (by intro z; cases z))]; exact hz4⟩
          · rw [List.getElem?_append_right (by omega)] at e
            cases eq:q - as.length with
            | zero =>
              rw [eq] at e
              have e:b=z:=Option.some.inj e
              subst e
              have:q=j:=by omega
              subst this
              exact ⟨db,by rw [ai (bK hb gD (by intro z; cases z))]; exact hb⟩
            | succ m =>
              rw [eq] at e
              cases e
      refine ⟨tt,_,rfl,SqT.of ac,rfl,_,_,rfl,_,_,rfl,rfl,rfl,_,rfl,_,rfl,rfl,_,rfl,?_⟩
      refine (congrArg (fun b=>if b=true then _ else _) (cX (a:=j) (b:=i))).mpr ?_
      refine ite2 (fun c1=>?_) (fun c1=>?_)
      · have c1:j=i:=of_decide_eq_true c1
        subst c1
        refine ⟨_,rfl,_,rfl,a,dx,h.net,j,c,rfl,ha3,fun H4 x s4 hx4 hR=>?_⟩
        exact fin H4 x s4 (by rw [vY hi]; exact hR)
      · have c1:¬ j=i:=fun z=>c1 (decide_eq_true z)
        exact ⟨_,rfl,fin _ a (Same.refl _) ⟨dx,by rw [cap_rf hi c1]; exact ha3⟩⟩
    · rintro H2 ⟨s2,as,g1,g2,g3⟩
      have hn2':=s2 _ _ a1
      have s12:=s1.trans s2
      have nDn:D≠n2:=bK g1 hn2' (by intro z; cases z)
      refine ⟨_,rfl,n2,T.a_Net,dn2,_,rfl,hn2',T.cl_Net,T.na_Net_reaches,by show 3 < 1000; decide,?_⟩
      have s3:Same H (upd H2 n2 (.ins T.a_Net dn2 (nf D wl0 sl0))):=aQ s12 hn2
      have N3:=N.same s3
      refine ⟨_,rfl,n,T.a_Net,dn,_,_,rfl,N3.obj,T.cl_Net,T.na_Net_waters,dJ,wl,_,rfl,.inl (SqL.of N3.ws),fun w2 hw2=>?_⟩
      have nwn:n2≠w2:=aq ac hw2
      refine ⟨_,rfl,n2,T.a_Net,dn2,_,rfl,by rw [ai nwn]; exact ac,T.cl_Net,T.na_Net_waters,by show 3 < 1000; decide,?_⟩
      have s4:Same H (upd (upd (upd H2 n2 (.ins T.a_Net dn2 (nf D wl0 sl0))) w2 (.lst (ao (waters h)))) n2 (.ins T.a_Net dn2 (nf D w2 sl0))):=aQ (s3.trans (ah hw2)) hn2
      have N4:=N.same s4
      obtain ⟨bs,b1,b2,b3⟩:=N4.ss.ex
      refine ⟨_,rfl,n,T.a_Net,dn,_,_,rfl,N4.obj,T.cl_Net,T.na_Net_settings,c8,sl,_,rfl,.inl (SqL.of b1),fun z2 hz2=>?_⟩
      have nzn:n2≠z2:=aq ac hz2
      refine ⟨_,rfl,n2,T.a_Net,dn2,_,rfl,by rw [ai nzn]; exact ac,T.cl_Net,T.na_Net_settings,by show 3 < 1000; decide,?_⟩
      have s5:=aQ (o:=.ins T.a_Net dn2 (nf D w2 z2)) (s4.trans (ah (o:=.lst (bs.map V.ref)) hz2)) hn2
      have hne:h.net≠[]:=fun z=>by
        rw [z] at hi
        exact absurd hi (by show ¬ i < 0; omega)
      have hne2:(bF h i c).net≠[]:=fun z=>by
        have e:(bF h i c).net.length=h.net.length:=fB h.net i c
        rw [z] at e
        have e:0=h.net.length:=e
        omega
      have ew:waters (bF h i c)=waters h:=by
        rw [cE hne,cE hne2]
        rfl
      have up:∀ b o,H2 b=some o→b≠n2→(upd (upd (upd (upd (upd H2 n2 (.ins T.a_Net dn2 (nf D wl0 sl0))) w2 (.lst (ao (waters h)))) n2 (.ins T.a_Net dn2 (nf D w2 sl0))) z2 (.lst (bs.map V.ref))) n2 (.ins T.a_Net dn2 (nf D w2 z2))) b=some o:=fun b o e nb=>by
        have e1:(upd H2 n2 (.ins T.a_Net dn2 (nf D wl0 sl0))) b=some o:=by rw [ai nb]; exact e
        have nw:b≠w2:=aq e1 hw2
        have e2:(upd (upd (upd H2 n2 (.ins T.a_Net dn2 (nf D wl0 sl0))) w2 (.lst (ao (waters h)))) n2 (.ins T.a_Net dn2 (nf D w2 sl0))) b=some o:=by rw [ai nb,ai nw]; exact e1
        rw [ai nb,ai (aq e2 hz2)]
        exact e2
      refine ⟨_,rfl,k _ n2 dn2 D w2 z2 s5 ⟨ac,⟨as,up _ _ g1 nDn,?_,fun q a e=>?_⟩,?_,⟨bs,?_,b2,fun q a st e e'=>?_⟩⟩⟩
      · rw [g2,h2]
        exact (fB h.net i c).symm
      · obtain ⟨da,hda⟩:=g3 q a e
        refine ⟨da,up _ _ hda fun z=>?_⟩
        subst z
        rw [hn2'] at hda
        have e9:=(HO.ins.inj (Option.some.inj hda)).2.2
        exact absurd (congrArg List.length e9) (by show ¬ (3=9); decide)
      · rw [ew,ai nwn.symm,ai (fun z=>by rw [←z,ai nwn.symm,ac] at hz2; cases hz2),ai nwn.symm,ac]
      · rw [ai nzn.symm,ac]
      · have:=b3 q a st e e'
        rw [ai (bK this (a:=a) ac (by intro z; cases z)),ai (aq this hz2)]
        exact this
theorem lU (T:Txt K mg):FnOk P w K mg base CX0 6 T.answer_ifcap.f T.answer_ifcap.fd ["net", "numbers", "row"] (spFn T.a_Reach T.a_Net qe):=by
  refine T.answer_ifcap.F.ok lQ (fun vs H Q E h=>?_) (fun cdv A outer s H vs Q E hr h=>?_)
  · obtain ⟨n,nl,rl,dn,l,wl,sl,h,nums,rs,c,rfl,_⟩:=h
    rfl
  · obtain ⟨n,nl,rl,dn,l,wl,sl,h,nums,rs,c,rfl,N,hI,hne0,hnl,hrl,hrw,hrs,hC,k⟩:=h
    refine ⟨_,(ae (aU (dX (aZ (aL (K:=K) (aD T.is_reach (bP T) (hr.mono (by decide)) cD (aa (pv 0) (aa (ay (ak (K:=K)) (pv 1) af (fun _ _=>rfl)) ad))) (fun _=>rfl))) (dH (aZ (eX cN cN af (ay (ak (K:=K)) (pv 1) af (fun _ _=>rfl)) (a8 T.c_MOST_CAP))))).pt
      (ag (au (aE (aa (a8 T.c_OUT_OF_RANGE) ad))))
      aI)
      (ag (au (aG dw (aE (aa af ad)) (aD T.told (gJ T) (hr.mono (by decide)) jJ (aa (aD T.account_of_all (fq T) (hr.mono (by decide)) gr (aa (aD T.if_held (tu T) (hr.mono (by decide)) wm (aa (pv 0) (aa (ay (ak (K:=K)) (pv 1) af (fun _ _=>rfl)) (aa (ay (ak (K:=K)) (pv 1) af (fun _ _=>rfl)) ad)))) ad)) ad)))))),?_⟩
    obtain ⟨i,m,rfl,rfl⟩:=nD hC
    have hne:=hne0 rfl
    have hs:Vbiraa.step h (.ifCap i m)=if (Vbiraa.isReach h i && Vbiraa.within m 1 (Vbiraa.CAP:Int))=false then (h,[-1]) else (h,0 :: Vbiraa.accountRow (Vbiraa.accounts (bF h i.toNat m.toNat))):=by
      rw [Vbiraa.step,bn hne]
      rfl
    rw [hs] at k
    have bad:(Vbiraa.isReach h i && Vbiraa.within m 1 (Vbiraa.CAP:Int))=false→tRet (tLst (jW (tC (V.int (-1))) tNil)) { nx:=fun x H'=>Q V.non H',rt:=Q } (L2.start ["net", "numbers", "row"] [V.ref n,V.ref nl,V.ref rl]) H:=fun z=>by
      rw [if_pos z] at k
      exact ⟨(by show 1≤sizeLine; decide),fun p hp=>k.new N (ah hp) hp ac⟩
    refine ⟨_,rfl,_,rfl,nl,_,_,_,rfl,rfl,SqL.of hnl,aC (j:=0) rfl rfl,n,dn,l,wl,sl,h,i,rfl,N,_,rfl,?_⟩
    cases c1:Vbiraa.isReach h i with
    | false=>exact iteT (iteT (bad (by rw [c1,Bool.false_and])))
    | true =>
    have hwi:Vbiraa.within m 1 (Vbiraa.CAP:Int)=(decide ((1:Int)≤m) && decide (m≤(100000:Int))):=rfl
    refine iteF ⟨_,rfl,nl,_,_,_,rfl,rfl,SqL.of hnl,aC (j:=1) rfl rfl,_,_,rfl,rfl,_,rfl,?_⟩
    cases c3:decide ((1:Int)≤m) with
    | false =>
      refine iteF ⟨_,rfl,iteT (bad ?_)⟩
      rw [c1,hwi,c3]
      rfl
    | true =>
    refine iteT ⟨_,_,rfl,rfl,_,rfl,?_⟩
    cases c4:decide (m≤(100000:Int)) with
    | false =>
      refine iteT (bad ?_)
      rw [c1,hwi,c3,c4]
      rfl
    | true =>
    refine iteF ?_
    rw [c1,hwi,c3,c4,if_neg (by decide)] at k
    obtain ⟨j,rfl,hj⟩:=bQ c1
    have m1:=of_decide_eq_true c3
    have m2:=of_decide_eq_true c4
    obtain ⟨y,rfl⟩:∃ y:Nat,m=(y:Int):=⟨m.toNat,by omega⟩
    simp only [Int.toNat_natCast] at k
    have hIc:=xR hI hj (c:=y) (by omega) (by omega)
    have hne2:(bF h j y).net≠[]:=fun z=>by
      have e:(bF h j y).net.length=h.net.length:=fB h.net j y
      rw [z] at e
      have e:0=h.net.length:=e
      omega
    refine ⟨(by show 1≤sizeLine; decide),fun z hz=>?_⟩
    have s0:=ah (o:=.lst [.int 0]) hz
    refine ⟨_,rfl,_,rfl,nl,_,_,_,rfl,rfl,SqL.of (s0 _ _ hnl),aC (j:=0) rfl rfl,_,rfl,nl,_,_,_,rfl,rfl,SqL.of (s0 _ _ hnl),aC (j:=1) rfl rfl,n,dn,l,wl,sl,h,j,y,rfl,N.same s0,hI,hj,fun H1 n2 dn2 l2 wl2 sl2 s1 N1=>?_⟩
    refine ⟨n2,dn2,l2,wl2,sl2,bF h j y,rfl,N1,hIc,hne2,fun H2 fp s2 hfp2=>?_⟩
    refine ⟨fp,_,rfl,hfp2,by show 4≤1000; decide,fun H3 tp s3 htp htp3=>?_⟩
    refine ⟨z,tp,_,_,rfl,rfl,s3 _ _ (s2 _ _ (s1 _ _ ac)),htp3,(by rw [fm]; show 1 + 8≤sizeLine; decide),fun p hp=>?_⟩
    have sA:=((s0.trans s1).trans s2).trans s3
    have s4:=ah (o:=.lst ([.int 0]++qsV (ji (bF h j y) 60))) hp
    refine k.new N (sA.trans s4) (sA.free hp) (ac.trans ?_)
    rw [←kG hIc]
    rfl
end
end CN
namespace CN
open PySem PySem.Spec PyProof.Rows L2
theorem m7 (l:List Nat) (i:Nat):(ao (l++[i])).dropLast=ao l:=by
  unfold ao
  rw [List.map_append]
  exact List.dropLast_concat
theorem rP {ns:Vbiraa.Net} (hw:WF ns):∀ ws:List Nat,(∀ x∈ws,x < ns.length)→ws.length≤(ws.flatMap (pst ns)).length
  | [],_=>Nat.le_refl _
  | x :: ws,h=>by
    rw [List.flatMap_cons,List.length_append,List.length_cons]
    have:=rP hw ws fun y hy=>h y (List.mem_cons_of_mem _ hy)
    have:=pst_ne hw (h x (List.mem_cons_self ..))
    omega
section
variable {P:Program} {w:World} {K:PySem.W.Frag} {mg:Str→Option Value} {base:Heap}
def yz (C:Addr):Sp:=fun vs H Q _=>∃ (l:Addr) (ns:Vbiraa.Net),vs=[.ref l]∧RsAt C H l ns∧WF ns∧NewL H Q (ao (bA ns))
theorem nX (T:Txt K mg):FnOk P w K mg base CX0 2 T.from_below.f T.from_below.fd ["reaches"] (yz T.a_Reach):=by
  refine T.from_below.F.ok dM (fun vs H Q E h=>?_) (fun cdv A outer s H vs Q E hr h=>?_)
  · obtain ⟨l,ns,rfl,_⟩:=h
    rfl
  · obtain ⟨l,ns,rfl,R,hwf,k⟩:=h
    refine ⟨_,(ae (aw (i:=1) dM.nd rfl (by first | exact Or.inl rfl | exact Or.inr rfl) (aE ad))
      (ae (aw (i:=2) dM.nd rfl (by first | exact Or.inl rfl | exact Or.inr rfl) (aD T.beginning_at (bC T) (hr.mono (by decide)) bL (aa (pv 0) (aa (a8 T.c_SOURCE) ad))))
      (ae (j1 PassesOwn.never (aM j6 (aF (ax (K:=K)) (by rfl) T.n_len PySem.boot_len (aa (pv 2) ad)) af (aP _))
      (ae (aw (i:=3) dM.nd rfl (by first | exact Or.inl rfl | exact Or.inr rfl) (pe_bm0 PySem.F.plainAttrs_list PySem.F.slot_list_pop PySem.F.type_list_pop mt_pop (pv 2)))
      (ae (bU (fo PySem.F.plainAttrs_list PySem.F.slot_list_append PySem.F.type_list_append cM (pv 1) (aa (pv 3) ad)))
      (ag (bU (fo PySem.F.plainAttrs_list PySem.F.slot_list_extend PySem.F.type_list_extend gl (pv 2) (aa (aD T.beginning_at (bC T) (hr.mono (by decide)) bL (aa (pv 0) (aa (pv 3) ad))) ad)))))))
      (ag (au (lz rfl (by rfl) T.n_list gR (by rfl) T.n_reversed (pv 1))))))),?_⟩
    have hlen:=hwf.len
    have hord:=yL hwf
    refine ⟨Nat.zero_le _,fun dl hdl=>?_⟩
    have s0:=ah (o:=.lst []) hdl
    refine ⟨_,rfl,l,ns,none,rfl,R.same s0,by omega,fun H1 wl s1 hwl hwl1=>?_⟩
    have hdl1:=s1 _ _ (ac (H:=H) (a:=dl) (o:=.lst []))
    have ndw:dl≠wl:=aq ac hwl
    have hwl0:H wl=none:=s0.free hwl
    refine jR (fun σ H'=>Same H H'∧∃ (ws ds:List Nat) (v:Option V),H' dl=some (.lst (ao ds))∧H' wl=some (.lst (ao ws))∧(∀ x∈ws,x < ns.length)∧ws.flatMap (pst ns)++ds.reverse=bA ns∧σ=[some (.ref l),some (.ref dl),some (.ref wl),v])
      (fun _ H'=>match H' dl with | some (.lst xs)=>ns.length - xs.length | _=>0) ⟨s0.trans s1,Vbiraa.children ns none,[],none,hdl1,hwl1,fun x hx=>bx hx,by rw [List.reverse_nil,List.append_nil]; rfl,rfl⟩ ?_ ?_
    · rintro σ H' ⟨sm,ws,ds,v,hd,hw,hws,hO,rfl⟩
      refine ⟨_,rfl,wl,_,rfl,.inl (SqL.of hw),_,_,rfl,rfl,_,rfl,ite2 (fun c=>?_) (fun c=>?_)⟩
      · have c:(0:Int) < ((ao ws).length:Int):=of_decide_eq_true c
        rw [aB] at c
        have hne:ws≠[]:=fun z=>by
          rw [z] at c
          exact absurd c (by decide)
        obtain ⟨u,i,rfl⟩:∃ u i,ws=u++[i]:=⟨_,_,(List.dropLast_concat_getLast hne).symm⟩
        have hi:i < ns.length:=hws i (by simp)
        have hO2:(u++Vbiraa.children ns (some i)).flatMap (pst ns)++(ds++[i]).reverse=bA ns:=by
          rw [←hO,List.flatMap_append,List.flatMap_append,List.reverse_append]
          show _=(u.flatMap (pst ns)++(pst ns i++[]))++ds.reverse
          rw [List.append_nil,j0 hwf hi]
          simp only [List.append_assoc]
          rfl
        have hws2:∀ x∈u++Vbiraa.children ns (some i),x < ns.length:=fun x hx=>by
          rcases List.mem_append.mp hx with h | h
          · exact hws x (List.mem_append.mpr (.inl h))
          · exact bx h
        have hle:(u++Vbiraa.children ns (some i)).length + (ds.length + 1)≤30:=by
          have h1:=congrArg List.length hO2
          rw [List.length_append,List.length_reverse,List.length_append,List.length_singleton,hord] at h1
          have h2:=rP hwf _ hws2
          omega
        have hle2:u.length + (Vbiraa.children ns (some i)).length≤30:=by
          rw [List.length_append] at hle
          omega
        have hget:(ao (u++[i]))[(ao (u++[i])).length - 1]?=some (.int (i:Nat)):=by
          rw [aB]
          unfold ao
          rw [List.getElem?_map,List.length_append,List.length_singleton,Nat.add_sub_cancel,List.getElem?_append_right (Nat.le_refl _),Nat.sub_self]
          rfl
        refine ⟨_,rfl,.inl ⟨rfl,_,SqL.of hw⟩,wl,_,_,rfl,rfl,hw,hget,?_⟩
        rw [m7]
        have hd2:(upd H' wl (.lst (ao u))) dl=some (.lst (ao ds)):=by rw [ai ndw]; exact hd
        refine ⟨_,rfl,.inl ⟨rfl,_,SqL.of hd2⟩,_,rfl,dl,_,_,rfl,rfl,hd2,aO (by rw [aB]; omega),?_⟩
        have sm2:Same H (upd (upd H' wl (.lst (ao u))) dl (.lst (ao ds++[.int (i:Nat)]))):=aQ (aQ sm hwl0) hdl
        have hw2:(upd (upd H' wl (.lst (ao u))) dl (.lst (ao ds++[.int (i:Nat)]))) wl=some (.lst (ao u)):=by rw [ai ndw.symm]; exact ac
        refine ⟨_,rfl,.inl ⟨rfl,_,SqL.of hw2⟩,_,rfl,_,rfl,l,ns,some i,rfl,R.same sm2,by omega,fun H3 b s3 hb hb3=>?_⟩
        have hw3:=s3 _ _ hw2
        have hd3:=s3 _ _ (ac (H:=upd H' wl (.lst (ao u))) (a:=dl) (o:=.lst (ao ds++[.int (i:Nat)])))
        refine ⟨wl,b,_,_,rfl,rfl,hw3,hb3,?_,?_⟩
        · rw [aB,aB]
          exact Nat.le_of_lt (aO (by omega))
        have hd4:(upd H3 wl (.lst (ao u++ao (Vbiraa.children ns (some i))))) dl=some (.lst (ao (ds++[i]))):=by
          rw [ai ndw,hd3,←gk]
          rfl
        refine ⟨⟨aQ (sm2.trans s3) hwl0,u++Vbiraa.children ns (some i),ds++[i],_,hd4,?_,hws2,hO2,rfl⟩,?_⟩
        · rw [ac,gk]
        · show (match (upd H3 wl (.lst (ao u++ao (Vbiraa.children ns (some i))))) dl with | some (.lst xs)=>ns.length - xs.length | _=>0) < (match H' dl with | some (.lst xs)=>ns.length - xs.length | _=>0)
          rw [hd4,hd]
          show ns.length - (ao (ds++[i])).length < ns.length - (ao ds).length
          rw [aB,aB,List.length_append,List.length_singleton]
          have h1:=congrArg List.length hO2
          rw [List.length_append,List.length_reverse,List.length_append,List.length_singleton,hord] at h1
          omega
      · have c:¬ (0:Int) < ((ao ws).length:Int):=fun z=>c (decide_eq_true z)
        rw [aB] at c
        have e0:ws=[]:=List.length_eq_zero_iff.mp (by omega)
        subst e0
        have hO:ds.reverse=bA ns:=hO
        refine ⟨_,rfl,dl,_,rfl,SqL.of hd,fun p hp=>?_⟩
        refine k _ p (aQ sm (sm.free hp)) (sm.free hp) ?_
        rw [ac,←hO]
        unfold ao
        rw [List.map_reverse]
    · intro σ H Q Q' m h
      obtain ⟨v,e1,p,ys,e3,e4,i,j,e5,e6,b,e7,h⟩:=h
      exact ⟨v,e1,p,ys,e3,e4,i,j,e5,e6,b,e7,m _ _ h⟩
def vw (C:Addr):Sp:=fun vs H Q _=>∃ (l ol:Addr) (ns:Vbiraa.Net) (os:List Vbiraa.Q) (p:Option Nat) (qs:List Vbiraa.Q),vs=[.ref l,.ref ol,.int (pInt p)]∧RsAt C H l ns∧ns.length≤30∧FrAt H ol os∧(∀ c∈Vbiraa.children ns p,c < os.length)∧qs=(Vbiraa.children ns p).map (fun k=>os.getD k (Vbiraa.whole 0))∧(∀ q∈qs,Low q∧q.n≤100000 * q.d)∧b8 qs≤100 ^ 31∧NewL H Q (qV (Vbiraa.sumQ qs))
theorem fT (T:Txt K mg):FnOk P w K mg base CX0 4 T.offered_at.f T.offered_at.fd ["reaches", "offers", "place"] (vw T.a_Reach):=by
  refine T.offered_at.F.ok fG (fun vs H Q E h=>?_) (fun cdv A outer s H vs Q E hr h=>?_)
  · obtain ⟨l,ol,ns,os,p,qs,rfl,_⟩:=h
    rfl
  · obtain ⟨l,ol,ns,os,p,qs,rfl,R,hn,F,hc,hqs,hq,hB,k⟩:=h
    refine ⟨_,(ag (au (aD T.total (xq T) (hr.mono (by decide)) zd (aa (gg (own:=[("k",3)]) rfl fG.nd (bV (aD T.beginning_at (bC T) (hr.mono (by decide)) bL (aa (pv 0) (aa (pv 2) ad)))) (bh (N:=["reaches", "offers", "place", "k"]) (sc:=aj ee) (by decide +kernel)) (fun _ _ _ _ _=>(aJ (i:=3) fG.nd rfl (by first | exact Or.inl rfl | exact Or.inr rfl))) (fun _ _ _ _ _=>bI) (fun _ _ _ _ _=>(ay (ak (K:=K)) (pv 1) (pv 3) (fun _ _=>rfl)))) ad)))),?_⟩
    have hcl:=ei ns p
    obtain ⟨as,f1,f2,f3⟩:=F.ex
    refine ⟨_,rfl,_,rfl,l,ns,p,rfl,R,by omega,fun H1 b s1 hb hb1=>?_⟩
    refine ⟨b,rfl,⟨_,SqL.of hb1⟩,fun D hD=>?_⟩
    refine bX (((Vbiraa.children ns p).map fun k=>as.getD k 0).map V.ref) (by rw [aB,List.length_map,List.length_map]) hD (SqL.of hb1) (aO (by rw [aB]; omega)) ?_ ?_
    · rintro i v y H2 hv hy s2 Q' kq
      obtain ⟨c,hci,rfl⟩:=aW hv
      rw [List.getElem?_map,List.getElem?_map,hci] at hy
      have hy:V.ref (as.getD c 0)=y:=Option.some.inj hy
      subst hy
      have hco:=hc c (List.mem_of_getElem? hci)
      have hget:(as.map V.ref)[c]?=some (.ref (as.getD c 0)):=by
        rw [List.getElem?_map,List.getD_eq_getElem?_getD,List.getElem?_eq_getElem (by omega)]
        rfl
      exact ⟨rfl,_,rfl,_,rfl,ol,_,_,_,rfl,rfl,SqL.of ((s1.trans s2) _ _ f1),aX hget,kq _ (Same.refl _)⟩
    · rintro H2 s2 hD2
      have s12:=s1.trans s2
      refine ⟨D,qs,rfl,⟨(Vbiraa.children ns p).map fun k=>as.getD k 0,hD2,by rw [hqs,List.length_map,List.length_map],fun i a q e e'=>?_⟩,hq,by rw [hqs,List.length_map]; omega,hB,fun H3 r s3 hr3 hr4=>k H3 r (s12.trans s3) (s12.free hr3) hr4⟩
      rw [hqs] at e'
      rw [List.getElem?_map] at e e'
      obtain ⟨c,hci,rfl⟩:=Option.map_eq_some_iff.mp e
      rw [hci] at e'
      have e':os.getD c (Vbiraa.whole 0)=q:=Option.some.inj e'
      subst e'
      have hco:=hc c (List.mem_of_getElem? hci)
      refine s12 _ _ (f3 c _ _ ?_ ?_)
      · rw [List.getD_eq_getElem?_getD,List.getElem?_eq_getElem (by omega)]
        rfl
      · rw [List.getD_eq_getElem?_getD,List.getElem?_eq_getElem hco]
        rfl
end
end CN
namespace CN
open PySem PySem.Spec PyProof.Rows L2
theorem y8 {K:PySem.W.Frag} {a b:Addr} {xs zs:List V} {g:TG} {tb:TS} {D:Ends} {σ:L2.St} {H:Hp} (Pv:Nat→L2.St→Hp→Prop) (hlen:zs.length=xs.length) (h0:Pv 0 σ H) (hl:∀ i σ H,Pv i σ H→SqL K H a xs∧SqL K H b zs)
    (hs:∀ (i:Nat) (x z:V) (σ:L2.St) (H:Hp) (T:Addr),xs[i]?=some x→zs[i]?=some z→Pv i σ H→H T=none→g (.ref T) σ (upd H T (.tup [x,z])) fun σ2 H2=>tb { D with nx:=Pv (i + 1),ct:=Pv (i + 1),bk:=D.nx } σ2 H2) (hd:∀ σ H,Pv xs.length σ H→D.nx σ H) :
    ∃ W:Nat→Nat→L2.St→Hp→Prop,(∃ m,W 0 m σ H)∧∀ i m σ H,W i m σ H →
      ((Itz K a b).stop i H∧D.nx σ H)∨((Itz K a b).go i H∧∃ N:L2.St→Hp→Prop,(∀ σ' H',N σ' H'→∃ m',m' < m∧W (i + 1) m' σ' H')∧∀ x H',(Itz K a b).yld i H x H'→g x σ H' fun σ2 H2=>tb { D with nx:=N,ct:=N,bk:=D.nx } σ2 H2):=by
  refine ⟨fun i m σ H=>m=xs.length - i∧i≤xs.length∧Pv i σ H,⟨xs.length,by simp,Nat.zero_le _,h0⟩,?_⟩
  rintro i m σ H ⟨rfl,hi,p⟩
  obtain ⟨q1,q2⟩:=hl i σ H p
  by_cases hlt:i < xs.length
  · refine .inr ⟨⟨xs,zs,xs[i],zs[i],q1,q2,by simp [hlt],List.getElem?_eq_getElem (by omega)⟩,Pv (i + 1),fun σ' H' p'=>⟨xs.length - (i + 1),by omega,rfl,hlt,p'⟩,fun v H' y=>?_⟩
    obtain ⟨T,x,z,e1,e2,e3,y1,y2⟩:=y
    subst e1 e3
    exact hs i x z σ H T (y1 xs q1) (y2 zs q2) p e2
  · have e:i=xs.length:=by omega
    subst e
    exact .inl ⟨⟨xs,zs,q1,q2,.inl (Nat.le_refl _)⟩,hd σ H p⟩
theorem FrAt.ne {H:Hp} {l a:Addr} {qs:List Vbiraa.Q} {q:Vbiraa.Q} (F:FrAt H l qs) (ha:H a=some (.lst (qV q))):a≠l:=fun z=>by
  obtain ⟨as,h1,_⟩:=F.ex
  rw [z,h1] at ha
  have e:=HO.lst.inj (Option.some.inj ha)
  cases as with
  | nil=>cases e
  | cons x xs=>cases e
theorem FrAt.set {H H':Hp} {l ta:Addr} {qs:List Vbiraa.Q} {q:Vbiraa.Q} {i:Nat} {xs:List V} (F:FrAt H l qs) (hl:H l=some (.lst xs)) (kp:∀ b o,H b=some o→b≠l→H' b=some o) (h':H' l=some (.lst (xs.set i (.ref ta)))) (ht:H' ta=some (.lst (qV q))):FrAt H' l (qs.set i q):=by
  obtain ⟨as,h1,h2,h3⟩:=F.ex
  rw [hl] at h1
  have e:=HO.lst.inj (Option.some.inj h1)
  subst e
  refine ⟨as.set i ta,by rw [h',List.map_set],by rw [List.length_set,List.length_set,h2],fun j a r e e'=>?_⟩
  rw [List.getElem?_set] at e e'
  by_cases c:i=j
  · rw [if_pos c] at e e'
    split at e
    · rename_i c2
      rw [if_pos (by omega)] at e'
      have e:=Option.some.inj e
      have e':=Option.some.inj e'
      subst e e'
      exact ht
    · cases e
  · rw [if_neg c] at e e'
    have:=h3 j a r e e'
    exact kp _ _ this (F.ne this)
section
variable {ns:Vbiraa.Net} {ask:Nat→Vbiraa.Q}
theorem tT {l:List Nat} {p:Nat→Bool} {j x:Nat} (hj:l[j]?=some x) (hx:p x=true) (hg:∀ y∈l.take j,p y=false):l.find? p=some x:=by
  have hlt:=(List.getElem?_eq_some_iff.mp hj).1
  have e:l.drop j=x :: l.drop (j + 1):=by
    rw [List.drop_eq_getElem_cons hlt,(List.getElem?_eq_some_iff.mp hj).2]
  conv=>lhs; rw [←List.take_append_drop j l]
  rw [List.find?_append,List.find?_eq_none.mpr fun y hy=>by rw [hg y hy]; exact Bool.false_ne_true,e,List.find?_cons,hx]
  rfl
def ofsL (ns:Vbiraa.Net) (ask:Nat→Vbiraa.Q) (j:Nat):List Vbiraa.Q:=(List.range ns.length).map fun k=>if k∈(bA ns).take j then wV ns ask k else Vbiraa.whole 0
theorem eZ (j:Nat):(ofsL ns ask j).length=ns.length:=by
  unfold ofsL
  rw [List.length_map,List.length_range]
theorem gj {j k:Nat} (hk:k < ns.length):(ofsL ns ask j)[k]?=some (if k∈(bA ns).take j then wV ns ask k else Vbiraa.whole 0):=by
  unfold ofsL
  rw [List.getElem?_map,List.getElem?_range hk]
  rfl
theorem xr {j i:Nat} (hi:(bA ns)[j]?=some i) (hl:i < ns.length):(ofsL ns ask j).set i (wV ns ask i)=ofsL ns ask (j + 1):=by
  refine List.ext_getElem? fun k=>?_
  by_cases hk:k < ns.length
  · rw [List.getElem?_set,gj hk,gj hk,bJ hi]
    by_cases c:i=k
    · subst c
      rw [if_pos rfl,if_pos (by rw [eZ]; exact hl),if_pos (by simp)]
    · rw [if_neg c]
      congr 1
      by_cases c2:k∈(bA ns).take j
      · rw [if_pos c2,if_pos (List.mem_append.mpr (.inl c2))]
      · rw [if_neg c2,if_neg (fun z=>by rcases List.mem_append.mp z with z | z; exact c2 z; exact c (List.mem_singleton.mp z).symm)]
  · rw [List.getElem?_eq_none (by rw [List.length_set,eZ]; omega),List.getElem?_eq_none (by rw [eZ]; omega)]
theorem wW {α:Type} {l:List α} {i:Nat} {q:α} (h:l[i]?=some q):l.set i q=l:=by
  refine List.ext_getElem? fun k=>?_
  rw [List.getElem?_set]
  by_cases c:i=k
  · subst c
    rw [if_pos rfl,if_pos (List.getElem?_eq_some_iff.mp h).1,h]
  · rw [if_neg c]
theorem xt (hw:WF ns):ofsL ns ask (bA ns).length=(List.range ns.length).map (wV ns ask):=by
  unfold ofsL
  refine List.map_congr_left fun k hk=>?_
  rw [List.take_length,if_pos (uv hw k (List.mem_range.mp hk) k (qM hw (List.mem_range.mp hk)))]
def valR (ns:Vbiraa.Net) (ask:Nat→Vbiraa.Q) (i:Nat):Vbiraa.Q:=if (lV ns ask i).n=0 then Vbiraa.whole 0 else bf (Vbiraa.reachAt ns i) (lV ns ask i)
theorem wz (hw:WF ns) (ha:iK ns ask) {i:Nat} (hi:i < ns.length) (h:(valR ns ask i).n≤(Vbiraa.reachAt ns i).cap * (valR ns ask i).d):wV ns ask i=valR ns ask i∧badR ns ask i=false:=by
  obtain ⟨_,nl,_⟩:=hw.num i hi
  unfold valR at h ⊢
  rw [yi hw hi]
  unfold badR
  by_cases c:(lV ns ask i).n=0
  · rw [if_pos c,Vbiraa.offerFor,if_pos c]
    exact ⟨rfl,rfl⟩
  · rw [if_neg c] at h ⊢
    rw [fr nl (ki hw ha hi).1 c,if_pos h]
    exact ⟨rfl,rfl⟩
theorem yl (hw:WF ns) (ha:iK ns ask) {i:Nat} (hi:i < ns.length) (h:¬ (valR ns ask i).n≤(Vbiraa.reachAt ns i).cap * (valR ns ask i).d):badR ns ask i=true:=by
  obtain ⟨_,nl,_⟩:=hw.num i hi
  unfold valR at h
  unfold badR
  by_cases c:(lV ns ask i).n=0
  · rw [if_pos c] at h
    exact absurd (Nat.zero_le _) h
  · rw [if_neg c] at h
    rw [fr nl (ki hw ha hi).1 c,if_neg h]
    rfl
theorem val_d (hw:WF ns) (ha:iK ns ask) {i:Nat} (hi:i < ns.length):(valR ns ask i).d≤10 ^ 80:=by
  obtain ⟨_,nl,_⟩:=hw.num i hi
  obtain ⟨l1,l2,l3⟩:=ki hw ha hi
  unfold valR
  split
  · show 1≤10 ^ 80
    decide
  · refine Nat.le_trans (kf (eJ nl l1)) (Nat.le_trans (Nat.mul_le_mul l3 (Nat.sub_le _ _)) (by decide))
end
theorem rS {ns:Vbiraa.Net} {i:Nat} (hi:i < ns.length):i∈Vbiraa.ends ns↔(Vbiraa.children ns (some i)).isEmpty=true:=rR hi
theorem xX (ns:Vbiraa.Net):(Vbiraa.ends ns).length≤ns.length:=by
  unfold Vbiraa.ends
  have:=List.length_filter_le (fun i=>(Vbiraa.children ns (some i)).isEmpty) (List.range ns.length)
  rw [List.length_range] at this
  exact this
section
variable {P:Program} {w:World} {K:PySem.W.Frag} {mg:Str→Option Value} {base:Heap}
def DEnds (H:Hp) (ask:Nat→Vbiraa.Q) (es:List Nat) (kvs:List (Key × V)):Prop:=∀ i:Nat,match valV kvs (Sum.inl (i:Int)) with
  | none=>i∉es
  | some v=>i∈es∧∃ a,v=.ref a∧H a=some (.lst (qV (ask i)))
def wP (C:Addr):Sp:=fun vs H Q _=>∃ (l al:Addr) (ns:Vbiraa.Net) (asks:List Nat),vs=[.ref l,.ref al]∧RsAt C H l ns∧WF ns∧H al=some (.lst (ao asks))∧asks.length=(Vbiraa.ends ns).length∧(∀ x∈asks,x≤1000000) ∧
  (∀ i,(bA ns).find? (badR ns (Vbiraa.askOf ns asks))=some i→∀ (H':Hp) (p el:Addr),Same H H'→H' p=some (.tup [.ref el,.int (i:Nat)])→Q (.ref p) H') ∧
  ((bA ns).find? (badR ns (Vbiraa.askOf ns asks))=none→∀ (H':Hp) (p ol:Addr),Same H H'→H' p=some (.tup [.ref ol,.non])→FrAt H' ol ((List.range ns.length).map (wV ns (Vbiraa.askOf ns asks)))→Q (.ref p) H')
theorem jb (T:Txt K mg):FnOk P w K mg base CX0 5 T.offers_for.f T.offers_for.fd ["reaches", "asks"] (wP T.a_Reach):=by
  refine T.offers_for.F.ok bw (fun vs H Q E h=>?_) (fun cdv A outer s H vs Q E hr h=>?_)
  · obtain ⟨l,al,ns,asks,rfl,_⟩:=h
    rfl
  · obtain ⟨l,al,ns,asks,rfl,R,hwf,hal,hlen,h6,k0,k1⟩:=h
    refine ⟨_,(ae (aw (i:=2) bw.nd rfl (by first | exact Or.inl rfl | exact Or.inr rfl) xl)
      (ae (bS PassesOwn.never rfl (sY rfl T.n_zip (aa (aD T.ends_of (dI T) (hr.mono (by decide)) eC (aa (pv 0) ad)) (aa (pv 1) ad))) (dO (K:=K) (n:=2) rfl (bd (aJ (i:=3) bw.nd rfl (by first | exact Or.inl rfl | exact Or.inr rfl)) (bd (aJ (i:=4) bw.nd rfl (by first | exact Or.inl rfl | exact Or.inr rfl)) dN)))
      (ag (yE (xO hr) (pv 2) (pv 3) (aE (aa (pv 4) (aa af ad))) rfl)))
      (ae (ig (i:=5) (own:=[("reach",6)]) rfl bw.nd rfl rfl (jX rfl rfl rfl rfl) (bV (pv 0)) (bh (N:=["reaches", "asks", "by_end", "i", "water", "offers", "reach", "leaving"]) (sc:=aj d9) (by decide +kernel)) (fun _ _ _ _ _=>(aJ (i:=6) bw.nd rfl (by first | exact Or.inl rfl | exact Or.inr rfl))) (fun _ _ _ _ _=>bI) (fun _ _ _ _ _=>(aE (aa af (aa af ad)))))
      (ae (bS PassesOwn.never rfl (bV (aD T.from_below (nX T) (hr.mono (by decide)) qh (aa (pv 0) ad))) (aJ (i:=3) bw.nd rfl (by first | exact Or.inl rfl | exact Or.inr rfl))
      (ae (aw (i:=7) bw.nd rfl (by first | exact Or.inl rfl | exact Or.inr rfl) (qS (pt_cmp (pc_din (xO hr) (pv 3) (pv 2))) (yH (xO hr) (pv 2) (pv 3) (fun _ _=>rfl)) (aD T.offered_at (fT T) (hr.mono (by decide)) gS (aa (pv 0) (aa (pv 5) (aa (pv 3) ad))))))
      (ae (aU (aM j6 (ay (ak (K:=K)) (pv 7) af (fun _ _=>rfl)) af (aP _))
      (ag (xg (aD T.to_take (mT T) (hr.mono (by decide)) pk (aa (ay (ak (K:=K)) (pv 0) (pv 3) (fun _ _=>rfl)) (aa (pv 7) ad))) (xk (pv 5) (pv 3) qG)))
      aI)
      (ag (aU (aZ (aL (K:=K) (aD T.can_take (lD T) (hr.mono (by decide)) nJ (aa (ay (ak (K:=K)) (pv 0) (pv 3) (fun _ _=>rfl)) (aa (ay (ak (K:=K)) (pv 5) (pv 3) (fun _ _=>rfl)) ad))) (fun _=>rfl)))
      (ag (au (gI (aa (aE ad) (aa (pv 3) ad)))))
      aI)))))
      (ag (au (gI (aa (pv 5) (aa fR ad))))))))),?_⟩
    have hn:=hwf.len
    have hel:=xX ns
    have ha:iK ns (Vbiraa.askOf ns asks):=qo asks h6
    generalize hask:Vbiraa.askOf ns asks=ask at k0 k1 ha
    intro de hde
    have s0:=ah (o:=.dK []) hde
    refine ⟨_,rfl,l,ns,rfl,R.same s0,by omega,fun H1 ep s1 hep hep1=>?_⟩
    have hde1:=s1 _ _ (ac (H:=H) (a:=de) (o:=.dK []))
    have s01:=s0.trans s1
    refine ⟨_,rfl,ep,al,_,_,rfl,SqL.of hep1,SqL.of (s01 _ _ hal),y8 (K:=K) (a:=ep) (b:=al) (xs:=ao (Vbiraa.ends ns)) (zs:=ao asks)
      (fun j σ H'=>Same H H'∧H' ep=some (.lst (ao (Vbiraa.ends ns)))∧∃ (kvs:List (Key × V)) (v3 v4:Option V),H' de=some (.dK kvs)∧kvs.length≤j∧j≤(Vbiraa.ends ns).length∧DEnds H' ask ((Vbiraa.ends ns).take j) kvs∧σ=[some (.ref l),some (.ref al),some (.ref de),v3,v4,none,none,none])
      (by rw [aB,aB,hlen]) ⟨s01,hep1,[],none,none,hde1,Nat.le_refl _,Nat.zero_le _,fun i=>by show i∉[]; simp,rfl⟩ (fun j σ H' p=>⟨SqL.of p.2.1,SqL.of (p.1 _ _ hal)⟩) ?_ ?_⟩
    · rintro j x z σ H' tt hx hz ⟨sm,hep',kvs,v3,v4,hd,hkl,hj,hD,rfl⟩ htt
      obtain ⟨i,hi,rfl⟩:=aW hx
      obtain ⟨y,hy,rfl⟩:=aW hz
      have hjl:=(List.getElem?_eq_some_iff.mp hi).1
      have st:=ah (o:=.tup [.int (i:Nat),V.int (y:Nat)]) htt
      refine ⟨tt,_,rfl,SqT.of ac,rfl,_,_,rfl,_,_,rfl,rfl,?_⟩
      refine ⟨_,rfl,(by show 2≤sizeLine; decide),fun la hla=>?_⟩
      have s2:=st.trans (ah (o:=.lst [.int (y:Nat),.int 1]) hla)
      have hd2:=s2 _ _ hd
      refine ⟨_,rfl,_,rfl,de,_,rfl,DPut.k (k:=Sum.inl (i:Int)) hd2 (aO (by omega)),?_⟩
      have hla2:(upd (upd H' tt (.tup [.int (i:Nat),V.int (y:Nat)])) la (.lst [.int (y:Nat),.int 1])) la=some (.lst [.int (y:Nat),.int 1]):=ac
      have nld:la≠de:=bK hla2 hd2 (by intro z; cases z)
      have hask2:ask i=Vbiraa.whole y:=by
        rw [←hask]
        exact ask_at hi hy
      refine ⟨aQ (sm.trans s2) hde,?_,putK kvs (Sum.inl (i:Int)) (.ref la),_,_,ac,Nat.le_trans (iu _ _ _) (by omega),by omega,fun q=>?_,rfl⟩
      · have:=s2 _ _ hep'
        rw [ai (bK this hd2 (by intro z; cases z))]
        exact this
      · rw [wA,bJ hi]
        by_cases c:(Sum.inl (q:Int):Key)=Sum.inl (i:Int)
        · rw [if_pos c]
          have c:q=i:=by
            have:=Sum.inl.inj c
            omega
          subst c
          refine ⟨by simp,la,rfl,?_⟩
          rw [ai nld,hla2,hask2]
          rfl
        · rw [if_neg c]
          have c2:q≠i:=fun z=>c (by rw [z])
          have hq:=hD q
          cases ev:valV kvs (Sum.inl (q:Int)) with
          | none =>
            rw [ev] at hq
            exact fun z=>by
              rcases List.mem_append.mp z with z | z
              · exact hq z
              · exact c2 (List.mem_singleton.mp z)
          | some v =>
            rw [ev] at hq
            obtain ⟨q1,a,q2,q3⟩:=hq
            refine ⟨List.mem_append.mpr (.inl q1),a,q2,?_⟩
            have:=s2 _ _ q3
            rw [ai (bK this hd2 (by intro z; cases z))]
            exact this
    · rintro σ Hd ⟨sm,hep',kvs,v3,v4,hd,hkl,hj,hD,rfl⟩
      rw [aB,List.take_length] at hD
      have Rd:=R.same sm
      obtain ⟨xs,r1,r2,r3⟩:=Rd.list
      refine ⟨_,rfl,l,rfl,⟨_,SqL.of r1⟩,fun ol hol=>?_⟩
      refine uH (xs:=xs) (tt:=tYes) (fun j H'=>Same Hd H'∧FrAt H' ol (List.replicate j (Vbiraa.whole 0))) ⟨ah hol,⟨[],ac,rfl,fun i a q e=>by cases e⟩⟩ (fun j H' _ p=>SqL.of (p.1 _ _ r1)) ?_ ?_
      · rintro j x H' hx ⟨s1,F⟩
        have hjl:j < ns.length:=by
          rw [←r2]
          exact (List.getElem?_eq_some_iff.mp hx).1
        obtain ⟨as,f1,f2,f3⟩:=F.ex
        rw [List.length_replicate] at f2
        refine ⟨rfl,?_⟩
        simp only [tYes,if_true]
        refine ⟨(by show 2≤sizeLine; decide),fun la hla=>?_⟩
        have s2:=ah (o:=.lst [.int 0,.int 1]) hla
        have f1':=s2 _ _ f1
        have nlo:la≠ol:=fun z=>by
          rw [z,f1] at hla
          cases hla
        refine ⟨_,f1',?_,aQ (s1.trans s2) hol,?_⟩
        · rw [List.length_map,f2]
          exact aO (by omega)
        refine ⟨as++[la],by rw [ac,List.map_append]; rfl,by rw [List.length_append,f2,List.length_replicate]; rfl,fun q a r e e'=>?_⟩
        have hr:r=Vbiraa.whole 0:=List.eq_of_mem_replicate (List.mem_of_getElem? e')
        subst hr
        by_cases hq:q < as.length
        · rw [List.getElem?_append_left hq] at e
          have h9:=f3 q a (Vbiraa.whole 0) e (by rw [List.getElem?_replicate,if_pos (by omega)])
          rw [ai (F.ne h9)]
          exact s2 _ _ h9
        · rw [List.getElem?_append_right (by omega)] at e
          cases ez:q - as.length with
          | zero =>
            rw [ez] at e
            have e:la=a:=Option.some.inj e
            subst e
            rw [ai nlo]
            exact ac
          | succ m =>
            rw [ez] at e
            cases e
      · rintro H0 ⟨s1,F0⟩
        rw [r2] at F0
        have hrep:List.replicate ns.length (Vbiraa.whole 0)=ofsL ns ask 0:=by
          refine List.ext_getElem? fun k=>?_
          rw [List.getElem?_replicate]
          by_cases hk:k < ns.length
          · rw [if_pos hk,gj hk,if_neg (by simp)]
          · rw [if_neg hk,List.getElem?_eq_none (by rw [eZ]; omega)]
        rw [hrep] at F0
        refine ⟨_,rfl,l,ns,rfl,Rd.same s1,hwf,fun H1 bp s2 hbp hbp1=>?_⟩
        obtain ⟨as0,g1,_⟩:=F0.ex
        have nbo:ol≠bp:=aq g1 hbp
        refine ⟨bp,rfl,⟨_,SqL.of hbp1⟩,fe (K:=K) (a:=bp) (xs:=ao (bA ns))
          (fun j σ H'=>Same Hd H'∧H' bp=some (.lst (ao (bA ns)))∧FrAt H' ol (ofsL ns ask j)∧(∀ x∈(bA ns).take j,badR ns ask x=false)∧∃ v3 v4 v6 v7:Option V,σ=[some (.ref l),some (.ref al),some (.ref de),v3,v4,some (.ref ol),v6,v7])
          ⟨s1.trans s2,hbp1,F0.same s2,fun x hx=>by simp at hx,_,_,_,_,rfl⟩ (fun j σ H' _ p=>SqL.of p.2.1) ?_ ?_⟩
        · rintro j x σ H' hx ⟨sH,hb',F,hg,v3,v4,v6,v7,rfl⟩
          obtain ⟨i,hi,rfl⟩:=aW hx
          have hil:i < ns.length:=ord_lt hwf (List.mem_of_getElem? hi)
          obtain ⟨_,nl,nsk,nc1,nc2,_⟩:=hwf.num i hil
          obtain ⟨l1,l2,l3⟩:=ki hwf ha hil
          with_reducible refine kE ?_
          refine gx (fun σ' H2=>∃ la,Same H' H2∧H2 la=some (.lst (qV (lV ns ask i)))∧σ'=[some (.ref l),some (.ref al),some (.ref de),some (.int (i:Nat)),v4,some (.ref ol),v6,some (.ref la)]) (fun Nx hN=>?_) ?_
          · refine ⟨_,rfl,_,rfl,de,_,rfl,DGet.k (k:=Sum.inl (i:Int)) (sH _ _ hd),_,rfl,?_⟩
            have hq:=hD i
            cases ev:valV kvs (Sum.inl (i:Int)) with
            | none =>
              rw [ev] at hq
              have hnl:¬ (Vbiraa.children ns (some i)).isEmpty=true:=fun z=>hq ((rS hil).mpr z)
              have hLv:lV ns ask i=Vbiraa.sumQ ((Vbiraa.children ns (some i)).map (wV ns ask)):=by
                unfold lV dA
                rw [if_neg hnl]
              refine iteF ⟨_,rfl,_,rfl,_,rfl,l,ol,ns,ofsL ns ask j,some i,(Vbiraa.children ns (some i)).map (wV ns ask),rfl,Rd.same sH,hn,F,fun c hc=>by rw [eZ]; exact bx hc,?_,iw hwf ha (some i),Nat.le_trans (fc hwf ha (some i) fun c e=>by cases e; exact hil) (by decide),fun H3 la s3 hla hla3=>hN _ _ ⟨la,s3,?_,rfl⟩⟩
              · refine List.map_congr_left fun c hc=>?_
                rw [List.getD_eq_getElem?_getD,gj (bx hc),if_pos (po_all hwf j i hi c hc)]
                rfl
              · rw [hLv]
                exact hla3
            | some v =>
              rw [ev] at hq
              obtain ⟨q1,a,rfl,q3⟩:=hq
              have hlf:=(rS hil).mp q1
              have hLv:lV ns ask i=ask i:=by
                unfold lV dA
                rw [if_pos hlf]
              refine iteT ⟨_,rfl,_,rfl,de,.ref a,rfl,(by rw [←ev]; exact DGet.k (k:=Sum.inl (i:Int)) (sH _ _ hd)),hN _ _ ⟨a,Same.refl _,?_,rfl⟩⟩
              rw [hLv]
              exact sH _ _ q3
          · rintro σ' H2 ⟨la,s3,hla,rfl⟩
            have sH2:=sH.trans s3
            have F2:=F.same s3
            have hb2:=s3 _ _ hb'
            obtain ⟨rxs,ra,rdx,t1,t2,t3,t4⟩:=(Rd.same sH2).at_ hil
            refine gx (fun σ' H3=>Same Hd H3∧H3 bp=some (.lst (ao (bA ns)))∧FrAt H3 ol ((ofsL ns ask j).set i (valR ns ask i))∧σ'=[some (.ref l),some (.ref al),some (.ref de),some (.int (i:Nat)),v4,some (.ref ol),v6,some (.ref la)]) (fun Nx hN=>?_) ?_
            · refine ⟨_,rfl,la,_,_,_,rfl,rfl,SqL.of hla,aC (j:=0) rfl rfl,_,_,rfl,rfl,_,rfl,ite2 (fun c=>?_) (fun c=>?_)⟩
              · have c:(0:Int) < (((lV ns ask i).n:Nat):Int):=of_decide_eq_true c
                have hnz:¬ (lV ns ask i).n=0:=by omega
                have l1':(lV ns ask i).d≤10 ^ 75:=Nat.le_trans l3 (by decide)
                have l2':(lV ns ask i).n≤10 ^ 75:=Nat.le_trans l2 (Nat.le_trans (Nat.mul_le_mul_left _ l3) (by decide))
                refine ⟨_,rfl,_,rfl,l,_,_,_,rfl,rfl,SqL.of t1,aX t3,_,rfl,ra,la,rdx,ns,i,lV ns ask i,rfl,t4,nl,nsk,hla,l1,l2',l1',fun H4 ta s4 hta hta4=>?_⟩
                obtain ⟨oxs,oa,o1,o2,o3,o4⟩:=(F2.same s4).at_ (gj (ask:=ask) (j:=j) hil)
                have nto:ta≠ol:=fun z=>by
                  obtain ⟨as9,g9,_⟩:=F2.ex
                  rw [z,g9] at hta
                  cases hta
                refine ⟨_,rfl,_,rfl,ol,_,_,i,rfl,rfl,o1,?_,hN _ _ ⟨aQ (sH2.trans s4) hol,?_,?_,rfl⟩⟩
                · unfold ixN
                  rw [o2,eZ,if_pos (by omega),if_pos (by omega),Int.toNat_natCast]
                · rw [ai nbo.symm]
                  exact s4 _ _ hb2
                · have ev:valR ns ask i=bf (Vbiraa.reachAt ns i) (lV ns ask i):=if_neg hnz
                  rw [ev]
                  refine FrAt.set (F2.same s4) o1 (fun b o e nb=>by rw [ai nb]; exact e) ac ?_
                  rw [ai nto]
                  exact hta4
              · have c:¬ (0:Int) < (((lV ns ask i).n:Nat):Int):=fun z=>c (decide_eq_true z)
                have hz:(lV ns ask i).n=0:=by omega
                have ev:valR ns ask i=Vbiraa.whole 0:=if_pos hz
                refine hN _ _ ⟨sH2,hb2,?_,rfl⟩
                rw [ev,wW]
                · exact F2
                · rw [gj hil]
                  congr 1
                  split
                  · rw [(wz hwf ha hil (by rw [ev]; exact Nat.zero_le _)).1,ev]
                  · rfl
            · rintro σ' H3 ⟨sH3,hb3,F3,rfl⟩
              obtain ⟨rxs,ra,rdx,t1,t2,t3,t4⟩:=(Rd.same sH3).at_ hil
              have hset:((ofsL ns ask j).set i (valR ns ask i))[i]?=some (valR ns ask i):=by
                rw [List.getElem?_set,if_pos rfl,if_pos (by rw [eZ]; exact hil)]
              obtain ⟨oxs,oa,o1,o2,o3,o4⟩:=F3.at_ hset
              refine ⟨_,rfl,_,rfl,l,_,_,_,rfl,rfl,SqL.of t1,aX t3,_,rfl,_,rfl,ol,_,_,_,rfl,rfl,SqL.of o1,aX o3,ra,oa,rdx,ns,i,valR ns ask i,rfl,t4,nc2,o4,val_d hwf ha hil,_,rfl,?_⟩
              by_cases c:(valR ns ask i).n≤(Vbiraa.reachAt ns i).cap * (valR ns ask i).d
              · rw [decide_eq_true c]
                refine iteF ?_
                obtain ⟨w1,w2⟩:=wz hwf ha hil c
                rw [←w1,xr hi hil] at F3
                refine ⟨sH3,hb3,F3,fun x hx=>?_,_,_,_,_,rfl⟩
                rw [bJ hi] at hx
                rcases List.mem_append.mp hx with hx | hx
                · exact hg x hx
                · rw [List.mem_singleton.mp hx]
                  exact w2
              · rw [decide_eq_false c]
                refine iteT ⟨Nat.zero_le _,fun el hel=>⟨_,rfl,(by show 2≤sizeLine; decide),fun tp htp=>?_⟩⟩
                exact k0 i (tT hi (yl hwf ha hil c) hg) _ tp el (((sm.trans sH3).trans (ah hel)).trans (ah htp)) ac
        · rintro σ H' ⟨sH,hb',F,hg,v3,v4,v6,v7,rfl⟩
          rw [aB,xt hwf] at F
          rw [aB,List.take_length] at hg
          refine ⟨_,rfl,(by show 2≤sizeLine; decide),fun tp htp=>?_⟩
          refine k1 (List.find?_eq_none.mpr fun x hx=>by rw [hg x hx]; exact Bool.false_ne_true) _ tp ol ((sm.trans sH).trans (ah htp)) ac (F.same (ah htp))
def wO (C:Addr):Sp:=fun vs H Q _=>∃ (l ol:Addr) (ns:Vbiraa.Net) (ask:Nat→Vbiraa.Q) (i:Nat),vs=[.ref l,.ref ol,.int (i:Nat)]∧RsAt C H l ns∧WF ns∧iK ns ask∧i < ns.length∧FrAt H ol ((List.range ns.length).map (wV ns ask))∧NewL H Q (qV (Vbiraa.over (wV ns ask i) (Vbiraa.sumQ ((Vbiraa.children ns (Vbiraa.reachAt ns i).parent).map (wV ns ask)))))
theorem tm (T:Txt K mg):FnOk P w K mg base CX0 5 T.part_of.f T.part_of.fd ["reaches", "offers", "i"] (wO T.a_Reach):=by
  refine T.part_of.F.ok my (fun vs H Q E h=>?_) (fun cdv A outer s H vs Q E hr h=>?_)
  · obtain ⟨l,ol,ns,ask,i,rfl,_⟩:=h
    rfl
  · obtain ⟨l,ol,ns,ask,i,rfl,R,hwf,ha,hi,F,k⟩:=h
    refine ⟨_,(ae (aw (i:=3) my.nd rfl (by first | exact Or.inl rfl | exact Or.inr rfl) (aD T.offered_at (fT T) (hr.mono (by decide)) gS (aa (pv 0) (aa (pv 1) (aa (am (K:=K) (ay (ak (K:=K)) (pv 0) (pv 2) (fun _ _=>rfl)) rfl) ad)))))
      (ae (aU (aM du (ay (ak (K:=K)) (pv 3) af (fun _ _=>rfl)) af (aP _))
      (ag (au (aE (aa af (aa af ad)))))
      aI)
      (ag (au (aD T.lowest (gi T) (hr.mono (by decide)) iJ (aa (aG cW (ay (ak (K:=K)) (ay (ak (K:=K)) (pv 1) (pv 2) (fun _ _=>rfl)) af (fun _ _=>rfl)) (ay (ak (K:=K)) (pv 3) af (fun _ _=>rfl))) (aa (aG cW (ay (ak (K:=K)) (ay (ak (K:=K)) (pv 1) (pv 2) (fun _ _=>rfl)) af (fun _ _=>rfl)) (ay (ak (K:=K)) (pv 3) af (fun _ _=>rfl))) ad))))))),?_⟩
    have hn:=hwf.len
    obtain ⟨xs,a,dx,h1,h2,h3,h4⟩:=R.at_ hi
    have hget:∀ c,c < ns.length→((List.range ns.length).map (wV ns ask))[c]?=some (wV ns ask c):=fun c hc=>by
      rw [List.getElem?_map,List.getElem?_range hc]
      rfl
    have hpl:∀ c,(Vbiraa.reachAt ns i).parent=some c→c < ns.length:=fun c e=>by
      have:=hwf.par i c hi e
      omega
    refine ⟨_,rfl,_,rfl,_,rfl,_,rfl,l,_,_,_,rfl,rfl,SqL.of h1,aX h3,a,T.a_Reach,dx,_,_,rfl,h4,T.cl_Reach,T.na_Reach_begins,cU,l,ol,ns,_,(Vbiraa.reachAt ns i).parent,(Vbiraa.children ns (Vbiraa.reachAt ns i).parent).map (wV ns ask),rfl,R,hn,F,fun c hc=>by rw [List.length_map,List.length_range]; exact bx hc,?_,iw hwf ha _,Nat.le_trans (fc hwf ha _ hpl) (by decide),fun H1 wp s1 hwp hwp1=>?_⟩
    · refine List.map_congr_left fun c hc=>?_
      rw [List.getD_eq_getElem?_getD,hget c (bx hc)]
      rfl
    obtain ⟨q1,q2,q3⟩:=pB (iw hwf ha (Vbiraa.reachAt ns i).parent)
    have q4:=Nat.le_trans q2 (fc hwf ha _ hpl)
    have hcl:((Vbiraa.children ns (Vbiraa.reachAt ns i).parent).map (wV ns ask)).length≤30:=by
      rw [List.length_map]
      have:=ei ns (Vbiraa.reachAt ns i).parent
      omega
    generalize Vbiraa.sumQ ((Vbiraa.children ns (Vbiraa.reachAt ns i).parent).map (wV ns ask))=sm at k hwp1 q1 q2 q3 q4
    have q5:sm.n≤10 ^ 70:=Nat.le_trans q3 (Nat.le_trans (Nat.mul_le_mul (Nat.mul_le_mul_left _ hcl) q4) (by decide))
    obtain ⟨w1,w2,w3⟩:=qw hwf ha hi
    have w4:(wV ns ask i).n≤10 ^ 70:=Nat.le_trans w2 (Nat.le_trans (Nat.mul_le_mul_left _ w3) (by decide))
    refine ⟨_,rfl,wp,_,_,_,rfl,rfl,SqL.of hwp1,aC (j:=0) rfl rfl,rfl,_,rfl,?_⟩
    refine (congrArg (fun b=>if b=true then _ else _) (cX (a:=sm.n) (b:=0))).mpr ?_
    refine ite2 (fun c=>?_) (fun c=>?_)
    · have c:sm.n=0:=of_decide_eq_true c
      refine ⟨(by show 2≤sizeLine; decide),fun p hp=>k _ p (s1.trans (ah hp)) (s1.free hp) (ac.trans ?_)⟩
      unfold Vbiraa.over
      rw [if_pos c]
      rfl
    · have c:¬ sm.n=0:=fun z=>c (decide_eq_true z)
      obtain ⟨oxs,oa,o1,o2,o3,o4⟩:=(F.same s1).at_ (hget i hi)
      have pp:0 < (wV ns ask i).d * sm.n:=Nat.mul_pos w1.pos (by omega)
      refine ⟨_,rfl,_,rfl,ol,_,_,_,rfl,rfl,SqL.of o1,aX o3,oa,_,_,_,rfl,rfl,SqL.of o4,aC (j:=0) rfl rfl,_,rfl,wp,_,_,_,rfl,rfl,SqL.of hwp1,aC (j:=1) rfl rfl,_,_,rfl,rfl,big2 (Nat.le_trans w4 (by decide)) (Nat.le_trans q4 (by decide)),
        _,rfl,_,rfl,ol,_,_,_,rfl,rfl,SqL.of o1,aX o3,oa,_,_,_,rfl,rfl,SqL.of o4,aC (j:=1) rfl rfl,_,rfl,wp,_,_,_,rfl,rfl,SqL.of hwp1,aC (j:=0) rfl rfl,_,_,rfl,rfl,big2 (Nat.le_trans w3 (by decide)) (Nat.le_trans q5 (by decide)),
        (wV ns ask i).n * sm.d,(wV ns ask i).d * sm.n,?_,pp,?_,fun H2 r s2 hr2 hr3=>k H2 r (s1.trans s2) (s1.free hr2) ?_⟩
      · rw [Int.natCast_mul,Int.natCast_mul]
        rfl
      · exact Nat.lt_of_le_of_lt (Nat.mul_le_mul w3 q5) (by decide)
      · unfold Vbiraa.over
        rw [if_neg c]
        exact hr3
end
end CN
namespace CN
open PySem PySem.Spec PyProof.Rows L2
def qb:List Int→List Int→Option Vbiraa.Call
  | [],l=>some (.wants l)
  | _,_=>none
def cSet:List Int→List Int→Option Vbiraa.Call
  | [],l=>some (.set_ l)
  | _,_=>none
theorem nA {a b:List Int} {c:Vbiraa.Call} (h:qb a b=some c):a=[]∧c=.wants b:=by
  unfold qb at h
  split at h
  · cases h
    exact ⟨rfl,rfl⟩
  · cases h
theorem r9 {a b:List Int} {c:Vbiraa.Call} (h:cSet a b=some c):a=[]∧c=.set_ b:=by
  unfold cSet at h
  split at h
  · cases h
    exact ⟨rfl,rfl⟩
  · cases h
theorem u9 {h:Vbiraa.House} {rs:List Int} (e:Vbiraa.isAsk h rs=true):aS rs=ao (rs.map Int.toNat)∧(rs.map Int.toNat).length=(Vbiraa.ends h.net).length∧∀ x∈rs.map Int.toNat,x≤1000000:=by
  unfold Vbiraa.isAsk at e
  rw [Bool.and_eq_true,beq_iff_eq] at e
  have hb:∀ x∈rs,0≤x∧x≤1000000:=fun x hx=>eD (List.all_eq_true.mp e.2 x hx)
  refine ⟨?_,by rw [List.length_map]; exact e.1,fun x hx=>?_⟩
  · unfold aS ao
    rw [List.map_map]
    refine List.map_congr_left fun x hx=>?_
    show V.int x=V.int ((x.toNat:Nat):Int)
    rw [Int.toNat_of_nonneg (hb x hx).1]
  · obtain ⟨z,hz,rfl⟩:=List.mem_map.mp hx
    have:=hb z hz
    omega
def setV (ns:Vbiraa.Net) (ask:Nat→Vbiraa.Q) (j:Nat):List V:=.int 0 :: (List.range j).flatMap fun i=>qV (Vbiraa.setTo ns ask i)
theorem wX (ns:Vbiraa.Net) (ask:Nat→Vbiraa.Q) (j:Nat):(setV ns ask j).length=1 + 2 * j:=by
  unfold setV
  rw [List.length_cons,List.length_flatMap]
  have:((List.range j).map fun i=>(qV (Vbiraa.setTo ns ask i)).length).sum=2 * j:=by
    induction j with
    | zero=>rfl
    | succ j ih =>
      rw [List.range_succ,List.map_append,List.sum_append,ih]
      show 2 * j + 2=2 * (j + 1)
      omega
  rw [this,Nat.add_comm]
theorem vz (ns:Vbiraa.Net) (ask:Nat→Vbiraa.Q) (j:Nat):setV ns ask (j + 1)=setV ns ask j++qV (Vbiraa.setTo ns ask j):=by
  unfold setV
  rw [List.range_succ,List.flatMap_append]
  show _=V.int 0 :: (_++_)
  congr 2
section
variable {P:Program} {w:World} {K:PySem.W.Frag} {mg:Str→Option Value} {base:Heap}
def spAsks (CR CN:Addr):Sp:=fun vs H Q _=>∃ (n dn l wl sl rl:Addr) (h:Vbiraa.House) (rs:List Int),vs=[.ref n,.ref rl]∧bB CR CN H n h dn l wl sl∧h.net.length≤30∧H rl=some (.lst (aS rs))∧rs.length≤4000∧∀ H',Same H H'→Q (.bl (Vbiraa.isAsk h rs)) H'
theorem lE (T:Txt K mg):FnOk P w K mg base CX0 3 T.are_asks.f T.are_asks.fd ["net", "row"] (spAsks T.a_Reach T.a_Net):=by
  refine T.are_asks.F.ok hX (fun vs H Q E h=>?_) (fun cdv A outer s H vs Q E hr h=>?_)
  · obtain ⟨n,dn,l,wl,sl,rl,h,rs,rfl,_⟩:=h
    rfl
  · obtain ⟨n,dn,l,wl,sl,rl,h,rs,rfl,N,hn,hrl,hrs,k⟩:=h
    refine ⟨_,(ag (au (mP (dP du (aF (ax (K:=K)) (by rfl) T.n_len PySem.boot_len (aa (pv 1) ad)) (aF (ax (K:=K)) (by rfl) T.n_len PySem.boot_len (aa (aD T.ends_of (dI T) (hr.mono (by decide)) eC (aa (am (K:=K) (pv 0) rfl) ad)) ad)) (aP _)) (pM (aF (ma (K:=K) rfl) (by rfl) T.n_all iZ (aa (gg (own:=[("number",2)]) rfl hX.nd (bV (pv 1)) (bh (N:=["net", "row", "number"]) (sc:=aj gB) (by decide +kernel)) (fun _ _ _ _ _=>(aJ (i:=2) hX.nd rfl (by first | exact Or.inl rfl | exact Or.inr rfl))) (fun _ _ _ _ _=>bI) (fun _ _ _ _ _=>(aD T.is_water (ik T) (hr.mono (by decide)) jK (aa (pv 2) ad)))) ad)))))),?_⟩
    unfold Vbiraa.isAsk at k
    refine ⟨_,rfl,rl,_,rfl,.inl (SqL.of hrl),_,rfl,n,T.a_Net,dn,_,_,rfl,N.obj,T.cl_Net,T.na_Net_reaches,aH,l,h.net,rfl,N.rs,by omega,fun H1 ep s1 hep hep1=>?_⟩
    refine ⟨ep,_,rfl,.inl (SqL.of hep1),rfl,_,rfl,?_⟩
    have e1:decide (V.int ((aS rs).length:Int)=V.int ((ao (Vbiraa.ends h.net)).length:Int))=(rs.length == (Vbiraa.ends h.net).length):=by
      rw [br,aB,cX]
      rfl
    refine (congrArg (fun b=>if b=true then _ else _) e1).mpr ?_
    cases c1:(rs.length == (Vbiraa.ends h.net).length) with
    | false =>
      rw [c1] at k
      exact iteF (k H1 s1)
    | true =>
      rw [c1,Bool.true_and] at k
      refine iteT ?_
      have hrl1:=s1 _ _ hrl
      refine ⟨_,rfl,rl,rfl,⟨_,SqL.of hrl1⟩,fun D hD=>?_⟩
      refine bX (xs:=aS rs) (rs.map fun x=>V.bl (Vbiraa.within x 0 Vbiraa.LET)) (by rw [br,List.length_map]) hD (SqL.of hrl1) (aO (by rw [br]; omega)) ?_ ?_
      · rintro i x y H2 hx hy s2 Q' kq
        unfold aS at hx
        rw [List.getElem?_map] at hx hy
        obtain ⟨z,hz,rfl⟩:=Option.map_eq_some_iff.mp hx
        rw [hz] at hy
        have hy:=Option.some.inj hy
        subst hy
        exact ⟨rfl,_,rfl,z,rfl,kq _ (Same.refl _)⟩
      · rintro H2 s2 hD2
        refine ⟨D,rs.map fun x=>Vbiraa.within x 0 Vbiraa.LET,rfl,?_,?_⟩
        · rw [List.map_map]
          exact SqL.of hD2
        rw [jh]
        exact k H2 (s1.trans s2)
theorem lT (T:Txt K mg):FnOk P w K mg base CX0 6 T.answer_wants.f T.answer_wants.fd ["net", "numbers", "row"] (spFn T.a_Reach T.a_Net qb):=by
  refine T.answer_wants.F.ok gU (fun vs H Q E h=>?_) (fun cdv A outer s H vs Q E hr h=>?_)
  · obtain ⟨n,nl,rl,dn,l,wl,sl,h,nums,rs,c,rfl,_⟩:=h
    rfl
  · obtain ⟨n,nl,rl,dn,l,wl,sl,h,nums,rs,c,rfl,N,hI,hne0,hnl,hrl,hrw,hrs,hC,k⟩:=h
    refine ⟨_,(ae (aU (aZ (aL (K:=K) (aD T.are_asks (lE T) (hr.mono (by decide)) nL (aa (pv 0) (aa (pv 2) ad))) (fun _=>rfl)))
      (ag (au (aE (aa (a8 T.c_OUT_OF_RANGE) ad))))
      aI)
      (ae (aw (i:=3) gU.nd rfl (by first | exact Or.inl rfl | exact Or.inr rfl) (aD T.offers_for (jb T) (hr.mono (by decide)) kx (aa (am (K:=K) (pv 0) rfl) (aa (pv 2) ad))))
      (ae (aU (aM uA (ay (aR (K:=K)) (pv 3) af (fun _ _=>rfl)) fR (aP _))
      (ag (au (aE (aa af (aa af (aa (ay (aR (K:=K)) (pv 3) af (fun _ _=>rfl)) ad))))))
      aI)
      (ag (au (aG dw (aE (aa af (aa af ad))) (aD T.offered_at (fT T) (hr.mono (by decide)) gS (aa (am (K:=K) (pv 0) rfl) (aa (ay (aR (K:=K)) (pv 3) af (fun _ _=>rfl)) (aa (a8 T.c_SOURCE) ad)))))))))),?_⟩
    obtain ⟨rfl,rfl⟩:=nA hC
    have hne:=hne0 rfl
    have hwf:=hI.wf
    have hlen:=hwf.len
    have hs:Vbiraa.step h (.wants rs)=if Vbiraa.isAsk h rs=false then (h,[-1]) else (match Vbiraa.wants h.net (Vbiraa.askOf h.net (rs.map Int.toNat)) with | .ok q=>(h,0 :: 1 :: Vbiraa.qRow q) | .error i=>(h,[0,0,(i:Int)])):=by
      rw [Vbiraa.step,bn hne]
      rfl
    rw [hs] at k
    refine ⟨_,rfl,_,rfl,n,dn,l,wl,sl,rl,h,rs,rfl,N,hlen,hrl,hrs,fun H1 s1=>⟨_,rfl,?_⟩⟩
    cases c1:Vbiraa.isAsk h rs with
    | false =>
      rw [c1,if_pos rfl] at k
      exact iteT ⟨(by show 1≤sizeLine; decide),fun p hp=>k.new N (s1.trans (ah hp)) (s1.free hp) ac⟩
    | true =>
    refine iteF ?_
    rw [c1,if_neg (by decide),mn hwf] at k
    obtain ⟨a1,a2,a3⟩:=u9 c1
    have ha:=qo (ns:=h.net) _ a3
    have N1:=N.same s1
    have hrl1:=s1 _ _ hrl
    rw [a1] at hrl1
    refine ⟨_,rfl,n,T.a_Net,dn,_,_,rfl,N1.obj,T.cl_Net,T.na_Net_reaches,aH,_,rfl,l,rl,h.net,_,rfl,N1.rs,hwf,hrl1,a2,a3,fun i hi H2 fp el s2 hfp=>?_,fun hno H2 fp ol s2 hfp F=>?_⟩
    · rw [hi] at k
      refine ⟨_,rfl,fp,_,1,_,rfl,rfl,SqT.of hfp,rfl,rfl,_,rfl,iteT ?_⟩
      refine ⟨_,rfl,fp,_,1,_,rfl,rfl,SqT.of hfp,rfl,(by show 3≤sizeLine; decide),fun p hp=>?_⟩
      have s12:=s1.trans s2
      exact k.new N (s12.trans (ah hp)) (s12.free hp) ac
    · rw [hno] at k
      refine ⟨_,rfl,fp,_,1,_,rfl,rfl,SqT.of hfp,rfl,rfl,_,rfl,iteF ?_⟩
      refine ⟨(by show 2≤sizeLine; decide),fun z hz=>?_⟩
      have s3:=ah (o:=.lst [.int 0,.int 1]) hz
      have s123:=(s1.trans s2).trans s3
      have N3:=N.same s123
      have hfp3:=s3 _ _ hfp
      refine ⟨_,rfl,n,T.a_Net,dn,_,_,rfl,N3.obj,T.cl_Net,T.na_Net_reaches,aH,_,rfl,fp,_,0,_,rfl,rfl,SqT.of hfp3,rfl,l,ol,h.net,_,none,(Vbiraa.children h.net none).map (wV h.net (Vbiraa.askOf h.net (rs.map Int.toNat))),rfl,N3.rs,hlen,F.same s3,fun c hc=>by rw [List.length_map,List.length_range]; exact bx hc,?_,iw hwf ha none,Nat.le_trans (fc hwf ha none fun c e=>by cases e) (by decide),fun H4 tp s4 htp htp4=>?_⟩
      · refine List.map_congr_left fun c hc=>?_
        rw [List.getD_eq_getElem?_getD,List.getElem?_map,List.getElem?_range (bx hc)]
        rfl
      refine ⟨z,tp,_,_,rfl,rfl,s4 _ _ ac,htp4,(by show 4≤sizeLine; decide),fun p hp=>?_⟩
      have sA:=s123.trans s4
      exact k.new N (sA.trans (ah hp)) (sA.free hp) ac
theorem i3 (T:Txt K mg):FnOk P w K mg base CX0 6 T.answer_set_gates.f T.answer_set_gates.fd ["net", "numbers", "row"] (spFn T.a_Reach T.a_Net cSet):=by
  refine T.answer_set_gates.F.ok bH (fun vs H Q E h=>?_) (fun cdv A outer s H vs Q E hr h=>?_)
  · obtain ⟨n,nl,rl,dn,l,wl,sl,h,nums,rs,c,rfl,_⟩:=h
    rfl
  · obtain ⟨n,nl,rl,dn,l,wl,sl,h,nums,rs,c,rfl,N,hI,hne0,hnl,hrl,hrw,hrs,hC,k⟩:=h
    refine ⟨_,(ae (aU (aZ (aL (K:=K) (aD T.are_asks (lE T) (hr.mono (by decide)) nL (aa (pv 0) (aa (pv 2) ad))) (fun _=>rfl)))
      (ag (au (aE (aa (a8 T.c_OUT_OF_RANGE) ad))))
      aI)
      (ae (aw (i:=3) bH.nd rfl (by first | exact Or.inl rfl | exact Or.inr rfl) (aD T.offers_for (jb T) (hr.mono (by decide)) kx (aa (am (K:=K) (pv 0) rfl) (aa (pv 2) ad))))
      (ae (aU (aM uA (ay (aR (K:=K)) (pv 3) af (fun _ _=>rfl)) fR (aP _))
      (ag (au (aE (aa (a8 T.c_CANNOT) ad))))
      aI)
      (ae (aw (i:=4) bH.nd rfl (by first | exact Or.inl rfl | exact Or.inr rfl) (aE (aa af ad)))
      (ae (bS PassesOwn.never rfl (cI rfl T.n_range (aa (aF (ax (K:=K)) (by rfl) T.n_len PySem.boot_len (aa (am (K:=K) (pv 0) rfl) ad)) ad)) (aJ (i:=5) bH.nd rfl (by first | exact Or.inl rfl | exact Or.inr rfl))
      (ag (bU (fo PySem.F.plainAttrs_list PySem.F.slot_list_extend PySem.F.type_list_extend gl (pv 4) (aa (aD T.part_of (tm T) (hr.mono (by decide)) wj (aa (am (K:=K) (pv 0) rfl) (aa (ay (aR (K:=K)) (pv 3) af (fun _ _=>rfl)) (aa (pv 5) ad)))) ad)))))
      (ag (au (pv 4)))))))),?_⟩
    obtain ⟨rfl,rfl⟩:=r9 hC
    have hne:=hne0 rfl
    have hwf:=hI.wf
    have hlen:=hwf.len
    have hs:Vbiraa.step h (.set_ rs)=if Vbiraa.isAsk h rs=false then (h,[-1]) else (match Vbiraa.wants h.net (Vbiraa.askOf h.net (rs.map Int.toNat)) with | .ok _=>(h,0 :: (List.range h.net.length).flatMap fun i=>Vbiraa.qRow (Vbiraa.setTo h.net (Vbiraa.askOf h.net (rs.map Int.toNat)) i)) | .error _=>(h,[-8])):=by
      rw [Vbiraa.step,bn hne]
      rfl
    rw [hs] at k
    refine ⟨_,rfl,_,rfl,n,dn,l,wl,sl,rl,h,rs,rfl,N,hlen,hrl,hrs,fun H1 s1=>⟨_,rfl,?_⟩⟩
    cases c1:Vbiraa.isAsk h rs with
    | false =>
      rw [c1,if_pos rfl] at k
      exact iteT ⟨(by show 1≤sizeLine; decide),fun p hp=>k.new N (s1.trans (ah hp)) (s1.free hp) ac⟩
    | true =>
    refine iteF ?_
    rw [c1,if_neg (by decide),mn hwf] at k
    obtain ⟨a1,a2,a3⟩:=u9 c1
    have ha:=qo (ns:=h.net) _ a3
    have N1:=N.same s1
    have hrl1:=s1 _ _ hrl
    rw [a1] at hrl1
    refine ⟨_,rfl,n,T.a_Net,dn,_,_,rfl,N1.obj,T.cl_Net,T.na_Net_reaches,aH,_,rfl,l,rl,h.net,_,rfl,N1.rs,hwf,hrl1,a2,a3,fun i hi H2 fp el s2 hfp=>?_,fun hno H2 fp ol s2 hfp F=>?_⟩
    · rw [hi] at k
      have s12:=s1.trans s2
      refine ⟨_,rfl,fp,_,1,_,rfl,rfl,SqT.of hfp,rfl,rfl,_,rfl,iteT ⟨(by show 1≤sizeLine; decide),fun p hp=>?_⟩⟩
      exact k.new N (s12.trans (ah hp)) (s12.free hp) ac
    · rw [hno] at k
      have s12:=s1.trans s2
      refine ⟨_,rfl,fp,_,1,_,rfl,rfl,SqT.of hfp,rfl,rfl,_,rfl,iteF ?_⟩
      refine ⟨(by show 1≤sizeLine; decide),fun z hz=>?_⟩
      have s3:=ah (o:=.lst [.int 0]) hz
      have hz0:H z=none:=s12.free hz
      have N3:=N.same (s12.trans s3)
      obtain ⟨xs,h1,h2,h3⟩:=N3.rs.list
      refine ⟨_,rfl,n,T.a_Net,dn,_,_,rfl,N3.obj,T.cl_Net,T.na_Net_reaches,aH,l,_,rfl,.inl (SqL.of h1),_,rfl,by omega,by omega,?_⟩
      rw [h2]
      refine iW (n:=h.net.length) (fun j σ H'=>Same H2 H'∧H' z=some (.lst (setV h.net (Vbiraa.askOf h.net (rs.map Int.toNat)) j))∧∃ v:Option V,σ=[some (.ref n),some (.ref nl),some (.ref rl),some (.ref fp),some (.ref z),v]) ⟨s3,ac,none,rfl⟩ ?_ ?_
      · rintro j σ H' hj ⟨sm,hzz,v,rfl⟩
        have sA:=s12.trans sm
        have NA:=N.same sA
        have hfpA:=sm _ _ hfp
        refine ⟨_,rfl,.inl ⟨rfl,_,SqL.of hzz⟩,_,rfl,n,T.a_Net,dn,_,_,rfl,NA.obj,T.cl_Net,T.na_Net_reaches,aH,_,rfl,fp,_,0,_,rfl,rfl,SqT.of hfpA,rfl,_,rfl,l,ol,h.net,Vbiraa.askOf h.net (rs.map Int.toNat),j,by rw [Int.zero_add]; rfl,NA.rs,hwf,ha,hj,F.same sm,fun H4 tp s4 htp htp4=>?_⟩
        rw [←wY hwf hno hj] at htp4
        have hz4:=s4 _ _ hzz
        refine ⟨z,tp,_,_,rfl,rfl,hz4,htp4,?_,aQ (sm.trans s4) hz,?_,_,rfl⟩
        · rw [wX]
          show 1 + 2 * j + 2≤sizeLine
          exact Nat.le_of_lt (aO (by omega))
        · rw [ac,vz]
      · rintro σ H' ⟨sm,hzz,v,rfl⟩
        refine ⟨_,rfl,k.new N (s12.trans sm) hz0 (hzz.trans ?_)⟩
        congr 2
        unfold setV
        show _=V.int 0 :: aS _
        congr 1
        unfold aS
        rw [List.map_flatMap]
        rfl
end
end CN
namespace CN
open PySem PySem.Spec PyProof.Rows L2
theorem ofS (s:String):Str.ofString s=sOf (Vbiraa.text s):=by
  rw [Str.ofString_eq_toList]
  rfl
theorem rk (n:Nat):Str.ofString (toString ((n:Nat):Int))=sOf (Vbiraa.digits n):=by
  rw [Str.ofString_eq_toList]
  rfl
theorem ff {n:Nat} (h:n≤100000):(Vbiraa.digits n).length≤6:=by
  have e:Vbiraa.digits n=TL.numL n:=by
    unfold Vbiraa.digits TL.numL
    show (Nat.repr n).toList.map _=_
    rw [Nat.toList_repr]
  rw [e]
  exact TL.xw (by decide) (by omega)
theorem na {n:Nat} (h:n≤100000):((n:Nat):Int).natAbs.log2 < 1920:=by
  rw [Int.natAbs_natCast]
  rcases Nat.eq_zero_or_pos n with e | e
  · subst e
    decide
  · exact (Nat.log2_lt (by omega)).mpr (Nat.lt_of_le_of_lt h (by decide))
theorem uL:∀ ws:List (List Nat),Str.join (sOf [32]) (ws.map sOf)=sOf (Vbiraa.spaced ws)
  | []=>rfl
  | [w]=>rfl
  | w :: v :: r=>by
    show sOf w++sOf [32]++Str.join (sOf [32]) ((v :: r).map sOf)=sOf (w++(32 :: Vbiraa.spaced (v :: r)))
    rw [uL (v :: r),iR,iR,List.append_assoc]
    rfl
theorem uM:∀ ws:List (List Nat),Str.join (sOf []) (ws.map sOf)=sOf ws.flatten
  | []=>rfl
  | [w]=>by
    show sOf w=sOf (w++[])
    rw [List.append_nil]
  | w :: v :: r=>by
    show sOf w++sOf []++Str.join (sOf []) ((v :: r).map sOf)=sOf (w++(v :: r).flatten)
    rw [uM (v :: r),iR,iR,List.append_nil]
def eF (ns:Vbiraa.Net) (i:Nat):List Nat:=match (Vbiraa.reachAt ns i).parent with
  | none=>Vbiraa.text "source"
  | some p=>(Vbiraa.reachAt ns p).name
def gt (ns:Vbiraa.Net) (i:Nat):List (List Nat):=[Vbiraa.text "reach",(Vbiraa.reachAt ns i).name,Vbiraa.text "from",eF ns i,Vbiraa.text "delay",Vbiraa.digits (Vbiraa.reachAt ns i).delay,Vbiraa.text "loss",Vbiraa.digits (Vbiraa.reachAt ns i).loss]++[Vbiraa.text "soak",Vbiraa.digits (Vbiraa.reachAt ns i).soak,Vbiraa.text "cap",Vbiraa.digits (Vbiraa.reachAt ns i).cap,Vbiraa.text "gate",Vbiraa.digits (Vbiraa.reachAt ns i).gate]
theorem jO (ns:Vbiraa.Net) (i:Nat):Vbiraa.spaced (gt ns i)=Vbiraa.printReach ns (Vbiraa.reachAt ns i):=rfl
theorem uC {ns:Vbiraa.Net} (hw:WF ns) {i:Nat} (hi:i < ns.length):(Vbiraa.reachAt ns i).name.length≤8:=by
  refine hw.nlen _ ?_
  exact List.mem_of_getElem? (gH hi)
theorem wv {ns:Vbiraa.Net} (hw:WF ns) {i:Nat} (hi:i < ns.length):(eF ns i).length≤8:=by
  unfold eF
  cases e:(Vbiraa.reachAt ns i).parent with
  | none=>show 6≤8; decide
  | some p =>
    have:=hw.par i p hi e
    exact uC hw (by omega)
theorem ow {ns:Vbiraa.Net} (hw:WF ns) {i:Nat} (hi:i < ns.length):((gt ns i).map List.length).sum≤100:=by
  obtain ⟨n1,n2,n3,n4,n5,n6⟩:=hw.num i hi
  have a1:=ff (n:=(Vbiraa.reachAt ns i).delay) (by omega)
  have a2:=ff (n:=(Vbiraa.reachAt ns i).loss) (by omega)
  have a3:=ff (n:=(Vbiraa.reachAt ns i).soak) (by omega)
  have a4:=ff (n:=(Vbiraa.reachAt ns i).cap) (by omega)
  have a5:=ff (n:=(Vbiraa.reachAt ns i).gate) (by omega)
  have a6:=uC hw hi
  have a7:=wv hw hi
  show 5 + ((Vbiraa.reachAt ns i).name.length + (4 + ((eF ns i).length + (5 + ((Vbiraa.digits (Vbiraa.reachAt ns i).delay).length + (4 + ((Vbiraa.digits (Vbiraa.reachAt ns i).loss).length + (4 + ((Vbiraa.digits (Vbiraa.reachAt ns i).soak).length + (3 + ((Vbiraa.digits (Vbiraa.reachAt ns i).cap).length + (4 + ((Vbiraa.digits (Vbiraa.reachAt ns i).gate).length + 0)))))))))))))≤100
  omega
theorem mv:∀ ws:List (List Nat),(Vbiraa.spaced ws).length≤(ws.map List.length).sum + ws.length
  | []=>Nat.le_refl _
  | [w]=>by
    show w.length≤(w.length + 0) + 1
    omega
  | w :: v :: r=>by
    have:=mv (v :: r)
    show (w++(32 :: Vbiraa.spaced (v :: r))).length≤_
    rw [List.length_append,List.length_cons,List.map_cons,List.sum_cons,List.length_cons]
    omega
theorem oH {ns:Vbiraa.Net} (hw:WF ns) {i:Nat} (hi:i < ns.length):(Vbiraa.printReach ns (Vbiraa.reachAt ns i)).length≤114:=by
  rw [←jO]
  have:=mv (gt ns i)
  have:=ow hw hi
  have:(gt ns i).length=14:=rfl
  omega
def fb (ns:Vbiraa.Net):List (List Nat):=(List.range ns.length).map fun i=>Vbiraa.printReach ns (Vbiraa.reachAt ns i)++[10]
theorem lI (ns:Vbiraa.Net):(fb ns).flatten=Vbiraa.printNet ns:=by
  have e:ns=(List.range ns.length).map (Vbiraa.reachAt ns):=by
    refine List.ext_getElem? fun k=>?_
    by_cases hk:k < ns.length
    · rw [List.getElem?_map,List.getElem?_range hk,gH hk]
      rfl
    · rw [List.getElem?_eq_none (by omega),List.getElem?_eq_none (by rw [List.length_map,List.length_range]; omega)]
  unfold fb Vbiraa.printNet
  rw [←List.flatMap_def]
  conv=>rhs; arg 2; rw [e]
  rw [List.flatMap_map]
theorem nh {ns:Vbiraa.Net} (hw:WF ns):((fb ns).map List.length).sum≤115 * ns.length:=by
  unfold fb
  rw [List.map_map]
  have key:∀ n,n≤ns.length→((List.range n).map (List.length ∘ fun i=>Vbiraa.printReach ns (Vbiraa.reachAt ns i)++[10])).sum≤115 * n:=by
    intro n
    induction n with
    | zero=>intro _; exact Nat.le_refl _
    | succ n ih =>
      intro hn
      rw [List.range_succ,List.map_append,List.sum_append]
      have h1:=ih (by omega)
      have h2:=oH hw (show n < ns.length by omega)
      have h3:([n].map (List.length ∘ fun i=>Vbiraa.printReach ns (Vbiraa.reachAt ns i)++[10])).sum=(Vbiraa.printReach ns (Vbiraa.reachAt ns n)).length + 1:=by
        show (Vbiraa.printReach ns (Vbiraa.reachAt ns n)++[10]).length + 0=_
        rw [List.length_append]
        rfl
      omega
  exact key _ (Nat.le_refl _)
theorem uB {ns:Vbiraa.Net} (hw:WF ns):(Vbiraa.printNet ns).length≤3450:=by
  rw [←lI,List.length_flatten]
  have:=nh hw
  have:=hw.len
  omega
section
variable {g:TG} {te:TE} {vs:List Nat} {σ:L2.St} {H1:Hp} {D:Addr} {Qd:Hp→Prop}
theorem rJ {x:Str} (ys:List V) (hl:ys.length=x.cps.size) (hD:H1 D=none) (hz:x.cps.size < sizeLine)
    (hs:∀ (i:Nat) (c:Nat) (y:V) (H:Hp),x.cps[i]?=some c→ys[i]?=some y→Same H1 H→∀ Q:VK,(∀ H',Same H H'→Q y H')→g (.str ⟨#[c]⟩) (wipe σ vs) H fun σ2 H2=>wipe σ2 vs=wipe σ vs∧te σ2 H2 Q)
    (hd:∀ H,Same H1 H→H D=some (.lst ys)→Qd H) :
    ∃ W:Nat→Nat→Hp→Prop,(∃ m,W 0 m (upd H1 D (.lst [])))∧∀ i m H,W i m H →
      ((Its x).stop i H∧Qd H)∨((Its x).go i H∧∃ Nx:Hp→Prop,(∀ H',Nx H'→∃ m',m' < m∧W (i + 1) m' H')∧∀ v H',(Its x).yld i H v H'→g v (wipe σ vs) H' fun σ2 H2=>wipe σ2 vs=wipe σ vs∧tYes σ2 H2 fun b H3 =>
        if b=true then te σ2 H3 fun y H4=>∃ acc,H4 D=some (.lst acc)∧acc.length < sizeLine∧Nx (upd H4 D (.lst (acc++[y]))) else Nx H3):=by
  refine ⟨fun i m H=>m=x.cps.size - i∧i≤x.cps.size∧Same H1 H∧H D=some (.lst (ys.take i)),⟨x.cps.size,by simp,Nat.zero_le _,ah hD,ac⟩,?_⟩
  rintro i m H ⟨rfl,hi,sm,hH⟩
  by_cases hlt:i < x.cps.size
  · refine .inr ⟨hlt,fun H=>Same H1 H∧H D=some (.lst (ys.take (i + 1))),fun H' p'=>⟨x.cps.size - (i + 1),by omega,rfl,hlt,p'⟩,fun v H' y=>?_⟩
    obtain ⟨e1,c,e2,e3⟩:=y
    subst e1 e3
    obtain ⟨r,hr⟩:∃ r,ys[i]?=some r:=⟨_,List.getElem?_eq_getElem (by omega)⟩
    simp only [tYes,if_true]
    exact hs i c r _ e2 hr sm _ fun H' s2=>kg hD (by omega) sm hH hr s2
  · have e:i=x.cps.size:=by omega
    subst e
    rw [←hl,List.take_length] at hH
    exact .inl ⟨Nat.le_refl _,hd H sm hH⟩
end
def qc:List Int→List Int→Option Vbiraa.Call
  | [],_=>some .print
  | _,_=>none
theorem nB {a b:List Int} {c:Vbiraa.Call} (h:qc a b=some c):a=[]∧c=.print:=by
  unfold qc at h
  split at h
  · cases h
    exact ⟨rfl,rfl⟩
  · cases h
section
variable {P:Program} {w:World} {K:PySem.W.Frag} {mg:Str→Option Value} {base:Heap}
def spLine (C:Addr):Sp:=fun vs H Q _=>∃ (l:Addr) (ns:Vbiraa.Net) (i:Nat),vs=[.ref l,.int (i:Nat)]∧RsAt C H l ns∧WF ns∧i < ns.length∧∀ H',Same H H'→Q (.str (sOf (Vbiraa.printReach ns (Vbiraa.reachAt ns i)++[10]))) H'
theorem tq (T:Txt K mg):FnOk P w K mg base CX0 1 T.line_of.f T.line_of.fd ["reaches", "i"] (spLine T.a_Reach):=by
  refine T.line_of.F.ok eK (fun vs H Q E h=>?_) (fun cdv A outer s H vs Q E hr h=>?_)
  · obtain ⟨l,ns,i,rfl,_⟩:=h
    rfl
  · obtain ⟨l,ns,i,rfl,R,hwf,hi,k⟩:=h
    refine ⟨_,(ae (aw (i:=2) eK.nd rfl (by first | exact Or.inl rfl | exact Or.inr rfl) (ay (ak (K:=K)) (pv 0) (pv 1) (fun _ _=>rfl)))
      (ae (aw (i:=3) eK.nd rfl (by first | exact Or.inl rfl | exact Or.inr rfl) bW)
      (ae (aU (aM j5 (am (K:=K) (pv 2) rfl) (a8 T.c_SOURCE) (aP _))
      (ag (aw (i:=3) eK.nd rfl (by first | exact Or.inl rfl | exact Or.inr rfl) (am (K:=K) (ay (ak (K:=K)) (pv 0) (am (K:=K) (pv 2) rfl) (fun _ _=>rfl)) rfl)))
      aI)
      (ae (aw (i:=4) eK.nd rfl (by first | exact Or.inl rfl | exact Or.inr rfl) (aE (aa bW (aa (am (K:=K) (pv 2) rfl) (aa bW (aa (pv 3) (aa bW (aa (cJ dB (by rfl) T.n_str gq (aa (am (K:=K) (pv 2) rfl) ad)) (aa bW (aa (cJ dB (by rfl) T.n_str gq (aa (am (K:=K) (pv 2) rfl) ad)) ad))))))))))
      (ae (bU (fo PySem.F.plainAttrs_list PySem.F.slot_list_extend PySem.F.type_list_extend gl (pv 4) (aa (aE (aa bW (aa (cJ dB (by rfl) T.n_str gq (aa (am (K:=K) (pv 2) rfl) ad)) (aa bW (aa (cJ dB (by rfl) T.n_str gq (aa (am (K:=K) (pv 2) rfl) ad)) (aa bW (aa (cJ dB (by rfl) T.n_str gq (aa (am (K:=K) (pv 2) rfl) ad)) ad))))))) ad)))
      (ag (au (aG mR (uy bW (pv 4)) bW)))))))),?_⟩
    obtain ⟨xs,a,dx,h1,h2,h3,ha⟩:=R.at_ hi
    obtain ⟨n1,n2,n3,n4,n5,n6⟩:=hwf.num i hi
    refine ⟨_,rfl,_,rfl,l,_,_,_,rfl,rfl,SqL.of h1,aX h3,?_⟩
    with_reducible refine kE ?_
    refine gx (fun σ' H2=>H2=H∧σ'=[some (.ref l),some (.int (i:Nat)),some (.ref a),some (.str (sOf (Vbiraa.text "source"))),none]) (fun Nx hN=>hN _ _ ⟨rfl,?_⟩) ?_
    · show [_,_,_,some (V.str (Str.ofString "source")),_]=_
      rw [ofS]
    rintro σ' H2 ⟨rfl,rfl⟩
    refine gx (fun σ' H3=>H3=H2∧σ'=[some (.ref l),some (.int (i:Nat)),some (.ref a),some (.str (sOf (eF ns i))),none]) (fun Nx hN=>?_) ?_
    · refine ⟨_,rfl,a,T.a_Reach,dx,_,_,rfl,ha,T.cl_Reach,T.na_Reach_begins,cU,rfl,_,rfl,?_⟩
      cases ep:(Vbiraa.reachAt ns i).parent with
      | none =>
        refine iteF (hN _ _ ⟨rfl,?_⟩)
        unfold eF
        rw [ep]
      | some p =>
        have hp:=hwf.par i p hi ep
        have e:(!decide (V.int (pInt (some p))=V.int (-1)))=true:=by
          rw [Bool.not_eq_true',decide_eq_false_iff_not]
          intro z
          have z:((p:Nat):Int)=-1:=V.int.inj z
          omega
        rw [e]
        obtain ⟨xs',b,db,g1,g2,g3,hb⟩:=R.at_ (show p < ns.length by omega)
        have lb:(rf ns i).lookup ("begins" : Str)=some (.int (p:Nat)):=by
          unfold rf
          rw [ep]
          exact cU
        refine iteT ⟨_,rfl,_,rfl,a,T.a_Reach,dx,_,_,rfl,ha,T.cl_Reach,T.na_Reach_begins,lb,l,_,_,_,rfl,rfl,SqL.of g1,aX g3,b,T.a_Reach,db,_,_,rfl,hb,T.cl_Reach,T.na_Reach_name,nq,hN _ _ ⟨rfl,?_⟩⟩
        unfold eF
        rw [ep]
        rfl
    rintro σ' H3 ⟨rfl,rfl⟩
    refine ⟨_,rfl,a,T.a_Reach,dx,_,_,rfl,ha,T.cl_Reach,T.na_Reach_name,nq,_,rfl,_,rfl,a,T.a_Reach,dx,_,_,rfl,ha,T.cl_Reach,T.na_Reach_delay,kh,_,rfl,na (by omega),_,rfl,a,T.a_Reach,dx,_,_,rfl,ha,T.cl_Reach,T.na_Reach_loss,pW,_,rfl,na (by omega),(by show 8≤sizeLine; decide),fun wp hwp=>?_⟩
    have e1:([V.str (Str.ofString "reach"),V.str (sOf (Vbiraa.reachAt ns i).name),V.str (Str.ofString "from"),V.str (sOf (eF ns i)),V.str (Str.ofString "delay"),V.str (Str.ofString (toString ((Vbiraa.reachAt ns i).delay:Int))),V.str (Str.ofString "loss"),V.str (Str.ofString (toString ((Vbiraa.reachAt ns i).loss:Int)))]:List V)=b0 [Vbiraa.text "reach",(Vbiraa.reachAt ns i).name,Vbiraa.text "from",eF ns i,Vbiraa.text "delay",Vbiraa.digits (Vbiraa.reachAt ns i).delay,Vbiraa.text "loss",Vbiraa.digits (Vbiraa.reachAt ns i).loss]:=by
      rw [rk,rk,ofS,ofS,ofS,ofS]
      rfl
    have s1:=ah (o:=.lst [V.str (Str.ofString "reach"),V.str (sOf (Vbiraa.reachAt ns i).name),V.str (Str.ofString "from"),V.str (sOf (eF ns i)),V.str (Str.ofString "delay"),V.str (Str.ofString (toString ((Vbiraa.reachAt ns i).delay:Int))),V.str (Str.ofString "loss"),V.str (Str.ofString (toString ((Vbiraa.reachAt ns i).loss:Int)))]) hwp
    have ha1:=s1 _ _ ha
    refine ⟨_,rfl,.inl ⟨rfl,_,SqL.of ac⟩,_,rfl,a,T.a_Reach,dx,_,_,rfl,ha1,T.cl_Reach,T.na_Reach_soak,pV,_,rfl,na (by omega),_,rfl,a,T.a_Reach,dx,_,_,rfl,ha1,T.cl_Reach,T.na_Reach_cap,uJ,_,rfl,na (by omega),_,rfl,a,T.a_Reach,dx,_,_,rfl,ha1,T.cl_Reach,T.na_Reach_gate,nr,_,rfl,na (by omega),(by show 6≤sizeLine; decide),fun ep hep=>?_⟩
    have e2:([V.str (Str.ofString "soak"),V.str (Str.ofString (toString ((Vbiraa.reachAt ns i).soak:Int))),V.str (Str.ofString "cap"),V.str (Str.ofString (toString ((Vbiraa.reachAt ns i).cap:Int))),V.str (Str.ofString "gate"),V.str (Str.ofString (toString ((Vbiraa.reachAt ns i).gate:Int)))]:List V)=b0 [Vbiraa.text "soak",Vbiraa.digits (Vbiraa.reachAt ns i).soak,Vbiraa.text "cap",Vbiraa.digits (Vbiraa.reachAt ns i).cap,Vbiraa.text "gate",Vbiraa.digits (Vbiraa.reachAt ns i).gate]:=by
      rw [rk,rk,rk,ofS,ofS,ofS]
      rfl
    have s2:=ah (o:=.lst [V.str (Str.ofString "soak"),V.str (Str.ofString (toString ((Vbiraa.reachAt ns i).soak:Int))),V.str (Str.ofString "cap"),V.str (Str.ofString (toString ((Vbiraa.reachAt ns i).cap:Int))),V.str (Str.ofString "gate"),V.str (Str.ofString (toString ((Vbiraa.reachAt ns i).gate:Int)))]) hep
    refine ⟨wp,ep,_,_,rfl,rfl,s2 _ _ ac,ac,(by show 14≤sizeLine; decide),?_⟩
    have hw14:=ow hwf hi
    have hq:∀ {H9:Hp},(upd H9 wp (.lst ([V.str (Str.ofString "reach"),V.str (sOf (Vbiraa.reachAt ns i).name),V.str (Str.ofString "from"),V.str (sOf (eF ns i)),V.str (Str.ofString "delay"),V.str (Str.ofString (toString ((Vbiraa.reachAt ns i).delay:Int))),V.str (Str.ofString "loss"),V.str (Str.ofString (toString ((Vbiraa.reachAt ns i).loss:Int)))]++[V.str (Str.ofString "soak"),V.str (Str.ofString (toString ((Vbiraa.reachAt ns i).soak:Int))),V.str (Str.ofString "cap"),V.str (Str.ofString (toString ((Vbiraa.reachAt ns i).cap:Int))),V.str (Str.ofString "gate"),V.str (Str.ofString (toString ((Vbiraa.reachAt ns i).gate:Int)))]))) wp=some (.lst (((gt ns i).map sOf).map V.str)):=by
      intro H9
      rw [ac,e1,e2,←oC,List.map_map]
      rfl
    have lsum:(((gt ns i).map sOf).map (·.length)).sum=((gt ns i).map List.length).sum:=by
      rw [List.map_map]
      rfl
    have esp:Str.ofString " " = sOf [32]:=by
      rw [ofS]
      rfl
    have enl:Str.ofString "\n" = sOf [10]:=by
      rw [ofS]
      rfl
    have ej:Txt.join (Str.ofString " ") ((gt ns i).map sOf)=sOf (Vbiraa.printReach ns (Vbiraa.reachAt ns i)):=by
      rw [TL.uN,esp,uL,jO]
    refine ⟨⟨_,rfl⟩,_,rfl,_,wp,(gt ns i).map sOf,rfl,rfl,.inl (SqL.of hq),?_,_,_,rfl,rfl,?_,?_⟩
    · rw [lsum,List.length_map]
      show _ + 14 * 1≤16777216
      omega
    · rw [ej,enl,cH,cH]
      have:=oH hwf hi
      exact Nat.le_of_lt (aO (by show _ + 1 < 1000000; omega))
    · rw [ej,enl,iR]
      exact k _ (aQ (s1.trans s2) hwp)
def spText (C:Addr):Sp:=fun vs H Q _=>∃ (l:Addr) (ns:Vbiraa.Net),vs=[.ref l]∧RsAt C H l ns∧WF ns∧NewL H Q (ao (Vbiraa.printNet ns))
theorem tf (T:Txt K mg):FnOk P w K mg base CX0 2 T.text_of.f T.text_of.fd ["reaches"] (spText T.a_Reach):=by
  refine T.text_of.F.ok dD (fun vs H Q E h=>?_) (fun cdv A outer s H vs Q E hr h=>?_)
  · obtain ⟨l,ns,rfl,_⟩:=h
    rfl
  · obtain ⟨l,ns,rfl,R,hwf,k⟩:=h
    refine ⟨_,(ae (aw (i:=1) dD.nd rfl (by first | exact Or.inl rfl | exact Or.inr rfl) (uy bW (gg (own:=[("i",2)]) rfl dD.nd (cI rfl T.n_range (aa (aF (ax (K:=K)) (by rfl) T.n_len PySem.boot_len (aa (pv 0) ad)) ad)) (bh (N:=["reaches", "text", "i", "sign"]) (sc:=aj ge) (by decide +kernel)) (fun _ _ _ _ _=>(aJ (i:=2) dD.nd rfl (by first | exact Or.inl rfl | exact Or.inr rfl))) (fun _ _ _ _ _=>bI) (fun _ _ _ _ _=>(aD T.line_of (tq T) (hr.mono (by decide)) wk (aa (pv 0) (aa (pv 2) ad)))))))
      (ag (au (gg (own:=[("sign",3)]) rfl dD.nd (pi_str (pv 1)) (bh (N:=["reaches", "text", "i", "sign"]) (sc:=aj ge) (by decide +kernel)) (fun _ _ _ _ _=>(aJ (i:=3) dD.nd rfl (by first | exact Or.inl rfl | exact Or.inr rfl))) (fun _ _ _ _ _=>bI) (fun _ _ _ _ _=>(aF x6 (by rfl) T.n_ord wc (aa (pv 3) ad))))))),?_⟩
    have hn:=hwf.len
    obtain ⟨xs,h1,h2,h3⟩:=R.list
    refine ⟨⟨_,rfl⟩,_,rfl,l,_,rfl,.inl (SqL.of h1),_,rfl,by omega,by omega,fun D hD=>?_⟩
    rw [h2]
    refine fX (n:=ns.length) (((fb ns).map sOf).map V.str) (by unfold fb; rw [List.length_map,List.length_map,List.length_map,List.length_range]) hD (aO (by omega)) ?_ ?_
    · rintro i y H2 hi hy s2 Q' kq
      have hy:V.str (sOf (Vbiraa.printReach ns (Vbiraa.reachAt ns i)++[10]))=y:=by
        unfold fb at hy
        rw [List.getElem?_map,List.getElem?_map,List.getElem?_map,List.getElem?_range hi] at hy
        exact Option.some.inj hy
      subst hy
      refine ⟨rfl,_,rfl,_,rfl,l,ns,i,?_,R.same s2,hwf,hi,fun H3 s3=>kq H3 s3⟩
      rw [Int.zero_add]
      rfl
    · rintro H2 s2 hD2
      have en:Str.ofString "" = sOf []:=by
        rw [ofS]
        rfl
      have hsum:=nh hwf
      have lsum:(((fb ns).map sOf).map (·.length)).sum=((fb ns).map List.length).sum:=by
        rw [List.map_map]
        rfl
      have ej:Txt.join (Str.ofString "") ((fb ns).map sOf)=sOf (Vbiraa.printNet ns):=by
        rw [TL.uN,en,uM,lI]
      refine ⟨_,D,(fb ns).map sOf,rfl,rfl,.inl (SqL.of hD2),?_,?_⟩
      · rw [lsum,en,cH]
        show _ + _ * 0≤16777216
        omega
      rw [ej]
      have hl:=uB hwf
      refine ⟨_,rfl,_,rfl,fun D2 hD3=>?_⟩
      refine rJ (x:=sOf (Vbiraa.printNet ns)) (ao (Vbiraa.printNet ns)) (by rw [aB]; rfl) hD3 (aO (by show (Vbiraa.printNet ns).length < 1000000; omega)) ?_ ?_
      · rintro i c y H3 hc hy s3 Q' kq
        obtain ⟨d,hd,rfl⟩:=aW hy
        have hc:(Vbiraa.printNet ns)[i]?=some c:=by
          have:(sOf (Vbiraa.printNet ns)).cps[i]?=some c:=hc
          unfold sOf at this
          rw [List.getElem?_toArray] at this
          exact this
        rw [hd] at hc
        have hc:=Option.some.inj hc
        subst hc
        exact ⟨rfl,_,rfl,_,rfl,rfl,kq _ (Same.refl _)⟩
      · rintro H3 s3 hD4
        exact k H3 D2 (s2.trans s3) (s2.free hD3) hD4
theorem im (T:Txt K mg):FnOk P w K mg base CX0 3 T.answer_print_text.f T.answer_print_text.fd ["net", "numbers", "row"] (spFn T.a_Reach T.a_Net qc):=by
  refine T.answer_print_text.F.ok dU (fun vs H Q E h=>?_) (fun cdv A outer s H vs Q E hr h=>?_)
  · obtain ⟨n,nl,rl,dn,l,wl,sl,h,nums,rs,c,rfl,_⟩:=h
    rfl
  · obtain ⟨n,nl,rl,dn,l,wl,sl,h,nums,rs,c,rfl,N,hI,hne0,hnl,hrl,hrw,hrs,hC,k⟩:=h
    refine ⟨_,(ae (aw (i:=3) dU.nd rfl (by first | exact Or.inl rfl | exact Or.inr rfl) (aD T.text_of (tf T) (hr.mono (by decide)) we (aa (am (K:=K) (pv 0) rfl) ad)))
      (ag (au (aG dw (aE (aa af (aa (aF (ax (K:=K)) (by rfl) T.n_len PySem.boot_len (aa (pv 3) ad)) ad))) (pv 3))))),?_⟩
    obtain ⟨rfl,rfl⟩:=nB hC
    have hne:=hne0 rfl
    have hs:Vbiraa.step h .print=(h,0 :: Vbiraa.bytesRow (Vbiraa.printNet h.net)):=by
      rw [Vbiraa.step,bn hne]
    rw [hs] at k
    have hl:=uB hI.wf
    refine ⟨_,rfl,n,T.a_Net,dn,_,_,rfl,N.obj,T.cl_Net,T.na_Net_reaches,aH,l,h.net,rfl,N.rs,hI.wf,fun H1 ep s1 hep hep1=>?_⟩
    refine ⟨_,rfl,ep,_,rfl,.inl (SqL.of hep1),(by show 2≤sizeLine; decide),fun z hz=>?_⟩
    have s2:=ah (o:=.lst [.int 0,.int ((ao (Vbiraa.printNet h.net)).length:Int)]) hz
    refine ⟨_,rfl,z,ep,_,_,rfl,rfl,ac,s2 _ _ hep1,?_,fun p hp=>?_⟩
    · rw [aB]
      show 2 + (Vbiraa.printNet h.net).length≤sizeLine
      exact Nat.le_of_lt (aO (by omega))
    have s3:=ah (o:=.lst ([.int 0,.int ((ao (Vbiraa.printNet h.net)).length:Int)]++ao (Vbiraa.printNet h.net))) hp
    refine k.new N ((s1.trans s2).trans s3) (s1.free (s2.free hp)) (ac.trans ?_)
    rw [aB,show ao (Vbiraa.printNet h.net)=aS (Vbiraa.nums (Vbiraa.printNet h.net)) by unfold aS Vbiraa.nums; rw [et]]
    rfl
end
end CN
namespace CN
open Vbiraa (Net Reach House Setting)
theorem ie:∀ (l:List (List Nat)) (i:Nat) (ns:Net) {x:Net},WF ns→Vbiraa.readFrom i ns l=.ok x→WF x
  | [],i,ns,x,hw,h=>by
    unfold Vbiraa.readFrom at h
    split at h
    · cases h
    · cases h
      exact hw
  | a :: l,i,ns,x,hw,h=>by
    unfold Vbiraa.readFrom at h
    split at h
    · exact ie l _ _ hw h
    · split at h
      · rename_i y hy
        exact ie l _ _ (oQ hw hy).1 h
      · cases h
theorem bm (h:House) (f:Net→House × Vbiraa.Ans) (hf:HInv h→HInv (f h.net).1) (hI:HInv h):HInv (Vbiraa.onNet h f).1:=by
  unfold Vbiraa.onNet
  split
  · exact hI
  · exact hf hI
theorem vP {h:House} (hI:HInv h) (c:Vbiraa.Call):HInv (Vbiraa.step h c).1:=by
  cases c with
  | net t =>
    rw [Vbiraa.step]
    cases e:Vbiraa.readNet t with
    | error i=>exact hI
    | ok ns=>exact xP (ie _ _ _ sw e)
  | let_ t l =>
    rw [Vbiraa.step]
    refine bm h _ (fun hI=>?_) hI
    show HInv (if _ then _ else _:House × Vbiraa.Ans).1
    split
    · exact hI
    · rename_i c
      rw [Bool.not_eq_false,Bool.and_eq_true,Bool.and_eq_true] at c
      refine xQ hI fun x hx=>?_
      obtain ⟨z,hz,rfl⟩:=List.mem_map.mp hx
      have:=List.all_eq_true.mp c.2.2 z hz
      unfold Vbiraa.within at this
      rw [Bool.and_eq_true,decide_eq_true_eq,decide_eq_true_eq] at this
      have h2:z≤(1000000:Int):=this.2
      omega
  | gate i t p =>
    rw [Vbiraa.step]
    refine bm h _ (fun hI=>?_) hI
    show HInv (if _ then _ else _:House × Vbiraa.Ans).1
    split
    · exact hI
    · rename_i c
      rw [Bool.not_eq_false,Bool.and_eq_true,Bool.and_eq_true] at c
      obtain ⟨c1,c2,c3⟩:=c
      unfold Vbiraa.isReach Vbiraa.within at c1
      unfold Vbiraa.isTick Vbiraa.within at c2
      unfold Vbiraa.within at c3
      rw [Bool.and_eq_true,decide_eq_true_eq,decide_eq_true_eq] at c1 c2 c3
      have c2b:t≤(60:Int) - 1:=c2.2
      show HInv (if _ then _ else _:House × Vbiraa.Ans).1
      split
      · exact hI
      · rename_i d
        show HInv (if _ then _ else _:House × Vbiraa.Ans).1
        split
        · exact hI
        · rename_i e
          have e:h.settings.length < 60:=Nat.lt_of_not_le e
          have s1:i.toNat < h.net.length:=by omega
          have s2:t.toNat < 60:=by omega
          have s3:p.toNat≤100:=by omega
          refine vQ (s:={ reach:=i.toNat,tick:=t.toNat,part:=p.toNat }) hI s1 s2 s3 e ?_
          rw [Bool.not_eq_false] at d
          rw [nu] at d
          · exact d
          · intro q hq
            have hq:q∈h.settings++[{ reach:=i.toNat,tick:=t.toNat,part:=p.toNat }]:=hq
            rcases List.mem_append.mp hq with hq | hq
            · exact (hI.sets q hq).2.1
            · rw [List.mem_singleton.mp hq]
              exact s2
  | flow i t=>rw [Vbiraa.step]; refine bm h _ (fun hI=>?_) hI; show HInv (if _ then _ else _:House × Vbiraa.Ans).1; split <;> exact hI
  | comes i t n=>rw [Vbiraa.step]; refine bm h _ (fun hI=>?_) hI; show HInv (if _ then _ else _:House × Vbiraa.Ans).1; split <;> exact hI
  | account t=>rw [Vbiraa.step]; refine bm h _ (fun hI=>?_) hI; show HInv (if _ then _ else _:House × Vbiraa.Ans).1; split <;> exact hI
  | accounts=>rw [Vbiraa.step]; exact bm h _ (fun hI=>hI) hI
  | way i=>rw [Vbiraa.step]; refine bm h _ (fun hI=>?_) hI; show HInv (if _ then _ else _:House × Vbiraa.Ans).1; split <;> exact hI
  | need i t x=>rw [Vbiraa.step]; refine bm h _ (fun hI=>?_) hI; show HInv (if _ then _ else _:House × Vbiraa.Ans).1; split; exact hI; cases Vbiraa.need h i.toNat t.toNat (Vbiraa.whole x.toNat) <;> exact hI
  | most i t=>rw [Vbiraa.step]; refine bm h _ (fun hI=>?_) hI; show HInv (if _ then _ else _:House × Vbiraa.Ans).1; split <;> exact hI
  | wants l=>rw [Vbiraa.step]; refine bm h _ (fun hI=>?_) hI; show HInv (if _ then _ else _:House × Vbiraa.Ans).1; split; exact hI; cases Vbiraa.wants h.net (Vbiraa.askOf h.net (l.map Int.toNat)) <;> exact hI
  | set_ l=>rw [Vbiraa.step]; refine bm h _ (fun hI=>?_) hI; show HInv (if _ then _ else _:House × Vbiraa.Ans).1; split; exact hI; cases Vbiraa.wants h.net (Vbiraa.askOf h.net (l.map Int.toNat)) <;> exact hI
  | part i t=>rw [Vbiraa.step]; refine bm h _ (fun hI=>?_) hI; show HInv (if _ then _ else _:House × Vbiraa.Ans).1; split <;> exact hI
  | spills=>rw [Vbiraa.step]; exact bm h _ (fun hI=>hI) hI
  | ifCap i c=>rw [Vbiraa.step]; refine bm h _ (fun hI=>?_) hI; show HInv (if _ then _ else _:House × Vbiraa.Ans).1; split <;> exact hI
  | ends=>rw [Vbiraa.step]; exact bm h _ (fun hI=>hI) hI
  | print=>rw [Vbiraa.step]; exact bm h _ (fun hI=>hI) hI
  | counts=>rw [Vbiraa.step]; exact bm h _ (fun hI=>hI) hI
def HOWM:List Nat:=[0,1,3,2,3,1,0,1,3,2,0,0,2,0,2,0,0,0]
def HASR:List Nat:=[1,1,0,0,0,0,0,0,0,0,1,1,0,0,0,0,0,0]
theorem wS {p:Int} {n k:Nat} (h:PyVbiraa.shape p=some (n,k)):∃ j:Nat,p=(j:Int)∧j < 18∧HOWM[j]?=some n∧HASR[j]?=some k:=by
  unfold PyVbiraa.shape at h
  by_cases c:0≤p∧p < 18
  · obtain ⟨j,rfl⟩:∃ j:Nat,p=(j:Int):=⟨p.toNat,by omega⟩
    have hj:j < 18:=by omega
    refine ⟨j,rfl,hj,?_⟩
    clear c
    have all:∀ j:Nat,j < 18→PyVbiraa.shape (j:Int)=some (n,k)→HOWM[j]?=some n∧HASR[j]?=some k:=by
      intro j hj hs
      match j,hj,hs with
      | 0,_,hs=>cases hs; exact ⟨rfl,rfl⟩
      | 1,_,hs=>cases hs; exact ⟨rfl,rfl⟩
      | 2,_,hs=>cases hs; exact ⟨rfl,rfl⟩
      | 3,_,hs=>cases hs; exact ⟨rfl,rfl⟩
      | 4,_,hs=>cases hs; exact ⟨rfl,rfl⟩
      | 5,_,hs=>cases hs; exact ⟨rfl,rfl⟩
      | 6,_,hs=>cases hs; exact ⟨rfl,rfl⟩
      | 7,_,hs=>cases hs; exact ⟨rfl,rfl⟩
      | 8,_,hs=>cases hs; exact ⟨rfl,rfl⟩
      | 9,_,hs=>cases hs; exact ⟨rfl,rfl⟩
      | 10,_,hs=>cases hs; exact ⟨rfl,rfl⟩
      | 11,_,hs=>cases hs; exact ⟨rfl,rfl⟩
      | 12,_,hs=>cases hs; exact ⟨rfl,rfl⟩
      | 13,_,hs=>cases hs; exact ⟨rfl,rfl⟩
      | 14,_,hs=>cases hs; exact ⟨rfl,rfl⟩
      | 15,_,hs=>cases hs; exact ⟨rfl,rfl⟩
      | 16,_,hs=>cases hs; exact ⟨rfl,rfl⟩
      | 17,_,hs=>cases hs; exact ⟨rfl,rfl⟩
      | j + 18,hj,_=>omega
    exact all j hj h
  · exfalso
    have ne:∀ z:Int,0≤z→z < 18→¬ p=z:=fun z a b e=>c ⟨by omega,by omega⟩
    rw [if_neg (ne 0 (by decide) (by decide)),if_neg (ne 1 (by decide) (by decide)),if_neg (ne 2 (by decide) (by decide)),if_neg (ne 3 (by decide) (by decide)),if_neg (ne 4 (by decide) (by decide)),if_neg (ne 5 (by decide) (by decide)),if_neg (ne 6 (by decide) (by decide)),if_neg (ne 7 (by decide) (by decide)),if_neg (ne 8 (by decide) (by decide)),if_neg (ne 9 (by decide) (by decide)),if_neg (ne 10 (by decide) (by decide)),if_neg (ne 11 (by decide) (by decide)),if_neg (ne 12 (by decide) (by decide)),if_neg (ne 13 (by decide) (by decide)),if_neg (ne 14 (by decide) (by decide)),if_neg (ne 15 (by decide) (by decide)),if_neg (ne 16 (by decide) (by decide)),if_neg (ne 17 (by decide) (by decide))] at h
    cases h
theorem tZ {f:Nat} {p:Int} {r:List Int} {cs:List (List (List Int))} (h:PyFlat.calls PyVbiraa.shape f (p :: r)=some cs) :
    ∃ (j n k f':Nat) (xs:List (List Int)) (t:List Int) (cs':List (List (List Int))),p=(j:Int)∧j < 18∧HOWM[j]?=some n∧HASR[j]?=some k∧n≤r.length∧cs=((p :: r.take n) :: xs) :: cs'∧PyFlat.calls PyVbiraa.shape f' t=some cs' ∧
      ((k=0∧xs=[]∧t=r.drop n)∨(k=1∧∃ (m:Nat) (s:List Int),r.drop n=(m:Int) :: s∧m≤s.length∧xs=[s.take m]∧t=s.drop m)):=by
  cases f with
  | zero=>cases h
  | succ f =>
    rw [PyFlat.calls] at h
    cases e:PyFlat.call PyVbiraa.shape (p :: r) with
    | none=>rw [e] at h; cases h
    | some ct =>
    obtain ⟨c,t⟩:=ct
    rw [e] at h
    cases e2:PyFlat.calls PyVbiraa.shape f t with
    | none=>simp only [e2] at h; cases h
    | some cs' =>
    simp only [e2] at h
    cases h
    rw [PyFlat.call] at e
    cases e3:PyVbiraa.shape p with
    | none=>rw [e3] at e; cases e
    | some nk =>
    obtain ⟨n,k⟩:=nk
    simp only [e3] at e
    obtain ⟨j,hj,hj18,h1,h2⟩:=wS e3
    by_cases hl:r.length < n
    · rw [if_pos hl] at e
      cases e
    rw [if_neg hl] at e
    have hk:k=0∨k=1:=by
      have:∀ j:Nat,j < 18→∀ k,HASR[j]?=some k→k=0∨k=1:=by decide +revert
      exact this j hj18 k h2
    rcases hk with rfl | rfl
    · rw [PyFlat.rows] at e
      cases e
      exact ⟨j,n,0,f,[],_,cs',hj,hj18,h1,h2,by omega,rfl,e2,.inl ⟨rfl,rfl,rfl⟩⟩
    · rw [PyFlat.rows] at e
      cases e4:r.drop n with
      | nil=>rw [e4] at e; cases e
      | cons m s =>
      rw [e4,PyFlat.row] at e
      by_cases hm:0≤m∧m.toNat≤s.length
      · rw [if_pos hm] at e
        simp only [PyFlat.rows] at e
        cases e
        exact ⟨j,n,1,f,_,_,cs',hj,hj18,h1,h2,by omega,rfl,e2,.inr ⟨rfl,m.toNat,s,by rw [Int.toNat_of_nonneg hm.1]; exact e4,hm.2,rfl,rfl⟩⟩
      · rw [if_neg hm] at e
        cases e
end CN
namespace CN
open PySem PySem.Spec PyProof.Rows L2
def r6:Nat→List Int→List Int→Option Vbiraa.Call
  | 0=>cNet
  | 1=>cLet
  | 2=>u5
  | 3=>u6
  | 4=>qf
  | 5=>ku
  | 6=>iY
  | 7=>cWay
  | 8=>u1
  | 9=>u4
  | 10=>qb
  | 11=>cSet
  | 12=>u0
  | 13=>md
  | 14=>qe
  | 15=>u7
  | 16=>qc
  | 17=>me
  | _=>fun _ _=>none
theorem v0 {j:Nat} {nums rs:List Int} {c:Vbiraa.Call} (h:r6 j nums rs=some c):uP c=decide (j=0):=by
  match j,h with
  | 0,h=>obtain ⟨_,rfl,_⟩:=sd h; rfl
  | 1,h=>obtain ⟨_,_,rfl⟩:=se h; rfl
  | 2,h=>obtain ⟨_,_,_,_,rfl⟩:=o8 h; rfl
  | 3,h=>obtain ⟨_,_,_,rfl⟩:=o9 h; rfl
  | 4,h=>obtain ⟨_,_,_,_,rfl⟩:=nE h; rfl
  | 5,h=>obtain ⟨_,_,rfl⟩:=kt h; rfl
  | 6,h=>obtain ⟨_,rfl⟩:=jg h; rfl
  | 7,h=>obtain ⟨_,_,rfl⟩:=r8 h; rfl
  | 8,h=>obtain ⟨_,_,_,_,rfl⟩:=o6 h; rfl
  | 9,h=>obtain ⟨_,_,_,rfl⟩:=o7 h; rfl
  | 10,h=>obtain ⟨_,rfl⟩:=nA h; rfl
  | 11,h=>obtain ⟨_,rfl⟩:=r9 h; rfl
  | 12,h=>obtain ⟨_,_,_,rfl⟩:=o5 h; rfl
  | 13,h=>obtain ⟨_,rfl⟩:=lN h; rfl
  | 14,h=>obtain ⟨_,_,_,rfl⟩:=nD h; rfl
  | 15,h=>obtain ⟨_,rfl⟩:=pb h; rfl
  | 16,h=>obtain ⟨_,rfl⟩:=nB h; rfl
  | 17,h=>obtain ⟨_,rfl⟩:=lO h; rfl
  | j + 18,h=>cases h
theorem sN {h:Vbiraa.House} {c:Vbiraa.Call} (hc:uP c=false) (he:h.net=[]):Vbiraa.step h c=(h,[-9]):=by
  have on:∀ f:Vbiraa.Net→Vbiraa.House × Vbiraa.Ans,Vbiraa.onNet h f=(h,[-9]):=fun f=>by
    unfold Vbiraa.onNet
    rw [he]
    rfl
  cases c with
  | net t=>cases hc
  | _=>rw [Vbiraa.step]; exact on _
section
variable {P:Program} {w:World} {K:PySem.W.Frag} {mg:Str→Option Value} {base:Heap}
theorem fn_at (T:Txt K mg) {j:Nat} {nums rs:List Int} {c:Vbiraa.Call} (h:r6 j nums rs=some c):∃ (f:Addr) (fd:FuncData),[V.ref T.answer_net.f,V.ref T.answer_let.f,V.ref T.answer_gate.f,V.ref T.answer_flow.f,V.ref T.answer_comes.f,V.ref T.answer_account.f,V.ref T.answer_accounts.f,V.ref T.answer_way.f,V.ref T.answer_need.f,V.ref T.answer_most.f,V.ref T.answer_wants.f,V.ref T.answer_set_gates.f,V.ref T.answer_part.f,V.ref T.answer_spills.f,V.ref T.answer_ifcap.f,V.ref T.answer_ends.f,V.ref T.answer_print_text.f,V.ref T.answer_counts.f][j]?=some (V.ref f)∧FnOk P w K mg base CX0 (8 - 1) f fd ["net", "numbers", "row"] (spFn T.a_Reach T.a_Net (r6 j))∧PySem.W.keepIn K (.ref f)=true∧aK K fd ["net", "numbers", "row"] []:=by
  match j,h with
  | 0,h=>exact ⟨_,_,rfl,(nZ T).mono (by decide),T.answer_net.F.kp,qj⟩
  | 1,h=>exact ⟨_,_,rfl,(n8 T).mono (by decide),T.answer_let.F.kp,qk⟩
  | 2,h=>exact ⟨_,_,rfl,(mY T).mono (by decide),T.answer_gate.F.kp,om⟩
  | 3,h=>exact ⟨_,_,rfl,(mZ T).mono (by decide),T.answer_flow.F.kp,oo⟩
  | 4,h=>exact ⟨_,_,rfl,(lW T).mono (by decide),T.answer_comes.F.kp,nO⟩
  | 5,h=>exact ⟨_,_,rfl,(j9 T).mono (by decide),T.answer_account.F.kp,lu⟩
  | 6,h=>exact ⟨_,_,rfl,(jB T).mono (by decide),T.answer_accounts.F.kp,kC⟩
  | 7,h=>exact ⟨_,_,rfl,(nY T).mono (by decide),T.answer_way.F.kp,qi⟩
  | 8,h=>exact ⟨_,_,rfl,(mW T).mono (by decide),T.answer_need.F.kp,oh⟩
  | 9,h=>exact ⟨_,_,rfl,(mX T).mono (by decide),T.answer_most.F.kp,oj⟩
  | 10,h=>exact ⟨_,_,rfl,(lT T).mono (by decide),T.answer_wants.F.kp,nM⟩
  | 11,h=>exact ⟨_,_,rfl,(i3 T).mono (by decide),T.answer_set_gates.F.kp,jL⟩
  | 12,h=>exact ⟨_,_,rfl,(mV T).mono (by decide),T.answer_part.F.kp,og⟩
  | 13,h=>exact ⟨_,_,rfl,(k6 T).mono (by decide),T.answer_spills.F.kp,lY⟩
  | 14,h=>exact ⟨_,_,rfl,(lU T).mono (by decide),T.answer_ifcap.F.kp,nN⟩
  | 15,h=>exact ⟨_,_,rfl,(m3 T).mono (by decide),T.answer_ends.F.kp,oq⟩
  | 16,h=>exact ⟨_,_,rfl,(im T).mono (by decide),T.answer_print_text.F.kp,i6⟩
  | 17,h=>exact ⟨_,_,rfl,(k7 T).mono (by decide),T.answer_counts.F.kp,lZ⟩
  | j + 18,h=>cases h
def spCall (CR CN:Addr):Sp:=fun vs H Q _=>∃ (n nl rl dn l wl sl:Addr) (h:Vbiraa.House) (j:Nat) (nums rs:List Int) (c:Vbiraa.Call),vs=[.ref n,.int j,.ref nl,.ref rl]∧bB CR CN H n h dn l wl sl∧HInv h∧H nl=some (.lst (aS nums))∧H rl=some (.lst (aS rs))∧rl≠wl∧rs.length≤4000∧r6 j nums rs=some c∧Post CR CN H Q n l wl sl (Vbiraa.step h c)
theorem m4 (T:Txt K mg):FnOk P w K mg base CX0 8 T.answer_call.f T.answer_call.fd ["net", "call", "numbers", "row"] (spCall T.a_Reach T.a_Net):=by
  refine T.answer_call.F.ok h8 (fun vs H Q E h=>?_) (fun cdv A outer s H vs Q E hr h=>?_)
  · obtain ⟨n,nl,rl,dn,l,wl,sl,h,j,nums,rs,c,rfl,_⟩:=h
    rfl
  · obtain ⟨n,nl,rl,dn,l,wl,sl,h,j,nums,rs,c,rfl,N,hI,hnl,hrl,hrw,hrs,hC,k⟩:=h
    refine ⟨_,(ae (aU (xc (aM j5 (pv 1) (a8 T.c_NET) (aP _)) (ut (aM du (aF (ax (K:=K)) (by rfl) T.n_len PySem.boot_len (aa (am (K:=K) (pv 0) rfl) ad)) af (aP _)))).pt
      (ag (au (aE (aa (a8 T.c_NO_NET) ad))))
      aI)
      (ae (aw (i:=4) h8.nd rfl (by first | exact Or.inl rfl | exact Or.inr rfl) (ay (aR (K:=K)) (j3 T.t_FUNCTIONS.m) (pv 1) (fun _ _=>rfl)))
      (ag (au (xm (k:=7) (hr.mono (by decide)) (pv 4) (aa (pv 0) (aa (pv 2) (aa (pv 3) ad)))))))),?_⟩
    have hn:=v0 hC
    obtain ⟨xs,h1,h2,_⟩:=N.rs.list
    obtain ⟨f,fd,g1,g2,g3,g4⟩:=fn_at (P:=P) (w:=w) (base:=base) T hC
    have e0:decide (V.int ((xs.length:Nat):Int)=V.int 0)=h.net.isEmpty:=by
      rw [show (V.int 0)=V.int ((0:Nat):Int) from rfl,cX,h2]
      cases h.net <;> simp
    by_cases c0:j=0
    · subst c0
      refine ⟨_,rfl,rfl,_,rfl,iteF (iteF ?_)⟩
      refine ⟨_,rfl,T.t_FUNCTIONS.a,_,_,_,rfl,rfl,T.t_FUNCTIONS.is H,aC rfl g1,?_⟩
      refine ⟨_,rfl,rfl,f,fd,_,_,rfl,g2,g3,g4,_,rfl,_,rfl,_,rfl,?_⟩
      exact ⟨n,nl,rl,dn,l,wl,sl,h,nums,rs,c,rfl,N,hI,(fun z=>by rw [hn] at z; cases z),hnl,hrl,hrw,hrs,hC,k⟩
    · have ec:(!decide (V.int ((j:Nat):Int)=V.int 0))=true:=by
        rw [decide_eq_false fun z=>c0 (by have:=V.int.inj z; omega)]
        rfl
      have hnf:uP c=false:=hn.trans (decide_eq_false c0)
      refine ⟨_,rfl,rfl,_,rfl,?_⟩
      refine (congrArg (fun b=>if b=true then _ else _) ec).mpr ?_
      refine iteT ⟨_,rfl,n,T.a_Net,dn,_,_,rfl,N.obj,T.cl_Net,T.na_Net_reaches,aH,l,_,rfl,.inl (SqL.of h1),rfl,_,rfl,?_⟩
      refine (congrArg (fun b=>if b=true then _ else _) e0).mpr ?_
      cases ce:h.net.isEmpty with
      | true =>
        rw [sN hnf (List.isEmpty_iff.mp ce)] at k
        exact iteT ⟨(by show 1≤sizeLine; decide),fun p hp=>k.new N (ah hp) hp ac⟩
      | false =>
        refine iteF ?_
        refine ⟨_,rfl,T.t_FUNCTIONS.a,_,_,_,rfl,rfl,T.t_FUNCTIONS.is H,aC rfl g1,?_⟩
        refine ⟨_,rfl,rfl,f,fd,_,_,rfl,g2,g3,g4,_,rfl,_,rfl,_,rfl,?_⟩
        exact ⟨n,nl,rl,dn,l,wl,sl,h,nums,rs,c,rfl,N,hI,(fun _ z=>by rw [z] at ce; cases ce),hnl,hrl,hrw,hrs,hC,k⟩
end
def px:Nat:=18
theorem len0 {α:Type} {l:List α} (h:0=l.length):l=[]:=List.length_eq_zero_iff.mp h.symm
theorem len1 {α:Type} {l:List α} (h:1=l.length):∃ a,l=[a]:=List.length_eq_one_iff.mp h.symm
theorem len2 {α:Type} {l:List α} (h:2=l.length):∃ a b,l=[a,b]:=by
  match l,h with
  | [a,b],_=>exact ⟨a,b,rfl⟩
theorem len3 {α:Type} {l:List α} (h:3=l.length):∃ a b c,l=[a,b,c]:=by
  match l,h with
  | [a,b,c],_=>exact ⟨a,b,c,rfl⟩
theorem iV {lo hi:Int} {a b:Nat} {r:List Int} (h:PyInside.lists [(lo,hi,a,b)] [r]=true):r.length≤b∧∀ x∈r,lo≤x:=by
  unfold PyInside.lists at h
  rw [Bool.and_eq_true,Bool.and_eq_true,Bool.and_eq_true,decide_eq_true_eq,decide_eq_true_eq] at h
  refine ⟨h.1.1.2,fun x hx=>?_⟩
  have:=List.all_eq_true.mp h.1.2 x hx
  unfold PyInside.within at this
  rw [Bool.and_eq_true,decide_eq_true_eq] at this
  exact this.1
theorem gQ {c:List Int} {p:Int} {xs:List (List Int)} (h:PyInside.call PyVbiraa.bound ((p :: c) :: xs)=true):PyInside.lists (PyVbiraa.bound p).2 xs=true:=by
  unfold PyInside.call at h
  rw [Bool.and_eq_true] at h
  exact h.2
theorem zc {j:Nat} {nums:List Int} {xs:List (List Int)} (hj:j < px) (h1:HOWM[j]?=some nums.length) (h2:HASR[j]?=some xs.length) (hb:PyInside.call PyVbiraa.bound (((j:Int) :: nums) :: xs)=true) :
    ∃ c,r6 j nums (xs.headD [])=some c∧VbiraaNeutral.callOf (PyVbiraa.whole (((j:Int) :: nums) :: xs))=c∧(xs.headD []).length≤4000:=by
  match j,hj,h1,h2,hb with
  | 0,_,h1,h2,hb =>
    obtain rfl:=len0 (Option.some.inj h1)
    obtain ⟨r,rfl⟩:=len1 (Option.some.inj h2)
    obtain ⟨q1,q2⟩:=iV (gQ hb)
    refine ⟨.net (r.map Int.toNat),?_,rfl,Nat.le_trans q1 (by decide)⟩
    show (if (r.all fun x=>decide (0≤x))=true then some (Vbiraa.Call.net (r.map Int.toNat)) else none)=_
    rw [if_pos (List.all_eq_true.mpr fun x hx=>decide_eq_true (q2 x hx))]
  | 1,_,h1,h2,hb =>
    obtain ⟨a,rfl⟩:=len1 (Option.some.inj h1)
    obtain ⟨r,rfl⟩:=len1 (Option.some.inj h2)
    exact ⟨_,rfl,rfl,Nat.le_trans (iV (gQ hb)).1 (by decide)⟩
  | 2,_,h1,h2,hb =>
    obtain ⟨a,b,c,rfl⟩:=len3 (Option.some.inj h1)
    obtain rfl:=len0 (Option.some.inj h2)
    exact ⟨_,rfl,rfl,Nat.zero_le _⟩
  | 3,_,h1,h2,hb =>
    obtain ⟨a,b,rfl⟩:=len2 (Option.some.inj h1)
    obtain rfl:=len0 (Option.some.inj h2)
    exact ⟨_,rfl,rfl,Nat.zero_le _⟩
  | 4,_,h1,h2,hb =>
    obtain ⟨a,b,c,rfl⟩:=len3 (Option.some.inj h1)
    obtain rfl:=len0 (Option.some.inj h2)
    exact ⟨_,rfl,rfl,Nat.zero_le _⟩
  | 5,_,h1,h2,hb =>
    obtain ⟨a,rfl⟩:=len1 (Option.some.inj h1)
    obtain rfl:=len0 (Option.some.inj h2)
    exact ⟨_,rfl,rfl,Nat.zero_le _⟩
  | 6,_,h1,h2,hb =>
    obtain rfl:=len0 (Option.some.inj h1)
    obtain rfl:=len0 (Option.some.inj h2)
    exact ⟨_,rfl,rfl,Nat.zero_le _⟩
  | 7,_,h1,h2,hb =>
    obtain ⟨a,rfl⟩:=len1 (Option.some.inj h1)
    obtain rfl:=len0 (Option.some.inj h2)
    exact ⟨_,rfl,rfl,Nat.zero_le _⟩
  | 8,_,h1,h2,hb =>
    obtain ⟨a,b,c,rfl⟩:=len3 (Option.some.inj h1)
    obtain rfl:=len0 (Option.some.inj h2)
    exact ⟨_,rfl,rfl,Nat.zero_le _⟩
  | 9,_,h1,h2,hb =>
    obtain ⟨a,b,rfl⟩:=len2 (Option.some.inj h1)
    obtain rfl:=len0 (Option.some.inj h2)
    exact ⟨_,rfl,rfl,Nat.zero_le _⟩
  | 10,_,h1,h2,hb =>
    obtain rfl:=len0 (Option.some.inj h1)
    obtain ⟨r,rfl⟩:=len1 (Option.some.inj h2)
    exact ⟨_,rfl,rfl,Nat.le_trans (iV (gQ hb)).1 (by decide)⟩
  | 11,_,h1,h2,hb =>
    obtain rfl:=len0 (Option.some.inj h1)
    obtain ⟨r,rfl⟩:=len1 (Option.some.inj h2)
    exact ⟨_,rfl,rfl,Nat.le_trans (iV (gQ hb)).1 (by decide)⟩
  | 12,_,h1,h2,hb =>
    obtain ⟨a,b,rfl⟩:=len2 (Option.some.inj h1)
    obtain rfl:=len0 (Option.some.inj h2)
    exact ⟨_,rfl,rfl,Nat.zero_le _⟩
  | 13,_,h1,h2,hb =>
    obtain rfl:=len0 (Option.some.inj h1)
    obtain rfl:=len0 (Option.some.inj h2)
    exact ⟨_,rfl,rfl,Nat.zero_le _⟩
  | 14,_,h1,h2,hb =>
    obtain ⟨a,b,rfl⟩:=len2 (Option.some.inj h1)
    obtain rfl:=len0 (Option.some.inj h2)
    exact ⟨_,rfl,rfl,Nat.zero_le _⟩
  | 15,_,h1,h2,hb =>
    obtain rfl:=len0 (Option.some.inj h1)
    obtain rfl:=len0 (Option.some.inj h2)
    exact ⟨_,rfl,rfl,Nat.zero_le _⟩
  | 16,_,h1,h2,hb =>
    obtain rfl:=len0 (Option.some.inj h1)
    obtain rfl:=len0 (Option.some.inj h2)
    exact ⟨_,rfl,rfl,Nat.zero_le _⟩
  | 17,_,h1,h2,hb =>
    obtain rfl:=len0 (Option.some.inj h1)
    obtain rfl:=len0 (Option.some.inj h2)
    exact ⟨_,rfl,rfl,Nat.zero_le _⟩
  | j + 18,hj,_,_,_=>exact absurd hj (by unfold px; omega)
end CN
namespace CN
open PySem PySem.Spec PyProof.Rows L2
theorem rU {L:List Int} {a n:Nat} {x y:Int} (hx:x=(a:Int)) (hy:y=((a + n:Nat):Int)) (h:a + n≤L.length):cutV (aS L) (some x) (some y)=aS ((L.drop a).take n):=by
  subst hx hy
  unfold cutV HT.sIx
  simp only [br]
  rw [if_neg (by omega),if_neg (by omega),Int.toNat_natCast,Int.toNat_natCast,Nat.min_eq_left h,Nat.min_eq_left (by omega),Nat.add_sub_cancel_left]
  unfold aS
  rw [List.map_take,List.map_drop]
theorem vO (a b:List Int):aS (a++b)=aS a++aS b:=by
  unfold aS
  rw [List.map_append]
theorem vm (a:List Int) (l:List (List Int)):PyFlat.told (a :: l)=((a.length:Int) :: a)++PyFlat.told l:=by
  unfold PyFlat.told
  rw [List.flatMap_cons]
def howV:List V:=(HOWM.take px).map fun n=>V.int (n:Nat)
theorem yZ {j n:Nat} (hj:j < px) (h:HOWM[j]?=some n):howV[j]?=some (.int (n:Nat)):=by
  unfold howV
  rw [List.getElem?_map,List.getElem?_take_of_lt hj,h]
  rfl
theorem row_in {j q:Nat} (hj:j < px) (h:HASR[j]?=some q):(if false=true then !inV (V.int (j:Nat)) [.int 0,.int 1,.int 10,.int 11] else inV (V.int (j:Nat)) [.int 0,.int 1,.int 10,.int 11])=decide (q=1):=by
  have all:∀ j:Fin 18,inV (V.int ((j.val:Nat):Int)) [.int 0,.int 1,.int 10,.int 11]=decide (HASR[j.val]?=some 1):=by decide +kernel
  have:=all ⟨j,hj⟩
  rw [if_neg Bool.false_ne_true]
  refine this.trans ?_
  rw [h]
  exact decide_eq_decide.mpr ⟨fun z=>Option.some.inj z,fun z=>congrArg some z⟩
theorem bB.but {CR CN n dn l wl sl ap:Addr} {H H':Hp} {h:Vbiraa.House} {ys:List V} (N:bB CR CN H n h dn l wl sl) (hap:H ap=some (.lst ys)) (e1:ap≠l) (e2:ap≠wl) (e3:ap≠sl) (s:∀ b o,H b=some o→b≠ap→H' b=some o):bB CR CN H' n h dn l wl sl:=by
  refine ⟨s _ _ N.obj (bK N.obj hap (by intro z; cases z)),?_,s _ _ N.ws e2.symm,?_⟩
  · obtain ⟨as,b1,b2,b3⟩:=N.rs.ex
    refine ⟨as,s _ _ b1 e1.symm,b2,fun i a e=>?_⟩
    obtain ⟨dx,hx⟩:=b3 i a e
    exact ⟨dx,s _ _ hx (bK hx hap (by intro z; cases z))⟩
  · obtain ⟨bs,k1,k2,k3⟩:=N.ss.ex
    exact ⟨bs,s _ _ k1 e3.symm,k2,fun i b q e e'=>s _ _ (k3 i b q e e') (bK (k3 i b q e e') hap (by intro z; cases z))⟩
theorem mS {H H':Hp} {a b:Addr} {o u:HO} (O:nT H) (s:Same H H') (ha:H a=some o) (hb:H' b=some u) (hu:∀ x y,u≠.frz x y):a≠b:=fun z=>by
  subst z
  have:=s _ _ ha
  rw [hb] at this
  cases this
  rcases O a with q | ⟨x,y,q⟩
  · rw [ha] at q
    cases q
  · rw [ha] at q
    cases q
    exact hu x y rfl
section
variable {P:Program} {w:World} {K:PySem.W.Frag} {mg:Str→Option Value} {base:Heap}
def spAll (K:PySem.W.Frag):Sp:=fun vs H Q _=>∃ (cl:Addr) (L:List Int) (cs:List (List (List Int))),vs=[.ref cl]∧nT H∧SqL K H cl (aS L)∧PyFlat.calls PyVbiraa.shape L.length L=some cs∧(∀ c∈cs,PyInside.call PyVbiraa.bound c=true)∧(PyVbiraa.answers L).length≤10000000∧∀ (H':Hp) (p:Addr),H' p=some (.lst (aS (PyVbiraa.answers L)))→Q (.ref p) H'
theorem tz (T:Txt K mg):FnOk P w K mg base CX0 9 T.answers.f T.answers.fd ["calls"] (spAll K):=by
  refine T.answers.F.ok bt (fun vs H Q E h=>?_) (fun cdv A outer s H vs Q E hr h=>?_)
  · obtain ⟨cl,L,cs,rfl,_⟩:=h
    rfl
  · obtain ⟨cl,L,cs,rfl,hO,hcl,hcs,hbd,hlen,k⟩:=h
    refine ⟨_,(ae (aw (i:=1) bt.nd rfl (by first | exact Or.inl rfl | exact Or.inr rfl) (qR T.mk_Net (lF T) (hr.mono (by decide)) rfl T.m_Net nP .nil lA))
      (ae (aw (i:=2) bt.nd rfl (by first | exact Or.inl rfl | exact Or.inr rfl) (aE ad))
      (ae (aw (i:=3) bt.nd rfl (by first | exact Or.inl rfl | exact Or.inr rfl) af)
      (ae (j1 PassesOwn.never (aM qX (pv 3) (aF (ax (K:=K)) (by rfl) T.n_len PySem.boot_len (aa (pv 0) ad)) (aP _))
      (ae (aw (i:=4) bt.nd rfl (by first | exact Or.inl rfl | exact Or.inr rfl) (ay (ak (K:=K)) (pv 0) (pv 3) (fun _ _=>rfl)))
      (ae (aw (i:=5) bt.nd rfl (by first | exact Or.inl rfl | exact Or.inr rfl) (aG bu (aG bu (pv 3) af) (ay (aR (K:=K)) (j3 T.t_HOW_MANY_NUMBERS.m) (pv 4) (fun _ _=>rfl))))
      (ae (aw (i:=6) bt.nd rfl (by first | exact Or.inl rfl | exact Or.inr rfl) (qQ uo (pv 0) (l7 (aG bu (pv 3) af)) (l7 (pv 5))))
      (ae (aw (i:=7) bt.nd rfl (by first | exact Or.inl rfl | exact Or.inr rfl) (aE ad))
      (ae (aU (aM (jA (K:=K)) (pv 4) (j3 T.t_WITH_ROW.m) (by with_unfolding_all rfl))
      (ae (aw (i:=7) bt.nd rfl (by first | exact Or.inl rfl | exact Or.inr rfl) (qQ uo (pv 0) (l7 (aG bu (pv 5) af)) (l7 (aG bu (aG bu (pv 5) af) (ay (ak (K:=K)) (pv 0) (pv 5) (fun _ _=>rfl))))))
      (ag (aw (i:=5) bt.nd rfl (by first | exact Or.inl rfl | exact Or.inr rfl) (aG bu (aG bu (pv 5) af) (aF (ax (K:=K)) (by rfl) T.n_len PySem.boot_len (aa (pv 7) ad))))))
      aI)
      (ae (aw (i:=8) bt.nd rfl (by first | exact Or.inl rfl | exact Or.inr rfl) (aD T.answer_call (m4 T) (hr.mono (by decide)) ot (aa (pv 1) (aa (pv 4) (aa (pv 6) (aa (pv 7) ad))))))
      (ae (bU (fo PySem.F.plainAttrs_list PySem.F.slot_list_append PySem.F.type_list_append cM (pv 2) (aa (aF (ax (K:=K)) (by rfl) T.n_len PySem.boot_len (aa (pv 8) ad)) ad)))
      (ae (bU (fo PySem.F.plainAttrs_list PySem.F.slot_list_extend PySem.F.type_list_extend gl (pv 2) (aa (pv 8) ad)))
      (ag (aw (i:=3) bt.nd rfl (by first | exact Or.inl rfl | exact Or.inr rfl) (pv 5))))))))))))
      (ag (au (pv 2))))))),?_⟩
    have hans:PyVbiraa.answers L=PyFlat.told (PyFlat.played VbiraaNeutral.step Vbiraa.start (cs.map PyVbiraa.whole)):=by
      unfold PyVbiraa.answers PyVbiraa.calls
      rw [hcs]
      rfl
    rw [hans] at hlen k
    generalize hT:PyFlat.told (PyFlat.played VbiraaNeutral.step Vbiraa.start (cs.map PyVbiraa.whole))=total at hlen k
    intro n dn hn hdn ndn
    refine ⟨n,dn,rfl,ac,fun H1 l wl sl a1 a2 a3 a4 kp=>⟨rfl,?_⟩⟩
    have s1:Same H H1:=fun b o e=>kp b o (by rw [ai (aq e hn),ai (aq e hdn)]; exact e) (aq e hn)
    have N0:bB T.a_Reach T.a_Net H1 n Vbiraa.start dn l wl sl:=⟨a1,⟨[],a2,rfl,fun i a e=>by cases e⟩,a3,⟨[],a4,rfl,fun i a s e=>by cases e⟩⟩
    refine ⟨Nat.zero_le _,fun ap hap=>?_⟩
    have s2:=ah (o:=.lst []) hap
    refine jR (fun σ H'=>∃ (dn l wl sl:Addr) (h:Vbiraa.House) (at' f:Nat) (done:List Int) (cs:List (List (List Int))) (v4 v5 v6 v7 v8:Option V),σ=[some (.ref cl),some (.ref n),some (.ref ap),some (.int (at':Nat)),v4,v5,v6,v7,v8]∧Same H H'∧bB T.a_Reach T.a_Net H' n h dn l wl sl∧HInv h∧H' ap=some (.lst (aS done))∧ap≠l∧ap≠wl∧ap≠sl∧at'≤L.length∧PyFlat.calls PyVbiraa.shape f (L.drop at')=some cs∧(∀ c∈cs,PyInside.call PyVbiraa.bound c=true)∧done++PyFlat.told (PyFlat.played VbiraaNeutral.step h (cs.map PyVbiraa.whole))=total)
      (fun σ _=>match σ with | [_,_,_,some (.int a),_,_,_,_,_]=>L.length - a.toNat | _=>0) ⟨dn,l,wl,sl,Vbiraa.start,0,L.length,[],cs,none,none,none,none,none,rfl,s1.trans s2,N0.same s2,tO,ac,(aq a2 hap).symm,(aq a3 hap).symm,(aq a4 hap).symm,Nat.zero_le _,hcs,hbd,hT⟩ ?_ ?_
    · rintro σ H2 ⟨dn,l,wl,sl,h,a,f,done,cs,v4,v5,v6,v7,v8,rfl,sm,N,hI,hap2,d1,d2,d3,ha,hc,hb,hsum⟩
      have hclq:SqL K H2 cl (aS L):=sm.seq hcl
      refine ⟨_,rfl,_,rfl,cl,_,rfl,.inl hclq,_,_,rfl,rfl,_,rfl,?_⟩
      rw [br]
      refine ite2 (fun z=>?_) (fun z=>?_)
      · have z:(a:Int) < (L.length:Int):=of_decide_eq_true z
        have hlt:a < L.length:=by omega
        have hdr:L.drop a=L[a] :: L.drop (a + 1):=List.drop_eq_getElem_cons hlt
        rw [hdr] at hc
        obtain ⟨j,m,q,f',xs,t,cs',hj,hj18,hm,hq,hml,rfl,hc',hor⟩:=tZ hc
        rw [List.length_drop] at hml
        have hjk:j < px:=hj18
        have hget:L[a]?=some (j:Int):=by rw [List.getElem?_eq_getElem hlt,hj]
        refine ⟨_,rfl,_,rfl,cl,_,_,_,rfl,rfl,hclq,aC rfl (oT hget),?_⟩
        refine ⟨_,rfl,_,_,rfl,rfl,_,rfl,T.t_HOW_MANY_NUMBERS.a,howV,_,_,rfl,rfl,T.t_HOW_MANY_NUMBERS.is H2,aC rfl (yZ hjk hm),_,_,rfl,rfl,?_⟩
        have hbeh:(a:Int) + 1 + ((m:Nat):Int)=((a + 1 + m:Nat):Int):=by omega
        refine ⟨_,rfl,_,rfl,_,_,rfl,rfl,_,rfl,_,rfl,_,rfl,cl,_,rfl,hclq,fun nl hnl=>?_⟩
        rw [rU (a:=a + 1) (n:=m) (by omega) hbeh (by omega)]
        have s3:=ah (o:=.lst (aS ((L.drop (a + 1)).take m))) hnl
        refine ⟨Nat.zero_le _,fun rl hrl=>?_⟩
        have s4:=ah (o:=.lst []) hrl
        have s34:=s3.trans s4
        have hcl4:=s34.seq hclq
        with_reducible refine kE ?_
        refine gx (fun σ' H5=>∃ (rp:Addr) (b:Nat),σ'=[some (.ref cl),some (.ref n),some (.ref ap),some (.int (a:Nat)),some (.int (j:Nat)),some (.int (b:Nat)),some (.ref nl),some (.ref rp),v8]∧Same (upd (upd H2 nl (.lst (aS ((L.drop (a + 1)).take m)))) rl (.lst [])) H5∧H5 rp=some (.lst (aS (xs.headD [])))∧H2 rp=none∧t=L.drop b∧b≤L.length∧a < b∧q=xs.length) (fun Nx hN=>?_) ?_
        · refine ⟨_,rfl,T.t_WITH_ROW.a,_,rfl,.inr (T.t_WITH_ROW.is _),rfl,rfl,_,rfl,?_⟩
          refine (congrArg (fun b=>if b=true then _ else _) (row_in hjk hq)).mpr ?_
          rcases hor with ⟨rfl,rfl,rfl⟩ | ⟨rfl,u,sr,hu,hul,rfl,rfl⟩
          · refine iteF (hN _ _ ⟨rl,a + 1 + m,?_,Same.refl _,ac,s3.free hrl,by rw [List.drop_drop],by omega,by omega,rfl⟩)
            rw [←hbeh]
            rfl
          · rw [List.drop_drop] at hu
            have hu0:L[a + 1 + m]?=some (u:Int):=by
              have:=congrArg (fun l=>l[0]?) hu
              simp only [List.getElem?_drop,Nat.add_zero,List.getElem?_cons_zero] at this
              exact this
            have hsr:sr=L.drop (a + 1 + m + 1):=by
              have:=congrArg List.tail hu
              rw [List.tail_drop] at this
              exact this.symm
            subst hsr
            rw [List.length_drop] at hul
            have hlm:a + 1 + m < L.length:=(List.getElem?_eq_some_iff.mp hu0).1
            refine iteT ⟨_,rfl,_,rfl,_,_,rfl,rfl,_,rfl,_,rfl,_,_,rfl,rfl,_,rfl,_,rfl,cl,_,_,_,rfl,rfl,hcl4,aC hbeh (oT hu0),_,_,rfl,rfl,_,rfl,cl,_,rfl,hcl4,fun rp hrp=>?_⟩
            rw [rU (a:=a + 1 + m + 1) (n:=u) (by omega) (by omega) (by omega)]
            have s5:=ah (o:=.lst (aS ((L.drop (a + 1 + m + 1)).take u))) hrp
            refine ⟨_,rfl,_,_,rfl,rfl,_,rfl,rp,_,rfl,.inl (SqL.of ac),_,_,rfl,rfl,hN _ _ ⟨rp,a + 1 + m + 1 + u,?_,s5,ac,s34.free hrp,by rw [List.drop_drop],by omega,by omega,rfl⟩⟩
            rw [br,List.length_take,List.length_drop,Nat.min_eq_left hul,show ((a + 1 + m + 1 + u:Nat):Int)=(a:Int) + 1 + ((m:Nat):Int) + 1 + ((u:Nat):Int) by omega]
            rfl
        · rintro σ' H5 ⟨rp,b,rfl,s5,hrp5,hrp2,rfl,hbL,hab,rfl⟩
          have hmt:((L.drop (a + 1)).take m).length=m:=by
            rw [List.length_take,List.length_drop,Nat.min_eq_left hml]
          have hbc:=hb _ (List.mem_cons_self ..)
          rw [hj] at hbc hsum
          obtain ⟨c,hC,hco,hrs4⟩:=zc (nums:=(L.drop (a + 1)).take m) hjk (by rw [hmt]; exact hm) hq hbc
          have sA:=s34.trans s5
          refine ⟨_,rfl,_,rfl,_,rfl,_,rfl,n,nl,rp,dn,l,wl,sl,h,j,(L.drop (a + 1)).take m,xs.headD [],c,rfl,N.same sA,hI,s5 _ _ (s4 _ _ ac),hrp5,(aq N.ws hrp2).symm,hrs4,hC,?_⟩
          intro H6 p dn' l' wl' sl' N6 e1 e2 e3 kp6 hp hp6
          rw [List.map_cons,PyFlat.played,vm] at hsum
          have hst:VbiraaNeutral.step h (PyVbiraa.whole (((j:Int) :: (L.drop (a + 1)).take m) :: xs))=Vbiraa.step h c:=by
            unfold VbiraaNeutral.step
            rw [hco]
          rw [hst] at hsum
          have hap5:=sA _ _ hap2
          have nan:ap≠n:=bK hap2 N.obj (by intro z; cases z)
          have hap6:=kp6 _ _ hap5 nan d2
          have f1:ap≠l':=by rcases e1 with rfl | e1; exact d1; exact aq hap5 e1
          have f2:ap≠wl':=by rcases e2 with rfl | e2; exact d2; exact aq hap5 e2
          have f3:ap≠sl':=by rcases e3 with rfl | e3; exact d3; exact aq hap5 e3
          have hpa:p≠ap:=(aq hap5 hp).symm
          have hsl:done.length + (1 + (Vbiraa.step h c).2.length)≤10000000:=by
            have:=congrArg List.length hsum
            rw [List.length_append,List.length_append,List.length_cons] at this
            omega
          refine ⟨_,rfl,.inl ⟨rfl,_,SqL.of hap6⟩,_,rfl,p,_,rfl,.inl (SqL.of hp6),ap,_,_,rfl,rfl,hap6,?_,?_⟩
          · rw [br]
            exact Nat.lt_of_le_of_lt (Nat.le_trans (Nat.le_add_right ..) hsl) (by decide)
          refine ⟨_,rfl,.inl ⟨rfl,_,SqL.of ac⟩,_,rfl,ap,p,_,_,rfl,rfl,ac,by rw [ai hpa]; exact hp6,?_,?_⟩
          · rw [List.length_append,br,br]
            exact Nat.le_trans (show _≤10000000 by show done.length + 1 + _≤_; omega) (by decide)
          refine ⟨_,rfl,⟨dn',l',wl',sl',(Vbiraa.step h c).1,b,f',done++(((Vbiraa.step h c).2.length:Int) :: (Vbiraa.step h c).2),cs',_,_,_,_,_,rfl,?_,?_,vP hI c,?_,f1,f2,f3,hbL,hc',fun x hx=>hb x (List.mem_cons_of_mem _ hx),?_⟩,?_⟩
          · intro x o e
            have x1:x≠ap:=mS hO sm e hap2 (by intro _ _ z; cases z)
            have x2:x≠n:=mS hO sm e N.obj (by intro _ _ z; cases z)
            have x3:x≠wl:=mS hO sm e N.ws (by intro _ _ z; cases z)
            rw [ai x1,ai x1]
            exact kp6 x o (sA _ _ (sm _ _ e)) x2 x3
          · exact N6.but hap6 f1 f2 f3 fun x o e nx=>by rw [ai nx,ai nx]; exact e
          · rw [ac,vO,br]
            show some (HO.lst ((_++[V.int _])++_))=some (HO.lst (_++(V.int _ :: _)))
            rw [List.append_assoc]
            rfl
          · rw [←hsum,List.append_assoc]
          · show L.length - ((b:Nat):Int).toNat < L.length - ((a:Nat):Int).toNat
            rw [Int.toNat_natCast,Int.toNat_natCast]
            omega
      · have z:¬ (a:Int) < (L.length:Int):=fun y=>z (decide_eq_true y)
        have e:a=L.length:=by omega
        subst e
        rw [List.drop_length] at hc
        have hcs0:cs=[]:=by
          cases f <;> cases hc <;> rfl
        subst hcs0
        refine ⟨_,rfl,k H2 ap ?_⟩
        rw [←hsum,show PyFlat.told (PyFlat.played VbiraaNeutral.step h (List.map PyVbiraa.whole []))=[] from rfl,List.append_nil]
        exact hap2
    · intro σ H Q Q' m h
      obtain ⟨v,e1,v2,e2,p,ys,e3,e4,i,j,e5,e6,b,e7,h⟩:=h
      exact ⟨v,e1,v2,e2,p,ys,e3,e4,i,j,e5,e6,b,e7,m _ _ h⟩
end
theorem ya {L:List Int} (h:PyVbiraa.answers_asked L=true):∃ cs,PyFlat.calls PyVbiraa.shape L.length L=some cs∧(∀ c∈cs,PyInside.call PyVbiraa.bound c=true)∧(PyVbiraa.answers L).length≤10000000:=by
  unfold PyVbiraa.answers_asked at h
  cases e:PyFlat.calls PyVbiraa.shape L.length L with
  | none=>rw [e] at h; cases h
  | some cs =>
    rw [e] at h
    simp only [Bool.and_eq_true] at h
    obtain ⟨⟨⟨⟨_,_⟩,h1⟩,_⟩,h2⟩:=h
    unfold PyInside.calls at h1
    unfold PyFlat.short at h2
    exact ⟨cs,rfl,fun c hc=>List.all_eq_true.mp h1 c hc,of_decide_eq_true h2⟩
end CN
namespace CN
open PySem PySem.Spec PyProof.Rows L2
section
variable {Goal:Prop} {K:PySem.W.Frag} {h:Heap} {mg:Str→Option Value}
theorem aA {x:Str} {st:Stmt} {f:Addr} {oc:Value} {od an:Option Addr} {osl:Array (Option Value)} {kV doc pm cdv ct:Value} (X:K.In h) (G:h.Ns mainGlobals mg) (a:PySem.W.nsIn K mainGlobals x=some (some (.ref f)))
    (l:K.lookup f=some ⟨oc,od,.func (PySem.W.fnOf x x (gP st) (fw st) (aj st) .none kV doc pm an cdv ct),osl⟩) (c:PySem.W.codeIn K cdv x=true) (k:PySem.W.keepIn K (.ref f)=true) (cont:∀ D:Df K mg x st,D.f=f→Goal):Goal:=cont ⟨f,_,xV l c k,PySem.W.mg_of X G a⟩ rfl
theorem eB {x:Str} {xs:List V} {p:Addr} {od:Option Addr} {its:Array Value} {n:Nat} {osl:Array (Option Value)} (X:K.In h) (G:h.Ns mainGlobals mg) (a:PySem.W.nsIn K mainGlobals x=some (some (.ref p)))
    (l:K.lookup p=some ⟨.type "tuple",od,.seq its n,osl⟩) (z:its.size≤sizeLine) (v:Vals xs its.toList) (cont:GTup K mg x xs→Goal):Goal:=cont ⟨p,PySem.W.mg_of X G a,fun H=>.inr ⟨_,its,n,l,rfl,rfl,z,v⟩⟩
theorem cj {a b:Addr} (e:a=b):RelV (.ref a) (.ref b):=congrArg Value.ref e.symm
theorem rW {x:Str} {C:Addr} (X:K.In h) (G:h.Ns mainGlobals mg) (a:PySem.W.nsIn K mainGlobals x=some (some (.ref C))) (pg:PySem.W.plainGet K C Str.empty=true) (hd:PySem.W.hasDictIn K C=true) (po:PySem.W.plainOver K C=true)
    (sa:PySem.W.findIn K (.ref C) "__setattr__" = some (some (.builtin "object.__setattr__"))) (cont:∀ D:Addr,mg x=some (.ref D)→Cls K D→D=C→Goal):Goal:=cont C (PySem.W.mg_of X G a) ⟨pg,hd,po,sa⟩ rfl
theorem gX {C D:Addr} {f:Str} (X:K.In h) (e:D=C) (n:PySem.W.findIn K (.ref C) f=some none):bc K D f:=by
  subst e
  exact n
theorem pT {x q:Str} {st:Stmt} {C D f:Addr} {oc:Value} {od an:Option Addr} {osl:Array (Option Value)} {kV doc pm cdv ct:Value} (X:K.In h) (e:D=C) (a:PySem.W.findIn K (.ref C) x=some (some (.ref f))) (i:PySem.W.isFn K (.ref f)=true)
    (l:K.lookup f=some ⟨oc,od,.func (PySem.W.fnOf x q (gP st) (fw st) (aj st) .none kV doc pm an cdv ct),osl⟩) (c:PySem.W.codeIn K cdv q=true) (k:PySem.W.keepIn K (.ref f)=true) (cont:∀ M:Md K x q st,Meth K D x M.f→Goal):Goal:=by
  subst e
  exact cont ⟨f,_,xV l c k⟩ ⟨a,i,k⟩
theorem mk_of {C D f:Addr} (X:K.In h) (e:D=C) (m:Meth K D "__init__" f) (mk:PySem.W.makesIn K C=true) (kc:PySem.W.keepIn K (.ref C)=true):Mk K D f:=by
  subst e
  exact ⟨mk,m.at_,m.fn,kc⟩
theorem wd {x p:Str} {st:Stmt} (D:Df K mg x st) (hb:∀ (kV doc pm cdv ct:Value) (an:Option Addr) (u:Value),bindArgs (PySem.W.fnOf x x (gP st) (fw st) (aj st) .none kV doc pm an cdv ct) ⟨[u],[]⟩=pure ([p].zip [u])):∀ (s:Shared) (us:List Value),us.length=[p].length→BindsTo s D.fd ⟨us,[]⟩ ([p].zip us):=by
  obtain ⟨oc,od,kV,doc,pm,an,cdv,ct,osl,e,_,_⟩:=D.F.ex
  intro s us hu
  rw [e]
  match us,hu with
  | [u],_=>exact .of_eq (hb kV doc pm cdv ct an u)
end
end CN
open PySem PySem.W PyProof.Rows
set_option maxRecDepth 100000 in
set_option maxHeartbeats 0 in
theorem PySem.Challenge.cw_channelnet_s01_answers_holds : PySem.Challenge.rw_channelnet_s01_answers.Holds := by
  w_on; k_headS; (case hw=>exact ⟨[.list [.int 15]],by decide +kernel,by decide +kernel⟩)
  k_fillS
  refine L2.sC (r:=PySem.Challenge.rw_channelnet_s01_answers) (k:=9) (CX:=L2.CX0) (ps:=["calls"]) (sp:=CN.spAll) (by decide +kernel) rfl rfl ⟨rfl,by decide,by decide⟩ (fun w h Y=>PySem.W.kIn_of Y) ?F ?S (fun _ _ _ _ z=>z)
  case F =>
    intro w mg fa h Y KX G hmg
    have n_len:=PySem.W.mg_none_of (n := "len") KX G (by k_is)
    have n_range:=PySem.W.mg_none_of (n := "range") KX G (by k_is)
    have n_reversed:=PySem.W.mg_none_of (n := "reversed") KX G (by k_is)
    have n_list:=PySem.W.mg_none_of (n := "list") KX G (by k_is)
    have n_all:=PySem.W.mg_none_of (n := "all") KX G (by k_is)
    have n_sum:=PySem.W.mg_none_of (n := "sum") KX G (by k_is)
    have n_min:=PySem.W.mg_none_of (n := "min") KX G (by k_is)
    have n_enumerate:=PySem.W.mg_none_of (n := "enumerate") KX G (by k_is)
    have n_zip:=PySem.W.mg_none_of (n := "zip") KX G (by k_is)
    have n_int:=PySem.W.mg_none_of (n := "int") KX G (by k_is)
    have n_str:=PySem.W.mg_none_of (n := "str") KX G (by k_is)
    have n_ord:=PySem.W.mg_none_of (n := "ord") KX G (by k_is)
    have c_SOURCE:CN.GI mg "SOURCE" (-1):=⟨_,PySem.W.mg_of (n := "SOURCE") KX G (by k_is)⟩
    have c_TICKS:CN.GI mg "TICKS" (60):=⟨_,PySem.W.mg_of (n := "TICKS") KX G (by k_is)⟩
    have c_MOST_REACHES:CN.GI mg "MOST_REACHES" (30):=⟨_,PySem.W.mg_of (n := "MOST_REACHES") KX G (by k_is)⟩
    have c_LONGEST_WAY:CN.GI mg "LONGEST_WAY" (8):=⟨_,PySem.W.mg_of (n := "LONGEST_WAY") KX G (by k_is)⟩
    have c_LONGEST_NAME:CN.GI mg "LONGEST_NAME" (8):=⟨_,PySem.W.mg_of (n := "LONGEST_NAME") KX G (by k_is)⟩
    have c_LONGEST_NUMBER:CN.GI mg "LONGEST_NUMBER" (8):=⟨_,PySem.W.mg_of (n := "LONGEST_NUMBER") KX G (by k_is)⟩
    have c_NOWHERE:CN.GI mg "NOWHERE" (-2):=⟨_,PySem.W.mg_of (n := "NOWHERE") KX G (by k_is)⟩
    have c_DROPS:CN.GI mg "DROPS" (100000000000000000000000000000000):=⟨_,PySem.W.mg_of (n := "DROPS") KX G (by k_is)⟩
    have c_NO_NET:CN.GI mg "NO_NET" (-9):=⟨_,PySem.W.mg_of (n := "NO_NET") KX G (by k_is)⟩
    have c_OUT_OF_RANGE:CN.GI mg "OUT_OF_RANGE" (-1):=⟨_,PySem.W.mg_of (n := "OUT_OF_RANGE") KX G (by k_is)⟩
    have c_TOO_MUCH_PARTED:CN.GI mg "TOO_MUCH_PARTED" (-7):=⟨_,PySem.W.mg_of (n := "TOO_MUCH_PARTED") KX G (by k_is)⟩
    have c_CANNOT:CN.GI mg "CANNOT" (-8):=⟨_,PySem.W.mg_of (n := "CANNOT") KX G (by k_is)⟩
    have c_TOO_MANY_SETTINGS:CN.GI mg "TOO_MANY_SETTINGS" (-6):=⟨_,PySem.W.mg_of (n := "TOO_MANY_SETTINGS") KX G (by k_is)⟩
    have c_MOST_WATER:CN.GI mg "MOST_WATER" (1000000):=⟨_,PySem.W.mg_of (n := "MOST_WATER") KX G (by k_is)⟩
    have c_MOST_SETTINGS:CN.GI mg "MOST_SETTINGS" (60):=⟨_,PySem.W.mg_of (n := "MOST_SETTINGS") KX G (by k_is)⟩
    have c_MOST_CAP:CN.GI mg "MOST_CAP" (100000):=⟨_,PySem.W.mg_of (n := "MOST_CAP") KX G (by k_is)⟩
    have c_NET:CN.GI mg "NET" (0):=⟨_,PySem.W.mg_of (n := "NET") KX G (by k_is)⟩
    have c_LETTERS:CN.GS mg "LETTERS" "abcdefghijklmnopqrstuvwxyz" := ⟨_,PySem.W.mg_of (n := "LETTERS") KX G (by k_is)⟩
    have c_DIGITS:CN.GS mg "DIGITS" "0123456789" := ⟨_,PySem.W.mg_of (n := "DIGITS") KX G (by k_is)⟩
    refine' CN.eB (x := "FORM") (xs:=[.str "reach",.str "from",.str "delay",.str "loss",.str "soak",.str "cap",.str "gate"]) KX G ?a ?l ?z ?v (fun t_FORM=>?_)
    (case a=>k_is); (case l=>k_is); (case z=>decide); (case v=>exact (.cons ⟨_,rfl⟩ (.cons ⟨_,rfl⟩ (.cons ⟨_,rfl⟩ (.cons ⟨_,rfl⟩ (.cons ⟨_,rfl⟩ (.cons ⟨_,rfl⟩ (.cons ⟨_,rfl⟩ .nil))))))))
    refine' CN.eB (x := "LEAST") (xs:=[.int 0,.int 0,.int 0,.int 1,.int 0]) KX G ?a ?l ?z ?v (fun t_LEAST=>?_)
    (case a=>k_is); (case l=>k_is); (case z=>decide); (case v=>exact (.cons ⟨_,rfl⟩ (.cons ⟨_,rfl⟩ (.cons ⟨_,rfl⟩ (.cons ⟨_,rfl⟩ (.cons ⟨_,rfl⟩ .nil))))))
    refine' CN.eB (x := "GREATEST") (xs:=[.int 10,.int 99,.int 1000,.int 100000,.int 100]) KX G ?a ?l ?z ?v (fun t_GREATEST=>?_)
    (case a=>k_is); (case l=>k_is); (case z=>decide); (case v=>exact (.cons ⟨_,rfl⟩ (.cons ⟨_,rfl⟩ (.cons ⟨_,rfl⟩ (.cons ⟨_,rfl⟩ (.cons ⟨_,rfl⟩ .nil))))))
    refine' CN.eB (x := "HOW_MANY_NUMBERS") (xs:=[.int 0,.int 1,.int 3,.int 2,.int 3,.int 1,.int 0,.int 1,.int 3,.int 2,.int 0,.int 0,.int 2,.int 0,.int 2,.int 0,.int 0,.int 0]) KX G ?a ?l ?z ?v (fun t_HOW_MANY_NUMBERS=>?_)
    (case a=>k_is); (case l=>k_is); (case z=>decide); (case v=>exact (.cons ⟨_,rfl⟩ (.cons ⟨_,rfl⟩ (.cons ⟨_,rfl⟩ (.cons ⟨_,rfl⟩ (.cons ⟨_,rfl⟩ (.cons ⟨_,rfl⟩ (.cons ⟨_,rfl⟩ (.cons ⟨_,rfl⟩ (.cons ⟨_,rfl⟩ (.cons ⟨_,rfl⟩ (.cons ⟨_,rfl⟩ (.cons ⟨_,rfl⟩ (.cons ⟨_,rfl⟩ (.cons ⟨_,rfl⟩ (.cons ⟨_,rfl⟩ (.cons ⟨_,rfl⟩ (.cons ⟨_,rfl⟩ (.cons ⟨_,rfl⟩ .nil)))))))))))))))))))
    refine' CN.eB (x := "WITH_ROW") (xs:=[.int 0,.int 1,.int 10,.int 11]) KX G ?a ?l ?z ?v (fun t_WITH_ROW=>?_)
    (case a=>k_is); (case l=>k_is); (case z=>decide); (case v=>exact (.cons ⟨_,rfl⟩ (.cons ⟨_,rfl⟩ (.cons ⟨_,rfl⟩ (.cons ⟨_,rfl⟩ .nil)))))
    refine' CN.aA (x := "common_divisor") (st:=CN.dF) KX G ?a ?l ?c ?k (fun d_common_divisor e_common_divisor=>?_)
    (case a=>k_is); (case l=>k_is); (case c=>k_is); (case k=>k_is)
    refine' CN.aA (x := "lowest") (st:=CN.mH) KX G ?a ?l ?c ?k (fun d_lowest e_lowest=>?_)
    (case a=>k_is); (case l=>k_is); (case c=>k_is); (case k=>k_is)
    refine' CN.aA (x := "total") (st:=CN.pI) KX G ?a ?l ?c ?k (fun d_total e_total=>?_)
    (case a=>k_is); (case l=>k_is); (case c=>k_is); (case k=>k_is)
    refine' CN.aA (x := "with_cap") (st:=CN.jq) KX G ?a ?l ?c ?k (fun d_with_cap e_with_cap=>?_)
    (case a=>k_is); (case l=>k_is); (case c=>k_is); (case k=>k_is)
    refine' CN.aA (x := "if_held") (st:=CN.iN) KX G ?a ?l ?c ?k (fun d_if_held e_if_held=>?_)
    (case a=>k_is); (case l=>k_is); (case c=>k_is); (case k=>k_is)
    refine' CN.aA (x := "way_to") (st:=CN.mE) KX G ?a ?l ?c ?k (fun d_way_to e_way_to=>?_)
    (case a=>k_is); (case l=>k_is); (case c=>k_is); (case k=>k_is)
    refine' CN.aA (x := "beginning_at") (st:=CN.dm) KX G ?a ?l ?c ?k (fun d_beginning_at e_beginning_at=>?_)
    (case a=>k_is); (case l=>k_is); (case c=>k_is); (case k=>k_is)
    refine' CN.aA (x := "ends_of") (st:=CN.iQ) KX G ?a ?l ?c ?k (fun d_ends_of e_ends_of=>?_)
    (case a=>k_is); (case l=>k_is); (case c=>k_is); (case k=>k_is)
    refine' CN.aA (x := "gate_part") (st:=CN.ib) KX G ?a ?l ?c ?k (fun d_gate_part e_gate_part=>?_)
    (case a=>k_is); (case l=>k_is); (case c=>k_is); (case k=>k_is)
    refine' CN.aA (x := "parts_fit") (st:=CN.fi) KX G ?a ?l ?c ?k (fun d_parts_fit e_parts_fit=>?_)
    (case a=>k_is); (case l=>k_is); (case c=>k_is); (case k=>k_is)
    refine' CN.aA (x := "to_take") (st:=CN.kO) KX G ?a ?l ?c ?k (fun d_to_take e_to_take=>?_)
    (case a=>k_is); (case l=>k_is); (case c=>k_is); (case k=>k_is)
    refine' CN.aA (x := "can_take") (st:=CN.jx) KX G ?a ?l ?c ?k (fun d_can_take e_can_take=>?_)
    (case a=>k_is); (case l=>k_is); (case c=>k_is); (case k=>k_is)
    refine' CN.aA (x := "needed") (st:=CN.mG) KX G ?a ?l ?c ?k (fun d_needed e_needed=>?_)
    (case a=>k_is); (case l=>k_is); (case c=>k_is); (case k=>k_is)
    refine' CN.aA (x := "from_below") (st:=CN.gA) KX G ?a ?l ?c ?k (fun d_from_below e_from_below=>?_)
    (case a=>k_is); (case l=>k_is); (case c=>k_is); (case k=>k_is)
    refine' CN.aA (x := "offered_at") (st:=CN.ee) KX G ?a ?l ?c ?k (fun d_offered_at e_offered_at=>?_)
    (case a=>k_is); (case l=>k_is); (case c=>k_is); (case k=>k_is)
    refine' CN.aA (x := "offers_for") (st:=CN.d9) KX G ?a ?l ?c ?k (fun d_offers_for e_offers_for=>?_)
    (case a=>k_is); (case l=>k_is); (case c=>k_is); (case k=>k_is)
    refine' CN.aA (x := "part_of") (st:=CN.kR) KX G ?a ?l ?c ?k (fun d_part_of e_part_of=>?_)
    (case a=>k_is); (case l=>k_is); (case c=>k_is); (case k=>k_is)
    refine' CN.aA (x := "line_of") (st:=CN.kS) KX G ?a ?l ?c ?k (fun d_line_of e_line_of=>?_)
    (case a=>k_is); (case l=>k_is); (case c=>k_is); (case k=>k_is)
    refine' CN.aA (x := "text_of") (st:=CN.ge) KX G ?a ?l ?c ?k (fun d_text_of e_text_of=>?_)
    (case a=>k_is); (case l=>k_is); (case c=>k_is); (case k=>k_is)
    refine' CN.aA (x := "sign_of") (st:=CN.kP) KX G ?a ?l ?c ?k (fun d_sign_of e_sign_of=>?_)
    (case a=>k_is); (case l=>k_is); (case c=>k_is); (case k=>k_is)
    refine' CN.aA (x := "words_of") (st:=CN.jp) KX G ?a ?l ?c ?k (fun d_words_of e_words_of=>?_)
    (case a=>k_is); (case l=>k_is); (case c=>k_is); (case k=>k_is)
    refine' CN.aA (x := "lines_of") (st:=CN.ju) KX G ?a ?l ?c ?k (fun d_lines_of e_lines_of=>?_)
    (case a=>k_is); (case l=>k_is); (case c=>k_is); (case k=>k_is)
    refine' CN.aA (x := "has_form") (st:=CN.gz) KX G ?a ?l ?c ?k (fun d_has_form e_has_form=>?_)
    (case a=>k_is); (case l=>k_is); (case c=>k_is); (case k=>k_is)
    refine' CN.aA (x := "is_number") (st:=CN.ia) KX G ?a ?l ?c ?k (fun d_is_number e_is_number=>?_)
    (case a=>k_is); (case l=>k_is); (case c=>k_is); (case k=>k_is)
    refine' CN.aA (x := "are_numbers_right") (st:=CN.cQ) KX G ?a ?l ?c ?k (fun d_are_numbers_right e_are_numbers_right=>?_)
    (case a=>k_is); (case l=>k_is); (case c=>k_is); (case k=>k_is)
    refine' CN.aA (x := "is_name_free") (st:=CN.dk) KX G ?a ?l ?c ?k (fun d_is_name_free e_is_name_free=>?_)
    (case a=>k_is); (case l=>k_is); (case c=>k_is); (case k=>k_is)
    refine' CN.aA (x := "place_of") (st:=CN.jt) KX G ?a ?l ?c ?k (fun d_place_of e_place_of=>?_)
    (case a=>k_is); (case l=>k_is); (case c=>k_is); (case k=>k_is)
    refine' CN.aA (x := "reach_at") (st:=CN.js) KX G ?a ?l ?c ?k (fun d_reach_at e_reach_at=>?_)
    (case a=>k_is); (case l=>k_is); (case c=>k_is); (case k=>k_is)
    refine' CN.aA (x := "fits") (st:=CN.pJ) KX G ?a ?l ?c ?k (fun d_fits e_fits=>?_)
    (case a=>k_is); (case l=>k_is); (case c=>k_is); (case k=>k_is)
    refine' CN.aA (x := "read_reach") (st:=CN.dj) KX G ?a ?l ?c ?k (fun d_read_reach e_read_reach=>?_)
    (case a=>k_is); (case l=>k_is); (case c=>k_is); (case k=>k_is)
    refine' CN.aA (x := "read_net") (st:=CN.jr) KX G ?a ?l ?c ?k (fun d_read_net e_read_net=>?_)
    (case a=>k_is); (case l=>k_is); (case c=>k_is); (case k=>k_is)
    refine' CN.aA (x := "pass_through") (st:=CN.eQ) KX G ?a ?l ?c ?k (fun d_pass_through e_pass_through=>?_)
    (case a=>k_is); (case l=>k_is); (case c=>k_is); (case k=>k_is)
    refine' CN.aA (x := "passes") (st:=CN.mF) KX G ?a ?l ?c ?k (fun d_passes e_passes=>?_)
    (case a=>k_is); (case l=>k_is); (case c=>k_is); (case k=>k_is)
    refine' CN.aA (x := "pass_of") (st:=CN.kQ) KX G ?a ?l ?c ?k (fun d_pass_of e_pass_of=>?_)
    (case a=>k_is); (case l=>k_is); (case c=>k_is); (case k=>k_is)
    refine' CN.aA (x := "leaving_at") (st:=CN.gy) KX G ?a ?l ?c ?k (fun d_leaving_at e_leaving_at=>?_)
    (case a=>k_is); (case l=>k_is); (case c=>k_is); (case k=>k_is)
    refine' CN.aA (x := "flow_at") (st:=CN.kU) KX G ?a ?l ?c ?k (fun d_flow_at e_flow_at=>?_)
    (case a=>k_is); (case l=>k_is); (case c=>k_is); (case k=>k_is)
    refine' CN.aA (x := "account_of") (st:=CN.gF) KX G ?a ?l ?c ?k (fun d_account_of e_account_of=>?_)
    (case a=>k_is); (case l=>k_is); (case c=>k_is); (case k=>k_is)
    refine' CN.aA (x := "account_of_all") (st:=CN.cG) KX G ?a ?l ?c ?k (fun d_account_of_all e_account_of_all=>?_)
    (case a=>k_is); (case l=>k_is); (case c=>k_is); (case k=>k_is)
    refine' CN.aA (x := "spills_of_all") (st:=CN.cV) KX G ?a ?l ?c ?k (fun d_spills_of_all e_spills_of_all=>?_)
    (case a=>k_is); (case l=>k_is); (case c=>k_is); (case k=>k_is)
    refine' CN.aA (x := "most_leaving") (st:=CN.eR) KX G ?a ?l ?c ?k (fun d_most_leaving e_most_leaving=>?_)
    (case a=>k_is); (case l=>k_is); (case c=>k_is); (case k=>k_is)
    refine' CN.aA (x := "told") (st:=CN.sU) KX G ?a ?l ?c ?k (fun d_told e_told=>?_)
    (case a=>k_is); (case l=>k_is); (case c=>k_is); (case k=>k_is)
    refine' CN.aA (x := "is_reach") (st:=CN.jw) KX G ?a ?l ?c ?k (fun d_is_reach e_is_reach=>?_)
    (case a=>k_is); (case l=>k_is); (case c=>k_is); (case k=>k_is)
    refine' CN.aA (x := "is_tick") (st:=CN.kT) KX G ?a ?l ?c ?k (fun d_is_tick e_is_tick=>?_)
    (case a=>k_is); (case l=>k_is); (case c=>k_is); (case k=>k_is)
    refine' CN.aA (x := "is_water") (st:=CN.jv) KX G ?a ?l ?c ?k (fun d_is_water e_is_water=>?_)
    (case a=>k_is); (case l=>k_is); (case c=>k_is); (case k=>k_is)
    refine' CN.aA (x := "are_asks") (st:=CN.gB) KX G ?a ?l ?c ?k (fun d_are_asks e_are_asks=>?_)
    (case a=>k_is); (case l=>k_is); (case c=>k_is); (case k=>k_is)
    refine' CN.aA (x := "answer_net") (st:=CN.gE) KX G ?a ?l ?c ?k (fun d_answer_net e_answer_net=>?_)
    (case a=>k_is); (case l=>k_is); (case c=>k_is); (case k=>k_is)
    refine' CN.aA (x := "answer_let") (st:=CN.eg) KX G ?a ?l ?c ?k (fun d_answer_let e_answer_let=>?_)
    (case a=>k_is); (case l=>k_is); (case c=>k_is); (case k=>k_is)
    refine' CN.aA (x := "answer_gate") (st:=CN.fM) KX G ?a ?l ?c ?k (fun d_answer_gate e_answer_gate=>?_)
    (case a=>k_is); (case l=>k_is); (case c=>k_is); (case k=>k_is)
    refine' CN.aA (x := "answer_flow") (st:=CN.fN) KX G ?a ?l ?c ?k (fun d_answer_flow e_answer_flow=>?_)
    (case a=>k_is); (case l=>k_is); (case c=>k_is); (case k=>k_is)
    refine' CN.aA (x := "answer_comes") (st:=CN.dq) KX G ?a ?l ?c ?k (fun d_answer_comes e_answer_comes=>?_)
    (case a=>k_is); (case l=>k_is); (case c=>k_is); (case k=>k_is)
    refine' CN.aA (x := "answer_account") (st:=CN.dG) KX G ?a ?l ?c ?k (fun d_answer_account e_answer_account=>?_)
    (case a=>k_is); (case l=>k_is); (case c=>k_is); (case k=>k_is)
    refine' CN.aA (x := "answer_accounts") (st:=CN.dr) KX G ?a ?l ?c ?k (fun d_answer_accounts e_answer_accounts=>?_)
    (case a=>k_is); (case l=>k_is); (case c=>k_is); (case k=>k_is)
    refine' CN.aA (x := "answer_way") (st:=CN.gC) KX G ?a ?l ?c ?k (fun d_answer_way e_answer_way=>?_)
    (case a=>k_is); (case l=>k_is); (case c=>k_is); (case k=>k_is)
    refine' CN.aA (x := "answer_need") (st:=CN.fK) KX G ?a ?l ?c ?k (fun d_answer_need e_answer_need=>?_)
    (case a=>k_is); (case l=>k_is); (case c=>k_is); (case k=>k_is)
    refine' CN.aA (x := "answer_most") (st:=CN.fL) KX G ?a ?l ?c ?k (fun d_answer_most e_answer_most=>?_)
    (case a=>k_is); (case l=>k_is); (case c=>k_is); (case k=>k_is)
    refine' CN.aA (x := "answer_wants") (st:=CN.eT) KX G ?a ?l ?c ?k (fun d_answer_wants e_answer_wants=>?_)
    (case a=>k_is); (case l=>k_is); (case c=>k_is); (case k=>k_is)
    refine' CN.aA (x := "answer_set_gates") (st:=CN.cY) KX G ?a ?l ?c ?k (fun d_answer_set_gates e_answer_set_gates=>?_)
    (case a=>k_is); (case l=>k_is); (case c=>k_is); (case k=>k_is)
    refine' CN.aA (x := "answer_part") (st:=CN.fJ) KX G ?a ?l ?c ?k (fun d_answer_part e_answer_part=>?_)
    (case a=>k_is); (case l=>k_is); (case c=>k_is); (case k=>k_is)
    refine' CN.aA (x := "answer_spills") (st:=CN.d6) KX G ?a ?l ?c ?k (fun d_answer_spills e_answer_spills=>?_)
    (case a=>k_is); (case l=>k_is); (case c=>k_is); (case k=>k_is)
    refine' CN.aA (x := "answer_ifcap") (st:=CN.eU) KX G ?a ?l ?c ?k (fun d_answer_ifcap e_answer_ifcap=>?_)
    (case a=>k_is); (case l=>k_is); (case c=>k_is); (case k=>k_is)
    refine' CN.aA (x := "answer_ends") (st:=CN.fO) KX G ?a ?l ?c ?k (fun d_answer_ends e_answer_ends=>?_)
    (case a=>k_is); (case l=>k_is); (case c=>k_is); (case k=>k_is)
    refine' CN.aA (x := "answer_print_text") (st:=CN.cR) KX G ?a ?l ?c ?k (fun d_answer_print_text e_answer_print_text=>?_)
    (case a=>k_is); (case l=>k_is); (case c=>k_is); (case k=>k_is)
    refine' CN.aA (x := "answer_counts") (st:=CN.d7) KX G ?a ?l ?c ?k (fun d_answer_counts e_answer_counts=>?_)
    (case a=>k_is); (case l=>k_is); (case c=>k_is); (case k=>k_is)
    refine' CN.aA (x := "answer_call") (st:=CN.fP) KX G ?a ?l ?c ?k (fun d_answer_call e_answer_call=>?_)
    (case a=>k_is); (case l=>k_is); (case c=>k_is); (case k=>k_is)
    refine' CN.aA (x := "answers") (st:=CN.kW) KX G ?a ?l ?c ?k (fun d_answers e_answers=>?_)
    (case a=>k_is); (case l=>k_is); (case c=>k_is); (case k=>k_is)
    refine' CN.eB (x := "FUNCTIONS") (xs:=[.ref d_answer_net.f,.ref d_answer_let.f,.ref d_answer_gate.f,.ref d_answer_flow.f,.ref d_answer_comes.f,.ref d_answer_account.f,.ref d_answer_accounts.f,.ref d_answer_way.f,.ref d_answer_need.f,.ref d_answer_most.f,.ref d_answer_wants.f,.ref d_answer_set_gates.f,.ref d_answer_part.f,.ref d_answer_spills.f,.ref d_answer_ifcap.f,.ref d_answer_ends.f,.ref d_answer_print_text.f,.ref d_answer_counts.f]) KX G ?a ?l ?z ?v (fun t_FUNCTIONS=>?_)
    (case a=>k_is); (case l=>k_is); (case z=>decide); (case v=>exact (.cons (CN.cj e_answer_net) (.cons (CN.cj e_answer_let) (.cons (CN.cj e_answer_gate) (.cons (CN.cj e_answer_flow) (.cons (CN.cj e_answer_comes) (.cons (CN.cj e_answer_account) (.cons (CN.cj e_answer_accounts) (.cons (CN.cj e_answer_way) (.cons (CN.cj e_answer_need) (.cons (CN.cj e_answer_most) (.cons (CN.cj e_answer_wants) (.cons (CN.cj e_answer_set_gates) (.cons (CN.cj e_answer_part) (.cons (CN.cj e_answer_spills) (.cons (CN.cj e_answer_ifcap) (.cons (CN.cj e_answer_ends) (.cons (CN.cj e_answer_print_text) (.cons (CN.cj e_answer_counts) .nil)))))))))))))))))))
    refine' CN.rW (x := "Reach") KX G ?a ?pg ?hd ?po ?sa (fun a_Reach m_Reach cl_Reach ea_Reach=>?_)
    (case a=>k_is); (case pg=>k_is); (case hd=>k_is); (case po=>k_is); (case sa=>k_is)
    have na_Reach_name:L2.bc _ a_Reach "name" := CN.gX KX ea_Reach (by k_is)
    have na_Reach_begins:L2.bc _ a_Reach "begins" := CN.gX KX ea_Reach (by k_is)
    have na_Reach_above:L2.bc _ a_Reach "above" := CN.gX KX ea_Reach (by k_is)
    have na_Reach_depth:L2.bc _ a_Reach "depth" := CN.gX KX ea_Reach (by k_is)
    have na_Reach_delay:L2.bc _ a_Reach "delay" := CN.gX KX ea_Reach (by k_is)
    have na_Reach_loss:L2.bc _ a_Reach "loss" := CN.gX KX ea_Reach (by k_is)
    have na_Reach_soak:L2.bc _ a_Reach "soak" := CN.gX KX ea_Reach (by k_is)
    have na_Reach_cap:L2.bc _ a_Reach "cap" := CN.gX KX ea_Reach (by k_is)
    have na_Reach_gate:L2.bc _ a_Reach "gate" := CN.gX KX ea_Reach (by k_is)
    refine' CN.pT (x := "__init__") (q := "Reach.__init__") (st:=CN.gG) KX ea_Reach ?a ?i ?l ?c ?k (fun d_Reach_init me_Reach_init=>?_)
    (case a=>k_is); (case i=>k_is); (case l=>k_is); (case c=>k_is); (case k=>k_is)
    have mk_Reach:L2.Mk _ a_Reach d_Reach_init.f:=CN.mk_of KX ea_Reach me_Reach_init (by k_is) (by k_is)
    refine' CN.rW (x := "Net") KX G ?a ?pg ?hd ?po ?sa (fun a_Net m_Net cl_Net ea_Net=>?_)
    (case a=>k_is); (case pg=>k_is); (case hd=>k_is); (case po=>k_is); (case sa=>k_is)
    have na_Net_reaches:L2.bc _ a_Net "reaches" := CN.gX KX ea_Net (by k_is)
    have na_Net_waters:L2.bc _ a_Net "waters" := CN.gX KX ea_Net (by k_is)
    have na_Net_settings:L2.bc _ a_Net "settings" := CN.gX KX ea_Net (by k_is)
    refine' CN.pT (x := "__init__") (q := "Net.__init__") (st:=CN.jy) KX ea_Net ?a ?i ?l ?c ?k (fun d_Net_init me_Net_init=>?_)
    (case a=>k_is); (case i=>k_is); (case l=>k_is); (case c=>k_is); (case k=>k_is)
    have mk_Net:L2.Mk _ a_Net d_Net_init.f:=CN.mk_of KX ea_Net me_Net_init (by k_is) (by k_is)
    refine' CN.pT (x := "renew") (q := "Net.renew") (st:=CN.ic) KX ea_Net ?a ?i ?l ?c ?k (fun d_Net_renew me_Net_renew=>?_)
    (case a=>k_is); (case i=>k_is); (case l=>k_is); (case c=>k_is); (case k=>k_is)
    have T:CN.Txt _ mg:={ n_len:=n_len,n_range:=n_range,n_reversed:=n_reversed,n_list:=n_list,n_all:=n_all,n_sum:=n_sum,n_min:=n_min,n_enumerate:=n_enumerate,n_zip:=n_zip,n_int:=n_int,n_str:=n_str,n_ord:=n_ord,c_SOURCE:=c_SOURCE,c_TICKS:=c_TICKS,c_MOST_REACHES:=c_MOST_REACHES,c_LONGEST_WAY:=c_LONGEST_WAY,c_LONGEST_NAME:=c_LONGEST_NAME,c_LONGEST_NUMBER:=c_LONGEST_NUMBER,c_NOWHERE:=c_NOWHERE,c_DROPS:=c_DROPS,c_NO_NET:=c_NO_NET,c_OUT_OF_RANGE:=c_OUT_OF_RANGE,c_TOO_MUCH_PARTED:=c_TOO_MUCH_PARTED,c_CANNOT:=c_CANNOT,c_TOO_MANY_SETTINGS:=c_TOO_MANY_SETTINGS,c_MOST_WATER:=c_MOST_WATER,c_MOST_SETTINGS:=c_MOST_SETTINGS,c_MOST_CAP:=c_MOST_CAP,c_NET:=c_NET,c_LETTERS:=c_LETTERS,c_DIGITS:=c_DIGITS,t_FORM:=t_FORM,t_LEAST:=t_LEAST,t_GREATEST:=t_GREATEST,t_HOW_MANY_NUMBERS:=t_HOW_MANY_NUMBERS,t_WITH_ROW:=t_WITH_ROW,common_divisor:=d_common_divisor,lowest:=d_lowest,total:=d_total,with_cap:=d_with_cap,if_held:=d_if_held,way_to:=d_way_to,beginning_at:=d_beginning_at,ends_of:=d_ends_of,gate_part:=d_gate_part,parts_fit:=d_parts_fit,to_take:=d_to_take,can_take:=d_can_take,needed:=d_needed,from_below:=d_from_below,offered_at:=d_offered_at,offers_for:=d_offers_for,part_of:=d_part_of,line_of:=d_line_of,text_of:=d_text_of,sign_of:=d_sign_of,words_of:=d_words_of,lines_of:=d_lines_of,has_form:=d_has_form,is_number:=d_is_number,are_numbers_right:=d_are_numbers_right,is_name_free:=d_is_name_free,place_of:=d_place_of,reach_at:=d_reach_at,fits:=d_fits,read_reach:=d_read_reach,read_net:=d_read_net,pass_through:=d_pass_through,passes:=d_passes,pass_of:=d_pass_of,leaving_at:=d_leaving_at,flow_at:=d_flow_at,account_of:=d_account_of,account_of_all:=d_account_of_all,spills_of_all:=d_spills_of_all,most_leaving:=d_most_leaving,told:=d_told,is_reach:=d_is_reach,is_tick:=d_is_tick,is_water:=d_is_water,are_asks:=d_are_asks,answer_net:=d_answer_net,answer_let:=d_answer_let,answer_gate:=d_answer_gate,answer_flow:=d_answer_flow,answer_comes:=d_answer_comes,answer_account:=d_answer_account,answer_accounts:=d_answer_accounts,answer_way:=d_answer_way,answer_need:=d_answer_need,answer_most:=d_answer_most,answer_wants:=d_answer_wants,answer_set_gates:=d_answer_set_gates,answer_part:=d_answer_part,answer_spills:=d_answer_spills,answer_ifcap:=d_answer_ifcap,answer_ends:=d_answer_ends,answer_print_text:=d_answer_print_text,answer_counts:=d_answer_counts,answer_call:=d_answer_call,answers:=d_answers,t_FUNCTIONS:=t_FUNCTIONS,a_Reach:=a_Reach,m_Reach:=m_Reach,cl_Reach:=cl_Reach,na_Reach_name:=na_Reach_name,na_Reach_begins:=na_Reach_begins,na_Reach_above:=na_Reach_above,na_Reach_depth:=na_Reach_depth,na_Reach_delay:=na_Reach_delay,na_Reach_loss:=na_Reach_loss,na_Reach_soak:=na_Reach_soak,na_Reach_cap:=na_Reach_cap,na_Reach_gate:=na_Reach_gate,Reach_init:=d_Reach_init,mk_Reach:=mk_Reach,a_Net:=a_Net,m_Net:=m_Net,cl_Net:=cl_Net,na_Net_reaches:=na_Net_reaches,na_Net_waters:=na_Net_waters,na_Net_settings:=na_Net_settings,Net_init:=d_Net_init,mk_Net:=mk_Net,Net_renew:=d_Net_renew,me_Net_renew:=me_Net_renew }
    have e:fa=T.answers.f:=by
      have z:=hmg.symm.trans T.answers.m
      injection z with z
      injection z
    subst e
    exact ⟨T.answers.fd,CN.wd T.answers (fun _ _ _ _ _ _ _=>rfl),fun base _ _=>CN.tz T⟩
  case S =>
    intro K H xs a hO hwi hask hx
    cases hx with
    | cons h1 h2 =>
      cases h2
      cases h1 with
      | lst hs ha =>
        have e:=L2.uQ a.1 _ ha
        subst e
        have q:PyVbiraa.answers_asked a.1=true:=hask
        obtain ⟨cs,q1,q2,q3⟩:=CN.ya q
        exact ⟨_,a.1,cs,rfl,hO,hs,q1,q2,q3,fun H' p hp=>.lst (L2.SqL.of hp) (L2.uS _)⟩

import PyProof.Rows.All
import Wide.All
import OpenK.AllK
import Wide.FinOn
import Lean
import PyProof.EqAt
import PyProof.EqKinds
import PyProof.TupleCall
import PyProof.NeKinds
import PyProof.ZipIter
import KE.KSortTup
import PyProof.TupleKey
import PyProof.SetKind
import PyProof.IsRules
import PyProof.Rows.SetFrom
import PyProof.Rows.SortShell
import KE.KDictList
import KE.KDictSum
import PyProof.MinMaxWalk
import PyProof.Rows.CallKwBuiltin
import PyProof.TupleIter
import KE.KIntText
import PyProof.Rows.StrWeight2
import PyProof.Rows.StrNews
import PyProof.StrWalks
import PyProof.FString5
import PyProof.SliceStr2
import PyProof.FitsReplace
import PyProof.Rows.StrSplitCount
import PySem.Str
import PyProof.Rows.SortRuns
import PyProof.SetRoads
import PyProof.Draws
import PyProof.EnumStmt
import PyProof.Rows.EnumRows
import PyProof.CollectWalk
import PySem.Challenge.RW_healfloor_k73_sides_of_many
set_option linter.all false
set_option maxRecDepth 100000
set_option Elab.async false
set_option maxHeartbeats 8000000
namespace L2
open PySem PySem.Spec PyProof.Rows
abbrev Key:=Sum Int Str
def zLs:Key->Value->Bool
 | .inl k,v=>Value.isInt k v
 | .inr x,v=>Value.isStrOf x v
def keyH (w:World):Key->Int
 | .inl k=>hashInt k
 | .inr x=>hashStr w x
theorem zAs:∀{k:Key}{v:Value},zLs k v=true->(∃i t,k=Sum.inl i/\v=Value.int i t)\/(∃x t,k=Sum.inr x/\v=Value.str x t)
 | .inl i,v,h=>by
  obtain⟨t,e⟩:=Value.isInt_shape (k:=i) (v:=v) h
  exact .inl ⟨i,t,rfl,e⟩
 | .inr x,v,h=>by
  obtain⟨t,e⟩:=Value.isStrOf_shape (x:=x) (v:=v) h
  exact .inr ⟨x,t,rfl,e⟩
theorem zOa (i:Int) (t:Tok):zLs (.inl i) (.int i t)=true:=by simp[zLs,Value.isInt]
theorem zO9 (x:Str) (t:Tok):zLs (.inr x) (.str x t)=true:=by simp[zLs,Value.isStrOf]
theorem zYh (a b:Int):decide ((Sum.inl a:Key)=Sum.inl b)=(a == b):=by
 by_cases e:a=b
 ·subst e;simp
 ·have h:¬ (Sum.inl a:Key)=Sum.inl b:=fun q=>e (Sum.inl.inj q)
  rw[decide_eq_false h]
  exact(beq_eq_false_iff_ne.mpr e).symm
theorem zYe (a b:Str):decide ((Sum.inr a:Key)=Sum.inr b)=decide (a=b):=by
 by_cases e:a=b
 ·subst e;simp
 ·have h:¬ (Sum.inr a:Key)=Sum.inr b:=fun q=>e (Sum.inr.inj q)
  rw[decide_eq_false h,decide_eq_false e]
theorem zYg (a:Int) (b:Str):decide ((Sum.inl a:Key)=Sum.inr b)=false:=decide_eq_false (fun q=>nomatch q)
theorem zYf (a:Str) (b:Int):decide ((Sum.inr a:Key)=Sum.inl b)=false:=decide_eq_false (fun q=>nomatch q)
def zB9 (prog:Program) (w:World):PySem.KeyKind prog w Key where
 is:=zLs
 hash:=keyH w
 inj:=fun v a b ha hb=>by
  rcases zAs ha with⟨i,t,rfl,rfl⟩|⟨x,t,rfl,rfl⟩
  ·rcases zAs hb with⟨j,u,rfl,e⟩|⟨y,u,rfl,e⟩
   ·injection e with e1 _;rw[e1]
   ·exact nomatch e
  ·rcases zAs hb with⟨j,u,rfl,e⟩|⟨y,u,rfl,e⟩
   ·exact nomatch e
   ·injection e with e1 _;rw[e1]
 byValue:=fun k v h=>by
  rcases zAs h with⟨i,t,rfl,rfl⟩|⟨x,t,rfl,rfl⟩ <;> rfl
 pyHash:=fun hv h=>by
  rcases zAs hv with⟨i,t,rfl,rfl⟩|⟨x,t,rfl,rfl⟩
  ·exact wpAny_pyHash_int h
  ·exact wpAny_pyHash_str h
 eqBool:=fun hu hv h=>by
  rcases zAs hu with⟨i,t,rfl,rfl⟩|⟨x,t,rfl,rfl⟩
  ·rcases zAs hv with⟨j,u,rfl,rfl⟩|⟨y,u,rfl,rfl⟩
   ·rw[zYh]at h;exact wpAny_eqBool_int h
   ·rw[zYg]at h;exact SeqAt.EqAt.int_str i t y u _ _ _ _ h
  ·rcases zAs hv with⟨j,u,rfl,rfl⟩|⟨y,u,rfl,rfl⟩
   ·rw[zYf]at h;exact SeqAt.EqAt.str_int x t j u _ _ _ _ h
   ·rw[zYe]at h;exact wpAny_eqBool_str h
 «strs»:=fun k x t v h=>by
  rcases zAs h with⟨i,u,rfl,e⟩|⟨y,u,rfl,e⟩
  ·exact nomatch e
  ·injection e with e1 _
   subst e1
   cases v <;> rfl
theorem zJb (prog:Program) (w:World) (i:Int) (t:Tok):(zB9 prog w).is (.inl i) (.int i t)=true:=zOa i t
theorem zJa (prog:Program) (w:World) (x:Str) (t:Tok):(zB9 prog w).is (.inr x) (.str x t)=true:=zO9 x t
end L2
namespace L2
open PySem PySem.Spec PyProof.Rows
inductive V where
 | non|bl (b:Bool)|int (i:Int)|str (x:Str)|byt (b:Array UInt8)|flt (b:UInt64)|ref (a:Addr)|ty (n:String)
 deriving DecidableEq
def RelV:V->Value->Prop
 | .non,u=>u=Value.none
 | .bl b,u=>u=Value.bool b
 | .int i,u=>∃t,u=Value.int i t
 | .str x,u=>∃t,u=Value.str x t
 | .byt b,u=>∃t,u=Value.bytes b t
 | .flt b,u=>∃t,u=Value.float b t
 | .ref a,u=>u=Value.ref a
 | .ty n,u=>u=Value.type n
abbrev Vals:List V->List Value->Prop:=Paired RelV
theorem Vals.length {xs:List V}{us:List Value}(r:Vals xs us):xs.length=us.length:=Paired.length r
theorem Vals.get:∀{xs:List V}{us:List Value}{i:Nat}{x:V},Vals xs us->xs[i]?=some x->∃u,us[i]?=some u/\RelV x u
 | _,_,_,_,.nil,e=>by simp at e
 | _,_,0,_,.cons r _,e=>by simp at e;subst e;exact⟨_,rfl,r⟩
 | _,_,i+1,x,.cons _ t,e=>by
  obtain⟨u,h1,h2⟩:=Vals.get (i:=i) (x:=x) t (by simpa using e)
  exact⟨u,by simpa using h1,h2⟩
theorem Vals.append:∀{xs ys:List V}{us ws:List Value},Vals xs us->Vals ys ws->Vals (xs++ys) (us++ws)
 | _,_,_,_,.nil,s=>s
 | _,_,_,_,.cons r t,s=>.cons r (Vals.append t s)
theorem Vals.take:∀{xs:List V}{us:List Value}(n:Nat),Vals xs us->Vals (xs.take n) (us.take n)
 | _,_,0,_=>.nil
 | _,_,_+1,.nil=>.nil
 | _,_,n+1,.cons r t=>.cons r (Vals.take n t)
theorem Vals.drop:∀{xs:List V}{us:List Value}(n:Nat),Vals xs us->Vals (xs.drop n) (us.drop n)
 | _,_,0,r=>r
 | _,_,_+1,.nil=>.nil
 | _,_,n+1,.cons _ t=>Vals.drop n t
def RelO:Option V->Option Value->Prop
 | some v,some u=>RelV v u
 | none,none=>True
 | _,_=>False
def KV {κ:Type}:List (κ × V)->List (κ × Value)->Prop:=Paired fun(p:κ × V) (q:κ × Value)=>p.1=q.1/\RelV p.2 q.2
def kV:Key->V
 | .inl i=>.int i
 | .inr x=>.str x
inductive HO where
 /-- a list -/
 | lst (xs:List V)
 /-- a tuple (never changes) -/
 | tup (xs:List V)
 /-- a dict whose keys are ints and texts;one whose keys are tuples of ints and texts (the empty one is both) -/
 | dK (kvs:List (Key × V))|dT (kvs:List (List Key × V))
 /-- a set of ints: its members,its size -/
 | set (S:Int->Bool) (n:Nat)
 /-- an instance of the class at C,its dict at dx,its attributes -/
 | ins (C dx:Addr) (fs:List (Str × V))
 /-- the dict of the instance at x -/
 | own (x:Addr)
 /-- the dict of an exception -/
 | xd (fs:List (Str × V))
 /-- a bound method,f of x -/
 | met (f x:Addr)
 /-- a range object lo,lo+1,.. below hi -/
 | rng (lo hi:Int)
 /-- a thing that is known to the object (the script;a dict while a loop walks it): read,never written while it is so -/
 | frz (o:Obj) (u:HO)
 /-- a code object's table -/
 | tbl (ps:Array Value)
 /-- any other thing,by what is true of its one object (a def of one's own: SetO a S n:=HO.ext fun h=>..) -/
 | ext (φ:Heap->Prop)
abbrev Hp:=Addr->Option HO
def upd (H:Hp) (a:Addr) (o:HO):Hp:=fun b=>if b=a then some o else H b
theorem zAo {H:Hp}{a:Addr}{o:HO}:upd H a o a=some o:=by unfold upd;rw[if_pos rfl]
theorem zAh {H:Hp}{a b:Addr}{o:HO}(h:b≠a):upd H a o b=H b:=by unfold upd;rw[if_neg h]
theorem zAd {H:Hp}{a b:Addr}{o:HO}(h:H a=some o) (h':H b=none):a≠b:=by
 intro e;subst e;rw[h]at h';cases h'
section
variable (P:Program) (w:World)
def ObjOk (H:Hp) (h:Heap) (a:Addr):HO->Prop
 | .lst xs=>xs.length<=sizeLine/\∃(its:List Value) (n:Nat),Vals xs its/\h.get? a=some { cls:=.type "list",data:=.seq its.toArray n }
 | .tup xs=>xs.length<=sizeLine/\∃its:List Value,Vals xs its/\IsTup h a its.toArray
 | .dK kvs=>kvs.length<=sizeLine/\(a == sysModules)=false/\∃vs,KV kvs vs/\h.DictOf (zB9 P w) a vs
 | .dT kvs=>kvs.length<=sizeLine/\(a == sysModules)=false/\∃xs:List (List Key × Addr × Value),
   Paired (fun(p:List Key × V) (q:List Key × Addr × Value)=>p.1=q.1/\H q.2.1=some (.tup (p.1.map kV))/\RelV p.2 q.2.2) kvs xs /\
   ∃o es ep,h.get? a=some o/\o.ExactDict/\o.data=.dict es ep/\es.toList=xs.map (entryOfKey (tupleKind (zB9 P w)))/\(xs.map (·.1)).Nodup
 | .set S n=>h.SetOf (intKind P w) a S n
 | .ins C dx fs=>H dx=some (.own a)/\fs.length<=1000/\dx≠a/\h.get? a=some (PySem.W.instObj C dx) /\
   ∃mA,h.Ns1 dx mA/\(∀f,RelO (fs.lookup f) (mA f))/\PySem.Within mA (fs.map (·.1))
 | .own _=>∃o,h.get? a=some o
 | .xd fs=>∃mA,h.Ns1 a mA/\∀f,RelO (fs.lookup f) (mA f)
 | .rng lo hi=>∃t u v,h.get? a=some { cls:=.type "range",data:=.fields #[.int lo t,.int hi u,.int 1 v] }
 | .frz o u=>h.get? a=some o/\ObjOk H h a u
 | .tbl ps=>h.get? a=some { cls:=.none,data:=.fields ps }
 | .met f x=>h.get? a=some (PySem.W.methodObj (.ref f) (.ref x))
 | .ext φ=>φ h/\(∃o,h.get? a=some o)/\∀h1 h2:Heap,φ h1->(∀o,h1.get? a=some o->h2.get? a=some o)->φ h2
def HOk (H:Hp) (h:Heap):Prop:=∀a o,H a=some o->ObjOk P w H h a o
end
section
variable {P:Program}{w:World}{H H':Hp}{h h':Heap}{a:Addr}{o:HO}
theorem ObjOk.lt (x:ObjOk P w H h a o):a<h.objs.size:=by
 cases o with
 | lst xs=>obtain⟨_,_,_,_,e⟩:=x;exact Heap.lt_size e
 | tup xs=>obtain⟨_,_,_,p⟩:=x;exact p.lt
 | dK kvs=>obtain⟨_,_,_,_,o,_,_,e,_⟩:=x;exact Heap.lt_size e
 | dT kvs=>obtain⟨_,_,_,_,o,_,_,e,_⟩:=x;exact Heap.lt_size e
 | set S n=>obtain⟨o,_,_,_,e,_⟩:=x;exact Heap.lt_size e
 | ins C dx fs=>obtain⟨_,_,_,e,_⟩:=x;exact Heap.lt_size e
 | own y=>obtain⟨_,e⟩:=x;exact Heap.lt_size e
 | xd fs=>obtain⟨_,⟨_,_,_,e,_⟩,_⟩:=x;exact Heap.lt_size e
 | rng lo hi=>obtain⟨_,_,_,e⟩:=x;exact Heap.lt_size e
 | frz ob u=>obtain⟨e,_⟩:=x;exact Heap.lt_size e
 | tbl ps=>exact Heap.lt_size (show h.get? a=some _ from x)
 | met f y=>exact Heap.lt_size (show h.get? a=some _ from x)
 | ext φ=>obtain⟨_,⟨_,e⟩,_⟩:=x;exact Heap.lt_size e
theorem Paired.mapP {α β:Type}{F G:α->β->Prop}:∀{l₁:List α}{l₂:List β},Paired F l₁ l₂->(∀a b,F a b->G a b)->Paired G l₁ l₂
 | _,_,.nil,_=>.nil
 | _,_,.cons r t,f=>.cons (f _ _ r) (Paired.mapP t f)
theorem ObjOk.stay (x:ObjOk P w H h a o) (k:∀b u,(b=a\/H b=some (.own a))->h.get? b=some u->h'.get? b=some u)
  (ho:∀b,H b=some (.own a)->H' b=some (.own a)) (ht:∀b xs,H b=some (.tup xs)->H' b=some (.tup xs)):ObjOk P w H' h' a o:=by
 induction o with
 | lst xs=>obtain⟨z,its,n,r,e⟩:=x;exact⟨z,its,n,r,k _ _ (.inl rfl) e⟩
 | tup xs=>obtain⟨z,its,r,ob,e,c⟩:=x;exact⟨z,its,r,ob,k _ _ (.inl rfl) e,c⟩
 | dK kvs=>obtain⟨z,y,vs,r,ob,es,ep,e,c⟩:=x;exact⟨z,y,vs,r,ob,es,ep,k _ _ (.inl rfl) e,c⟩
 | dT kvs=>
  obtain⟨z,y,xs,r,ob,es,ep,e,c⟩:=x
  exact⟨z,y,xs,Paired.mapP r fun p q z=>⟨z.1,ht _ _ z.2.1,z.2.2⟩,ob,es,ep,k _ _ (.inl rfl) e,c⟩
 | set S n=>obtain⟨ob,es,ep,t,e,c⟩:=x;exact⟨ob,es,ep,t,k _ _ (.inl rfl) e,c⟩
 | ins C dx fs=>
  obtain⟨d,z,ne,e,mA,⟨od,es,ep,e2,c⟩,r⟩:=x
  exact⟨ho _ d,z,ne,k _ _ (.inl rfl) e,mA,⟨od,es,ep,k _ _ (.inr d) e2,c⟩,r⟩
 | own y=>obtain⟨ob,e⟩:=x;exact⟨ob,k _ _ (.inl rfl) e⟩
 | xd fs=>obtain⟨mA,⟨od,es,ep,e,c⟩,r⟩:=x;exact⟨mA,⟨od,es,ep,k _ _ (.inl rfl) e,c⟩,r⟩
 | rng lo hi=>obtain⟨t,u,v,e⟩:=x;exact⟨t,u,v,k _ _ (.inl rfl) e⟩
 | frz ob u ih=>obtain⟨e,q⟩:=x;exact⟨k _ _ (.inl rfl) e,ih q⟩
 | tbl ps=>
  have e:h.get? a=some { cls:=.none,data:=.fields ps }:=x
  show h'.get? a=some { cls:=.none,data:=.fields ps }
  exact k a _ (.inl rfl) e
 | met f y=>
  have e:h.get? a=some (PySem.W.methodObj (.ref f) (.ref y)):=x
  show h'.get? a=some (PySem.W.methodObj (.ref f) (.ref y))
  exact k a _ (.inl rfl) e
 | ext φ=>obtain⟨p,⟨o,e⟩,st⟩:=x;exact⟨st _ _ p fun o q=>k _ _ (.inl rfl) q,⟨o,k _ _ (.inl rfl) e⟩,st⟩
theorem HOk.lt (x:HOk P w H h) (e:H a=some o):a<h.objs.size:=(x a o e).lt
theorem HOk.fresh (x:HOk P w H h) (e:h.objs.size<=a):H a=none:=by
 cases q:H a with
 | none=>rfl
 | some u=>exact absurd (Nat.lt_of_lt_of_le (x.lt q) e) (Nat.lt_irrefl _)
theorem HOk.kept (x:HOk P w H h) (k:∀b u,h.get? b=some u->h'.get? b=some u):HOk P w H h':=fun a o e=>
 (x a o e).stay (fun b u _ q=>k b u q) (fun _ q=>q) fun _ _ q=>q
theorem HOk.laid (x:HOk P w H h) (k:∀b u,h.get? b=some u->h'.get? b=some u) (hp:h.objs.size<=a) (new:ObjOk P w (upd H a o) h' a o):HOk P w (upd H a o) h':=fun b u e=>by
 have hn:=x.fresh hp
 by_cases hb:b=a
 ·subst hb;rw[zAo]at e;cases e;exact new
 ·rw[zAh hb]at e
  exact(x b u e).stay (fun c v _ q=>k c v q) (fun c q=>by rw[zAh (zAd q hn)];exact q) fun c xs q=>by rw[zAh (zAd q hn)];exact q
end
def Rd (H:Hp) (a:Addr) (u:HO):Prop:=H a=some u\/∃o,H a=some (.frz o u)
theorem Rd.ok {P:Program}{w:World}{H:Hp}{h:Heap}{a:Addr}{u:HO}(r:Rd H a u) (x:HOk P w H h):ObjOk P w H h a u:=by
 rcases r with r|⟨o,r⟩
 ·exact x a u r
 ·obtain⟨_,q⟩:=x a _ r
  exact q
def Mut:Option HO->Prop
 | some (.lst _)=>True
 | some (.dK _)=>True
 | some (.dT _)=>True
 | some (.set _ _)=>True
 | some (.ins _ _ _)=>True
 | some (.ext _)=>True
 | _=>False
section
variable {P:Program}{w:World}{H:Hp}{h h':Heap}{x e:Addr}{o':HO}
theorem HOk.write (ok:HOk P w H h) (mu:Mut (H x)) (he:e=x\/H e=some (.own x)) (k:∀b u,b≠e->h.get? b=some u->h'.get? b=some u) (heo:∃u,h'.get? e=some u)
  (new:ObjOk P w (upd H x o') h' x o'):HOk P w (upd H x o') h':=fun b u q=>by
 have nown:∀c y,H c=some (.own y)->c≠x:=fun c y r z=>by subst z;rw[r]at mu;exact mu
 have ntup:∀c xs,H c=some (.tup xs)->c≠x:=fun c xs r z=>by subst z;rw[r]at mu;exact mu
 by_cases hb:b=x
 ·subst hb;rw[zAo]at q;cases q;exact new
 ·rw[zAh hb]at q
  by_cases hbe:b=e
  ·have q':H b=some (.own x):=by
    rcases he with z|z
    ·exact absurd (hbe.trans z) hb
    ·rw[hbe];exact z
   rw[q]at q';cases q'
   obtain⟨v,hv⟩:=heo
   exact⟨v,by rw[hbe];exact hv⟩
  ·refine(ok b u q).stay (fun c v hc r=>k c v ?_ r) (fun c r=>by rw[zAh (nown c b r)];exact r) fun c xs r=>by rw[zAh (ntup c xs r)];exact r
   rcases hc with rfl|hc
   ·exact hbe
   ·rintro rfl
    rcases he with z|z
    ·exact nown c b hc z
    ·rw[hc]at z;cases z;exact hb rfl
end
structure Un (fs ex:List Addr) (H H':Hp) (h h':Heap):Prop where
 keep:∀b o,h.get? b=some o->H b=none->b ∉ fs->b ∉ ex->h'.get? b=some o
 slot:∀b o,h.get? b=some o->H b=none->b∈fs->b ∉ ex->∃sl,h'.get? b=some { o with slots:=sl }
 free:∀b o,h.get? b=some o->H b=none->b ∉ ex->H' b=none
 there:∀b o,h.get? b=some o->b ∉ ex->∃o',h'.get? b=some o'
 tups:∀b xs,H b=some (.tup xs)->H' b=some (.tup xs)
 frzs:∀b o u,H b=some (.frz o u)->H' b=some (.frz o u)
 tbls:∀b ps,H b=some (.tbl ps)->∃more,H' b=some (.tbl (ps++more))
section
variable {fs fs' ex ex':List Addr}{H H1 H2:Hp}{h h1 h2 h':Heap}{a x e:Addr}{o:HO}
theorem Un.any (u:Un fs ex H H1 h h1) {b:Addr}{ob:Obj}(q:h.get? b=some ob) (n:H b=none) (hx:b ∉ ex):∃sl,h1.get? b=some { ob with slots:=sl }:=by
 by_cases hb:b∈fs
 ·exact u.slot b ob q n hb hx
 ·exact⟨ob.slots,u.keep b ob q n hb hx⟩
theorem Un.kept (k:∀b u,h.get? b=some u->h'.get? b=some u):Un fs ex H H h h':=
 ⟨fun b ob q _ _ _=>k b ob q,fun b ob q _ _ _=>⟨ob.slots,k b ob q⟩,fun _ _ _ n _=>n,fun b ob q _=>⟨ob,k b ob q⟩,fun _ _ q=>q,fun _ _ _ q=>q,fun _ ps q=>⟨#[],by rw[q];simp⟩⟩
theorem Un.refl:Un fs ex H H h h:=Un.kept fun _ _ q=>q
theorem Un.laid (k:∀b u,h.get? b=some u->h'.get? b=some u) (hp:h.objs.size<=a) (hn:H a=none):Un fs ex H (upd H a o) h h' where
 keep:=fun b u q _ _ _=>k b u q
 slot:=fun b u q _ _ _=>⟨u.slots,k b u q⟩
 free:=fun b u q n _=>by rw[zAh (Nat.ne_of_lt (Nat.lt_of_lt_of_le (Heap.lt_size q) hp))];exact n
 there:=fun b u q _=>⟨u,k b u q⟩
 tups:=fun b xs q=>by rw[zAh (zAd q hn)];exact q
 frzs:=fun b u xs q=>by rw[zAh (zAd q hn)];exact q
 tbls:=fun b ps q=>⟨#[],by rw[zAh (zAd q hn),q];simp⟩
theorem Un.write (mu:Mut (H x)) (he:e=x\/H e=some (.own x)) (k:∀b u,b≠e->h.get? b=some u->h'.get? b=some u) (heo:∃u,h'.get? e=some u):Un fs ex H (upd H x o) h h':=by
 have hx:∀b,H b=none->b≠x:=fun b n z=>by subst z;rw[n]at mu;exact mu
 have hb:∀b,H b=none->b≠e:=fun b n z=>by
  subst z
  rcases he with r|r
  ·exact hx b n r
  ·rw[n]at r;cases r
 have hm:∀b u,H b=some u->¬ Mut (some u)->b≠x:=fun b u q nm z=>by subst z;rw[q]at mu;exact nm mu
 refine⟨fun b u q n _ _=>k b u (hb b n) q,fun b u q n _ _=>⟨u.slots,k b u (hb b n) q⟩,fun b u q n _=>by rw[zAh (hx b n)];exact n,fun b u q _=>?_,
  fun b xs q=>by rw[zAh (hm b _ q fun z=>z)];exact q,fun b u xs q=>by rw[zAh (hm b _ q fun z=>z)];exact q,fun b ps q=>⟨#[],by rw[zAh (hm b _ q fun z=>z),q];simp⟩⟩
 by_cases hbe:b=e
 ·subst hbe;exact heo
 ·exact⟨u,k b u hbe q⟩
end
def trk (h:Heap) (H:Hp):List Addr:=(List.range h.objs.size).filter fun a=>(H a).isSome
def hidT (h:Heap) (H:Hp):Heap:=PySem.W.hideAll h (trk h H)
theorem zOj (h:Heap) (H:Hp):(hidT h H).objs.size=h.objs.size:=PySem.W.hideAll_size _ _
theorem zRg {h:Heap}{H:Hp}{b:Addr}{o:Obj}(e:h.get? b=some o) (n:H b=none):(hidT h H).get? b=some o:=
 PySem.W.hideAll_get _ e fun hm=>by
  have q:(H b).isSome=true:=(List.mem_filter.mp hm).2
  rw[n]at q;simp at q
theorem zV2 {h:Heap}{H:Hp}{b:Addr}{o:Obj}(e:(hidT h H).get? b=some o):h.get? b=some o/\H b=none:=by
 have e':h.get? b=some o:=PySem.W.of_hideAll (trk h H) e
 refine⟨e',?_⟩
 cases q:H b with
 | none=>rfl
 | some x=>
  have hm:b∈trk h H:=List.mem_filter.mpr ⟨List.mem_range.mpr (Heap.lt_size e'),by simp[q]⟩
  have z:(hidT h H).get? b=none:=PySem.W.hideAll_none (trk h H) hm
  rw[z]at e;cases e
def zWe (g h:Heap) (L:Addr):List (Addr × Obj):=(List.range h.objs.size).filterMap fun a=>if a=L\/(g.get? a).isSome=true then none else(h.get? a).map fun o=>(a,o)
def rest (g h:Heap) (L d:Addr):List (Addr × Obj):=(zWe g h L).filter fun p=>decide (p.1≠d)
end L2
namespace L2
open PySem PySem.Spec PyProof.Rows
structure Mod (K:PySem.W.Frag) (mg:Str->Option Value) (base:Heap):Prop where
 kin:K.In base
 glob:base.Ns mainGlobals mg
 blt:∃mb,base.Ns builtinsNs mb/\∀x:Str,x≠"__name__"->mb x=bootBuiltins x
 nolimit:base.NoLimit
/-- the context: a def's body (or a comprehension's block) running. base: fixed through the whole law;s₀,H₀: the entry;outer: the frames whose slots others may change (a def's callers);stack: all frames that run;
   ex: iterators that were made ahead of the entry and are walked here (a comprehension's);fn: the names whose cells were made at the entry (a def: all;a comprehension's block: its own);calm: not within an except suite;pn: pins that every state bears;xe: what is wanted of an exception that leaves the code -/
structure Cx where
  prog:Program
  w:World
  K:PySem.W.Frag
  mg:Str->Option Value
  base:Heap
  A:Around
  N:List Str
  s₀:Shared
  H₀:Hp
  env:Env
  outer:List Env
  stack:List Env
  ex:List Addr
  fn:Str->Bool
  calm:Bool
  pn:List (Addr × Obj)
  xe:Value->Shared->Prop
def frs (l:List Env):List Addr:=l.filterMap (·.frame)
abbrev Cx.fs (X:Cx):List Addr:=frs X.outer
def Vis (sc:Scope) (x:Str):Prop:=sc.names.lookup x=some .local\/sc.names.lookup x=some .cell\/sc.names.lookup x=some .free
def Loc (sc:Scope) (x:Str):Prop:=sc.names.lookup x=some .local\/sc.names.lookup x=some .cell
def Look (env:Env) (h:Heap) (m:Str->Option Value) (x:Str) (u:Value):Prop:=
 (env.kindOf x=some .local/\m x=some u)\/((env.kindOf x=some .cell\/env.kindOf x=some .free)/\∃c,env.cells.lookup x=some c/\h.IsCell c (some u))
structure Cx.Ok (X:Cx):Prop where
 mod:Mod X.K X.mg X.base
 kind:X.env.scope.kind=.function
 glob:X.env.globals=mainGlobals
 blt:X.env.builtins=builtinsNs
 above:X.s₀.heap.objs.size<=X.env.locals
 inj:∀x y c,X.env.cells.lookup x=some c->X.env.cells.lookup y=some c->x=y
 has:∀x,(X.env.kindOf x=some .cell\/X.env.kindOf x=some .free)->∃c,X.env.cells.lookup x=some c
 cab:∀x c,X.fn x=true->X.env.cells.lookup x=some c->X.s₀.heap.objs.size<=c
 hd:X.calm=true->X.A.handled=none
 frames:X.A.frames=some X.stack
 stk:X.stack=X.outer\/(X.stack=X.env::X.outer/\X.env.frame=some X.env.locals)
 exf:∀b∈X.ex,b≠X.env.locals/\∀x c,X.env.cells.lookup x=some c->c≠b
 bs:∀b o,X.base.get? b=some o->X.s₀.heap.get? b=some o/\X.H₀ b=none
 bsz:X.base.objs.size<=X.s₀.heap.objs.size
 noex:∀b o,X.base.get? b=some o->b ∉ X.ex
 exfs:∀b∈X.ex,b ∉ X.fs
 funs:X.s₀.heap.FunFrames X.base X.outer
 frf:∀b∈X.fs,X.H₀ b=none
structure Inv (X:Cx) (pins:List (Addr × Obj)) (σ:List (Option V)) (H:Hp) (s:Shared):Prop where
 ok:X.Ok
 os:s.os=X.s₀.os
 bare:AllBare s.gens
 base:Un X.fs X.ex X.H₀ H X.s₀.heap s.heap
 loc:∃m,s.heap.Ns X.env.locals m/\∀(i:Nat) (x:Str) (v:V),X.N[i]?=some x->σ[i]?=some (some v)->Vis X.env.scope x->∃u,RelV v u/\Look X.env s.heap m x u
 cell:∀x c,X.env.cells.lookup x=some c->∃v,s.heap.IsCell c v
 free:H X.env.locals=none
 freeC:∀x c,X.env.cells.lookup x=some c->H c=none
 pin:∀p∈X.pn++pins,s.heap.get? p.1=some p.2/\H p.1=none/\p.1≠X.env.locals/\p.1 ∉ X.fs/\∀v,p.2.data≠.cell v
 hok:HOk X.prog X.w H s.heap
 len:σ.length=X.N.length
section
variable {X:Cx}{pins:List (Addr × Obj)}{σ:List (Option V)}{H H':Hp}{s:Shared}{h':Heap}
theorem Cx.Ok.nofr (ok:X.Ok) {b:Addr}{o:Obj}(e:X.base.get? b=some o):b ∉ X.fs:=fun hb=>by
 have:=(ok.funs.mem hb).1
 rw[e]at this;cases this
theorem Inv.bs (I:Inv X pins σ H s):∀b o,X.base.get? b=some o->s.heap.get? b=some o/\H b=none:=fun b o e=>
 ⟨I.base.keep b o (I.ok.bs b o e).1 (I.ok.bs b o e).2 (I.ok.nofr e) (I.ok.noex b o e),I.base.free b o (I.ok.bs b o e).1 (I.ok.bs b o e).2 (I.ok.noex b o e)⟩
theorem Inv.bk (I:Inv X pins σ H s):∀b o,X.base.get? b=some o->s.heap.get? b=some o:=fun b o e=>(I.bs b o e).1
theorem Inv.mod (I:Inv X pins σ H s):Mod X.K X.mg X.base:=I.ok.mod
theorem Inv.kIn (I:Inv X pins σ H s):X.K.In s.heap:=I.ok.mod.kin.keeps I.bk
theorem Inv.lt (I:Inv X pins σ H s):X.env.locals<s.heap.objs.size:=let ⟨_,hn,_⟩:=I.loc;hn.lt
theorem Inv.sz (I:Inv X pins σ H s):X.s₀.heap.objs.size<=s.heap.objs.size:=Nat.le_trans I.ok.above (Nat.le_of_lt I.lt)
theorem Inv.nofs (I:Inv X pins σ H s) {a:Addr}(h:s.heap.objs.size<=a):a ∉ X.fs:=fun hb=>by
 obtain⟨_,o,ho,_⟩:=I.ok.funs.mem hb
 exact absurd (Nat.lt_of_lt_of_le (Heap.lt_size ho) (Nat.le_trans I.sz h)) (Nat.lt_irrefl _)
theorem Inv.cne (I:Inv X pins σ H s):∀x c,X.env.cells.lookup x=some c->c≠X.env.locals:=fun x c e z=>by
 obtain⟨v,o,ho,hd⟩:=I.cell x c e
 obtain⟨m,⟨o',es,ep,ho',hd',_⟩,_⟩:=I.loc
 rw[z,ho']at ho;cases ho;rw[hd']at hd;cases hd
theorem Inv.funs (I:Inv X pins σ H s):s.heap.FunFrames X.base X.outer:=by
 have all:∀(l:List Env),(∀b∈frs l,b∈X.fs)->X.s₀.heap.FunFrames X.base l->s.heap.FunFrames X.base l:=by
  intro l
  induction l with
  | nil=>intro _ _;trivial
  | cons env r ih=>
   intro hs hl
   obtain⟨hk,⟨L,o,hf,hn,ho,hd⟩,hr⟩:=hl
   have hL:L∈X.fs:=hs L (by unfold frs;rw[List.filterMap_cons,hf];exact List.mem_cons_self)
   obtain⟨sl,e⟩:=I.base.slot L o ho (I.ok.frf L hL) hL fun z=>I.ok.exfs L z hL
   exact⟨hk,⟨L,_,hf,hn,e,hd⟩,ih (fun b hb=>hs b (by unfold frs;rw[List.filterMap_cons,hf];exact List.mem_cons_of_mem _ hb)) hr⟩
 exact all X.outer (fun _ hb=>hb) I.ok.funs
theorem Inv.stack (I:Inv X pins σ H s):s.heap.FunFrames X.base X.stack:=by
 rcases I.ok.stk with e|⟨e,hf⟩
 ·rw[e];exact I.funs
 ·rw[e]
  obtain⟨m,hn,_⟩:=I.loc
  refine .cons (by rw[I.ok.kind];decide) hf hn ?_ I.funs
  exact Heap.get?_none_of_le (Nat.le_trans I.ok.bsz I.ok.above)
theorem Inv.stkSub (I:Inv X pins σ H s):∀b∈frs X.stack,b∈X.env.locals::X.fs:=fun b hb=>by
 rcases I.ok.stk with e|⟨e,hf⟩
 ·rw[e]at hb;exact List.mem_cons_of_mem _ hb
 ·rw[e]at hb
  unfold frs at hb
  rw[List.filterMap_cons,hf]at hb
  exact hb
theorem Inv.stkFree (I:Inv X pins σ H s):∀b∈frs X.stack,H b=none:=fun b hb=>by
 rcases List.mem_cons.mp (I.stkSub b hb)with e|hb
 ·rw[e];exact I.free
 ·obtain⟨_,o,ho,_⟩:=I.ok.funs.mem hb
  exact I.base.free b o ho (I.ok.frf b hb) fun z=>I.ok.exfs b z hb
theorem Inv.step {g':Array GenState}{t':Nat}{d':Drawn}{ch:List Addr}(I:Inv X pins σ H s)
  (hch:∀b∈ch,(b∈X.ex\/X.s₀.heap.objs.size<=b)/\b≠X.env.locals/\(∀x c,X.env.cells.lookup x=some c->c≠b)/\∀p∈X.pn++pins,p.1≠b)
  (keep:∀b o,b≠X.env.locals->b ∉ X.fs->b ∉ ch->s.heap.get? b=some o->H b=none->h'.get? b=some o)
  (slot:∀b o,b≠X.env.locals->b∈X.fs->b ∉ ch->s.heap.get? b=some o->H b=none->∃sl,h'.get? b=some { o with slots:=sl }) (free:∀b o,b ∉ ch->s.heap.get? b=some o->H b=none->H' b=none)
  (there:∀b o,b ∉ ch->s.heap.get? b=some o->∃o',h'.get? b=some o')
  (tups:∀b xs,H b=some (.tup xs)->H' b=some (.tup xs)) (frzs:∀b o u,H b=some (.frz o u)->H' b=some (.frz o u)) (tbls:∀b ps,H b=some (.tbl ps)->∃more,H' b=some (.tbl (ps++more)))
  (ns:∀m,s.heap.Ns X.env.locals m->h'.Ns X.env.locals m) (hok:HOk X.prog X.w H' h') (hg:AllBare g'):
  Inv X pins σ H' { s with heap:=h',gens:=g',drawn:=d',toks:=t' }:=by
 have neL:∀b o,X.s₀.heap.get? b=some o->b≠X.env.locals:=fun b o e=>Nat.ne_of_lt (Nat.lt_of_lt_of_le (Heap.lt_size e) I.ok.above)
 have neC:∀b o,X.s₀.heap.get? b=some o->b ∉ X.ex->b ∉ ch:=fun b o e hx hb=>by
  rcases(hch b hb).1 with z|z
  ·exact hx z
  ·exact absurd (Nat.lt_of_lt_of_le (Heap.lt_size e) z) (Nat.lt_irrefl _)
 have cellK:∀x c,X.env.cells.lookup x=some c->∀v,s.heap.IsCell c v->h'.IsCell c v:=fun x c e v ⟨o,ho,hd⟩=>by
  have nch:c ∉ ch:=fun z=>(hch c z).2.2.1 x c e rfl
  by_cases hc:c∈X.fs
  ·obtain⟨sl,q⟩:=slot c o (I.cne x c e) hc nch ho (I.freeC x c e)
   exact⟨_,q,hd⟩
  ·exact⟨o,keep c o (I.cne x c e) hc nch ho (I.freeC x c e),hd⟩
 refine⟨I.ok,I.os,hg,⟨fun b o e n hb hx=>?_,fun b o e n hb hx=>?_,fun b o e n hx=>?_,fun b o e hx=>?_,fun b xs e=>tups b xs (I.base.tups b xs e),fun b o xs e=>frzs b o xs (I.base.frzs b o xs e),fun b ps e=>?_⟩,?_,fun x c e=>?_,?_,fun x c e=>?_,fun p hp=>?_,hok,I.len⟩
 ·exact keep b o (neL b o e) hb (neC b o e hx) (I.base.keep b o e n hb hx) (I.base.free b o e n hx)
 ·obtain⟨sl,e1⟩:=I.base.slot b o e n hb hx
  obtain⟨sl',e2⟩:=slot b _ (neL b o e) hb (neC b o e hx) e1 (I.base.free b o e n hx)
  exact⟨sl',e2⟩
 ·obtain⟨o',e1⟩:=I.base.there b o e hx
  exact free b o' (neC b o e hx) e1 (I.base.free b o e n hx)
 ·obtain⟨o',e1⟩:=I.base.there b o e hx
  exact there b o' (neC b o e hx) e1
 ·obtain⟨m1,e1⟩:=I.base.tbls b ps e
  obtain⟨m2,e2⟩:=tbls b _ e1
  exact⟨m1++m2,by rw[e2,Array.append_assoc]⟩
 ·obtain⟨m,hn,hl⟩:=I.loc
  refine⟨m,ns m hn,fun i x v e1 e2 e3=>?_⟩
  obtain⟨u,r,l⟩:=hl i x v e1 e2 e3
  refine⟨u,r,?_⟩
  rcases l with l|⟨k,c,e,z⟩
  ·exact .inl l
  ·exact .inr ⟨k,c,e,cellK x c e _ z⟩
 ·obtain⟨v,z⟩:=I.cell x c e
  exact⟨v,cellK x c e v z⟩
 ·obtain⟨m,⟨o,_,_,ho,_⟩,_⟩:=I.loc
  exact free _ o (fun z=>(hch _ z).2.1 rfl) ho I.free
 ·obtain⟨v,o,ho,hd⟩:=I.cell x c e
  exact free c o (fun z=>(hch c z).2.2.1 x c e rfl) ho (I.freeC x c e)
 ·obtain⟨e,n,ne,nf,d⟩:=I.pin p hp
  have nch:p.1 ∉ ch:=fun z=>(hch p.1 z).2.2.2 p hp rfl
  exact⟨keep p.1 p.2 ne nf nch e n,free p.1 p.2 nch e n,ne,nf,d⟩
theorem Inv.un {t':Nat}(I:Inv X pins σ H s) (u:Un X.fs [] H H' s.heap h') (hok:HOk X.prog X.w H' h'):Inv X pins σ H' { s with heap:=h',toks:=t' }:=by
 obtain⟨m,⟨o,es,ep,ho,r⟩,_⟩:=id I.loc
 obtain⟨sl,hL⟩:=u.any ho I.free (by simp)
 exact I.step (g':=s.gens) (d':=s.drawn) (ch:=[]) (fun _ z=>nomatch z) (fun b o _ hb _ e n=>u.keep b o e n hb (by simp)) (fun b o _ hb _ e n=>u.slot b o e n hb (by simp)) (fun b o _ e n=>u.free b o e n (by simp)) (fun b o _ e=>u.there b o e (by simp)) u.tups u.frzs u.tbls (fun m' hm=>by
  obtain⟨o',es',ep',ho',r'⟩:=hm
  rw[ho]at ho';cases ho'
  exact⟨_,es',ep',hL,r'⟩) hok I.bare
theorem Inv.call {g':Array GenState}{t':Nat}{d':Drawn}{ch:List Addr}(I:Inv X pins σ H s) (u:Un (frs X.stack) ch H H' s.heap h') (hok:HOk X.prog X.w H' h') (hg:AllBare g')
  (hch:∀b∈ch,(b∈X.ex\/X.s₀.heap.objs.size<=b)/\b≠X.env.locals/\(∀x c,X.env.cells.lookup x=some c->c≠b)/\∀p∈X.pn++pins,p.1≠b):
  Inv X pins σ H' { s with heap:=h',gens:=g',drawn:=d',toks:=t' }:=by
 obtain⟨m,⟨o,es,ep,ho,r⟩,_⟩:=id I.loc
 obtain⟨sl,hL⟩:=u.any ho I.free fun z=>(hch _ z).2.1 rfl
 exact I.step (ch:=ch) hch (fun b o hL hb hc e n=>u.keep b o e n (fun z=>(List.mem_cons.mp (I.stkSub b z)).elim hL hb) hc) (fun b o _ _ hc e n=>u.any e n hc) (fun b o hc e n=>u.free b o e n hc) (fun b o hc e=>u.there b o e hc) u.tups u.frzs u.tbls (fun m' hm=>by
  obtain⟨o',es',ep',ho',r'⟩:=hm
  rw[ho]at ho';cases ho'
  exact⟨_,es',ep',hL,r'⟩) hok hg
theorem Inv.turned {t':Nat}{it:Addr}(I:Inv X pins σ H s) (k:∀b o,b≠it->s.heap.get? b=some o->h'.get? b=some o) (hn:H it=none) (hL:it≠X.env.locals)
  (h1:it∈X.ex\/X.s₀.heap.objs.size<=it) (h2:∀x c,X.env.cells.lookup x=some c->c≠it) (h3:∀p∈X.pn++pins,p.1≠it):Inv X pins σ H { s with heap:=h',toks:=t' }:=by
 have nit:∀b u,H b=some u->b≠it:=fun b u e z=>by rw[z,hn]at e;cases e
 refine I.step (g':=s.gens) (d':=s.drawn) (ch:=[it]) (fun b hb=>?_) (fun b o _ _ hc e _=>k b o (fun z=>hc (by simp[z])) e) (fun b o _ _ hc e _=>⟨o.slots,k b o (fun z=>hc (by simp[z])) e⟩) (fun _ _ _ _ n=>n)
  (fun b o hc e=>⟨o,k b o (fun z=>hc (by simp[z])) e⟩) (fun _ _ e=>e) (fun _ _ _ e=>e) (fun b ps e=>⟨#[],by rw[e];simp⟩) (fun m hm=>?_) (fun b u e=>?_) I.bare
 ·have e:b=it:=by simpa using hb
  subst e
  exact⟨h1,hL,h2,h3⟩
 ·obtain⟨o,es,ep,ho,r⟩:=hm
  exact⟨o,es,ep,k _ o (Ne.symm hL) ho,r⟩
 ·refine(I.hok b u e).stay (fun c v hc q=>k c v ?_ q) (fun _ q=>q) fun _ _ q=>q
  rcases hc with z|z
  ·rw[z];exact nit b u e
  ·exact nit c _ z
theorem Inv.tok (I:Inv X pins σ H s) (t:Nat):Inv X pins σ H { s with toks:=t }:=I.un (h':=s.heap) (t':=t) Un.refl I.hok
theorem Inv.kept {t':Nat}(I:Inv X pins σ H s) (k:∀b u,s.heap.get? b=some u->h'.get? b=some u):Inv X pins σ H { s with heap:=h',toks:=t' }:=I.un (Un.kept k) (I.hok.kept k)
theorem Inv.laid {a:Addr}{o:HO}{t':Nat}(I:Inv X pins σ H s) (k:∀b u,s.heap.get? b=some u->h'.get? b=some u) (hp:s.heap.objs.size<=a) (new:ObjOk X.prog X.w (upd H a o) h' a o):
  Inv X pins σ (upd H a o) { s with heap:=h',toks:=t' }:=I.un (Un.laid k hp (I.hok.fresh hp)) (I.hok.laid k hp new)
theorem Inv.write {x e:Addr}{o:HO}{t':Nat}(I:Inv X pins σ H s) (mu:Mut (H x)) (he:e=x\/H e=some (.own x)) (k:∀b u,b≠e->s.heap.get? b=some u->h'.get? b=some u) (heo:∃u,h'.get? e=some u)
  (new:ObjOk X.prog X.w (upd H x o) h' x o):Inv X pins σ (upd H x o) { s with heap:=h',toks:=t' }:=I.un (Un.write mu he k heo) (I.hok.write mu he k heo new)
theorem Inv.pins_of {pins':List (Addr × Obj)}(I:Inv X pins σ H s) (h:∀p∈pins',s.heap.get? p.1=some p.2/\H p.1=none/\p.1≠X.env.locals/\p.1 ∉ X.fs/\∀v,p.2.data≠.cell v):Inv X pins' σ H s:=
 ⟨I.ok,I.os,I.bare,I.base,I.loc,I.cell,I.free,I.freeC,fun p hp=>(List.mem_append.mp hp).elim (fun z=>I.pin p (List.mem_append_left _ z)) (h p),I.hok,I.len⟩
theorem zKg {N:List Str}(hN:N.Nodup) {i j:Nat}{x:Str}(a:N[i]?=some x) (b:N[j]?=some x):i=j:=by
 obtain⟨h1,e1⟩:=List.getElem?_eq_some_iff.mp a
 obtain⟨h2,e2⟩:=List.getElem?_eq_some_iff.mp b
 exact(List.getElem_inj hN).mp (e1.trans e2.symm)
theorem zI2 {M:Model}{A:Around}{E:Value->Shared->Prop}{i:Nat}{x:Str}{v:V}{u:Value}{Q:Unit->Shared->Prop}(I:Inv X pins σ H s) (hN:X.N.Nodup) (hi:X.N[i]?=some x) (hx:Loc X.env.scope x) (r:RelV v u)
  (h:∀s',Inv X pins (σ.set i (some v)) H s'->(∃a,Heap.SameBut a s.heap s'.heap/\(a=X.env.locals\/X.env.cells.lookup x=some a))->Q () s') (hf:X.fn x=true\/X.env.scope.names.lookup x=some .local:=by first|exact .inl rfl|exact .inr rfl|assumption):wpAny M A (storeName X.env x u) Q E s:=by
 obtain⟨m,hn,hl⟩:=id I.loc
 have hcls:(X.env.scope.kind == .class || (X.env.scope.kind == .module && X.env.locals != X.env.globals))=false:=by rw[I.ok.kind];rfl
 have hiσ:i<σ.length:=by rw[I.len];exact(List.getElem?_eq_some_iff.mp hi).1
 have cne:=I.cne
 have tracked:∀{a:Addr}{h':Heap},(∃o,s.heap.get? a=some o/\H a=none)->Heap.SameBut a s.heap h'->HOk X.prog X.w H h':=fun {a h'} ha hs b ob e=>by
  obtain⟨_,_,hfree⟩:=ha
  refine(I.hok b ob e).stay (fun c w' hc q=>(hs.2 c ?_).trans q) (fun _ q=>q) fun _ _ q=>q
  rintro rfl
  rcases hc with rfl|hc
  ·rw[hfree]at e;cases e
  ·rw[hfree]at hc;cases hc
 rcases hx with hk|hk
 ·refine wpAny_storeName_local hk hn (fun h' hn' hs=>?_) hcls
  obtain⟨oL,_,_,hoL,_⟩:=id hn
  refine h _ ⟨I.ok,I.os,I.bare,⟨fun b o e n hb hx=>?_,fun b o e n hb hx=>?_,I.base.free,fun b o e hx=>?_,I.base.tups,I.base.frzs,I.base.tbls⟩,⟨_,hn',fun j y v' e1 e2 e3=>?_⟩,fun y c e=>?_,I.free,I.freeC,fun p hp=>?_,tracked ⟨oL,hoL,I.free⟩ hs,by simpa using I.len⟩ ⟨_,hs,.inl rfl⟩
  ·exact(hs.2 b (Nat.ne_of_lt (Nat.lt_of_lt_of_le (Heap.lt_size e) I.ok.above))).trans (I.base.keep b o e n hb hx)
  ·obtain⟨sl,e1⟩:=I.base.slot b o e n hb hx
   exact⟨sl,(hs.2 b (Nat.ne_of_lt (Nat.lt_of_lt_of_le (Heap.lt_size e) I.ok.above))).trans e1⟩
  ·obtain⟨o',e1⟩:=I.base.there b o e hx
   exact⟨o',(hs.2 b (Nat.ne_of_lt (Nat.lt_of_lt_of_le (Heap.lt_size e) I.ok.above))).trans e1⟩
  ·by_cases hj:j=i
   ·subst hj
    rw[hi]at e1;cases e1
    rw[List.getElem?_set_self hiσ]at e2
    cases e2
    exact⟨u,r,.inl ⟨hk,by simp⟩⟩
   ·rw[List.getElem?_set_ne (Ne.symm hj)]at e2
    obtain⟨u',r',q⟩:=hl j y v' e1 e2 e3
    refine⟨u',r',?_⟩
    rcases q with⟨k,e⟩|⟨k,c,e,z⟩
    ·refine .inl ⟨k,?_⟩
     have:y≠x:=fun e=>hj (zKg hN e1 (e ▸ hi))
     simp[this,e]
    ·exact .inr ⟨k,c,e,z.sameBut hs (cne y c e)⟩
  ·obtain⟨w',z⟩:=I.cell y c e
   exact⟨w',z.sameBut hs (cne y c e)⟩
  ·obtain⟨e,n,ne,nf,d⟩:=I.pin p hp
   exact⟨(hs.2 p.1 ne).trans e,n,ne,nf,d⟩
 ·have hfn:X.fn x=true:=by
   rcases hf with z|z
   ·exact z
   ·rw[z]at hk;cases hk
  obtain⟨c,hc⟩:=I.ok.has x (.inl hk)
  obtain⟨w',z⟩:=I.cell x c hc
  refine wpAny_storeName_cell I.ok.kind hk hc z (fun h' hc' hs=>?_)
  obtain⟨oc,hoc,hocd⟩:=id z
  refine h { s with heap:=h' } ⟨I.ok,I.os,I.bare,⟨fun b o e n hb hx=>?_,fun b o e n hb hx=>?_,I.base.free,fun b o e hx=>?_,I.base.tups,I.base.frzs,I.base.tbls⟩,⟨m,hn.sameBut hs (Ne.symm (cne x c hc)),fun j y v' e1 e2 e3=>?_⟩,fun y c' e=>?_,I.free,I.freeC,fun p hp=>?_,tracked ⟨oc,hoc,I.freeC x c hc⟩ hs,by simpa using I.len⟩ ⟨c,hs,.inr hc⟩
  ·exact(hs.2 b (Nat.ne_of_lt (Nat.lt_of_lt_of_le (Heap.lt_size e) (I.ok.cab x c hfn hc)))).trans (I.base.keep b o e n hb hx)
  ·obtain⟨sl,e1⟩:=I.base.slot b o e n hb hx
   exact⟨sl,(hs.2 b (Nat.ne_of_lt (Nat.lt_of_lt_of_le (Heap.lt_size e) (I.ok.cab x c hfn hc)))).trans e1⟩
  ·obtain⟨o',e1⟩:=I.base.there b o e hx
   exact⟨o',(hs.2 b (Nat.ne_of_lt (Nat.lt_of_lt_of_le (Heap.lt_size e) (I.ok.cab x c hfn hc)))).trans e1⟩
  ·by_cases hj:j=i
   ·subst hj
    rw[hi]at e1;cases e1
    rw[List.getElem?_set_self hiσ]at e2
    cases e2
    exact⟨u,r,.inr ⟨.inl hk,c,hc,hc'⟩⟩
   ·rw[List.getElem?_set_ne (Ne.symm hj)]at e2
    obtain⟨u',r',q⟩:=hl j y v' e1 e2 e3
    refine⟨u',r',?_⟩
    rcases q with q|⟨k,c',e,z'⟩
    ·exact .inl q
    ·refine .inr ⟨k,c',e,z'.sameBut hs ?_⟩
     rintro rfl
     exact hj (zKg hN e1 (I.ok.inj _ _ _ e hc ▸ hi))
  ·by_cases hcc:c'=c
   ·subst hcc;exact⟨_,hc'⟩
   ·obtain⟨w2,z2⟩:=I.cell y c' e
    exact⟨w2,z2.sameBut hs hcc⟩
  ·obtain⟨e,n,ne,nf,d⟩:=I.pin p hp
   refine⟨(hs.2 p.1 ?_).trans e,n,ne,nf,d⟩
   intro q
   rw[q,hoc]at e
   have q':oc=p.2:=Option.some.inj e
   exact d w' (by rw[<- q'];exact hocd)
theorem zEs {M:Model}{A:Around}{E:Value->Shared->Prop}{i:Nat}{x:Str}{v:V}{u:Value}{Q:Unit->Shared->Prop}(I:Inv X pins σ H s) (hN:X.N.Nodup) (hi:X.N[i]?=some x) (hx:Loc X.env.scope x) (r:RelV v u)
  (h:∀s',Inv X pins (σ.set i (some v)) H s'->Q () s') (hf:X.fn x=true\/X.env.scope.names.lookup x=some .local:=by first|exact .inl rfl|exact .inr rfl|assumption):wpAny M A (storeName X.env x u) Q E s:=
 zI2 I hN hi hx r (fun s' I' _=>h s' I') hf
theorem Inv.call' {s':Shared}{ch:List Addr}(I:Inv X pins σ H s) (ho:s'.os=s.os) (u:Un (frs X.stack) ch H H' s.heap s'.heap) (hok:HOk X.prog X.w H' s'.heap) (hg:AllBare s'.gens)
  (hch:∀b∈ch,(b∈X.ex\/X.s₀.heap.objs.size<=b)/\b≠X.env.locals/\(∀x c,X.env.cells.lookup x=some c->c≠b)/\∀p∈X.pn++pins,p.1≠b):Inv X pins σ H' s':=by
 obtain⟨h',g',d',t',o'⟩:=s'
 have e:o'=s.os:=ho
 subst e
 exact I.call (g':=g') (t':=t') (d':=d') u hok hg hch
end
abbrev XK:=Value->Option Addr->Hp->Prop
abbrev St:=List (Option V)
abbrev VK:=V->Hp->Prop
abbrev TE:=St->Hp->VK->Prop
abbrev TT:=St->Hp->(Bool->Hp->Prop)->Prop
abbrev TA:=St->Hp->(List V->Hp->Prop)->Prop
structure Ends where
 nx:St->Hp->Prop
 rt:VK
 bk:St->Hp->Prop:=fun _ _=>False
 ct:St->Hp->Prop:=fun _ _=>False
abbrev TS:=Ends->St->Hp->Prop
def EP (X:Cx) (pins:List (Addr × Obj)) (σ:St) (Q:VK) (u:Value) (s':Shared):Prop:=∃v H',Inv X pins σ H' s'/\RelV v u/\Q v H'
def TP (X:Cx) (pins:List (Addr × Obj)) (σ:St) (Q:Bool->Hp->Prop) (b:Bool) (s':Shared):Prop:=∃H',Inv X pins σ H' s'/\Q b H'
def AP (X:Cx) (pins:List (Addr × Obj)) (σ:St) (Q:List V->Hp->Prop) (us:List Value) (s':Shared):Prop:=∃vs H',Inv X pins σ H' s'/\Vals vs us/\Q vs H'
def SP (X:Cx) (pins:List (Addr × Obj)) (D:Ends) (f:Flow) (s':Shared):Prop:=
 match f with
 | .next=>∃σ' H',Inv X pins σ' H' s'/\D.nx σ' H'
 | .brk=>∃σ' H',Inv X pins σ' H' s'/\D.bk σ' H'
 | .cont=>∃σ' H',Inv X pins σ' H' s'/\D.ct σ' H'
 | .ret u=>∃v σ' H',Inv X pins σ' H' s'/\RelV v u/\D.rt v H'
def PE (X:Cx) (e:Expr) (t:TE):Prop:=
 ∀(pins:List (Addr × Obj)) (s:Shared) (σ:St) (H:Hp) (Q:VK),Inv X pins σ H s->t σ H Q->wpAny (model X.prog X.w) X.A (eval e X.env) (EP X pins σ Q) X.xe s
def PT (X:Cx) (e:Expr) (t:TT):Prop:=
 ∀(pins:List (Addr × Obj)) (s:Shared) (σ:St) (H:Hp) (Q:Bool->Hp->Prop),Inv X pins σ H s->t σ H Q->wpAny (model X.prog X.w) X.A (isTrue e X.env (eval e X.env)) (TP X pins σ Q) X.xe s
def PW (X:Cx) (e:Expr) (t:TT):Prop:=
 ∀(whole:Sem Value) (pins:List (Addr × Obj)) (s:Shared) (σ:St) (H:Hp) (Q:Bool->Hp->Prop),Inv X pins σ H s->t σ H Q->wpAny (model X.prog X.w) X.A (isTrue e X.env whole) (TP X pins σ Q) X.xe s
theorem PW.pt {X:Cx}{e:Expr}{t:TT}(h:PW X e t):PT X e t:=h _
def PA (X:Cx) (es:List Expr) (t:TA):Prop:=
 ∀(pos:Pos) (pins:List (Addr × Obj)) (s:Shared) (σ:St) (H:Hp) (Q:List V->Hp->Prop),Inv X pins σ H s->t σ H Q->wpAny (model X.prog X.w) X.A (spliced (backTo pos (starEach es X.env))) (AP X pins σ Q) X.xe s
def PS (X:Cx) (st:Stmt) (t:TS):Prop:=
 ∀(pins:List (Addr × Obj)) (s:Shared) (σ:St) (H:Hp) (D:Ends),Inv X pins σ H s->t D σ H->wpAny (model X.prog X.w) X.A (exec st X.env) (SP X pins D) X.xe s
def PSs (X:Cx) (st:List Stmt) (t:TS):Prop:=
 ∀(pins:List (Addr × Obj)) (s:Shared) (σ:St) (H:Hp) (D:Ends),Inv X pins σ H s->t D σ H->wpAny (model X.prog X.w) X.A (execs st X.env) (SP X pins D) X.xe s
theorem thn {α:Type}{t:Sem α}{Q Q':α->Shared->Prop}{M:Model}{A:Around}{E:Value->Shared->Prop}{s:Shared}(h:wpAny M A t Q E s) (hQ:∀a s,Q a s->Q' a s):wpAny M A t Q' E s:=wpAny_mono h hQ fun _ _ x=>x
end L2
namespace L2
open PySem PySem.Spec PyProof.Rows
section
variable {X:Cx}
def tVar (i:Nat):TE:=fun σ H Q=>∃v,σ[i]?=some (some v)/\Q v H
def tC (v:V):TE:=fun _ H Q=>Q v H
theorem zXm {i:Nat}{x:Str}{pos:Pos}(hN:X.N[i]?=some x) (hv:Vis X.env.scope x) (hd:(x == ("__debug__":Str))=false:=by decide) (hcd:(x == ("__classdict__":Str))=false:=by decide):PE X (.Name x pos) (tVar i):=by
 intro pins s σ H Q I h
 obtain⟨v,e,h⟩:=h
 obtain⟨m,hn,hl⟩:=I.loc
 obtain⟨u,r,l⟩:=hl i x v hN e hv
 have fin:EP X pins σ Q u s:=⟨v,H,I,r,h⟩
 rcases l with⟨hk,hm⟩|⟨hk,c,hc,hcell⟩
 ·exact wpAny_Name (wpAny_loadName_local I.ok.kind hk hn hm fin) hd
 ·rcases hk with hk|hk
  ·exact wpAny_Name (wpAny_loadName_cell I.ok.kind hk hc hcell fin) hd
  ·exact wpAny_Name (wpAny_loadName_free I.ok.kind hk hc hcell fin hcd) hd
theorem zXu {i j pos}:PE X (.Constant (.int i) j pos) (tC (.int i)):=fun _ _ _ H _ I h=>wpAny_Constant_int ⟨.int i,H,I.tok _,⟨_,rfl⟩,h⟩
theorem zZn {b j pos}:PE X (.Constant (.bool b) j pos) (tC (.bl b)):=fun _ _ _ H _ I h=>Constant_bool ⟨.bl b,H,I,rfl,h⟩
theorem zXp {x j pos}:PE X (.Constant (.str x) j pos) (tC (.str x)):=fun _ _ _ H _ I h=>Calls.Constant_str ⟨.str x,H,I.tok _,⟨_,rfl⟩,h⟩
def Gl (X:Cx) (x:Str):Prop:=X.env.kindOf x=some .globalImplicit
theorem zO5 {E:Value->Shared->Prop}{pins:List (Addr × Obj)}{s:Shared}{σ:St}{H:Hp}{x:Str}{u:Value}{pos:Pos}{Q:Value->Shared->Prop}(I:Inv X pins σ H s) (hg:Gl X x) (hm:X.mg x=some u) (h:Q u s)
  (hd:(x == ("__debug__":Str))=false:=by decide):wpAny (model X.prog X.w) X.A (eval (.Name x pos) X.env) Q E s:=
 Calls.Name_function_global I.ok.kind hg (Calls.loadGlobal_global (by rw[I.ok.glob];exact I.mod.glob.keeps I.bk) hm h) hd
theorem zCq {E:Value->Shared->Prop}{pins:List (Addr × Obj)}{s:Shared}{σ:St}{H:Hp}{x:Str}{u:Value}{pos:Pos}{Q:Value->Shared->Prop}(I:Inv X pins σ H s) (hg:Gl X x) (hm:X.mg x=none) (hv:bootBuiltins x=some u) (h:Q u s)
  (hn:x≠"__name__":=by decide) (hd:(x == ("__debug__":Str))=false:=by decide):wpAny (model X.prog X.w) X.A (eval (.Name x pos) X.env) Q E s:=by
 obtain⟨mb,h1,h2⟩:=I.mod.blt
 exact Calls.Name_function_global I.ok.kind hg (Calls.loadGlobal_builtin (by rw[I.ok.glob];exact I.mod.glob.keeps I.bk) hm (by rw[I.ok.blt];exact h1.keeps I.bk) ((h2 x hn).trans hv) h) hd
theorem zUr {x:Str}{v:V}{u:Value}{pos:Pos}(hg:Gl X x) (hm:X.mg x=some u) (r:RelV v u) (hd:(x == ("__debug__":Str))=false:=by decide):PE X (.Name x pos) (tC v):=
 fun _ _ _ H _ I h=>zO5 I hg hm ⟨v,H,I,r,h⟩ hd
theorem zUv {x:Str}{v:V}{u:Value}{pos:Pos}(hg:Gl X x) (hm:X.mg x=none) (hv:bootBuiltins x=some u) (r:RelV v u) (hn:x≠"__name__":=by decide) (hd:(x == ("__debug__":Str))=false:=by decide):PE X (.Name x pos) (tC v):=
 fun _ _ _ H _ I h=>zCq I hg hm hv ⟨v,H,I,r,h⟩ hn hd
variable {a b:Expr}{ta tb:TE}{pos:Pos}
variable {tA tB':TT}{rest:List Expr}
def tAnd (t u:TT):TT:=fun σ H Q=>t σ H fun c H1=>if c=true then u σ H1 Q else Q false H1
def tOr (t u:TT):TT:=fun σ H Q=>t σ H fun c H1=>if c=true then Q true H1 else u σ H1 Q
def tNot (t:TT):TT:=fun σ H Q=>t σ H fun c H1=>Q (!c) H1
theorem zU6 (ha:PT X a tA):PW X (.BoolOp .And [a] pos) tA:=by
 intro wh pins s σ H Q I h
 refine isTrue_and (thn (ha pins s σ H Q I h) fun c s1 e=>?_)
 cases c with
 | true=>exact isTrue_and_nil e
 | false=>exact e
theorem zX9 (ha:PT X a tA):PW X (.BoolOp .Or [a] pos) tA:=by
 intro wh pins s σ H Q I h
 refine isTrue_or (thn (ha pins s σ H Q I h) fun c s1 e=>?_)
 cases c with
 | false=>exact isTrue_or_nil e
 | true=>exact e
theorem zXb (ha:PT X a tA) (hb:PW X (.BoolOp .And (b::rest) pos) tB'):PW X (.BoolOp .And (a::b::rest) pos) (tAnd tA tB'):=by
 intro wh pins s σ H Q I h
 refine isTrue_and (thn (ha pins s σ H _ I h) fun c s1 ⟨H1,I1,q1⟩=>?_)
 cases c with
 | true=>exact hb wh pins s1 σ H1 Q I1 q1
 | false=>exact⟨H1,I1,q1⟩
theorem zZh (ha:PT X a tA) (hb:PW X (.BoolOp .Or (b::rest) pos) tB'):PW X (.BoolOp .Or (a::b::rest) pos) (tOr tA tB'):=by
 intro wh pins s σ H Q I h
 refine isTrue_or (thn (ha pins s σ H _ I h) fun c s1 ⟨H1,I1,q1⟩=>?_)
 cases c with
 | true=>exact⟨H1,I1,q1⟩
 | false=>exact hb wh pins s1 σ H1 Q I1 q1
theorem zXd (ha:PT X a tA):PT X (.UnaryOp .Not a pos) (tNot tA):=by
 intro pins s σ H Q I h
 exact isTrue_not (ha pins s σ H (fun c H1=>Q (!c) H1) I h)
def zWw (ta:TE):TE:=fun σ H Q=>ta σ H fun x H1=>∃c,x=.bl c/\Q (.bl (!c)) H1
theorem zXr {op}{t:TE}(h:PE X a t):PE X (.BoolOp op [a] pos) t:=fun pins s σ H Q I hw=>BoolOp_one (h pins s σ H Q I hw)
theorem zXs (ha:PE X a ta):PE X (.UnaryOp .Not a pos) (zWw ta):=by
 intro pins s σ H Q I h
 refine UnaryOp_ (thn (ha pins s σ H _ I h) fun v s1 ⟨x,H1,I1,r1,q1⟩=>?_)
 obtain⟨c,rfl,q1⟩:=q1
 cases r1
 exact not_of (wpAny_truthy_bool ⟨.bl (!c),H1,I1,rfl,q1⟩)
def tIf (t:TT) (ta tb:TE):TE:=fun σ H Q=>t σ H fun c H1=>if c=true then ta σ H1 Q else tb σ H1 Q
theorem zQj {c:Expr}(hc:PT X c tA) (ha:PE X a ta) (hb:PE X b tb):PE X (.IfExp c a b pos) (tIf tA ta tb):=by
 intro pins s σ H Q I h
 refine wpAny_IfExp (thn (hc pins s σ H _ I h) fun d s1 ⟨H1,I1,q1⟩=>?_)
 cases d with
 | true=>exact ha pins s1 σ H1 Q I1 q1
 | false=>exact hb pins s1 σ H1 Q I1 q1
end
end L2
namespace L2
open PySem PySem.Spec PyProof.Rows
def SqL (K:PySem.W.Frag) (H:Hp) (a:Addr) (xs:List V):Prop:=
 Rd H a (.lst xs) \/
  ∃(o:Obj) (its:Array Value) (n:Nat),K.lookup a=some o/\o.cls=.type "list"/\o.dict=none/\o.data=.seq its n/\its.size<=sizeLine/\Vals xs its.toList
def SqT (K:PySem.W.Frag) (H:Hp) (a:Addr) (xs:List V):Prop:=
 Rd H a (.tup xs) \/
  ∃(o:Obj) (its:Array Value) (n:Nat),K.lookup a=some o/\o.cls=.type "tuple"/\o.data=.seq its n/\its.size<=sizeLine/\Vals xs its.toList
def absV:Value->Option V
 | .none=>some .non
 | .bool b=>some (.bl b)
 | .int i _=>some (.int i)
 | .str x _=>some (.str x)
 | .bytes b _=>some (.byt b)
 | .float b _=>some (.flt b)
 | .ref a=>some (.ref a)
 | .type n=>some (.ty n)
 | _=>none
theorem RelV.abs {x:V}{u:Value}(r:RelV x u):absV u=some x:=by
 cases x with
 | non=>cases r;rfl
 | bl _=>cases r;rfl
 | int _=>obtain⟨t,rfl⟩:=r;rfl
 | str _=>obtain⟨t,rfl⟩:=r;rfl
 | byt _=>obtain⟨t,rfl⟩:=r;rfl
 | flt _=>obtain⟨t,rfl⟩:=r;rfl
 | ref _=>cases r;rfl
 | ty _=>cases r;rfl
theorem RelV.inj {x y:V}{u:Value}(r:RelV x u) (q:RelV y u):x=y:=Option.some.inj (r.abs.symm.trans q.abs)
theorem Vals.inj:∀{xs ys:List V}{us:List Value},Vals xs us->Vals ys us->xs=ys
 | _,_,_,.nil,.nil=>rfl
 | _,_,_,.cons r t,.cons r' t'=>by rw[r.inj r',Vals.inj t t']
section
variable {X:Cx}{pins:List (Addr × Obj)}{σ:St}{H:Hp}{s:Shared}{a:Addr}{xs ys:List V}
theorem SqL.of {K:PySem.W.Frag}(h:H a=some (.lst xs)):SqL K H a xs:=.inl (.inl h)
theorem SqT.of {K:PySem.W.Frag}(h:H a=some (.tup xs)):SqT K H a xs:=.inl (.inl h)
theorem Inv.list (I:Inv X pins σ H s) (h:SqL X.K H a xs):∃its:List Value,Vals xs its/\PlainL s.heap a its.toArray/\xs.length<=sizeLine:=by
 rcases h with h|⟨o,its,n,hk,hc,hd,hs,hz,r⟩
 ·obtain⟨z,its,n,r,e⟩:=h.ok I.hok
  exact⟨its,r,⟨_,n,e,rfl,rfl,rfl⟩,z⟩
 ·refine⟨its.toList,r,⟨o,n,I.kIn a o hk,hc,hd,by simpa using hs⟩,?_⟩
  have e:=r.length
  simp only[Array.length_toList]at e
  lia
theorem Inv.tuple (I:Inv X pins σ H s) (h:SqT X.K H a xs):∃its:List Value,Vals xs its/\IsTup s.heap a its.toArray/\xs.length<=sizeLine:=by
 rcases h with h|⟨o,its,n,hk,hc,hs,hz,r⟩
 ·obtain⟨z,its,r,p⟩:=h.ok I.hok
  exact⟨its,r,p,z⟩
 ·refine⟨its.toList,r,⟨o,I.kIn a o hk,hc,n,by simpa using hs⟩,?_⟩
  have e:=r.length
  simp only[Array.length_toList]at e
  lia
theorem Inv.list_inj (I:Inv X pins σ H s) (h:SqL X.K H a xs) (h':SqL X.K H a ys):xs=ys:=by
 obtain⟨its,r,⟨o,n,e,_,_,d⟩,_⟩:=I.list h
 obtain⟨its',r',⟨o',n',e',_,_,d'⟩,_⟩:=I.list h'
 rw[e]at e';cases e'
 rw[d]at d'
 injection d' with d1 _
 have:its=its':=by simpa using congrArg Array.toList d1
 subst this
 exact r.inj r'
theorem Inv.tuple_inj (I:Inv X pins σ H s) (h:SqT X.K H a xs) (h':SqT X.K H a ys):xs=ys:=by
 obtain⟨its,r,⟨o,e,_,n,d⟩,_⟩:=I.tuple h
 obtain⟨its',r',⟨o',e',_,n',d'⟩,_⟩:=I.tuple h'
 rw[e]at e';cases e'
 rw[d]at d'
 injection d' with d1 _
 have:its=its':=by simpa using congrArg Array.toList d1
 subst this
 exact r.inj r'
end
abbrev Cx.wish (X:Cx) (E:Value->Shared->Prop):Cx:={ X with xe:=E }
abbrev Cx.nox (X:Cx):Cx:=X.wish fun _ _=>False
theorem Cx.Ok.wish {X:Cx}(ok:X.Ok) (E:Value->Shared->Prop):(X.wish E).Ok:=
 ⟨ok.mod,ok.kind,ok.glob,ok.blt,ok.above,ok.inj,ok.has,ok.cab,ok.hd,ok.frames,ok.stk,ok.exf,ok.bs,ok.bsz,ok.noex,ok.exfs,ok.funs,ok.frf⟩
theorem Cx.Ok.unwish {X:Cx}{E:Value->Shared->Prop}(ok:(X.wish E).Ok):X.Ok:=
 ⟨ok.mod,ok.kind,ok.glob,ok.blt,ok.above,ok.inj,ok.has,ok.cab,ok.hd,ok.frames,ok.stk,ok.exf,ok.bs,ok.bsz,ok.noex,ok.exfs,ok.funs,ok.frf⟩
section
variable {X:Cx}{pins:List (Addr × Obj)}{σ:St}{H:Hp}{s:Shared}{E:Value->Shared->Prop}
theorem Inv.wish (I:Inv X pins σ H s) (E:Value->Shared->Prop):Inv (X.wish E) pins σ H s:=⟨I.ok.wish E,I.os,I.bare,I.base,I.loc,I.cell,I.free,I.freeC,I.pin,I.hok,I.len⟩
theorem Inv.unwish (I:Inv (X.wish E) pins σ H s):Inv X pins σ H s:=⟨I.ok.unwish,I.os,I.bare,I.base,I.loc,I.cell,I.free,I.freeC,I.pin,I.hok,I.len⟩
theorem SP.unwish {D:Ends}{f:Flow}{s':Shared}(h:SP (X.wish E) pins D f s'):SP X pins D f s':=by
 cases f with
 | next=>obtain⟨σ',H',I,q⟩:=h;exact⟨σ',H',I.unwish,q⟩
 | brk=>obtain⟨σ',H',I,q⟩:=h;exact⟨σ',H',I.unwish,q⟩
 | cont=>obtain⟨σ',H',I,q⟩:=h;exact⟨σ',H',I.unwish,q⟩
 | ret u=>obtain⟨v,σ',H',I,r,q⟩:=h;exact⟨v,σ',H',I.unwish,r,q⟩
theorem PSs.nox {st:List Stmt}{t:TS}(h:PSs X.nox st t):PSs X st t:=fun pins s σ H D I hw=>
 wpAny_mono (h pins s σ H D (I.wish _) hw) (fun _ _ q=>q.unwish) fun _ _ z=>False.elim z
end
section
variable {X:Cx}{st:Stmt}{rest:List Stmt}{t u:TS}{e:Expr}{te:TE}{pos:Pos}
def zWx:TS:=fun D σ H=>D.nx σ H
def tSeq (t u:TS):TS:=fun D σ H=>t { D with nx:=u D } σ H
theorem zUc:PSs X [] zWx:=fun _ _ σ H _ I h=>wpAny_execs_nil ⟨σ,H,I,h⟩
theorem zQ5 (h1:PS X st t) (h2:PSs X rest u):PSs X (st::rest) (tSeq t u):=by
 intro pins s σ H D I h
 refine wpAny_execs_cons (thn (h1 pins s σ H { D with nx:=u D } I h) fun f s1 q=>?_)
 cases f with
 | next=>
  obtain⟨σ',H',I',q⟩:=q
  exact h2 pins s1 σ' H' D I' q
 | ret v=>exact q
 | brk=>exact q
 | cont=>exact q
theorem zUb (h1:PS X st t):PSs X [st] t:=by
 intro pins s σ H D I h
 refine wpAny_execs_cons (thn (h1 pins s σ H D I h) fun f s1 q=>?_)
 cases f with
 | next=>exact wpAny_execs_nil q
 | ret v=>exact q
 | brk=>exact q
 | cont=>exact q
theorem Inv.quiet {pins:List (Addr × Obj)}{σ:St}{H:Hp}{s:Shared}(I:Inv X pins σ H s):interactive X.env=false:=by simp[interactive,I.ok.kind]
def zTn (te:TE):TS:=fun D σ H=>te σ H fun _ H1=>D.nx σ H1
theorem zUf (he:PE X e te) (hs:swapsWith e none pos.line X.env=pure false:=by rfl):PS X (.Expr e pos) (zTn te):=by
 intro pins s σ H D I h
 exact wpAny_Expr_any (thn (he pins s σ H _ I h) fun v s1 ⟨x,H1,I1,r1,q1⟩=>⟨σ,H1,I1,q1⟩) I.quiet hs
def tRet (te:TE):TS:=fun D σ H=>te σ H D.rt
theorem zXf (he:PE X e te):PS X (.Return (some e) pos) (tRet te):=by
 intro pins s σ H D I h
 exact wpAny_Return_some (thn (he pins s σ H _ I h) fun v s1 ⟨x,H1,I1,r1,q1⟩=>⟨x,σ,H1,I1,r1,q1⟩)
def tIfS (c:TT) (t u:TS):TS:=fun D σ H=>c σ H fun b H1=>if b=true then t D σ H1 else u D σ H1
theorem zZi {c:Expr}{a b:List Stmt}{tc:TT}(hc:PT X c tc) (ha:PSs X a t) (hb:PSs X b u):PS X (.If c a b pos) (tIfS tc t u):=by
 intro pins s σ H D I h
 refine wpAny_If (thn (hc pins s σ H _ I h) fun d s1 ⟨H1,I1,q1⟩=>?_)
 cases d with
 | true=>exact ha pins s1 σ H1 D I1 q1
 | false=>exact hb pins s1 σ H1 D I1 q1
end
abbrev TG:=V->St->Hp->(St->Hp->Prop)->Prop
abbrev TGs:=List V->St->Hp->(St->Hp->Prop)->Prop
def PG (X:Cx) (target:Expr) (t:TG):Prop:=
 ∀(pins:List (Addr × Obj)) (s:Shared) (σ:St) (H:Hp) (v:V) (u:Value) (Q:St->Hp->Prop),Inv X pins σ H s->RelV v u->t v σ H Q->
  wpAny (model X.prog X.w) X.A (assign target X.env u) (fun _ s'=>∃σ' H',Inv X pins σ' H' s'/\Q σ' H') X.xe s
def PGs (X:Cx) (ts:List Expr) (t:TGs):Prop:=
 ∀(pins:List (Addr × Obj)) (s:Shared) (σ:St) (H:Hp) (vs:List V) (us:List Value) (Q:St->Hp->Prop),Inv X pins σ H s->Vals vs us->t vs σ H Q->
  wpAny (model X.prog X.w) X.A (assignInOrder ((assignEach ts X.env).map (·.2)) us) (fun _ s'=>∃σ' H',Inv X pins σ' H' s'/\Q σ' H') X.xe s
abbrev TSet:=V->V->V->Hp->(Hp->Prop)->Prop
def PSet (X:Cx) (t:TSet):Prop:=
 ∀(pins:List (Addr × Obj)) (s:Shared) (σ:St) (H:Hp) (o i v:V) (ov iv u:Value) (Q:Hp->Prop),Inv X pins σ H s->RelV o ov->RelV i iv->RelV v u->t o i v H Q->
  wpAny (model X.prog X.w) X.A (setItem ov iv u) (fun _ s'=>∃H',Inv X pins σ H' s'/\Q H') X.xe s
section
variable {X:Cx}{pos:Pos}
def gName (i:Nat):TG:=fun v σ H Q=>Q (σ.set i (some v)) H
theorem zUl {i:Nat}{x:Str}(hN:X.N.Nodup) (hi:X.N[i]?=some x) (hx:Loc X.env.scope x) (hf:X.fn x=true\/X.env.scope.names.lookup x=some .local:=by first|exact .inl rfl|exact .inr rfl|assumption):PG X (.Name x pos) (gName i):=by
 intro pins s σ H v u Q I r h
 exact wpAny_assign_Name (zEs I hN hi hx r (fun s' I'=>⟨_,H,I',h⟩) hf)
def gNil:TGs:=fun vs σ H Q=>vs=[]/\Q σ H
def zVu (t:TG) (u:TGs):TGs:=fun vs σ H Q=>∃v r,vs=v::r/\t v σ H fun σ' H'=>u r σ' H' Q
theorem zUj:PGs X [] gNil:=by
 intro pins s σ H vs us Q I r h
 obtain⟨e,h⟩:=h
 subst e
 cases r
 exact assignInOrder_nil ⟨σ,H,I,h⟩
theorem zQf {e:Expr}{es:List Expr}{t:TG}{u:TGs}(h1:PG X e t) (h2:PGs X es u)
  (hs:(assignEach (e::es) X.env).map (·.2)=assign e X.env::(assignEach es X.env).map (·.2):=by rfl):PGs X (e::es) (zVu t u):=by
 intro pins s σ H vs us Q I r h
 obtain⟨v,vr,e1,h⟩:=h
 subst e1
 cases r with
 | cons r rr=>
  rw[hs]
  refine assignInOrder_cons (thn (h1 pins s σ H _ _ _ I r h) fun _ s1 ⟨σ1,H1,I1,q1⟩=>?_)
  exact h2 pins s1 σ1 H1 _ _ Q I1 rr q1
def gTup (K:PySem.W.Frag) (n:Nat) (t:TGs):TG:=fun v σ H Q=>∃a xs,v=.ref a/\SqT K H a xs/\xs.length=n/\t xs σ H Q
theorem zXk {es:List Expr}{k:Nat}{t:TGs}{n:Nat}(hc:X.calm=true) (h:PGs X es t)
  (hn:(assignEach es X.env).length=n:=by rfl) (hst:(assignEach es X.env).findIdx? (·.1)=none:=by rfl):PG X (.Tuple es k pos) (gTup X.K n t):=by
 intro pins s σ H v u Q I r hw
 obtain⟨a,xs,e1,hq,hl,hw⟩:=hw
 subst e1
 cases r
 obtain⟨its,rv,ht,hz⟩:=I.tuple hq
 refine assign_Tuple_tuple (I.ok.hd hc) ht (by simp[hn,<- hl,rv.length]) hst fun h' hx=>?_
 have I1:Inv X pins σ H { s with heap:=h' }:=I.kept (t':=s.toks) fun b o e=>hx b o (Nat.ne_of_lt (Heap.lt_size e)) e
 exact h pins _ σ H xs _ Q I1 (by simpa using rv) hw
def gSub (to ti:TE) (t:TSet):TG:=fun v σ H Q=>to σ H fun o H1=>ti σ H1 fun i H2=>t o i v H2 fun H3=>Q σ H3
theorem zXl {o i:Expr}{to ti:TE}{t:TSet}(ho:PE X o to) (hi:PE X i ti) (hs:PSet X t)
  (ha:∀v,assign (.Subscript o i pos) X.env v=(do
   let ov <- holding [v] (eval o X.env)
   let iv <- holding [v,ov] (eval i X.env)
   standAt pos
   holding [v,ov,iv] (setItem ov iv v)
   release [v,ov,iv] []):=by intro _;rfl):PG X (.Subscript o i pos) (gSub to ti t):=by
 intro pins s σ H v u Q I r h
 rw[ha]
 refine wpAny_bind (wpAny_holding (thn (ho pins s σ H _ I h) fun ov s1 ⟨x,H1,I1,r1,q1⟩=>?_))
 refine wpAny_bind (wpAny_holding (thn (hi pins s1 σ H1 _ I1 q1) fun iv s2 ⟨y,H2,I2,r2,q2⟩=>?_))
 refine wpAny_bind (wpAny_standAt (wpAny_bind (wpAny_holding (thn (hs pins s2 σ H2 x y v ov iv u _ I2 r1 r2 r q2) fun _ s3 ⟨H3,I3,q3⟩=>?_))))
 exact wpAny_release ⟨σ,H3,I3,q3⟩
def tAsg (te:TE) (g:TG):TS:=fun D σ H=>te σ H fun x H1=>g x σ H1 D.nx
theorem zSn {tg e:Expr}{te:TE}{g:TG}(he:PE X e te) (hg:PG X tg g) (hs:swapsWithSole [tg] e pos.line X.env=pure false:=by rfl) (hw:swappedStores [tg] e X.env=pure none:=by rfl)
  (h1:(assignEach [tg] X.env).map (·.2)=[assign tg X.env]:=by rfl):PS X (.Assign [tg] e pos) (tAsg te g):=by
 intro pins s σ H D I h
 refine wpAny_Assign_stores (thn (he pins s σ H _ I h) fun v s1 ⟨x,H1,I1,r1,q1⟩=>?_) hs hw
 rw[h1]
 exact thn (hg pins s1 σ H1 x v _ I1 r1 q1) fun _ s2 q=>q
theorem zXe {i:Nat}{x:Str}{e:Expr}{te:TE}{pos':Pos}(hN:X.N.Nodup) (hi:X.N[i]?=some x) (hx:Loc X.env.scope x) (he:PE X e te) (hs:swapsWith e (some (.Name x pos')) pos.line X.env=pure false:=by rfl) (hf:X.fn x=true\/X.env.scope.names.lookup x=some .local:=by first|exact .inl rfl|exact .inr rfl|assumption):
  PS X (.Assign [.Name x pos'] e pos) (tAsg te (gName i)):=by
 intro pins s σ H D I h
 refine wpAny_Assign_Name (thn (he pins s σ H _ I h) fun v s1 ⟨y,H1,I1,r1,q1⟩=>?_) hs
 exact zEs I1 hN hi hx r1 (fun s2 I2=>⟨_,H1,I2,q1⟩) hf
def tPar (i j:Nat) (ta:TA):TS:=fun D σ H=>ta σ H fun vs H1=>∃v w,vs=[v,w]/\D.nx ((σ.set i (some v)).set j (some w)) H1
theorem zXg {i j:Nat}{x y:Str}{a b:Expr}{ta:TA}{px py pt:Pos}{kt k2 pt2} (hc:X.calm=true) (hN:X.N.Nodup) (hi:X.N[i]?=some x) (hj:X.N[j]?=some y) (hij:i≠j)
  (hx:X.env.scope.names.lookup x=some .local) (hy:X.env.scope.names.lookup y=some .local) (ha:PA X [a,b] ta)
  (hw:swappedStores [.Tuple [.Name x px,.Name y py] kt pt] (.Tuple [a,b] k2 pt2) X.env=pure (some [x,y]))
  (hs:swapsWithSole [.Tuple [.Name x px,.Name y py] kt pt] (.Tuple [a,b] k2 pt2) pos.line X.env=pure false:=by rfl):
  PS X (.Assign [.Tuple [.Name x px,.Name y py] kt pt] (.Tuple [a,b] k2 pt2) pos) (tPar i j ta):=by
 intro pins s σ H D I h
 rw[exec_Assign_arm]
 refine wpAny_bind (wpAny_standAt ?_)
 rw[hs]
 refine wpAny_bind (wpAny_pure ?_)
 rw[if_neg (by decide)]
 refine wpAny_bind (Tuple_ (thn (ha _ pins s σ H _ I h) fun us s1 ⟨vs,H1,I1,r1,q1⟩=>?_))
 obtain⟨v,w,e1,q1⟩:=q1
 subst e1
 obtain⟨u1,u2,rfl,rv,rw'⟩:∃u1 u2,us=[u1,u2]/\RelV v u1/\RelV w u2:=by
  cases r1 with
  | cons p q=>
   cases q with
   | cons p' q'=>
    cases q'
    exact⟨_,_,rfl,p,p'⟩
 refine wpAny_newObj_type ?_ (by show 2<=sizeLine;decide)
 have I2:Inv X pins σ H1 { s1 with heap:=s1.heap.push { cls:=.type "tuple",data:=.seq [u1,u2].toArray } }:=I1.kept (t':=s1.toks) fun b o e=>Heap.get?_push_of_some _ e
 rw[hw]
 refine wpAny_bind (wpAny_pure ?_)
 show wpAny (model X.prog X.w) X.A (do rule "assign.swapped-stores";let items <- unpackItems (.ref s1.heap.objs.size) 2 none;assignInOrder [fun v=>bindName X.env y v,fun v=>bindName X.env x v] items.reverse;pure Flow.next) _ _ _
 refine wpAny_bind (wpAny_rule (wpAny_bind (unpackItems_tuple (items:=#[u1,u2]) (I.ok.hd hc) (IsTup.new s1.heap _) fun h' hx'=>?_)))
 have I3:=I2.kept (h':=h') (t':=s1.toks) fun b o e=>hx' b o (Nat.ne_of_lt (Heap.lt_size e)) e
 show wpAny _ _ (assignInOrder [fun v=>bindName X.env y v,fun v=>bindName X.env x v] [u2,u1] >>= fun _=>pure Flow.next) _ _ _
 refine wpAny_bind (assignInOrder_cons (wpAny_bindName (zEs I3 hN hj (.inl hy) rw' (fun s2 I4=>?_) (.inr hy))))
 refine assignInOrder_cons (wpAny_bindName (zEs I4 hN hi (.inl hx) rv (fun s3 I5=>assignInOrder_nil (wpAny_pure ?_)) (.inr hx)))
 rw[List.set_comm _ _ (Ne.symm hij)]at I5
 exact⟨_,H1,I5,q1⟩
end
section
variable {X:Cx}{pos:Pos}
def zSh (c:TT) (tb:TS):TS:=fun D σ H=>∃W:Nat->St->Hp->Prop,(∃m,W m σ H)/\∀m σ H,W m σ H->
 c σ H fun b H1=>if b=true then ∃N:St->Hp->Prop,(∀σ' H',N σ' H'->∃m',m'<m/\W m' σ' H')/\tb { D with nx:=N,ct:=N,bk:=D.nx } σ H1 else D.nx σ H1
theorem zQ6 {c:Expr}{body:List Stmt}{tc:TT}{tb:TS}(hp:PassesOwn (model X.prog X.w) X.A X.env X.xe) (hc:PT X c tc) (hb:PSs X body tb):PS X (.While c body [] pos) (zSh tc tb):=by
 intro pins s σ H D I h
 obtain⟨W,⟨m0,w0⟩,turn⟩:=h
 refine wpAny_While (codeAny_whileLoop (fun n s'=>∃σ' H',Inv X pins σ' H' s'/\W n σ' H') ?_ m0 ⟨σ,H,I,w0⟩)
 rintro n s1 ⟨σ1,H1,I1,w1⟩
 refine wpAny_passesOwn hp (thn (hc pins s1 σ1 H1 _ I1 (turn n σ1 H1 w1)) fun b s2 ⟨H2,I2,q2⟩=>?_)
 cases b with
 | true=>
  obtain⟨N,hN,q2⟩:=q2
  rw[if_pos rfl]
  refine wpAny_passesOwn hp (thn (hb pins s2 σ1 H2 _ I2 q2) fun f s3 q3=>?_)
  cases f with
  | next=>
   obtain⟨σ3,H3,I3,n3⟩:=q3
   obtain⟨m',hm,w3⟩:=hN σ3 H3 n3
   exact⟨m',hm,σ3,H3,I3,w3⟩
  | cont=>
   obtain⟨σ3,H3,I3,n3⟩:=q3
   obtain⟨m',hm,w3⟩:=hN σ3 H3 n3
   exact⟨m',hm,σ3,H3,I3,w3⟩
  | brk=>exact q3
  | ret v=>exact q3
 | false=>
  rw[if_neg Bool.false_ne_true]
  exact wpAny_execs_nil ⟨σ1,H2,I2,q2⟩
end
structure It where
 go:Nat->Hp->Prop
 yld:Nat->Hp->V->Hp->Prop
 stop:Nat->Hp->Prop
def FpOk (X:Cx) (pins:List (Addr × Obj)) (H:Hp) (b:Addr):Prop:=
 H b=none/\b≠X.env.locals/\b ∉ X.fs/\(b∈X.ex\/X.s₀.heap.objs.size<=b)/\(∀x c,X.env.cells.lookup x=some c->c≠b)/\∀p∈X.pn++pins,p.1≠b
theorem Inv.fpOk {X:Cx}{pins:List (Addr × Obj)}{σ:St}{H H':Hp}{s:Shared}{b:Addr}(I:Inv X pins σ H s) (hb:s.heap.objs.size<=b) (hn:H' b=none):FpOk X pins H' b:=by
 refine⟨hn,Nat.ne_of_gt (Nat.lt_of_lt_of_le I.lt hb),I.nofs hb,.inr (Nat.le_trans I.sz hb),fun x c e z=>?_,fun p hp z=>?_⟩
 ·obtain⟨v,q⟩:=I.cell x c e
  exact absurd (Nat.lt_of_lt_of_le q.lt (by rw[z];exact hb)) (Nat.lt_irrefl _)
 ·exact absurd (Nat.lt_of_lt_of_le (Heap.lt_size (I.pin p hp).1) (by rw[z];exact hb)) (Nat.lt_irrefl _)
structure Turn (P:Program) (w:World) (K:PySem.W.Frag) (tg:Expr) (J:It) (fp:List Addr) (it:Addr) (tn:Nat->Heap->Prop):Prop where
 mem:it∈fp
 obj:∀i h,tn i h->∀b∈fp,∃o,h.get? b=some o/\∀v,o.data≠.cell v
 keep:∀i h h',tn i h->(∀b∈fp,∀o,h.get? b=some o->h'.get? b=some o)->tn i h'
 item:∀(X:Cx),X.prog=P->X.w=w->X.K=K->X.calm=true->∀(i:Nat) (pins:List (Addr × Obj)) (s:Shared) (σ:St) (H:Hp) (E:Value->Shared->Prop),Inv X pins σ H s->(∀b∈fp,FpOk X pins H b)->tn i s.heap->J.go i H->
  wpAny (model P w) X.A (pyNext (.ref it)) (fun r s1=>∃u,r=some u /\
   wpAny (model P w) X.A (letOwnedTupleGo tg (.ref it) u) (fun _ s2=>∃x H',Inv X pins σ H' s2/\RelV x u/\J.yld i H x H'/\tn (i+1) s2.heap/\∀b∈fp,H' b=none) E s1) E s
 done:∀(X:Cx),X.prog=P->X.w=w->X.K=K->X.calm=true->∀(i:Nat) (pins:List (Addr × Obj)) (s:Shared) (σ:St) (H:Hp) (E:Value->Shared->Prop),Inv X pins σ H s->(∀b∈fp,FpOk X pins H b)->tn i s.heap->J.stop i H->
  wpAny (model P w) X.A (pyNext (.ref it)) (fun r s1=>r=none/\Inv X pins σ H s1) E s
 self:∀(A:Around) (i:Nat) (s:Shared) (Q:Value->Shared->Prop) (E:Value->Shared->Prop),tn i s.heap->Q (.ref it) s->wpAny (model P w) A (pyIter (.ref it)) Q E s
abbrev TI:=St->Hp->(It->Hp->Prop)->Prop
def PIE (X:Cx) (pins:List (Addr × Obj)) (σ:St) (tg:Expr) (R:It->Hp->Prop) (itv:Value) (s2:Shared):Prop:=
 ∃(it:Addr) (fp:List Addr) (tn:Nat->Heap->Prop) (J:It) (H':Hp),itv=.ref it/\Inv X pins σ H' s2/\Turn X.prog X.w X.K tg J fp it tn/\tn 0 s2.heap/\(∀b∈fp,FpOk X pins H' b)/\R J H'
def PI (X:Cx) (tg iter:Expr) (wi:TI):Prop:=
 ∀(pins:List (Addr × Obj)) (s:Shared) (σ:St) (H:Hp) (R:It->Hp->Prop),Inv X pins σ H s->wi σ H R->
  wpAny (model X.prog X.w) X.A (eval iter X.env) (fun v s1=>wpAny (model X.prog X.w) X.A (pyIter v) (PIE X pins σ tg R) X.xe s1) X.xe s
theorem zRh {M:Model}{A:Around}{E:Value->Shared->Prop}{s:Shared}{tg:Expr}{it:Addr}{u:Value}{o:Obj}{n:String}{vs:Array Value}{Q:Unit->Shared->Prop}(ho:s.heap.get? it=some o) (hc:o.cls=.type n) (hd:o.data=.fields vs)
    (hn:["enumerate","zip","dict_itemiterator","dict_reverseitemiterator","odict_iterator","itertools.zip_longest","itertools.pairwise"].contains n=false) (hQ:Q () s):wpAny M A (letOwnedTupleGo tg (.ref it) u) Q E s:=by
  unfold letOwnedTupleGo
  cases tg <;> first
    | exact wpAny_pure hQ
    | (cases u <;> first
        | exact wpAny_pure hQ
        | (refine wpAny_bind (wpAny_load ho ?_)
           rw[hc,hd]
           show wpAny M A (if(["enumerate","zip","dict_itemiterator","dict_reverseitemiterator","odict_iterator","itertools.zip_longest","itertools.pairwise"].contains n && vs[0]? == some (rawInt _))=true then _ else _) Q E s
           rw[if_neg (by intro h;rw[hn,Bool.false_and]at h;cases h)]
           exact wpAny_pure hQ))
def Itl (K:PySem.W.Frag) (a:Addr):It:=
 ⟨fun i H=>∃xs x,SqL K H a xs/\xs[i]?=some x,fun i H x H'=>H'=H/\∀xs,SqL K H a xs->xs[i]?=some x,fun i H=>∃xs,SqL K H a xs/\xs.length<=i⟩
def Itt (K:PySem.W.Frag) (a:Addr):It:=
 ⟨fun i H=>∃xs x,SqT K H a xs/\xs[i]?=some x,fun i H x H'=>H'=H/\∀xs,SqT K H a xs->xs[i]?=some x,fun i H=>∃xs,SqT K H a xs/\xs.length<=i⟩
def Itr (lo:Int) (n:Nat):It:=⟨fun i _=>i<n,fun i H x H'=>H'=H/\x=.int (lo+i),fun i _=>n<=i⟩
theorem zMf {P:Program}{w:World}{K:PySem.W.Frag}{tg:Expr}(a it:Addr):Turn P w K tg (Itl K a) [it] it (fun i h=>h.IsListIter it a i) where
 mem:=by simp
 obj:=fun i h st b hb=>by
  have e:b=it:=by simpa using hb
  subst e
  obtain⟨o,e,c,d⟩:=st
  exact⟨o,e,fun v z=>by rw[d]at z;cases z⟩
 keep:=fun i h h' st k=>st.at fun o e=>k it (by simp) o e
 item:=by
  intro X hP hw hK hc i pins s σ H E I hf st hg
  subst hP hw hK
  obtain⟨xs,x,hq,hx⟩:=hg
  obtain⟨its,rv,p,hz⟩:=I.list hq
  obtain⟨u,hu,ru⟩:=rv.get hx
  obtain⟨f0,f1,f2,f3,f4,f5⟩:=hf it (by simp)
  refine wpAny_pyNext_list_item st p.isList (x:=u) (by simpa using hu) fun h' st' sb=>?_
  have I1:Inv X pins σ H { s with heap:=h' }:=I.turned (t':=s.toks) (fun b o hb e=>(sb.2 b hb).trans e) f0 f1 f3 f4 f5
  obtain⟨o,e,c,d⟩:=id st'
  exact⟨u,rfl,zRh (s:={ s with heap:=h' }) e c d (by decide) ⟨x,H,I1,ru,⟨rfl,fun ys hy=>by rw[I.list_inj hy hq];exact hx⟩,st',fun b hb=>(hf b hb).1⟩⟩
 done:=by
  intro X hP hw hK hc i pins s σ H E I hf st hg
  subst hP hw hK
  obtain⟨xs,hq,hx⟩:=hg
  obtain⟨its,rv,p,hz⟩:=I.list hq
  obtain⟨f0,f1,f2,f3,f4,f5⟩:=hf it (by simp)
  have hl:=rv.length
  exact wpAny_pyNext_list_end (I.ok.hd hc) st p.isList (by simp;lia) fun h' eb=>⟨rfl,I.turned (t':=s.toks) (fun b o hb e=>eb b o hb e) f0 f1 f3 f4 f5⟩
 self:=fun _ _ _ _ _ st h=>wpAny_pyIter_listiter st h
theorem zLd {P:Program}{w:World}{K:PySem.W.Frag}{tg:Expr}(a it:Addr):Turn P w K tg (Itt K a) [it] it (fun i h=>h.IsTupleIter it a i) where
 mem:=by simp
 obj:=fun i h st b hb=>by
  have e:b=it:=by simpa using hb
  subst e
  obtain⟨o,e,c,d⟩:=st
  exact⟨o,e,fun v z=>by rw[d]at z;cases z⟩
 keep:=fun i h h' st k=>st.at fun o e=>k it (by simp) o e
 item:=by
  intro X hP hw hK hc i pins s σ H E I hf st hg
  subst hP hw hK
  obtain⟨xs,x,hq,hx⟩:=hg
  obtain⟨its,rv,p,hz⟩:=I.tuple hq
  obtain⟨u,hu,ru⟩:=rv.get hx
  obtain⟨f0,f1,f2,f3,f4,f5⟩:=hf it (by simp)
  refine wpAny_pyNext_tuple_item st (show s.heap.IsTuple a its.toArray from p) (x:=u) (by simpa using hu) fun h' st' sb=>?_
  have I1:Inv X pins σ H { s with heap:=h' }:=I.turned (t':=s.toks) (fun b o hb e=>(sb.2 b hb).trans e) f0 f1 f3 f4 f5
  obtain⟨o,e,c,d⟩:=id st'
  exact⟨u,rfl,zRh (s:={ s with heap:=h' }) e c d (by decide) ⟨x,H,I1,ru,⟨rfl,fun ys hy=>by rw[I.tuple_inj hy hq];exact hx⟩,st',fun b hb=>(hf b hb).1⟩⟩
 done:=by
  intro X hP hw hK hc i pins s σ H E I hf st hg
  subst hP hw hK
  obtain⟨xs,hq,hx⟩:=hg
  obtain⟨its,rv,p,hz⟩:=I.tuple hq
  obtain⟨f0,f1,f2,f3,f4,f5⟩:=hf it (by simp)
  have hl:=rv.length
  exact wpAny_pyNext_tuple_end (I.ok.hd hc) st (show s.heap.IsTuple a its.toArray from p) (by simp;lia) fun h' eb=>⟨rfl,I.turned (t':=s.toks) (fun b o hb e=>eb b o hb e) f0 f1 f3 f4 f5⟩
 self:=fun _ _ _ _ _ st h=>wpAny_pyIter_tupleiter st h
theorem zLe {P:Program}{w:World}{K:PySem.W.Frag}{tg:Expr}(it:Addr) (lo:Int) (n:Nat):Turn P w K tg (Itr lo n) [it] it (fun i h=>IsRangeIter h it (lo+(i:Nat)*1) ((n:Int)-(i:Nat)) 1) where
 mem:=by simp
 obj:=fun i h st b hb=>by
  have e:b=it:=by simpa using hb
  subst e
  exact⟨_,st,fun v z=>by
   have z':Data.fields _=Data.cell v:=z
   cases z'⟩
 keep:=fun i h h' st k=>k it (by simp) _ st
 item:=by
  intro X hP hw hK hc i pins s σ H E I hf st hg
  subst hP hw hK
  obtain⟨f0,f1,f2,f3,f4,f5⟩:=hf it (by simp)
  have W:=Walks.range (prog:=X.prog) (w:=X.w) (I.ok.hd hc) it lo 1 n
  refine W.item i s _ _ hg st fun v h' tk hv st' kk=>?_
  obtain⟨t,rfl⟩:=hv
  have I1:Inv X pins σ H { s with heap:=h',toks:=tk }:=I.turned (fun b o hb e=>kk b o (by simpa using hb) e) f0 f1 f3 f4 f5
  refine⟨_,rfl,zRh (s:={ s with heap:=h',toks:=tk }) (n:="range_iterator") st' rfl rfl (by decide) ⟨.int (lo+i),H,I1,⟨t,?_⟩,⟨rfl,rfl⟩,st',fun b hb=>(hf b hb).1⟩⟩
  rw[Int.mul_one]
 done:=by
  intro X hP hw hK hc i pins s σ H E I hf st hg
  subst hP hw hK
  obtain⟨f0,f1,f2,f3,f4,f5⟩:=hf it (by simp)
  exact wpAny_pyNext_range_end (I.ok.hd hc) st (by have:n<=i:=hg;lia) fun h' eb=>⟨rfl,I.turned (t':=s.toks) (fun b o hb e=>eb b o hb e) f0 f1 f3 f4 f5⟩
 self:=fun _ _ _ _ _ st h=>wpAny_pyIter_rangeiter st h
end L2
namespace L2
open PySem PySem.Spec PyProof.Rows
section
variable {X:Cx}{tg:Expr}
theorem zPx {pins:List (Addr × Obj)}{σ:St}{H:Hp}{s:Shared}{R:It->Hp->Prop}{E:Value->Shared->Prop}{lo hi:Int}{t u v:Tok}{tk:Nat}(I:Inv X pins σ H s) (h1:-(2 ^ 62)<=lo) (h2:lo<2 ^ 62) (h3:-(2 ^ 62)<=hi) (h4:hi<2 ^ 62)
  (q:R (Itr lo (hi-lo).toNat) H):wpAny (model X.prog X.w) X.A (pyIter (.ref s.heap.objs.size)) (PIE X pins σ tg R) E { s with heap:=s.heap.push { cls:=.type "range",data:=.fields #[.int lo t,.int hi u,.int 1 v] },toks:=tk }:=by
 refine wpAny_pyIter_range (IsRange.new ..) (small_one h1 h2 h3 h4) ?_
 have I1:Inv X pins σ H { s with heap:=s.heap.push { cls:=.type "range",data:=.fields #[.int lo t,.int hi u,.int 1 v] },toks:=tk }:=I.kept fun b o e=>Heap.get?_push_of_some _ e
 refine⟨(s.heap.push { cls:=.type "range",data:=.fields #[.int lo t,.int hi u,.int 1 v] }).objs.size,[(s.heap.push { cls:=.type "range",data:=.fields #[.int lo t,.int hi u,.int 1 v] }).objs.size],_,_,H,rfl,
  I1.kept (t':=tk) fun b o e=>Heap.get?_push_of_some _ e,zLe _ lo (hi-lo).toNat,?_,fun b hb=>?_,q⟩
 ·have e1:lo+((0:Nat):Int)*1=lo:=by simp
  have e2:(((hi-lo).toNat:Nat):Int)-((0:Nat):Int)=Builtin.Range.rangeSize lo hi 1:=by rw[rangeSize_one];split <;> lia
  show IsRangeIter _ _ (lo+((0:Nat):Int)*1) ((((hi-lo).toNat:Nat):Int)-((0:Nat):Int)) 1
  rw[e1,e2]
  exact Heap.get?_push_size _ rfl
 ·have e:b=(s.heap.push { cls:=.type "range",data:=.fields #[.int lo t,.int hi u,.int 1 v] }).objs.size:=by simpa using hb
  subst e
  exact I1.fpOk (Nat.le_refl _) (I1.hok.fresh (Nat.le_refl _))
def zVm (ta:TA):TI:=fun σ H R=>ta σ H fun vs H1=>∃j:Int,vs=[.int j]/\-(2 ^ 62)<=j/\j<2 ^ 62/\R (Itr 0 j.toNat) H1
theorem zNc {a:Expr}{ta:TA}{p pos:Pos}(hg:Gl X "range") (hm:X.mg "range"=none) (ha:PA X [a] ta) (hs:starEach [a] X.env=[(false,eval a X.env)]:=by rfl):PI X tg (.Call (.Name "range" p) [a] [] pos) (zVm ta):=by
 intro pins s σ H R I h
 refine Call_ (zCq I hg hm boot_range (PyProof.Rows.callWith_type1 (thn (ha pos pins s σ H _ I h) fun us s1 ⟨vs,H1,I1,r1,q1⟩=>?_) hs rfl))
 obtain⟨j,e,q1,q2,q⟩:=q1
 subst e
 cases r1 with
 | cons r rr=>
  cases rr
  obtain⟨t,rfl⟩:=r
  exact call_range_1 (zPx I1 (by first|assumption|lia) (by first|assumption|lia) q1 q2 (by simpa using q))
def tFor (wi:TI) (g:TG) (tb:TS):TS:=fun D σ H=>wi σ H fun J H1=>∃W:Nat->Nat->St->Hp->Prop,(∃m,W 0 m σ H1)/\∀i m σ H,W i m σ H->
 (J.stop i H/\D.nx σ H)\/(J.go i H/\∃N:St->Hp->Prop,(∀σ' H',N σ' H'->∃m',m'<m/\W (i+1) m' σ' H')/\∀x H',J.yld i H x H'->g x σ H' fun σ2 H2=>tb { D with nx:=N,ct:=N,bk:=D.nx } σ2 H2)
def zI4 (fp:List Addr) (h:Heap):List (Addr × Obj):=fp.filterMap fun b=>(h.get? b).map fun o=>(b,o)
theorem zD1 {fp:List Addr}{h:Heap}{b:Addr}{o:Obj}(hb:b∈fp) (e:h.get? b=some o):(b,o)∈zI4 fp h:=List.mem_filterMap.mpr ⟨b,hb,by rw[e];rfl⟩
theorem zNr {fp:List Addr}{h:Heap}{p:Addr × Obj}(hp:p∈zI4 fp h):p.1∈fp/\h.get? p.1=some p.2:=by
 obtain⟨b,hb,e⟩:=List.mem_filterMap.mp hp
 cases q:h.get? b with
 | none=>rw[q]at e;cases e
 | some o=>
  rw[q]at e
  have e':(b,o)=p:=Option.some.inj e
  subst e'
  exact⟨hb,q⟩
theorem Inv.pinned {pins:List (Addr × Obj)}{σ:St}{H:Hp}{s:Shared}{fp:List Addr}(I:Inv X pins σ H s) (hf:∀b∈fp,FpOk X pins H b) (ho:∀b∈fp,∃o,s.heap.get? b=some o/\∀v,o.data≠.cell v):Inv X (pins++zI4 fp s.heap) σ H s:=
 I.pins_of fun p hp=>(List.mem_append.mp hp).elim (fun z=>I.pin p (List.mem_append_right _ z)) fun z=>by
  obtain⟨hb,e⟩:=zNr z
  obtain⟨f0,f1,f2,_⟩:=hf p.1 hb
  obtain⟨o,e',d⟩:=ho p.1 hb
  rw[e]at e';cases e'
  exact⟨e,f0,f1,f2,d⟩
theorem Inv.unpinned {pins pl:List (Addr × Obj)}{σ:St}{H:Hp}{s:Shared}(I:Inv X (pins++pl) σ H s):Inv X pins σ H s:=I.pins_of fun p hp=>I.pin p (List.mem_append_right _ (List.mem_append_left _ hp))
theorem zXi {iter:Expr}{body:List Stmt}{wi:TI}{g:TG}{tb:TS}{pos:Pos}(hp:PassesOwn (model X.prog X.w) X.A X.env X.xe) (hc:X.calm=true) (hi:PI X tg iter wi) (hg:PG X tg g) (hb:PSs X body tb)
  (hs:∀x,foldedSetIterable iter X.env x=pure x:=by intro _;rfl):PS X (.For tg iter body [] pos) (tFor wi g tb):=by
 intro pins s σ H D I h
 refine wpAny_For (thn (hi pins s σ H _ I h) fun v s1 h1=>thn h1 fun itv s2 h2=>?_) hs
 obtain⟨it,fp,tn,J,H2,e,I2,T,st2,f2,W,⟨m0,w0⟩,turn⟩:=h2
 subst e
 -- what stays true of the iterator's objects through the loop
 have stat:∀{H':Hp},(∀b∈fp,H' b=none)->∀b∈fp,FpOk X pins H' b:=fun hn b hb=>⟨hn b hb,(f2 b hb).2⟩
 refine codeAny_forLoop_any (fun n s'=>∃i σ' H',Inv X pins σ' H' s'/\tn i s'.heap/\(∀b∈fp,H' b=none)/\W i n σ' H') ?_ m0 ⟨0,σ,H2,I2,st2,fun b hb=>(f2 b hb).1,w0⟩
 rintro n s3 ⟨i,σ3,H3,I3,st3,fr3,w3⟩
 rcases turn i n σ3 H3 w3 with⟨stop,qn⟩|⟨go,N,hN,step⟩
 ·refine wpAny_passesOwn hp (thn (T.done X rfl rfl rfl hc i pins s3 σ3 H3 X.xe I3 (stat fr3) st3 stop) fun r s4 ⟨hr,I4⟩=>?_)
  subst hr
  exact wpAny_execs_nil ⟨σ3,H3,I4,qn⟩
 ·refine wpAny_passesOwn hp (thn (T.item X rfl rfl rfl hc i pins s3 σ3 H3 X.xe I3 (stat fr3) st3 go) fun r s4 ⟨u,hr,h4⟩=>?_)
  subst hr
  refine wpAny_passesOwn hp (thn h4 fun _ s5 ⟨x,H5,I5,r5,y5,st5,fr5⟩=>?_)
  have I5':=I5.pinned (stat fr5) (T.obj _ _ st5)
  refine wpAny_passesOwn hp (thn (hg _ s5 σ3 H5 x u _ I5' r5 (step x H5 y5)) fun _ s6 ⟨σ6,H6,I6,q6⟩=>?_)
  refine wpAny_passesOwn hp (thn (hb _ s6 σ6 H6 _ I6 q6) fun f s7 q7=>?_)
  have again:∀{σ7:St}{H7:Hp},Inv X (pins++zI4 fp s5.heap) σ7 H7 s7->N σ7 H7->∃m,m<n/\∃i σ' H',Inv X pins σ' H' s7/\tn i s7.heap/\(∀b∈fp,H' b=none)/\W i m σ' H':=fun {σ7 H7} I7 n7=>by
   obtain⟨m',hm,w7⟩:=hN σ7 H7 n7
   refine⟨m',hm,i+1,σ7,H7,I7.unpinned,T.keep _ _ _ st5 fun b hb o e=>(I7.pin (b,o) (List.mem_append_right _ (List.mem_append_right _ (zD1 hb e)))).1,fun b hb=>?_,w7⟩
   obtain⟨o,e,d⟩:=T.obj _ _ st5 b hb
   exact(I7.pin (b,o) (List.mem_append_right _ (List.mem_append_right _ (zD1 hb e)))).2.1
  cases f with
  | next=>obtain⟨σ7,H7,I7,n7⟩:=q7;exact again I7 n7
  | cont=>obtain⟨σ7,H7,I7,n7⟩:=q7;exact again I7 n7
  | brk=>obtain⟨σ7,H7,I7,q7⟩:=q7;exact⟨σ7,H7,I7.unpinned,q7⟩
  | ret v=>obtain⟨x7,σ7,H7,I7,r7,q7⟩:=q7;exact⟨x7,σ7,H7,I7.unpinned,r7,q7⟩
end
end L2
namespace L2
open PySem PySem.Spec PyProof.Rows
abbrev R2:=V->V->Hp->VK->Prop
def OpR (X:Cx) (f:Value->Value->Sem Value) (r:R2):Prop:=
 ∀(pins:List (Addr × Obj)) (s:Shared) (σ:St) (H:Hp) (x y:V) (v u:Value) (Q:VK),Inv X pins σ H s->RelV x v->RelV y u->r x y H Q->
  wpAny (model X.prog X.w) X.A (f v u) (EP X pins σ Q) X.xe s
def UnR (X:Cx) (f:Value->Sem Value) (r:V->Hp->VK->Prop):Prop:=
 ∀(pins:List (Addr × Obj)) (s:Shared) (σ:St) (H:Hp) (x:V) (v:Value) (Q:VK),Inv X pins σ H s->RelV x v->r x H Q->
  wpAny (model X.prog X.w) X.A (f v) (EP X pins σ Q) X.xe s
def zBk (X:Cx) (f:Value) (r:List V->Hp->VK->Prop):Prop:=
 ∀(pins:List (Addr × Obj)) (s:Shared) (σ:St) (H:Hp) (xs:List V) (us:List Value) (Q:VK),Inv X pins σ H s->Vals xs us->r xs H Q->
  wpAny (model X.prog X.w) X.A (call f us) (EP X pins σ Q) X.xe s
def TruR (X:Cx) (r:V->Hp->(Bool->Hp->Prop)->Prop):Prop:=
 ∀(pins:List (Addr × Obj)) (s:Shared) (σ:St) (H:Hp) (x:V) (v:Value) (Q:Bool->Hp->Prop),Inv X pins σ H s->RelV x v->r x H Q->
  wpAny (model X.prog X.w) X.A (truthy v) (TP X pins σ Q) X.xe s
def tOp (r:R2) (ta tb:TE):TE:=fun σ H Q=>ta σ H fun x H1=>tb σ H1 fun y H2=>r x y H2 Q
def tUn (r:V->Hp->VK->Prop) (ta:TE):TE:=fun σ H Q=>ta σ H fun x H1=>r x H1 Q
def rI (C:Int->Int->Prop) (g:Int->Int->V):R2:=fun x y H Q=>∃i j,x=.int i/\y=.int j/\C i j/\Q (g i j) H
def rI0 (g:Int->Int->V):R2:=fun x y H Q=>∃i j,x=.int i/\y=.int j/\Q (g i j) H
def rU (g:Int->V):V->Hp->VK->Prop:=fun x H Q=>∃i,x=.int i/\Q (g i) H
section
variable {X:Cx}{a b c:Expr}{ta tb tc:TE}{pos:Pos}
theorem binT (ha:PE X a ta) (hb:PE X b tb) {pins:List (Addr × Obj)}{s:Shared}{σ:St}{H:Hp}{R:V->V->Hp->Prop}(I:Inv X pins σ H s)
  (h:ta σ H fun x H1=>tb σ H1 fun y H2=>R x y H2) {Q:Value->Shared->Prop}{f:Value->Value->Sem Value}
  (hf:∀v u s2 x y H2,Inv X pins σ H2 s2->RelV x v->RelV y u->R x y H2->wpAny (model X.prog X.w) X.A (f v u) Q X.xe s2):
  wpAny (model X.prog X.w) X.A (eval a X.env) (fun v s₁=>wpAny (model X.prog X.w) X.A (eval b X.env) (fun u s₂=>wpAny (model X.prog X.w) X.A (f v u) Q X.xe s₂) X.xe s₁) X.xe s:=by
 refine thn (ha pins s σ H _ I h) fun v s1 ⟨x,H1,I1,r1,q1⟩=>?_
 refine thn (hb pins s1 σ H1 _ I1 q1) fun u s2 ⟨y,H2,I2,r2,q2⟩=>?_
 exact hf v u s2 x y H2 I2 r1 r2 q2
theorem zZk {op:Operator}{r:R2}(ho:OpR X (binaryOp op) r) (ha:PE X a ta) (hb:PE X b tb):PE X (.BinOp a op b pos) (tOp r ta tb):=by
 intro pins s σ H Q I h
 exact wpAny_BinOp (binT ha hb I h fun v u s2 x y H2 I2 rx ry q=>ho pins s2 σ H2 x y v u Q I2 rx ry q)
theorem zZj {op:UnaryOp}{r:V->Hp->VK->Prop}(ho:UnR X (unaryOp op) r) (ha:PE X a ta):PE X (.UnaryOp op a pos) (tUn r ta):=by
 intro pins s σ H Q I h
 exact UnaryOp_ (thn (ha pins s σ H _ I h) fun v s1 ⟨x,H1,I1,r1,q1⟩=>ho pins s1 σ H1 x v Q I1 r1 q1)
theorem opI {f:Value->Value->Sem Value}{C:Int->Int->Prop}{g:Int->Int->Int}
  (rule:∀(i j:Int) (t u:Tok) (s:Shared) (Q:Value->Shared->Prop) (E:Value->Shared->Prop),C i j->Q (.int (g i j) s.toks) { s with toks:=s.toks+1 }->wpAny (model X.prog X.w) X.A (f (.int i t) (.int j u)) Q E s):
  OpR X f (rI C fun i j=>.int (g i j)):=by
 intro pins s σ H x y v u Q I rx ry h
 obtain⟨i,j,rfl,rfl,hc,q⟩:=h
 obtain⟨t,rfl⟩:=rx
 obtain⟨t',rfl⟩:=ry
 exact rule i j t t' s _ _ hc ⟨.int (g i j),H,I.tok _,⟨_,rfl⟩,q⟩
theorem opI0 {f:Value->Value->Sem Value}{g:Int->Int->Int}
  (rule:∀(i j:Int) (t u:Tok) (s:Shared) (Q:Value->Shared->Prop) (E:Value->Shared->Prop),Q (.int (g i j) s.toks) { s with toks:=s.toks+1 }->wpAny (model X.prog X.w) X.A (f (.int i t) (.int j u)) Q E s):
  OpR X f (rI0 fun i j=>.int (g i j)):=by
 intro pins s σ H x y v u Q I rx ry h
 obtain⟨i,j,rfl,rfl,q⟩:=h
 obtain⟨t,rfl⟩:=rx
 obtain⟨t',rfl⟩:=ry
 exact rule i j t t' s _ _ ⟨.int (g i j),H,I.tok _,⟨_,rfl⟩,q⟩
theorem opB0 {f:Value->Value->Sem Value}{g:Int->Int->Bool}
  (rule:∀(i j:Int) (t u:Tok) (s:Shared) (Q:Value->Shared->Prop) (E:Value->Shared->Prop),Q (.bool (g i j)) s->wpAny (model X.prog X.w) X.A (f (.int i t) (.int j u)) Q E s):
  OpR X f (rI0 fun i j=>.bl (g i j)):=by
 intro pins s σ H x y v u Q I rx ry h
 obtain⟨i,j,rfl,rfl,q⟩:=h
 obtain⟨t,rfl⟩:=rx
 obtain⟨t',rfl⟩:=ry
 exact rule i j t t' s _ _ ⟨.bl (g i j),H,I,rfl,q⟩
def CPow (i j:Int):Prop:=0<=j/\j<=1000000/\i.natAbs<2 ^ 64
theorem zY5:OpR X (binaryOp .Add) (rI0 fun i j=>.int (i+j)):=opI0 fun _ _ _ _ _ _ _ q=>add_int q
theorem zY0:OpR X (binaryOp .Sub) (rI0 fun i j=>.int (i-j)):=opI0 fun _ _ _ _ _ _ _ q=>sub_int q
theorem zY3:OpR X (binaryOp .Mod) (rI (fun _ j=>0<j) fun i j=>.int (i % j)):=opI fun i j _ _ _ _ _ hc q=>by
 have h1:(0:Int)<j:=hc
 exact mod_int' (by first|assumption|lia) (by rw[Int.fmod_eq_emod_of_nonneg i (by first|assumption|lia)];exact q)
theorem zY1:OpR X (binaryOp .Pow) (rI CPow fun i j=>.int (i ^ j.toNat)):=opI fun _ _ _ _ _ _ _ hc q=>pow_int_small hc.1 hc.2.1 hc.2.2 q
theorem unI {f:Value->Sem Value}{g:Int->Int}
  (rule:∀(i:Int) (t:Tok) (s:Shared) (Q:Value->Shared->Prop) (E:Value->Shared->Prop),Q (.int (g i) s.toks) { s with toks:=s.toks+1 }->wpAny (model X.prog X.w) X.A (f (.int i t)) Q E s):
  UnR X f (rU fun i=>.int (g i)):=by
 intro pins s σ H x v Q I rx h
 obtain⟨i,rfl,q⟩:=h
 obtain⟨t,rfl⟩:=rx
 exact rule i t s _ _ ⟨.int (g i),H,I.tok _,⟨_,rfl⟩,q⟩
theorem zWr:UnR X (unaryOp .USub) (rU fun i=>.int (-i)):=unI fun _ _ _ _ _ q=>neg_int q
end
section
variable {X:Cx}{a b c:Expr}{ta tb tc:TE}{pos:Pos}
theorem zZo:OpR X (compareOp .Lt) (rI0 fun i j=>.bl (decide (i<j))):=opB0 fun _ _ _ _ _ _ _ q=>lt_int q
theorem zZp:OpR X (compareOp .LtE) (rI0 fun i j=>.bl (decide (i<=j))):=opB0 fun _ _ _ _ _ _ _ q=>le_int q
theorem zZq:OpR X (compareOp .Gt) (rI0 fun i j=>.bl (decide (j<i))):=opB0 fun _ _ _ _ _ _ _ q=>gt_int q
theorem zZr:OpR X (compareOp .GtE) (rI0 fun i j=>.bl (decide (j<=i))):=opB0 fun _ _ _ _ _ _ _ q=>ge_int q
theorem nomark (b:Expr) {op:CmpOp}(h:op≠.In:=by decide) (h2:op≠.NotIn:=by decide):behindInMarks op b=false:=by
 have e1:(op == CmpOp.In)=false:=by cases op <;> first|rfl|exact absurd rfl h
 have e2:(op == CmpOp.NotIn)=false:=by cases op <;> first|rfl|exact absurd rfl h2
 cases b <;> simp[behindInMarks,e1,e2]
theorem zUt {op:CmpOp}{r:R2}(ho:OpR X (compareOp op) r) (ha:PE X a ta) (hb:PE X b tb) (hm:behindInMarks op b=false):PE X (.Compare a [op] [b] pos) (tOp r ta tb):=by
 intro pins s σ H Q I h
 exact wpAny_Compare1 (binT ha hb I h fun v u s2 x y H2 I2 rx ry q=>ho pins s2 σ H2 x y v u Q I2 rx ry q) hm
def zWu (t:TE):TT:=fun σ H Q=>t σ H fun x H'=>∃k,x=.bl k/\Q k H'
theorem zUa {op:CmpOp}{r:R2}(ho:OpR X (compareOp op) r) (ha:PE X a ta) (hb:PE X b tb) (hm:behindInMarks op b=false):PT X (.Compare a [op] [b] pos) (zWu (tOp r ta tb)):=by
 intro pins s σ H Q I h
 refine wpAny_isTrue_Compare1 (thn (ha pins s σ H _ I h) fun v s1 ⟨x,H1,I1,r1,q1⟩=>thn (hb pins s1 σ H1 _ I1 q1) fun u s2 ⟨y,H2,I2,r2,q2⟩=>
  thn (ho pins s2 σ H2 x y v u _ I2 r1 r2 q2) fun c s3 ⟨z,H3,I3,r3,k,e,q3⟩=>?_) hm
 subst e
 cases r3
 exact wpAny_truthy_bool ⟨H3,I3,q3⟩
def TruV (K:PySem.W.Frag) (x:V) (H:Hp) (k:Bool):Prop:=
 match x with
 | .non=>k=false
 | .bl b=>k=b
 | .int i=>k=(i != 0)
 | .str y=>y.length<=sizeLine/\k=((y.length:Int) != 0)
 | .byt y=>y.size<=sizeLine/\k=((y.size:Int) != 0)
 | .ref p=>(∃xs,SqL K H p xs/\k=!xs.isEmpty)\/(∃xs,SqT K H p xs/\k=!xs.isEmpty)\/∃kvs,H p=some (.dK kvs)/\k=!kvs.isEmpty
 | _=>False
theorem zLu {κ:Type}{kvs:List (κ × V)}{vs:List (κ × Value)}(r:KV kvs vs):(!vs.isEmpty)=!kvs.isEmpty:=by
 cases r <;> rfl
theorem zGh {xs:List V}{its:List Value}(r:Vals xs its):(!its.toArray.isEmpty)=!xs.isEmpty:=by
 cases r <;> simp
theorem line63:(sizeLine:Nat)<2 ^ 63:=by rw[sizeLine_eq];decide
theorem zSf:TruR X (fun x H Q=>∃k,TruV X.K x H k/\Q k H):=by
 intro pins s σ H x v Q I rx h
 obtain⟨k,e,q⟩:=h
 have hl:=line63
 have hs:sizeLine=16777216:=sizeLine_eq
 cases x with
 | non=>
  cases rx
  have e':k=false:=e
  subst e'
  exact truthy_none ⟨H,I,q⟩
 | bl b=>
  cases rx
  have e':k=b:=e
  subst e'
  exact wpAny_truthy_bool ⟨H,I,q⟩
 | int i=>
  obtain⟨t,rfl⟩:=rx
  have e':k=(i != 0):=e
  subst e'
  exact PySem.P.truthy_int ⟨H,I,q⟩
 | str y=>
  obtain⟨t,rfl⟩:=rx
  obtain⟨hy,e'⟩:y.length<=sizeLine/\k=((y.length:Int) != 0):=e
  subst e'
  exact PySem.P.truthy_str (by first|assumption|lia) ⟨H,I.tok _,q⟩
 | byt y=>
  obtain⟨t,rfl⟩:=rx
  obtain⟨hy,e'⟩:y.size<=sizeLine/\k=((y.size:Int) != 0):=e
  subst e'
  exact PySem.W.truthy_bytes (by first|assumption|lia) ⟨H,I.tok _,q⟩
 | ref p=>
  cases rx
  have e':(∃xs,SqL X.K H p xs/\k=!xs.isEmpty)\/(∃xs,SqT X.K H p xs/\k=!xs.isEmpty)\/∃kvs,H p=some (.dK kvs)/\k=!kvs.isEmpty:=e
  rcases e' with⟨xs,hx,e'⟩|⟨xs,hx,e'⟩|⟨kvs,hx,e'⟩
  ·subst e'
   obtain⟨its,r,pl,hz⟩:=I.list hx
   have hlen:=r.length
   exact wpAny_truthy_list pl.isList (by simp only[List.size_toArray];lia) ⟨H,I.tok _,by rw[zGh r];exact q⟩
  ·subst e'
   obtain⟨its,r,pl,hz⟩:=I.tuple hx
   have hlen:=r.length
   exact truthy_tuple pl (by simp only[List.size_toArray];lia) ⟨H,I.tok _,by rw[zGh r];exact q⟩
  ·subst e'
   obtain⟨hz,hS,vs,r,m⟩:kvs.length<=sizeLine/\(p == sysModules)=false/\∃vs,KV kvs vs/\s.heap.DictOf (zB9 X.prog X.w) p vs:=I.hok p _ hx
   have hlen:kvs.length=vs.length:=Paired.length r
   exact wpAny_truthy_dict hS m (by first|assumption|lia) ⟨H,I.tok _,by rw[zLu r];exact q⟩
 | _=>exact(show False from e).elim
theorem zQ1 (ha:PE X a ta) (he:∀whole,isTrue a X.env whole=(do let v <- whole;standAt a.pos;holding [v] (truthy v))):
  PT X a (fun σ H Q=>ta σ H fun x H'=>∃k,TruV X.K x H' k/\Q k H'):=by
 intro pins s σ H Q I h
 exact isTrue_plain (thn (ha pins s σ H _ I h) fun v s1 ⟨x,H1,I1,r1,q1⟩=>zSf pins s1 σ H1 x v Q I1 r1 q1) (he _)
theorem zLi:OpR X (binaryOp .Add) (fun x y H Q=>∃i j,x=.str i/\y=.str j/\i.length+j.length<=sizeLine/\Q (.str (i++j)) H):=by
 intro pins s σ H x y v u Q I rx ry h
 obtain⟨i,j,rfl,rfl,hz,q⟩:=h
 obtain⟨t,rfl⟩:=rx
 obtain⟨t',rfl⟩:=ry
 exact add_str (fun t' tk=>⟨.str (i++j),H,I.tok _,⟨_,rfl⟩,q⟩) hz
theorem vals1 {x:V}{us:List Value}(r:Vals [x] us):∃u,us=[u]/\RelV x u:=by
 cases r with
 | cons r1 r2=>cases r2;exact⟨_,rfl,r1⟩
theorem vals2 {x y:V}{us:List Value}(r:Vals [x,y] us):∃u w',us=[u,w']/\RelV x u/\RelV y w':=by
 cases r with
 | cons r1 r2=>
  cases r2 with
  | cons r3 r4=>cases r4;exact⟨_,_,rfl,r1,r3⟩
theorem zS3:zBk X (.builtin "abs") (fun xs H Q=>∃i,xs=[.int i]/\Q (.int (if i<0 then -i else i)) H):=by
 intro pins s σ H xs us Q I r h
 obtain⟨i,rfl,q⟩:=h
 obtain⟨u,rfl,t,rfl⟩:=vals1 r
 exact call_abs_int fun u tk=>⟨.int (if i<0 then -i else i),H,I.tok _,⟨_,rfl⟩,q⟩
theorem zPa (hc:X.calm=true):zBk X (.builtin "max") (fun xs H Q=>∃i j,xs=[.int i,.int j]/\Q (.int (if j > i then j else i)) H):=by
 intro pins s σ H xs us Q I r h
 obtain⟨i,j,rfl,q⟩:=h
 obtain⟨u,w',rfl,⟨t,rfl⟩,⟨t',rfl⟩⟩:=vals2 r
 refine max_two_ints (I.ok.hd hc) fun h' tk k=>⟨_,H,I.kept k,?_,q⟩
 by_cases hj:j > i
 ·rw[if_pos hj,if_pos hj];exact⟨_,rfl⟩
 ·rw[if_neg hj,if_neg hj];exact⟨_,rfl⟩
end
end L2
namespace L2
open PySem PySem.Spec PyProof.Rows
structure ObjM (h:Heap) (x dx C:Addr) (mA:Str->Option Value):Prop where
 obj:h.get? x=some (PySem.W.instObj C dx)
 ns:h.Ns1 dx mA
 ne:dx≠x
theorem RelO.some_of {v:V}{o:Option Value}(r:RelO (some v) o):∃u,o=some u/\RelV v u:=by
 cases o with
 | none=>exact(show False from r).elim
 | some u=>exact⟨u,rfl,r⟩
structure Cls (K:PySem.W.Frag) (C:Addr):Prop where
 pg:PySem.W.plainGet K C Str.empty=true
 hd:PySem.W.hasDictIn K C=true
 po:PySem.W.plainOver K C=true
 sa:PySem.W.findIn K (.ref C) "__setattr__"=some (some (.builtin "object.__setattr__"))
structure Con (K:PySem.W.Frag) (C:Addr) (f:Str) (v:V) (u:Value):Prop where
 at_:PySem.W.findIn K (.ref C) f=some (some u)
 rel:RelV v u
 get:PySem.W.specialIn K u "__get__"=some none
 cp:PySem.W.copiedNames.contains f=false
section
variable {X:Cx}{pins:List (Addr × Obj)}{σ:St}{H:Hp}{s:Shared}{a C dx:Addr}{fs:List (Str × V)}{f:Str}{v:V}{A:Around}{E:Value->Shared->Prop}
theorem Inv.made (I:Inv X pins σ H s):Inv X pins σ (upd (upd H s.heap.objs.size (.own (s.heap.objs.size+1))) (s.heap.objs.size+1) (.ins C s.heap.objs.size []))
  { s with heap:=(s.heap.push PySem.W.emptyDict).push (PySem.W.instObj C s.heap.objs.size) }:=by
 have e1:(s.heap.push PySem.W.emptyDict).get? s.heap.objs.size=some PySem.W.emptyDict:=Heap.get?_push_size s.heap rfl
 have e2:((s.heap.push PySem.W.emptyDict).push (PySem.W.instObj C s.heap.objs.size)).get? (s.heap.objs.size+1)=some (PySem.W.instObj C s.heap.objs.size):=by
  have:=Heap.get?_push_size (s.heap.push PySem.W.emptyDict) (o:=PySem.W.instObj C s.heap.objs.size) rfl
  rwa[Heap.size_push]at this
 have e3:(s.heap.push PySem.W.emptyDict).Ns s.heap.objs.size (fun _=>none):=⟨PySem.W.emptyDict,#[],_,e1,rfl,(fun e he=>absurd he (by simp)),fun _=>rfl⟩
 have I1:=I.laid (a:=s.heap.objs.size) (o:=.own (s.heap.objs.size+1)) (h':=s.heap.push PySem.W.emptyDict) (t':=s.toks) (fun b u q=>Heap.get?_push_of_some _ q) (Nat.le_refl _) ⟨_,e1⟩
 refine I1.laid (a:=s.heap.objs.size+1) (o:=.ins C s.heap.objs.size []) (t':=s.toks) (fun b u q=>Heap.get?_push_of_some _ q) (Nat.le_of_eq (Heap.size_push _ _)) ?_
 have ne:s.heap.objs.size≠s.heap.objs.size+1:=Nat.ne_of_lt (Nat.lt_succ_self _)
 refine⟨by rw[zAh ne,zAo],Nat.zero_le _,ne,e2,fun _=>none,(Heap.Ns1.of_empty e3).at fun o q=>Heap.get?_push_of_some _ q,fun _=>True.intro,fun y hy=>absurd rfl hy⟩
end
section
variable {X:Cx}{pins:List (Addr × Obj)}{σ:St}{H:Hp}{s:Shared}{A:Around}{E:Value->Shared->Prop}{Q:Value->Shared->Prop}{c:Value}{b:Bool}
inductive TyOf (K:PySem.W.Frag) (H:Hp):V->Value->Prop where
 | non:TyOf K H .non (.type "NoneType")
 | bl (x:Bool):TyOf K H (.bl x) (.type "bool")
 | int (i:Int):TyOf K H (.int i) (.type "int")
 | str (x:Str):TyOf K H (.str x) (.type "str")
 | flt (x:UInt64):TyOf K H (.flt x) (.type "float")
 | lst {a:Addr}{xs:List V}(e:H a=some (.lst xs)):TyOf K H (.ref a) (.type "list")
 | frz {a:Addr}{o:Obj}{xs:List V}(e:H a=some (.frz o (.lst xs))):TyOf K H (.ref a) (.type "list")
 | tup {a:Addr}{xs:List V}(e:H a=some (.tup xs)):TyOf K H (.ref a) (.type "tuple")
 | dK {a:Addr}{kvs:List (Key × V)}(e:H a=some (.dK kvs)):TyOf K H (.ref a) (.type "dict")
 | dT {a:Addr}{kvs:List (List Key × V)}(e:H a=some (.dT kvs)):TyOf K H (.ref a) (.type "dict")
 | ins {a C dx:Addr}{fs:List (Str × V)}(e:H a=some (.ins C dx fs)) (cl:Cls K C) (ha:PySem.W.findIn K (.ref C) "__class__"=some (some (.builtin "object.__class__")))
   (hn:PySem.W.specialIn K (.builtin "object.__class__") "__get__"=some (some (.builtin "getset_descriptor.__get__"))) (htk:PySem.W.takesIn K (.builtin "object.__class__")=some true)
   (hm:PySem.W.mroIn K C (.type "object")=some true):TyOf K H (.ref a) (.ref C)
end
end L2
namespace L2
open PySem PySem.Spec PyProof.Rows
structure Room (k:Nat) (A:Around):Prop where
 hd:A.handled=none
 dp:A.depth+3*k+5<recursionLimit
 un:A.units+16*k+200<cLine
theorem Room.mono {j k:Nat}{A:Around}(r:Room k A) (h:j<=k):Room j A:=⟨r.hd,by have:=r.dp;lia,by have:=r.un;lia⟩
theorem Room.deeper {k:Nat}{A:Around}(r:Room (k+1) A) (env:Env):Room k (A.deeper env):=
 ⟨r.hd,by have:=r.dp;show A.depth+1+3*k+5<_;lia,by have:=r.un;show A.units+3+16*k+200<_;lia⟩
theorem Room.in1 {k:Nat}{A:Around}(r:Room (k+1) A):Room k A.in1:=
 ⟨r.hd,by have:=r.dp;show A.depth+3*k+5<_;lia,by have:=r.un;show A.units+1+16*k+200<_;lia⟩
theorem Room.depth {k:Nat}{A:Around}(r:Room k A):A.depth<recursionLimit:=by have:=r.dp;lia
theorem Room.units {k:Nat}{A:Around}(r:Room k A):A.units+64<cLine:=by have:=r.un;lia
theorem Room.units0 {k:Nat}{A:Around}(r:Room k A):A.units<cLine:=by have:=r.un;lia
def tNil:TA:=fun _ H Q=>Q [] H
def zTo (ta:TE) (tr:TA):TA:=fun σ H Q=>ta σ H fun x H1=>tr σ H1 fun xs H2=>Q (x::xs) H2
section
variable {X:Cx}{e:Expr}{es:List Expr}{te:TE}{t:TA}{pos:Pos}
theorem zXz:PA X [] tNil:=fun _ _ _ _ H Q I h=>Calls.spliced_nil ⟨[],H,I,.nil,h⟩
theorem zUw (ha:PE X e te) (hr:PA X es t) (hs:starEach (e::es) X.env=(false,eval e X.env)::starEach es X.env:=by rfl):PA X (e::es) (zTo te t):=by
 intro pos pins s σ H Q I h
 rw[hs]
 show wpAny _ _ (spliced ((false,eval e X.env)::backTo pos (starEach es X.env))) _ _ s
 refine Calls.spliced_cons (thn (ha pins s σ H _ I h) fun u s1 ⟨x,H1,I1,r1,q1⟩=>?_)
 exact thn (hr pos pins s1 σ H1 _ I1 q1) fun us s2 ⟨xs,H2,I2,r2,q2⟩=>⟨x::xs,H2,I2,.cons r1 r2,q2⟩
def tTup (t:TA):TE:=fun σ H Q=>t σ H fun xs H1=>xs.length<=sizeLine/\∀p,H1 p=none->Q (.ref p) (upd H1 p (.tup xs))
def tLst (t:TA):TE:=fun σ H Q=>t σ H fun xs H1=>xs.length<=sizeLine/\∀p,H1 p=none->Q (.ref p) (upd H1 p (.lst xs))
theorem zXo {x1} (h:PA X es t):PE X (.Tuple es x1 pos) (tTup t):=by
 intro pins s σ H Q I hq
 refine wpAny_Tuple_spliced (thn (h pos pins s σ H _ I hq) fun us s1 ⟨xs,H1,I1,r,z,q⟩=>⟨by rw[<- r.length];exact z,?_⟩)
 have hf:H1 s1.heap.objs.size=none:=I1.hok.fresh (Nat.le_refl _)
 refine⟨.ref s1.heap.objs.size,upd H1 s1.heap.objs.size (.tup xs),I1.laid (t':=s1.toks) (fun b u e=>Heap.get?_push_of_some _ e) (Nat.le_refl _) ?_,rfl,q _ hf⟩
 exact⟨z,us,r,⟨_,Heap.get?_push_size _ rfl,rfl,_,rfl⟩⟩
theorem zXt (h:PA X es t):PE X (.List es pos) (tLst t):=by
 intro pins s σ H Q I hq
 refine wpAny_List_spliced (thn (h pos pins s σ H _ I hq) fun us s1 ⟨xs,H1,I1,r,z,q⟩=>⟨by rw[<- r.length];exact z,?_⟩)
 have hf:H1 s1.heap.objs.size=none:=I1.hok.fresh (Nat.le_refl _)
 refine⟨.ref s1.heap.objs.size,upd H1 s1.heap.objs.size (.lst xs),I1.laid (t':=s1.toks) (fun b u e=>Heap.get?_push_of_some _ e) (Nat.le_refl _) ?_,rfl,q _ hf⟩
 exact⟨z,us,0,r,Heap.get?_push_size _ rfl⟩
end
abbrev Sp:=List V->Hp->VK->XK->Prop
abbrev CXT:=List Env->Hp->Shared->XK->Value->Shared->Prop
structure Env0 (P:Program) (w:World) (K:PySem.W.Frag) (mg:Str->Option Value) (base:Heap) (A:Around) (outer:List Env) (s:Shared) (H:Hp):Prop where
 frames:A.frames=some outer
 mod:Mod K mg base
 bs:∀b o,base.get? b=some o->s.heap.get? b=some o/\H b=none
 bsz:base.objs.size<=s.heap.objs.size
 funs:s.heap.FunFrames base outer
 frf:∀b∈frs outer,H b=none
 hok:HOk P w H s.heap
 bare:AllBare s.gens
def CE (outer:List Env) (P:Program) (w:World) (H:Hp) (s:Shared) (Q:VK) (u:Value) (s':Shared):Prop:=
 ∃v H',s'.os=s.os/\AllBare s'.gens/\Un (frs outer) [] H H' s.heap s'.heap/\HOk P w H' s'.heap/\RelV v u/\Q v H'
def CR (CX:CXT) (outer:List Env) (P:Program) (w:World) (H:Hp) (s:Shared) (Q:VK) (E:XK) (r:Result) (s':Shared):Prop:=
 match r with
 | .ok (.ret u)=>CE outer P w H s Q u s'
 | .ok _=>False
 | .error e=>CX outer H s E e s'
structure FnOk (P:Program) (w:World) (K:PySem.W.Frag) (mg:Str->Option Value) (base:Heap) (CX:CXT) (k:Nat) (f:Addr) (fd:FuncData) (ps:List Str) (sp:Sp):Prop where
 len:∀vs H Q E,sp vs H Q E->vs.length=ps.length
 run:∀(A:Around) (outer:List Env) (s:Shared) (H:Hp) (args:Args) (us:List Value) (vs:List V) (Q:VK) (E:XK),Room k A->Env0 P w K mg base A outer s H->BindsTo s fd args (ps.zip us)->Vals vs us->sp vs H Q E->
  codeAny (model P w) A (.call (.ref f) args) (CR CX outer P w H s Q E) s
theorem Env0.in1 {P:Program}{w:World}{K:PySem.W.Frag}{mg:Str->Option Value}{base:Heap}{A:Around}{outer:List Env}{s:Shared}{H:Hp}(e:Env0 P w K mg base A outer s H):
  Env0 P w K mg base A.in1 outer s H:=⟨e.frames,e.mod,e.bs,e.bsz,e.funs,e.frf,e.hok,e.bare⟩
section
variable {X:Cx}{pins:List (Addr × Obj)}{σ:St}{H:Hp}{s s':Shared}
theorem Inv.env0 (I:Inv X pins σ H s):Env0 X.prog X.w X.K X.mg X.base X.A X.stack s H:=
 ⟨I.ok.frames,I.ok.mod,I.bs,Nat.le_trans I.ok.bsz I.sz,I.stack,I.stkFree,I.hok,I.bare⟩
theorem Inv.after {Q:VK}{u:Value}(I:Inv X pins σ H s) (h:CE X.stack X.prog X.w H s Q u s'):EP X pins σ Q u s':=by
 obtain⟨v,H',os,bare,un,hok,r,q⟩:=h
 obtain⟨hh,g,d,t,os'⟩:=s'
 obtain rfl:os'=s.os:=os
 exact⟨v,H',I.call (h':=hh) (g':=g) (d':=d) (t':=t) (ch:=[]) un hok bare (fun b z=>absurd z (by simp)),r,q⟩
end
def zPq (sp:Sp) (dvs:List V) (E:XK) (t:TA):TE:=fun σ H Q=>t σ H fun vs H1=>sp (vs++dvs) H1 Q E
def Binds (K:PySem.W.Frag) (fd:FuncData) (ps:List Str) (ds:List Value):Prop:=
 ∀(s:Shared) (us:List Value),K.In s.heap->(us++ds).length=ps.length->BindsTo s fd ⟨us,[]⟩ (ps.zip (us++ds))
theorem Binds.all {K:PySem.W.Frag}{fd:FuncData}{ps:List Str}(h:∀us:List Value,us.length=ps.length->bindArgs fd ⟨us,[]⟩=pure (ps.zip us)):Binds K fd ps []:=fun s us _ hl=>by
 rw[List.append_nil]at hl ⊢
 exact .of_eq (h us hl)
def Passes (CX:CXT) (X:Cx) (E:XK):Prop:=∀(pins:List (Addr × Obj)) (σ:St) (H:Hp) (s:Shared) (e:Value) (s':Shared),Inv X pins σ H s->CX X.stack H s E e s'->X.xe e s'
section
variable {X:Cx}{CX:CXT}{k:Nat}{f C:Addr}{fd:FuncData}{ps:List Str}{sp:Sp}{dvs:List V}{ds:List Value}{E:XK}{x m:Str}{p pos apos:Pos}{e o:Expr}{es:List Expr}{ta:TE}{t:TA}
theorem zX3 {pins:List (Addr × Obj)}{σ:St}{H:Hp}{s:Shared}{Q:VK}{us:List Value}{vs:List V}(F:FnOk X.prog X.w X.K X.mg X.base CX k f fd ps sp) (hr:Room k X.A) (hb:Binds X.K fd ps ds) (hd:Vals dvs ds) (hx:Passes CX X E)
  (I:Inv X pins σ H s) (r:Vals vs us) (h:sp (vs++dvs) H Q E):wpAny (model X.prog X.w) X.A (call (.ref f) us) (EP X pins σ Q) X.xe s:=by
 have r2:Vals (vs++dvs) (us++ds):=r.append hd
 have hl:(us++ds).length=ps.length:=by rw[<- r2.length];exact F.len _ _ _ _ h
 refine wpAny_call (codeAny_mono (F.run X.A X.stack s H ⟨us,[]⟩ (us++ds) (vs++dvs) Q E hr I.env0 (hb s us I.kIn hl) r2 h) fun r s' hq=>?_)
 cases r with
 | error e=>exact hx pins σ H s e s' I hq
 | ok fl=>
  cases fl with
  | ret u=>exact I.after hq
  | next=>exact False.elim hq
  | brk=>exact False.elim hq
  | cont=>exact False.elim hq
theorem zUu (F:FnOk X.prog X.w X.K X.mg X.base CX k f fd ps sp) (hr:Room k X.A) (hg:Gl X x) (hm:X.mg x=some (.ref f)) (hk:PySem.W.keepIn X.K (.ref f)=true) (hb:Binds X.K fd ps ds) (hd:Vals dvs ds) (hx:Passes CX X E)
  (ha:PA X (e::es) t) (hdb:(x == ("__debug__":Str))=false:=by decide) (he:starEach (e::es) X.env=(false,eval e X.env)::starEach es X.env:=by rfl) (hpl:(backTo pos (starEach es X.env)).any (·.1)=false:=by rfl):
  PE X (.Call (.Name x p) (e::es) [] pos) (zPq sp dvs E t):=by
 intro pins s σ H Q I h
 refine wpAny_Call_Name_kw (zO5 I hg hm ?_ hdb)
 refine PySem.W.callWith_K (h₀:=X.base) I.ok.mod.kin hk (thn (ha pos pins s σ H _ I h) fun us s1 ⟨vs,H1,I1,r,q⟩=>⟨I1.kIn,?_⟩) he hpl
 exact zX3 F hr hb hd hx I1 r q
structure Mk (K:PySem.W.Frag) (C f:Addr):Prop where
 makes:PySem.W.makesIn K C=true
 init:PySem.W.findIn K (.ref C) "__init__"=some (some (.ref f))
 fn:PySem.W.isFn K (.ref f)=true
 kp:PySem.W.keepIn K (.ref C)=true
end
section
variable {X:Cx}{CX:CXT}{k:Nat}{f C:Addr}{fd:FuncData}{ps ks:List Str}{sp:Sp}{E:XK}{x m:Str}{p pos apos kpos:Pos}{e o:Expr}{es:List Expr}{kws:List Keyword}{te ta:TE}{t tk:TA}{nm:Option Str}
structure KBinds (K:PySem.W.Frag) (fd:FuncData) (ps ks:List Str) (g:List Value->List Value->List Value) (gV:List V->List V->List V):Prop where
 to:∀(s:Shared) (us ws:List Value),K.In s.heap->(g us ws).length=ps.length->BindsTo s fd ⟨us,ks.zip ws⟩ (ps.zip (g us ws))
 rel:∀{vs:List V}{us:List Value}{zs:List V}{ws:List Value},Vals vs us->Vals zs ws->Vals (gV vs zs) (g us ws)
variable {g:List Value->List Value->List Value}{gV:List V->List V->List V}
end
structure zAl (N P:List Str) (sc:Scope):Prop where
 kind:sc.kind=.function
 co:sc.isCoroutine=false
 gen:sc.isGenerator=false
 nd:N.Nodup
 pre:N.take P.length=P
 par:∀x∈P,sc.names.lookup x=some .local\/sc.names.lookup x=some .cell
 nofree:∀y∈sc.names,y.2≠.free
theorem zIn {kindOf:Str->Option NameKind}{x:Str}:∀{binds:List (Str × Value)}{m:Str->Option Value},(∀v,(x,v) ∉ binds)->bindL kindOf binds m x=m x
 | [],_,_=>rfl
 | (n,v)::r,m,h=>by
  unfold bindL
  rw[zIn fun w hw=>h w (List.mem_cons_of_mem _ hw)]
  split
  ·have:x≠n:=by rintro rfl;exact h v List.mem_cons_self
   simp[this]
  ·rfl
theorem zIp {kindOf:Str->Option NameKind}{x:Str}:∀{binds:List (Str × Value)}{m:Str->Option Value},(∀v,(x,v) ∉ binds)->bindC kindOf binds m x=m x
 | [],_,_=>rfl
 | (n,v)::r,m,h=>by
  unfold bindC
  rw[zIp fun w hw=>h w (List.mem_cons_of_mem _ hw)]
  split
  ·rfl
  ·have:x≠n:=by rintro rfl;exact h v List.mem_cons_self
   simp[this]
theorem zIo {kindOf:Str->Option NameKind}{x:Str}{v:Value}:∀{P:List Str}{vs:List Value}{i:Nat}{m:Str->Option Value},P.Nodup->P[i]?=some x->vs[i]?=some v->kindOf x=some .local->
  bindL kindOf (P.zip vs) m x=some v
 | [],_,_,_,_,h,_,_=>by simp at h
 | _::_,[],_,_,_,_,h,_=>by simp at h
 | p::P,w::vs,0,m,nd,h1,h2,hk=>by
  simp at h1 h2;subst h1;subst h2
  show bindL kindOf ((p,w)::P.zip vs) m p=_
  unfold bindL
  rw[zIn fun v hv=>(List.nodup_cons.mp nd).1 (List.of_mem_zip hv).1,if_pos hk]
  simp
 | p::P,w::vs,i+1,m,nd,h1,h2,hk=>by
  show bindL kindOf ((p,w)::P.zip vs) m x=_
  unfold bindL
  exact zIo (i:=i) (List.nodup_cons.mp nd).2 (by simpa using h1) (by simpa using h2) hk
theorem zIq {kindOf:Str->Option NameKind}{x:Str}{v:Value}:∀{P:List Str}{vs:List Value}{i:Nat}{m:Str->Option Value},P.Nodup->P[i]?=some x->vs[i]?=some v->kindOf x≠some .local->
  bindC kindOf (P.zip vs) m x=some v
 | [],_,_,_,_,h,_,_=>by simp at h
 | _::_,[],_,_,_,_,h,_=>by simp at h
 | p::P,w::vs,0,m,nd,h1,h2,hk=>by
  simp at h1 h2;subst h1;subst h2
  show bindC kindOf ((p,w)::P.zip vs) m p=_
  unfold bindC
  rw[zIp fun v hv=>(List.nodup_cons.mp nd).1 (List.of_mem_zip hv).1,if_neg hk]
  simp
 | p::P,w::vs,i+1,m,nd,h1,h2,hk=>by
  show bindC kindOf ((p,w)::P.zip vs) m x=_
  unfold bindC
  exact zIq (i:=i) (List.nodup_cons.mp nd).2 (by simpa using h1) (by simpa using h2) hk
def start (N:List Str) (vs:List V):St:=vs.map some++List.replicate (N.length-vs.length) none
def cxOf (CX:CXT) (P:Program) (w:World) (K:PySem.W.Frag) (mg:Str->Option Value) (base:Heap) (N:List Str) (qual:Str) (scope:Scope) (f:Addr) (cd:Value) (A:Around) (outer:List Env) (s:Shared) (H:Hp) (E:XK):Cx where
 prog:=P
 w:=w
 K:=K
 mg:=mg
 base:=base
 A:=A.deeper (envOfC qual scope s.heap.objs.size f cd)
 N:=N
 s₀:=s
 H₀:=H
 env:=envOfC qual scope s.heap.objs.size f cd
 outer:=outer
 stack:=envOfC qual scope s.heap.objs.size f cd::outer
 ex:=[]
 calm:=true
 fn:=fun _=>true
 pn:=[]
 xe:=fun e s'=>wpAny (model P w) (A.deeper (envOfC qual scope s.heap.objs.size f cd)) (leaving (envOfC qual scope s.heap.objs.size f cd) e) (fun _ s''=>CX outer H s E e s'') (fun e' s''=>CX outer H s E e' s'') s'
theorem zL6 {sc:Scope}{n:Nat}{x:Str}(h:sc.names.lookup x=some .cell):∃c,(cellsFrom n sc.names []).lookup x=some c:=by
 have q:=PySem.W.cellsFrom_some sc.names n [] (.inl h)
 exact Option.isSome_iff_exists.mp q
theorem zOh {CX:CXT}{P:Program}{w:World}{K:PySem.W.Frag}{mg:Str->Option Value}{base:Heap}{N ps:List Str}{qual:Str}{scope:Scope}{f:Addr}{cd:Value}{A:Around}{outer:List Env}{s s1:Shared}{H:Hp}{E:XK}{us:List Value}{vs:List V}
  (S:zAl N ps scope) (hd:A.handled=none) (e0:Env0 P w K mg base A outer s H) (hl:vs.length=ps.length) (r:Vals vs us)
  (x:InCallC s s.heap.objs.size (bindL (envOfC qual scope s.heap.objs.size f cd).kindOf (ps.zip us) fun _=>none) (cellsFrom (s.heap.objs.size+1) scope.names []) (bindC (envOfC qual scope s.heap.objs.size f cd).kindOf (ps.zip us) fun _=>none) s1):
  Inv (cxOf CX P w K mg base N qual scope f cd A outer s H E) [] (start N vs) H s1:=by
 have hpl:ps.length<=N.length:=by have:=congrArg List.length S.pre;rw[List.length_take]at this;lia
 obtain⟨h1,tk,rfl,hk⟩:=x.done
 have noA:∀b:Addr,b ∉ (cxOf CX P w K mg base N qual scope f cd A outer s H E).ex:=fun b z=>absurd (show b∈([]:List Addr)from z) (by simp)
 refine⟨⟨e0.mod,S.kind,rfl,rfl,Nat.le_refl _,fun y z c h1 h2=>?_,fun y hy=>?_,fun y c _ h=>?_,fun _=>hd,Around.frames_deeper e0.frames,.inr ⟨rfl,rfl⟩,fun b z=>absurd z (noA b),e0.bs,e0.bsz,fun b _ _=>noA b,fun b z=>absurd z (noA b),e0.funs,e0.frf⟩,
  rfl,e0.bare,Un.kept hk,⟨_,x.toInCall.ns,fun i y v h1 h2 h3=>?_⟩,fun y c h=>⟨_,x.cell y c h⟩,e0.hok.fresh (Nat.le_refl _),fun y c h=>?_,fun p hp=>absurd (show p∈([]:List (Addr × Obj))from hp) (by simp),e0.hok.kept hk,?_⟩
 ·exact name_of_addr x.apart (PySem.mem_of_lookup h1) (PySem.mem_of_lookup h2)
 ·have hy:scope.names.lookup y=some .cell\/scope.names.lookup y=some .free:=hy
  rcases hy with hy|hy
  ·exact zL6 hy
  ·exact absurd rfl (S.nofree _ (PySem.mem_of_lookup hy))
 ·exact Nat.le_of_lt (x.above y c (PySem.mem_of_lookup h))
 ·have hi:i<vs.length:=by
   unfold start at h2
   by_cases hi:i<vs.length
   ·exact hi
   ·rw[List.getElem?_append_right (by simpa using hi)]at h2
    rw[List.getElem?_replicate]at h2
    split at h2 <;> cases h2
  have ha:vs[i]?=some v:=by
   unfold start at h2
   rw[List.getElem?_append_left (by simpa using hi),List.getElem?_map]at h2
   cases e:vs[i]? with
   | none=>rw[e]at h2;cases h2
   | some a=>rw[e]at h2;cases h2;rfl
  obtain⟨u,hu,rv⟩:=r.get ha
  have hp:ps[i]?=some y:=by
   rw[<- S.pre,List.getElem?_take_of_lt (by first|assumption|lia)];exact h1
  have ndP:ps.Nodup:=by rw[<- S.pre];exact S.nd.sublist (List.take_sublist _ _)
  refine⟨u,rv,?_⟩
  rcases S.par y (List.mem_of_getElem? hp)with k|k
  ·exact .inl ⟨k,zIo ndP hp hu k⟩
  ·obtain⟨c,e⟩:=zL6 (n:=s.heap.objs.size+1) k
   refine .inr ⟨.inl k,c,e,?_⟩
   have q:=x.cell y c e
   rw[zIq ndP hp hu (by show scope.names.lookup y≠_;rw[k];decide)]at q
   exact q
 ·exact e0.hok.fresh (Nat.le_of_lt (x.above y c (PySem.mem_of_lookup h)))
 ·unfold start
  show _=N.length
  rw[List.length_append,List.length_map,List.length_replicate]
  lia
theorem zZw {CX:CXT}{P:Program}{w:World}{K:PySem.W.Frag}{mg:Str->Option Value}{base:Heap}{k:Nat}{f:Addr}{name qual:Str}{params:Arguments}{body:List Stmt}{scope:Scope}{dV kV doc pm cdv ct oc:Value}{an od:Option Addr}
  {osl:Array (Option Value)}{N ps:List Str}{sp:Sp}(lk:K.lookup f=some ⟨oc,od,.func (PySem.W.fnOf name qual params body scope dV kV doc pm an cdv ct),osl⟩) (hcd:PySem.W.codeIn K cdv qual=true) (S:zAl N ps scope)
  (len:∀vs H Q E,sp vs H Q E->vs.length=ps.length)
  (hbody:∀(A:Around) (outer:List Env) (s:Shared) (H:Hp) (vs:List V) (Q:VK) (E:XK),Room k (A.deeper (envOfC qual scope s.heap.objs.size f cdv))->sp vs H Q E->
   ∃t,PSs (cxOf CX P w K mg base N qual scope f cdv A outer s H E) body t/\t { nx:=fun _ H'=>Q .non H',rt:=Q } (start N vs) H):
  FnOk P w K mg base CX (k+1) f (PySem.W.fnOf name qual params body scope dV kV doc pm an cdv ct) ps sp:=by
 refine⟨len,fun A outer s H args us vs Q E hr e0 hb r hsp=>?_⟩
 have hl:=len _ _ _ _ hsp
 have KX:K.In s.heap:=e0.mod.kin.keeps fun b o e=>(e0.bs b o e).1
 have lim:s.heap.NoLimit:=e0.mod.nolimit.keeps fun b o e=>(e0.bs b o e).1
 have hkind:∀y∈ps.zip us,scope.names.lookup y.1=some .local\/(scope.names.lookup y.1=some .cell/\((cellsFrom (s.heap.objs.size+1) scope.names []).lookup y.1).isSome=true):=fun⟨n,v⟩ hy=>by
  rcases S.par n (List.of_mem_zip hy).1 with q|q
  ·exact .inl q
  ·exact .inr ⟨q,PySem.W.cellsFrom_some _ _ _ (.inl q)⟩
 refine codeAny_call_function hr.depth (KX _ _ lk) rfl S.co S.gen rfl (PySem.W.codeRec_of KX hcd) (hb _ _ _ _ ?_)
 refine wpAny_newFunctionEnv_cells S.kind hkind fun env he s1 x=>?_
 subst he
 refine⟨lim.keeps x.toInCall.keep,codeAny_func ?_⟩
 obtain⟨t,ht,hq⟩:=hbody A outer s H vs Q E (hr.deeper _) hsp
 have I:Inv (cxOf CX P w K mg base N qual scope f cdv A outer s H E) [] (start N vs) H s1:=zOh S hr.hd e0 hl r x
 refine wpAny_mono (ht [] s1 (start N vs) H _ I hq) (fun fl s' hs=>?_) fun e s' hs=>hs
 have fin:∀{σ':St}{H':Hp}{v:V}{u:Value},Inv (cxOf CX P w K mg base N qual scope f cdv A outer s H E) [] σ' H' s'->RelV v u->Q v H'->CE outer P w H s Q u s':=
  fun {σ' H' v u} J rv q=>⟨v,H',J.os,J.bare,J.base,J.hok,rv,q⟩
 cases fl with
 | ret u=>
  obtain⟨v,σ',H',J,rv,q⟩:=hs
  exact fin J rv q
 | next=>
  obtain⟨σ',H',J,q⟩:=hs
  exact fin (v:=V.non) (u:=Value.none) J rfl q
 | brk=>
  obtain⟨_,_,_,q⟩:=hs
  exact False.elim q
 | cont=>
  obtain⟨_,_,_,q⟩:=hs
  exact False.elim q
end L2
namespace L2
open PySem PySem.Spec PyProof.Rows
section
variable {X:Cx}{x:Str}{p pos:Pos}{e:Expr}{es:List Expr}{t:TA}{id T:String}{r:List V->Hp->VK->Prop}
def tCB (r:List V->Hp->VK->Prop) (t:TA):TE:=fun σ H Q=>t σ H fun vs H1=>r vs H1 Q
theorem zQn (hc:zBk X (.builtin id) r) (hg:Gl X x) (hm:X.mg x=none) (hv:bootBuiltins x=some (.builtin id)) (ha:PA X (e::es) t) (hn:x≠"__name__":=by decide) (hdb:(x == ("__debug__":Str))=false:=by decide)
  (he:starEach (e::es) X.env=(false,eval e X.env)::starEach es X.env:=by rfl) (hpl:(backTo pos (starEach es X.env)).any (·.1)=false:=by rfl):PE X (.Call (.Name x p) (e::es) [] pos) (tCB r t):=by
 intro pins s σ H Q I h
 refine wpAny_Call_Name_kw (zCq I hg hm hv ?_ hn hdb)
 exact PyProof.Rows.callWith_builtin1 (thn (ha pos pins s σ H _ I h) fun us s1 ⟨vs,H1,I1,r1,q1⟩=>hc pins s1 σ H1 vs us Q I1 r1 q1) he hpl
theorem zNg (hc:zBk X (.type T) r) (hg:Gl X x) (hm:X.mg x=none) (hv:bootBuiltins x=some (.type T)) (ha:PA X (e::es) t) (hn:x≠"__name__":=by decide) (hdb:(x == ("__debug__":Str))=false:=by decide)
  (he:starEach (e::es) X.env=(false,eval e X.env)::starEach es X.env:=by rfl) (hpl:(backTo pos (starEach es X.env)).any (·.1)=false:=by rfl):PE X (.Call (.Name x p) (e::es) [] pos) (tCB r t):=by
 intro pins s σ H Q I h
 refine wpAny_Call_Name_kw (zCq I hg hm hv ?_ hn hdb)
 exact PyProof.Rows.callWith_type1 (thn (ha pos pins s σ H _ I h) fun us s1 ⟨vs,H1,I1,r1,q1⟩=>hc pins s1 σ H1 vs us Q I1 r1 q1) he hpl
end
end L2
namespace L2
open PySem PySem.Spec PyProof.Rows
section
variable {κ:Type}[DecidableEq κ]
def valV (kvs:List (κ × V)) (k:κ):Option V:=(kvs.find? fun kv=>decide (kv.1=k)).map (·.2)
def putK (kvs:List (κ × V)) (k:κ) (v:V):List (κ × V):=
 if(kvs.any fun kv=>decide (kv.1=k))=true then kvs.map (fun kv=>if kv.1=k then(kv.1,v)else kv)else kvs++[(k,v)]
theorem zGt {p:κ × V}{r:List (κ × V)}{k:κ}(e:p.1=k):valV (p::r) k=some p.2:=by simp[valV,List.find?_cons,e]
theorem zGu {p:κ × V}{r:List (κ × V)}{k:κ}(e:¬ p.1=k):valV (p::r) k=valV r k:=by simp[valV,List.find?_cons,e]
theorem zFd (kvs:List (κ × V)) (k:κ) (v:V):(putK kvs k v).length<=kvs.length+1:=by
 unfold putK
 split
 ·rw[List.length_map];lia
 ·rw[List.length_append,List.length_cons,List.length_nil];lia
theorem RelO.isSome_eq {o:Option V}{u:Option Value}(r:RelO o u):o.isSome=u.isSome:=by
 cases o with
 | none=>cases u with
  | none=>rfl
  | some _=>exact(show False from r).elim
 | some _=>cases u with
  | none=>exact(show False from r).elim
  | some _=>rfl
theorem RelO.getD {o:Option V}{u:Option Value}{d:V}{d':Value}(r:RelO o u) (rd:RelV d d'):RelV (o.getD d) (u.getD d'):=by
 cases o with
 | none=>cases u with
  | none=>exact rd
  | some _=>exact(show False from r).elim
 | some _=>cases u with
  | none=>exact(show False from r).elim
  | some _=>exact r
theorem KV.val {kvs:List (κ × V)}{vs:List (κ × Value)}(r:KV kvs vs) (k:κ):RelO (valV kvs k) (valueAt vs k):=by
 unfold KV at r
 induction r with
 | nil=>exact True.intro
 | @cons p q ps qs h t ih=>
  obtain⟨h1,h2⟩:=h
  by_cases e:p.1=k
  ·have e':q.1=k:=h1.symm.trans e
   have b:valueAt (q::qs) k=some q.2:=by simp[valueAt,List.find?_cons,e']
   rw[zGt e,b];exact h2
  ·have e':¬ q.1=k:=fun z=>e (h1.trans z)
   have b:valueAt (q::qs) k=valueAt qs k:=by simp[valueAt,List.find?_cons,e']
   rw[zGu e,b];exact ih
theorem KV.any {kvs:List (κ × V)}{vs:List (κ × Value)}(r:KV kvs vs) (k:κ):(kvs.any fun kv=>decide (kv.1=k))=vs.any fun kv=>decide (kv.1=k):=by
 unfold KV at r
 induction r with
 | nil=>rfl
 | cons h t ih=>rw[List.any_cons,List.any_cons,ih,h.1]
theorem KV.repl {kvs:List (κ × V)}{vs:List (κ × Value)}(r:KV kvs vs) (k:κ) {y:V}{u:Value}(ry:RelV y u):
  KV (kvs.map fun kv=>if kv.1=k then(kv.1,y)else kv) (vs.map fun kv=>if kv.1=k then(kv.1,u)else kv):=by
 unfold KV at r ⊢
 induction r with
 | nil=>exact .nil
 | @cons p q ps qs h t ih=>
  rw[List.map_cons,List.map_cons]
  refine .cons ?_ ih
  obtain⟨h1,h2⟩:=h
  by_cases e:p.1=k
  ·rw[if_pos e,if_pos (h1.symm.trans e)];exact⟨h1,ry⟩
  ·rw[if_neg e,if_neg (fun z=>e (h1.trans z))];exact⟨h1,h2⟩
theorem KV.put {kvs:List (κ × V)}{vs:List (κ × Value)}(r:KV kvs vs) (k:κ) {y:V}{u:Value}(ry:RelV y u):KV (putK kvs k y) (stored vs k u):=by
 unfold putK stored
 rw[r.any k]
 by_cases e:(vs.any fun kv=>decide (kv.1=k))=true
 ·rw[if_pos e,if_pos e];exact r.repl k ry
 ·rw[if_neg e,if_neg e];exact Paired.snoc r ⟨rfl,ry⟩
theorem KV.keys {kvs:List (κ × V)}{vs:List (κ × Value)}(r:KV kvs vs):kvs.map (·.1)=vs.map (·.1):=by
 unfold KV at r
 induction r with
 | nil=>rfl
 | cons h t ih=>rw[List.map_cons,List.map_cons,ih,h.1]
theorem KV.length {kvs:List (κ × V)}{vs:List (κ × Value)}(r:KV kvs vs):kvs.length=vs.length:=Paired.length r
end
theorem zLt {P:Program}{w:World}{k:Key}{u:Value}(r:RelV (kV k) u):(zB9 P w).is k u=true:=by
 cases k with
 | inl i=>obtain⟨t,e⟩:=(show ∃t,u=Value.int i t from r);subst e;exact zJb P w i t
 | inr x=>obtain⟨t,e⟩:=(show ∃t,u=Value.str x t from r);subst e;exact zJa P w x t
theorem zIb {P:Program}{w:World}:∀{ks:List Key}{us:List Value},Vals (ks.map kV) us->ItemsAre (zB9 P w) ks us
 | [],_,r=>by rw[List.map_nil]at r;cases r;exact .nil
 | k::ks,_,r=>by
  rw[List.map_cons]at r
  cases r with
  | cons h t=>exact .cons (zLt h) (zIb t)
abbrev KT (H:Hp):List (List Key × V)->List (List Key × Addr × Value)->Prop:=Paired fun p q=>p.1=q.1/\H q.2.1=some (.tup (p.1.map kV))/\RelV p.2 q.2.2
theorem KT.val {H:Hp}{kvs:List (List Key × V)}{xs:List (List Key × Addr × Value)}(r:KT H kvs xs) (k:List Key):RelO (valV kvs k) ((atKey xs k).map (·.2)):=by
 induction r with
 | nil=>exact True.intro
 | @cons p q ps qs h t ih=>
  obtain⟨h1,_,h2⟩:=h
  by_cases e:p.1=k
  ·have e':q.1=k:=h1.symm.trans e
   have b:atKey (q::qs) k=some q.2:=by simp[atKey,List.find?_cons,e']
   rw[zGt e,b];exact h2
  ·have e':¬ q.1=k:=fun z=>e (h1.trans z)
   have b:atKey (q::qs) k=atKey qs k:=by simp[atKey,List.find?_cons,e']
   rw[zGu e,b];exact ih
section
variable {P:Program}{w:World}{H:Hp}{h:Heap}{a:Addr}
theorem zX4 {u:HO}(ok:HOk P w H h) (e:Rd H a u):ObjOk P w H h a u:=e.ok ok
theorem zLz {kvs:List (Key × V)}(ok:HOk P w H h) (e:Rd H a (.dK kvs)):kvs.length<=sizeLine/\(a == sysModules)=false/\∃vs,KV kvs vs/\h.DictOf (zB9 P w) a vs:=
 show ObjOk P w H h a (.dK kvs)from zX4 ok e
theorem zYy {kvs:List (Key × V)}(ok:HOk P w H h) (e:H a=some (.dK kvs)):kvs.length<=sizeLine/\(a == sysModules)=false/\∃vs,KV kvs vs/\h.DictOf (zB9 P w) a vs:=zLz ok (.inl e)
theorem zKm {ks:List Key}(ok:HOk P w H h) (e:H a=some (.tup (ks.map kV))):(tupleKind (zB9 P w)).is h ks a:=by
 obtain⟨_,its,r,o,h1,h2,n,h3⟩:=(show ObjOk P w H h a (.tup (ks.map kV))from ok a _ e)
 exact⟨o,its.toArray,n,h1,h2,h3,by simpa using zIb r⟩
theorem zOr {kvs:List (List Key × V)}(ok:HOk P w H h) (e:Rd H a (.dT kvs)):kvs.length<=sizeLine/\(a == sysModules)=false /\
  ∃xs,KT H kvs xs/\h.DictOfH (tupleKind (zB9 P w)) a xs:=by
 obtain⟨z,y,xs,r,o,es,ep,h1,h2,h3,h4,h5⟩:=(show ObjOk P w H h a (.dT kvs)from zX4 ok e)
 refine⟨z,y,xs,r,o,es,ep,h1,h2,h3,h4,fun x hx=>?_,h5⟩
 have all:∀{l:List (List Key × V)}{m:List (List Key × Addr × Value)},KT H l m->∀x∈m,(tupleKind (zB9 P w)).is h x.1 x.2.1:=by
  intro l m q
  induction q with
  | nil=>intro x hx;exact nomatch hx
  | @cons p q ps qs hq t ih=>
   intro x hx
   rcases List.mem_cons.mp hx with e|hx
   ·subst e
    exact zKm ok (by rw[<- hq.1];exact hq.2.1)
   ·exact ih x hx
 exact all r x hx
end
def DGet (H:Hp) (a:Addr) (y:V) (r:Option V):Prop:=
 (∃kvs k,Rd H a (.dK kvs)/\y=kV k/\r=valV kvs k)\/∃kvs k b,Rd H a (.dT kvs)/\y=.ref b/\H b=some (.tup (k.map kV))/\r=valV kvs k
def DPut (H:Hp) (a:Addr) (y v:V) (H':Hp):Prop:=
 (∃kvs k,H a=some (.dK kvs)/\y=kV k/\kvs.length<sizeLine/\H'=upd H a (.dK (putK kvs k v))) \/
 ∃kvs k b,H a=some (.dT kvs)/\y=.ref b/\H b=some (.tup (k.map kV))/\kvs.length<sizeLine/\H'=upd H a (.dT (putK kvs k v))
theorem DGet.k {H:Hp}{a:Addr}{kvs:List (Key × V)}{k:Key}(e:H a=some (.dK kvs)):DGet H a (kV k) (valV kvs k):=.inl ⟨kvs,k,.inl e,rfl,rfl⟩
theorem DGet.t {H:Hp}{a b:Addr}{kvs:List (List Key × V)}{k:List Key}(e:H a=some (.dT kvs)) (eb:H b=some (.tup (k.map kV))):DGet H a (.ref b) (valV kvs k):=.inr ⟨kvs,k,b,.inl e,rfl,eb,rfl⟩
theorem DPut.k {H:Hp}{a:Addr}{kvs:List (Key × V)}{k:Key}{v:V}(e:H a=some (.dK kvs)) (hl:kvs.length<sizeLine):DPut H a (kV k) v (upd H a (.dK (putK kvs k v))):=.inl ⟨kvs,k,e,rfl,hl,rfl⟩
theorem DPut.t {H:Hp}{a b:Addr}{kvs:List (List Key × V)}{k:List Key}{v:V}(e:H a=some (.dT kvs)) (eb:H b=some (.tup (k.map kV))) (hl:kvs.length<sizeLine):
  DPut H a (.ref b) v (upd H a (.dT (putK kvs k v))):=.inr ⟨kvs,k,b,e,rfl,eb,hl,rfl⟩
section
variable {X:Cx}{pins:List (Addr × Obj)}{σ:St}{H:Hp}{s:Shared}{a:Addr}{y v:V}{u r:Value}{o:Option V}{A:Around}{E:Value->Shared->Prop}
theorem Inv.big (I:Inv X pins σ H s):sysModules<s.heap.objs.size:=by
 have h:mainGlobals<s.heap.objs.size:=(I.mod.glob.keeps I.bk).lt
 exact Nat.lt_trans (by decide) h
theorem zP1 {Q:Value->Shared->Prop}(hu:A.units+1<cLine) (I:Inv X pins σ H s) (g:DGet H a y (some v)) (ry:RelV y u) (h:∀w' s',Inv X pins σ H s'->RelV v w'->Q w' s'):
  wpAny (model X.prog X.w) A (getItem (.ref a) u) Q E s:=by
 rcases g with⟨kvs,k,e,ey,l⟩|⟨kvs,k,b,e,ey,eb,l⟩
 ·subst ey
  obtain⟨z,hd,vs,rel,dd⟩:=zLz I.hok e
  obtain⟨w',hw,rw'⟩:=RelO.some_of (v:=v) (o:=valueAt vs k) (by rw[l];exact rel.val k)
  exact wpAny_getItem_of (zLt ry) dd.mapOf hw (h w' _ (I.tok _) rw')
 ·subst ey
  cases(show u=Value.ref b from ry)
  obtain⟨z,hd,xs,rel,dd⟩:=zOr I.hok e
  obtain⟨w',hw,rw'⟩:=RelO.some_of (v:=v) (o:=(atKey xs k).map (·.2)) (by rw[l];exact rel.val k)
  obtain⟨p,hp,hp2⟩:=Option.map_eq_some_iff.mp hw
  refine wpAny_getItem_heap (tupleKind_room_in1 hu) (zKm I.hok eb) dd hp ?_
  rw[hp2]
  exact h w' _ (I.tok _) rw'
theorem d_in {Q:Value->Shared->Prop}(hu:A.units+1<cLine) (I:Inv X pins σ H s) (g:DGet H a y o) (ry:RelV y u) (h:∀s',Inv X pins σ H s'->Q (.bool o.isSome) s'):
  wpAny (model X.prog X.w) A (compareOp .In u (.ref a)) Q E s:=by
 rcases g with⟨kvs,k,e,ey,l⟩|⟨kvs,k,b,e,ey,eb,l⟩
 ·subst ey
  obtain⟨z,hd,vs,rel,dd⟩:=zLz I.hok e
  refine wpAny_in_of (zLt ry) hd dd.mapOf ?_
  rw[<- (rel.val k).isSome_eq,<- l]
  exact h _ (I.tok _)
 ·subst ey
  cases(show u=Value.ref b from ry)
  obtain⟨z,hd,xs,rel,dd⟩:=zOr I.hok e
  refine wpAny_in_heap (tupleKind_room_in1 hu) (zKm I.hok eb) hd dd ?_
  have q:=(rel.val k).isSome_eq
  rw[Option.isSome_map]at q
  rw[<- q,<- l]
  exact h _ (I.tok _)
theorem zP0 {Q:Value->Shared->Prop}(hu:A.units+1<cLine) (I:Inv X pins σ H s) (g:DGet H a y o) (ry:RelV y u) (h:∀s',Inv X pins σ H s'->Q (.bool (!o.isSome)) s'):
  wpAny (model X.prog X.w) A (compareOp .NotIn u (.ref a)) Q E s:=by
 rcases g with⟨kvs,k,e,ey,l⟩|⟨kvs,k,b,e,ey,eb,l⟩
 ·subst ey
  obtain⟨z,hd,vs,rel,dd⟩:=zLz I.hok e
  refine wpAny_notIn_of (zLt ry) hd dd.mapOf ?_
  rw[<- (rel.val k).isSome_eq,<- l]
  exact h _ (I.tok _)
 ·subst ey
  cases(show u=Value.ref b from ry)
  obtain⟨z,hd,xs,rel,dd⟩:=zOr I.hok e
  refine wpAny_notIn_heap (tupleKind_room_in1 hu) (zKm I.hok eb) hd dd ?_
  have q:=(rel.val k).isSome_eq
  rw[Option.isSome_map]at q
  rw[<- q,<- l]
  exact h _ (I.tok _)
theorem zOz {h':Heap}{t':Nat}{ob:HO}(I:Inv X pins σ H s) (mu:Mut (H a)) (hs:Heap.SameBut a s.heap h') (he:∃q,h'.get? a=some q) (new:ObjOk X.prog X.w (upd H a ob) h' a ob):
  Inv X pins σ (upd H a ob) { s with heap:=h',toks:=t' }:=
 I.write (x:=a) (e:=a) mu (.inl rfl) (fun b q hb z=>(hs.2 b hb).trans z) he new
theorem zT8 {P:Program}{w:World}{H':Hp}{h':Heap}{kvs:List (Key × V)}{vs:List (Key × Value)}(z:kvs.length<=sizeLine) (hd:(a == sysModules)=false) (rel:KV kvs vs) (dd:h'.DictOf (zB9 P w) a vs):
  ObjOk P w H' h' a (.dK kvs):=⟨z,hd,vs,rel,dd⟩
end
section
variable {X:Cx}{pins:List (Addr × Obj)}{σ:St}{H:Hp}{s:Shared}{a:Addr}{kvs:List (Key × V)}{k:Key}{u:Value}{A:Around}{E:Value->Shared->Prop}
theorem yA1 {Q:Value->Shared->Prop}(I:Inv X pins σ H s) (e:Rd H a (.dK kvs)) (h:∀t s',Inv X pins σ H s'->Q (.int kvs.length t) s'):wpAny (model X.prog X.w) A (call (.builtin "len") [.ref a]) Q E s:=by
 obtain⟨z,hd,vs,rel,dd⟩:=zLz I.hok e
 refine call_len_dict hd dd (by rw[<- rel.length];rw[sizeLine_eq]at z;lia) ?_
 rw[<- rel.length]
 exact h _ _ (I.tok _)
end
theorem zJm {X:Cx}{pins:List (Addr × Obj)}{σ:St}{H:Hp}{s:Shared}{a:Addr}{y:V}{o:Option V}(I:Inv X pins σ H s) (g:DGet H a y o):s.TypeIs (.ref a) "dict":=by
 rcases g with⟨kvs,k,e,_,_⟩|⟨kvs,k,b,e,_,_,_⟩
 ·obtain⟨_,_,vs,_,dd⟩:=zLz I.hok e
  exact dd.typeIs
 ·obtain⟨_,_,xs,_,dd⟩:=zOr I.hok e
  exact dd.typeIs
theorem zRu {P:Program}{w:World}{H:Hp}(h:Heap) (hb:sysModules<h.objs.size):ObjOk P w H (h.push { cls:=.type "dict",data:=.dict #[] }) h.objs.size (.dK []):=
 ⟨Nat.zero_le _,beq_eq_false_iff_ne.mpr (Ne.symm (Nat.ne_of_lt hb)),[],.nil,Heap.DictOf.new h⟩
def zK4:List (TE × TE)->St->Hp->(List (V × V)->Hp->Prop)->Prop
 | [],_,H,Q=>Q [] H
 | (tk,tv)::r,σ,H,Q=>tk σ H fun x H1=>tv σ H1 fun y H2=>zK4 r σ H2 fun ps H3=>Q ((x,y)::ps) H3
abbrev VV:List (V × V)->List (Value × Value)->Prop:=Paired fun p q=>RelV p.1 q.1/\RelV p.2 q.2
def PPs (X:Cx) (pos:Pos) (keys:List (Option Expr)) (values:List Expr) (trs:List (TE × TE)):Prop:=
 ∀(pins:List (Addr × Obj)) (s:Shared) (σ:St) (H:Hp) (Q:List (V × V)->Hp->Prop),Inv X pins σ H s->zK4 trs σ H Q->
  wpAny (model X.prog X.w) X.A (evalPairs (pairTrees keys values X.env pos)) (fun vs s'=>∃ps H',Inv X pins σ H' s'/\VV ps vs/\Q ps H') X.xe s
theorem zUg {X:Cx}{pos:Pos}:PPs X pos [] [] []:=fun pins s σ H Q I h=>pairTrees_nil_walk ⟨[],H,I,.nil,h⟩
theorem zQ8 {X:Cx}{pos:Pos}{k v:Expr}{ks:List (Option Expr)}{vs:List Expr}{tk tv:TE}{trs:List (TE × TE)}(hk:PE X k tk) (hv:PE X v tv) (hr:PPs X pos ks vs trs):
  PPs X pos (some k::ks) (v::vs) ((tk,tv)::trs):=fun pins s σ H Q I h=>
 pairTrees_cons_walk (thn (hk pins s σ H _ I h) fun u s1 ⟨x,H1,I1,rx,q1⟩=>thn (hv pins s1 σ H1 _ I1 q1) fun w2 s2 ⟨y,H2,I2,ry,q2⟩=>
  thn (hr pins s2 σ H2 _ I2 q2) fun ws s3 ⟨ps,H3,I3,rel,q3⟩=>⟨(x,y)::ps,H3,I3,.cons ⟨rx,ry⟩ rel,q3⟩)
def zEk (kvs more:List (Key × V)):List (Key × V):=more.foldl (fun acc kv=>putK acc kv.1 kv.2) kvs
theorem KV.merge:∀{more:List (Key × V)}{rs:List (Key × Value)}{kvs:List (Key × V)}{vs:List (Key × Value)},KV more rs->KV kvs vs->KV (zEk kvs more) (merged vs rs):=by
 intro more rs kvs vs r
 unfold KV at r
 induction r generalizing kvs vs with
 | nil=>intro q;exact q
 | @cons p q ps qs h t ih=>
  intro r0
  have e:KV (putK kvs p.1 p.2) (stored vs q.1 q.2):=by
   have:=r0.put p.1 h.2
   rw[<- h.1];exact this
  exact ih e
theorem zDt:∀(more kvs:List (Key × V)),(zEk kvs more).length<=kvs.length+more.length
 | [],kvs=>by show kvs.length<=kvs.length+0;lia
 | p::r,kvs=>by
  have h1:=zDt r (putK kvs p.1 p.2)
  have h2:=zFd kvs p.1 p.2
  show(zEk (putK kvs p.1 p.2) r).length<=_
  rw[List.length_cons];lia
theorem zGo {P:Program}{w:World}:∀{kvs:List (Key × V)}{ws:List (Value × Value)},VV (kvs.map fun kv=>(kV kv.1,kv.2)) ws->∃rs,Carries (zB9 P w) ws rs/\KV kvs rs
 | [],_,r=>by rw[List.map_nil]at r;cases r;exact⟨[],True.intro,.nil⟩
 | p::kvs,_,r=>by
  rw[List.map_cons]at r
  cases r with
  | @cons a b as bs h t=>
   obtain⟨rs,c,q⟩:=zGo (P:=P) (w:=w) t
   obtain⟨b1,b2⟩:=b
   exact⟨(p.1,b2)::rs,⟨zLt h.1,rfl,c⟩,.cons ⟨rfl,h.2⟩ q⟩
def zWy (trs:List (TE × TE)):TE:=fun σ H Q=>∀p,H p=none->zK4 trs σ (upd H p (.dK [])) fun ps H2=>H2 p=some (.dK [])/\∃kvs:List (Key × V),ps=kvs.map (fun kv=>(kV kv.1,kv.2))/\kvs.length<=15/\Q (.ref p) (upd H2 p (.dK (zEk [] kvs)))
theorem zUs {X:Cx}{pos:Pos}{keys:List (Option Expr)}{values:List Expr}{trs:List (TE × TE)}(h:PPs X pos keys values trs) (hall:keys.all (·.isSome)=true) (hl:keys.length=values.length) (h0:keys≠[])
  (h15:keys.length<=15):PE X (.Dict keys values pos) (zWy trs):=by
 intro pins s σ H Q I q
 have hn:=I.hok.fresh (Nat.le_refl s.heap.objs.size)
 have I1:=I.laid (a:=s.heap.objs.size) (o:=.dK []) (h':=s.heap.push { cls:=.type "dict",data:=.dict #[] }) (t':=s.toks) (fun _ _ q=>Heap.get?_push_of_some _ q) (Nat.le_refl _) (zRu s.heap I.big)
 refine wpAny_Dict_walk (knd:=zB9 X.prog X.w) hall hl h0 h15 (thn (h pins _ σ _ _ I1 (q _ hn)) fun ws s2 ⟨ps,H2,I2,rel,e,kvs,ep,lk,q2⟩=>?_)
 subst ep
 obtain⟨rs,c,rk⟩:=zGo (P:=X.prog) (w:=X.w) rel
 obtain⟨z,hd,vs0,r0,dd⟩:=zYy I2.hok e
 cases r0
 refine⟨rs,c,dd,fun h' dd' hs=>⟨.ref s.heap.objs.size,_,?_,rfl,q2⟩⟩
 have hz:(zEk [] kvs).length<=sizeLine:=by
  have h1:=zDt kvs []
  rw[List.length_nil]at h1
  rw[sizeLine_eq];lia
 have he:∃q,h'.get? s.heap.objs.size=some q:=let ⟨q,_,_,hq,_⟩:=dd';⟨q,hq⟩
 exact zOz I2 (by rw[e];exact True.intro) hs he (zT8 hz hd (rk.merge .nil) dd')
structure M1 (X:Cx) (o:Expr) (m:Str) (apos:Pos) (e:Expr) (cpos:Pos):Prop where
 base:attributeBase o m X.env (eval o X.env)=eval o X.env
 few:((backTo cpos (starEach [e] X.env)).all (fun x=>!x.1) && (backToKw cpos (keywordEach [] X.env)).all (fun x=>x.1.isSome)
  && decide (([e]:List Expr).length+([]:List Keyword).length+(if([]:List Keyword).isEmpty then 0 else 1)<30))=true
 line:(apos.endLine == cpos.line)=true
 trees:backTo cpos (starEach [e] X.env)=[(false,eval e X.env)]
structure M2 (X:Cx) (o:Expr) (m:Str) (apos:Pos) (e f:Expr) (cpos:Pos):Prop where
 base:attributeBase o m X.env (eval o X.env)=eval o X.env
 few:((backTo cpos (starEach [e,f] X.env)).all (fun x=>!x.1) && (backToKw cpos (keywordEach [] X.env)).all (fun x=>x.1.isSome)
  && decide (([e,f]:List Expr).length+([]:List Keyword).length+(if([]:List Keyword).isEmpty then 0 else 1)<30))=true
 line:(apos.endLine == cpos.line)=true
 trees:backTo cpos (starEach [e,f] X.env)=[(false,eval e X.env),(false,eval f X.env)]
end L2
namespace HT
open PySem PyProof.Rows
section
open PySem.SeqAt
open PySem.AutoSeq1 (wpAny_loadPart')
open PySem.MeetsSeq PySem.MeetsSeq2 PySem.MeetsSeq3
end
section
variable {prog:Program}{w:World}{A:Around}{E:Value->Shared->Prop}{s:Shared}
theorem cat_tup {t b:Addr}{vs ws:List Value}{Q:Value->Shared->Prop}(ht:IsTup s.heap t vs.toArray) (hb:IsTup s.heap b ws.toArray) (hv:vs≠[])
  (h1:ws=[]->Q (.ref t) s) (h2:ws≠[]->Q (.ref s.heap.objs.size) { s with heap:=s.heap.push { cls:=.type "tuple",data:=.seq (vs++ws).toArray } })
  (hsz:vs.length+ws.length<=sizeLine):wpAny (model prog w) A (binaryOp .Add (.ref t) (.ref b)) Q E s:=by
 obtain⟨⟨cls,dd,data,sl⟩,ho,hc,n,hd⟩:=id ht
 obtain⟨⟨cls2,dd2,data2,sl2⟩,ho2,hc2,n2,hd2⟩:=id hb
 simp only at hc hd hc2 hd2
 subst hc hd hc2 hd2
 have e:vs.toArray++ws.toArray=(vs++ws).toArray:=by simp
 by_cases hw:ws=[]
 ·exact concat_meets ⟨_,ho,rfl⟩ ⟨_,ho2,rfl⟩ noFill_tuple_add seq_tuple_add PySem.F.slot_tuple_add PySem.F.entry_tuple_add (PySem.F.args_tuple_add_2 _ _)
   (tuple_addW1 t b vs.toArray ws.toArray n n2 dd dd2 sl sl2 (by simpa using hv) (by simp[hw])) ⟨ho,ho2,h1 hw⟩
 ·refine concat_meets ⟨_,ho,rfl⟩ ⟨_,ho2,rfl⟩ noFill_tuple_add seq_tuple_add PySem.F.slot_tuple_add PySem.F.entry_tuple_add (PySem.F.args_tuple_add_2 _ _)
   (tuple_addW2 t b vs.toArray ws.toArray n n2 dd dd2 sl sl2 (by simpa using hv) (by simpa using hw) (by rw[List.size_toArray,List.size_toArray];exact hsz)) ⟨ho,ho2,?_⟩
  rw[e]
  exact h2 hw
def sIx (n d:Nat):Option Int->Nat
 | none=>d
 | some v=>if v<0 then(v+(n:Int)).toNat else min v.toNat n
theorem zX2 (n d:Nat) (hd:d<=n) (o:Option Int):sIx n d o<=n:=by
 cases o with
 | none=>exact hd
 | some v=>
  show(if v<0 then(v+(n:Int)).toNat else min v.toNat n)<=n
  by_cases hv:v<0
  ·rw[if_pos hv];lia
  ·rw[if_neg hv];exact Nat.min_le_right _ _
theorem zP4 (v:Int) (n d:Nat):(if v<0 then max (v+(n:Int)) 0 else min v (n:Int))=((sIx n d (some v):Nat):Int):=by
 show(if v<0 then max (v+(n:Int)) 0 else min v (n:Int))=(((if v<0 then(v+(n:Int)).toNat else min v.toNat n):Nat):Int)
 by_cases hv:v<0
 ·simp only[if_pos hv];lia
 ·simp only[if_neg hv];lia
theorem zM7 (lo hi:Option Int) (n:Nat):Builtin.Slice.sliceAdjust lo hi 1 (n:Int)=(((sIx n 0 lo:Nat):Int),((sIx n n hi:Nat):Int)):=by
 have h1:¬ ((1:Int)<0):=by first|assumption|lia
 unfold Builtin.Slice.sliceAdjust
 simp only[h1,if_false]
 refine Prod.ext ?_ ?_
 ·cases lo with
  | none=>rfl
  | some v=>exact zP4 v n 0
 ·cases hi with
  | none=>rfl
  | some v=>exact zP4 v n n
theorem zLf (i j:Nat):Builtin.Slice.slicePlaces (i:Int) (j:Int) 1=j-i:=by
 unfold Builtin.Slice.slicePlaces
 have h1:(1:Int) > 0:=by first|assumption|lia
 simp only[h1,if_true,Int.ediv_one]
 split <;> lia
theorem zG9 {v:Value}{o:Option Int}{Q:Option Int->Shared->Prop}(p:IsPart v o) (h:Q o s):wpAny (model prog w) A (Builtin.Slice.slicePartIndex v) Q E s:=by
 cases p with
 | none=>exact slicePart_none h
 | int i t=>exact slicePart_int h
theorem sliceApplied_gen {sl:Addr}{vl vu:Value}{lo hi:Option Int}{n:Nat}{Q:Int × Int × Nat->Shared->Prop}(hs:s.heap.IsSliceOf sl vl vu .none) (pl:IsPart vl lo) (pu:IsPart vu hi)
  (h:Q (((sIx n 0 lo:Nat):Int),1,sIx n n hi-sIx n 0 lo) s):wpAny (model prog w) A (Builtin.Slice.sliceApplied (.ref sl) (pure (n:Int))) Q E s:=by
 obtain⟨os,hos,hcs,hds⟩:=id hs
 unfold Builtin.Slice.sliceApplied Builtin.Slice.sliceFields
 refine wpAny_bind (wpAny_bind (wpAny_field hos hds (x:=vl) rfl (wpAny_bind (wpAny_field hos hds (x:=vu) rfl (wpAny_bind (wpAny_field hos hds (x:=.none) rfl (wpAny_pure ?_)))))))
 refine wpAny_bind (slicePart_none ?_)
 show wpAny _ _ (if((1:Int) == 0)=true then _ else _) _ _ s
 rw[if_neg (by decide)]
 refine wpAny_bind (zG9 pl (wpAny_bind (zG9 pu (wpAny_bind (wpAny_pure ?_)))))
 show wpAny _ _ (match Builtin.Slice.sliceAdjust lo hi 1 (n:Int)with|(lo,hi)=>pure (lo,(1:Int),Builtin.Slice.slicePlaces lo hi 1)) _ _ s
 rw[zM7 lo hi n]
 show wpAny _ _ (pure (((sIx n 0 lo:Nat):Int),(1:Int),Builtin.Slice.slicePlaces ((sIx n 0 lo:Nat):Int) ((sIx n n hi:Nat):Int) 1)) _ _ s
 rw[zLf]
 exact wpAny_pure h
theorem zQe (xs:Array Value) (i k:Nat):((List.range k).filterMap fun(m:Nat)=>xs[((i:Int)+(m:Int)*1).toNat]?).toArray=((xs.toList.drop i).take k).toArray:=by
 have e:(fun(m:Nat)=>xs[((i:Int)+(m:Int)*1).toNat]?)=fun m=>xs[i+m]?:=by
  funext m
  have:((i:Int)+(m:Int)*1).toNat=i+m:=by first|assumption|lia
  rw[this]
 rw[e]
 have:=pick_run xs i k
 rw[List.filterMap_map]at this
 have e2:((fun x=>xs[x]?) ∘ fun x=>i+x)=fun m=>xs[i+m]?:=rfl
 rw[e2]at this
 rw[this]
theorem getItem_tuple_cut {t sl:Addr}{items:Array Value}{vl vu:Value}{lo hi:Option Int}{Q:Value->Shared->Prop}(ht:IsTup s.heap t items) (hs:s.heap.IsSliceOf sl vl vu .none) (pl:IsPart vl lo) (pu:IsPart vu hi)
  (hw:¬ (sIx items.size 0 lo=0/\sIx items.size items.size hi=items.size))
  (h:Q (.ref s.heap.objs.size) { s with heap:=s.heap.push { cls:=.type "tuple",data:=.seq ((items.toList.drop (sIx items.size 0 lo)).take (sIx items.size items.size hi-sIx items.size 0 lo)).toArray } })
  (hsz:items.size<=sizeLine):wpAny (model prog w) A (getItem (.ref t) (.ref sl)) Q E s:=by
 have htake:sizeOk (.seq ((items.toList.drop (sIx items.size 0 lo)).take (sIx items.size items.size hi-sIx items.size 0 lo)).toArray):=by
  show((items.toList.drop (sIx items.size 0 lo)).take (sIx items.size items.size hi-sIx items.size 0 lo)).toArray.size<=sizeLine
  rw[List.size_toArray,List.length_take,List.length_drop,Array.length_toList]
  lia
 have hj:sIx items.size items.size hi<=items.size:=zX2 _ _ (Nat.le_refl _) hi
 obtain⟨os,hos,hcs,hds⟩:=id hs
 have hTs:s.TypeIs (.ref sl) "slice":=⟨os,hos,hcs⟩
 unfold getItem
 try with_reducible refine wpAny_holding ?_
 first|refine wpAny_bind (wpAny_pure ?_)|skip
 refine wpAny_bind (wpAny_sequenceKey ht.typeIs (by decide) ?_)
 refine wpAny_bind (wpAny_callSpecial?_slot (name:=Str.ofString "__getitem__") ht.typeIs PyProof.Rows.slot_tuple_getitem
  (wpAny_call_entry PyProof.Rows.slot_tuple_getitem ht.typeIs entry_tuple_getitem ?_ (args_tuple_getitem _ _)))
 show wpAny _ _ (Builtin.Tuple.tupleItemsOf (.ref t) >>= _) _ _ s
 refine wpAny_bind (tupleItemsOf_ ht ?_)
 refine wpAny_bind (wpAny_typeOf hTs ?_)
 rw[if_pos (by decide)]
 refine wpAny_bind (sliceApplied_gen hs pl pu ?_)
 have hno:¬ ((((sIx items.size 0 lo:Nat):Int) == 0 && (1:Int) == 1 && (sIx items.size items.size hi-sIx items.size 0 lo) == items.size)=true):=by
  intro q
  rw[Bool.and_eq_true,Bool.and_eq_true]at q
  have q1:((sIx items.size 0 lo:Nat):Int)=0:=eq_of_beq q.1.1
  have q2:sIx items.size items.size hi-sIx items.size 0 lo=items.size:=eq_of_beq q.2
  exact hw ⟨by first|assumption|lia,by first|assumption|lia⟩
 show wpAny _ _ (if(((sIx items.size 0 lo:Nat):Int) == 0 && (1:Int) == 1 && (sIx items.size items.size hi-sIx items.size 0 lo) == items.size)=true then _ else _) _ _ s
 rw[if_neg hno,zQe]
 first
  | exact wpAny_bind (m:=Builtin.Tuple.tupleExact _) (wpAny_newObj_type (wpAny_pure ⟨_,rfl,wpAny_pure h⟩) htake)
  | exact wpAny_bind (m:=Builtin.Tuple.tupleExact _) (wpAny_newObj_type (wpAny_bind (wpAny_pure (wpAny_pure ⟨_,rfl,wpAny_pure h⟩))) htake)
  | exact wpAny_bind (wpAny_bind (m:=Builtin.Tuple.tupleExact _) (wpAny_newObj_type (wpAny_pure (wpAny_pure ⟨_,rfl,wpAny_pure h⟩)) htake))
  | exact wpAny_bind (wpAny_bind (m:=Builtin.Tuple.tupleExact _) (wpAny_newObj_type (wpAny_pure ⟨_,rfl,wpAny_pure h⟩) htake))
end
end HT
namespace L2
open PySem PySem.Spec PyProof.Rows
abbrev TO:=St->Hp->(Option Int->Hp->Prop)->Prop
def PO (X:Cx) (e:Option Expr) (t:TO):Prop:=
 ∀(pins:List (Addr × Obj)) (s:Shared) (σ:St) (H:Hp) (Q:Option Int->Hp->Prop),Inv X pins σ H s->t σ H Q->
  wpAny (model X.prog X.w) X.A (evalPart e X.env) (fun u s'=>∃o H',Inv X pins σ H' s'/\IsPart u o/\Q o H') X.xe s
def zMj:TO:=fun _ H Q=>Q none H
def zWv (t:TE):TO:=fun σ H Q=>t σ H fun x H1=>∃i,x=.int i/\Q (some i) H1
section
variable {X:Cx}{e:Expr}{te:TE}{lo hi:Option Expr}{tl th:TO}{pos p2:Pos}
theorem zUi:PO X none zMj:=by
 intro pins s σ H Q I h
 rw[evalPart_none]
 exact wpAny_pure ⟨none,H,I,.none,h⟩
theorem zUh (h:PE X e te):PO X (some e) (zWv te):=by
 intro pins s σ H Q I hw
 rw[evalPart_some]
 refine thn (h pins s σ H _ I hw) fun u s1 ⟨x,H1,I1,r1,q1⟩=>?_
 obtain⟨i,rfl,q⟩:=q1
 obtain⟨t,rfl⟩:=r1
 exact⟨some i,H1,I1,.int i t,q⟩
def SlR (X:Cx) (r:V->Option Int->Option Int->Hp->VK->Prop):Prop:=
 ∀(pins:List (Addr × Obj)) (s:Shared) (σ:St) (H:Hp) (x:V) (v vl vu:Value) (lo hi:Option Int) (sl:Addr) (Q:VK),Inv X pins σ H s->RelV x v->s.heap.IsSliceOf sl vl vu .none->IsPart vl lo->IsPart vu hi->r x lo hi H Q->
  ∃T id,typeLookup (.type T) "__getitem__"=pure (some (.builtin id))/\s.TypeIs v T/\wpAny (model X.prog X.w) X.A (getItem v (.ref sl)) (EP X pins σ Q) X.xe s
def tSl (r:V->Option Int->Option Int->Hp->VK->Prop) (te:TE) (tl th:TO):TE:=fun σ H Q=>te σ H fun x H1=>tl σ H1 fun l H2=>th σ H2 fun u H3=>r x l u H3 Q
theorem zQh {r:V->Option Int->Option Int->Hp->VK->Prop}(hr:SlR X r) (he:PE X e te) (hl:PO X lo tl) (hu:PO X hi th):PE X (.Subscript e (.Slice lo hi none p2) pos) (tSl r te tl th):=by
 intro pins s σ H Q I h
 refine Subscript_ (thn (he pins s σ H _ I h) fun v s1 ⟨x,H1,I1,r1,q1⟩=>?_)
 refine wpAny_Slice (thn (hl pins s1 σ H1 _ I1 q1) fun vl s2 ⟨l,H2,I2,pl,q2⟩=>thn (hu pins s2 σ H2 _ I2 q2) fun vu s3 ⟨u,H3,I3,pu,q3⟩=>?_)
 rw[evalPart_none]
 refine wpAny_pure ?_
 have I4:Inv X pins σ H3 { s3 with heap:=s3.heap.push { cls:=.type "slice",data:=.fields #[vl,vu,.none] } }:=I3.kept (t':=s3.toks) fun b ob q=>Heap.get?_push_of_some _ q
 obtain⟨T,id,hT,ht,hg⟩:=hr pins { s3 with heap:=s3.heap.push { cls:=.type "slice",data:=.fields #[vl,vu,.none] } } σ H3 x v vl vu l u s3.heap.objs.size Q I4 r1 (Heap.IsSliceOf.new ..) pl pu q3
 show wpAny (model X.prog X.w) X.A (subscriptTail e (.Slice lo hi none p2) v (.ref s3.heap.objs.size)) (EP X pins σ Q) X.xe { s3 with heap:=s3.heap.push { cls:=.type "slice",data:=.fields #[vl,vu,.none] } }
 exact tail_any (ops:=[.ref s3.heap.objs.size,v]) ht hT hg (by with_unfolding_all rfl)
def cutV (xs:List V) (lo hi:Option Int):List V:=(xs.drop (HT.sIx xs.length 0 lo)).take (HT.sIx xs.length xs.length hi-HT.sIx xs.length 0 lo)
theorem zFm (xs:List V) (lo hi:Option Int):(cutV xs lo hi).length<=xs.length:=by
 unfold cutV
 rw[List.length_take,List.length_drop]
 lia
def rSlT (K:PySem.W.Frag):V->Option Int->Option Int->Hp->VK->Prop:=fun x lo hi H Q=>∃a xs,x=.ref a/\SqT K H a xs /\
 ¬ (HT.sIx xs.length 0 lo=0/\HT.sIx xs.length xs.length hi=xs.length)/\∀p,H p=none->Q (.ref p) (upd H p (.tup (cutV xs lo hi)))
theorem zSj:SlR X (rSlT X.K):=by
 intro pins s σ H x v vl vu lo hi sl Q I rx hs pl pu h
 obtain⟨a,xs,rfl,hx,hw,q⟩:=h
 cases rx
 obtain⟨its,r,ht,hz⟩:=I.tuple hx
 have hlen:its.toArray.size=xs.length:=by rw[List.size_toArray];exact r.length.symm
 refine⟨"tuple",_,PyProof.Rows.slot_tuple_getitem.lookup,ht.typeIs,?_⟩
 refine HT.getItem_tuple_cut ht hs pl pu (by rw[hlen];exact hw) ?_ (by rw[hlen];exact hz)
 rw[hlen]
 refine⟨.ref s.heap.objs.size,_,I.laid (t':=s.toks) (o:=.tup (cutV xs lo hi)) (fun b ob q=>Heap.get?_push_of_some _ q) (Nat.le_refl _) ?_,rfl,q _ (I.hok.fresh (Nat.le_refl _))⟩
 exact⟨Nat.le_trans (zFm xs lo hi) hz,_,(r.drop (HT.sIx xs.length 0 lo)).take (HT.sIx xs.length xs.length hi-HT.sIx xs.length 0 lo),IsTup.new _ _⟩
def zZf (K:PySem.W.Frag):R2:=fun x y H Q=>∃a b xs ys,x=.ref a/\y=.ref b/\SqT K H a xs/\SqT K H b ys/\xs≠[]/\xs.length+ys.length<=sizeLine /\
 (ys=[]->Q (.ref a) H)/\(ys≠[]->∀p,H p=none->Q (.ref p) (upd H p (.tup (xs++ys))))
theorem Vals.nil_iff {xs:List V}{us:List Value}(r:Vals xs us):us=[] <-> xs=[]:=by
 cases r with
 | nil=>simp
 | cons _ _=>simp
theorem zV1:OpR X (binaryOp .Add) (zZf X.K):=by
 intro pins s σ H x y v u Q I rx ry h
 obtain⟨a,b,xs,ys,rfl,rfl,ha,hb,hx,hz,q1,q2⟩:=h
 cases rx
 cases ry
 obtain⟨its,r1,p1,_⟩:=I.tuple ha
 obtain⟨its2,r2,p2,_⟩:=I.tuple hb
 refine HT.cat_tup p1 p2 (fun z=>hx (r1.nil_iff.mp z)) (fun z=>⟨.ref a,H,I,rfl,q1 (r2.nil_iff.mp z)⟩) (fun z=>?_) (by rw[<- r1.length,<- r2.length];exact hz)
 refine⟨.ref s.heap.objs.size,_,I.laid (t':=s.toks) (o:=.tup (xs++ys)) (fun b ob q=>Heap.get?_push_of_some _ q) (Nat.le_refl _) ?_,rfl,q2 (fun w=>z (r2.nil_iff.mpr w)) _ (I.hok.fresh (Nat.le_refl _))⟩
 exact⟨by rw[List.length_append];exact hz,_,r1.append r2,IsTup.new _ _⟩
end
end L2
namespace L2
open PySem PySem.Spec PyProof.Rows
def ixN (n:Nat) (i:Int):Option Nat:=if 0<=i then(if i<n then some i.toNat else none)else if -(n:Int)<=i then some (i+n).toNat else none
def atI {α:Type}(xs:List α) (i:Int):Option α:=(ixN xs.length i).bind fun j=>xs[j]?
theorem zVj {n:Nat}{i:Int}{j:Nat}(h:ixN n i=some j):seqIndex? i n=some j/\j<n/\-(n:Int)<=i/\i<n:=by
 unfold ixN at h
 by_cases h0:0<=i
 ·rw[if_pos h0]at h
  by_cases h1:i<n
  ·rw[if_pos h1]at h
   have e:i.toNat=j:=Option.some.inj h
   exact⟨by rw[seqIndex_of h0 h1,e],by first|assumption|lia,by first|assumption|lia,h1⟩
  ·rw[if_neg h1]at h;cases h
 ·rw[if_neg h0]at h
  by_cases h1:-(n:Int)<=i
  ·rw[if_pos h1]at h
   have e:(i+n).toNat=j:=Option.some.inj h
   exact⟨by rw[seqIndex_neg (by first|assumption|lia) h1,e],by first|assumption|lia,h1,by first|assumption|lia⟩
  ·rw[if_neg h1]at h;cases h
theorem zJx {α:Type}{xs:List α}{i:Int}{v:α}(h:atI xs i=some v):∃j,seqIndex? i xs.length=some j/\xs[j]?=some v/\j<xs.length/\-(xs.length:Int)<=i/\i<xs.length:=by
 unfold atI at h
 cases e:ixN xs.length i with
 | none=>rw[e]at h;cases h
 | some j=>
  rw[e]at h
  obtain⟨h1,h2,h3,h4⟩:=zVj e
  exact⟨j,h1,h,h2,h3,h4⟩
def zPl (b:Expr):Prop:=∀o i,subscripted b false o i=operate [o,i] (getItem o i)
def IxR (X:Cx) (r:R2):Prop:=
 ∀(value slice:Expr) (pins:List (Addr × Obj)) (s:Shared) (σ:St) (H:Hp) (x y:V) (v u:Value) (Q:VK),Inv X pins σ H s->RelV x v->RelV y u->r x y H Q->
  subscripted slice false v u=operate [v,u] (getItem v u)->wpAny (model X.prog X.w) X.A (subscriptTail value slice v u) (EP X pins σ Q) X.xe s
def MtR (X:Cx) (id:String) (r:V->List V->Hp->VK->Prop):Prop:=
 ∀(pins:List (Addr × Obj)) (s:Shared) (σ:St) (H:Hp) (x:V) (xs:List V) (v:Value) (us:List Value) (Q:VK),Inv X pins σ H s->RelV x v->Vals xs us->r x xs H Q->
  wpAny (model X.prog X.w) X.A (call (.builtin id) (v::us)) (EP X pins σ Q) X.xe s
section
variable {X:Cx}{a b:Expr}{ta tb:TE}{pos:Pos}
theorem zZl {r:R2}(hr:IxR X r) (ha:PE X a ta) (hb:PE X b tb) (hs:zPl b):PE X (.Subscript a b pos) (tOp r ta tb):=by
 intro pins s σ H Q I h
 exact Subscript_ (binT ha hb I h fun v u s2 x y H2 I2 rx ry q=>hr a b pins s2 σ H2 x y v u Q I2 rx ry q (hs _ _))
def rIxL (K:PySem.W.Frag):R2:=fun x y H Q=>∃p xs i v,x=.ref p/\y=.int i/\SqL K H p xs/\atI xs i=some v/\Q v H
def rIxT (K:PySem.W.Frag):R2:=fun x y H Q=>∃p xs i v,x=.ref p/\y=.int i/\SqT K H p xs/\atI xs i=some v/\Q v H
def rIxS:R2:=fun x y H Q=>∃z i c,x=.str z/\y=.int i/\z.length<=sizeLine/\atI z.cps.toList i=some c/\Q (.str ⟨#[c]⟩) H
theorem zVi:IxR X (rIxL X.K):=by
 intro value slice pins s σ H x y v u Q I rx ry h hs
 obtain⟨p,xs,i,z,rfl,rfl,hq,he,q⟩:=h
 cases rx
 obtain⟨t,rfl⟩:=ry
 obtain⟨its,r,pl,hz⟩:=I.list hq
 obtain⟨j,h1,h2,h3,h4,h5⟩:=zJx he
 obtain⟨w,ew,rw'⟩:=r.get h2
 have hl:=r.length
 have hn:=line63
 have fin:EP X pins σ Q w s:=⟨z,H,I,rw',q⟩
 by_cases h0:0<=i
 ·have hj:i.toNat=j:=by
   rw[seqIndex_of h0 h5]at h1
   exact Option.some.inj h1
  exact item_listR pl.isList h0 (by first|assumption|lia) (by rw[hj];simpa using ew) fin hs
 ·have hj:(i+(its.toArray.size:Int)).toNat=j:=by
   rw[seqIndex_neg (by first|assumption|lia) h4]at h1
   rw[List.size_toArray,<- hl]
   exact Option.some.inj h1
  exact subscriptTail_builtinR (x:=w) pl.isList.typeIs slot_list_getitem.lookup
   (wpAny_getItem_list_neg (Q:=fun r s'=>r=w/\EP X pins σ Q r s') pl.isList (by first|assumption|lia) (by rw[List.size_toArray] <;> lia) (by first|assumption|lia) (by rw[hj];simpa using ew) ⟨rfl,fin⟩) hs
theorem zYk:IxR X (rIxT X.K):=by
 intro value slice pins s σ H x y v u Q I rx ry h hs
 obtain⟨p,xs,i,z,rfl,rfl,hq,he,q⟩:=h
 cases rx
 obtain⟨t,rfl⟩:=ry
 obtain⟨its,r,pl,hz⟩:=I.tuple hq
 obtain⟨j,h1,h2,h3,h4,h5⟩:=zJx he
 obtain⟨w,ew,rw'⟩:=r.get h2
 have hl:=r.length
 have hn:=line63
 have fin:EP X pins σ Q w s:=⟨z,H,I,rw',q⟩
 exact subscriptTail_builtinR (x:=w) pl.typeIs slot_tuple_getitem.lookup
  (getItem_tuple (j:=j) (Q:=fun r s'=>r=w/\EP X pins σ Q r s') pl (by first|assumption|lia) (by first|assumption|lia) (by rw[List.size_toArray,<- hl];exact h1) (by simpa using ew) ⟨rfl,fin⟩) hs
theorem zYl:IxR X rIxS:=by
 intro value slice pins s σ H x y v u Q I rx ry h hs
 obtain⟨z,i,c,rfl,rfl,hz,he,q⟩:=h
 obtain⟨t,rfl⟩:=rx
 obtain⟨t',rfl⟩:=ry
 obtain⟨j,h1,h2,h3,h4,h5⟩:=zJx he
 have hl:z.cps.toList.length=z.length:=by simp[Str.length]
 rw[hl]at h1 h4 h5
 have hn:=line63
 exact tail_any (typeIs_str s z t) slot_str_getitem.lookup (getItem_str (c:=c) (by
  have e1:decide (i < -(2 ^ 63:Int))=false:=decide_eq_false (by first|assumption|lia)
  have e2:decide (i >= 2 ^ 63)=false:=decide_eq_false (by first|assumption|lia)
  rw[e1,e2,Bool.or_false]) (by rw[h1];simpa using h2) ⟨.str ⟨#[c]⟩,H,I.tok _,⟨_,rfl⟩,q⟩) hs
theorem zI3 (lo hi:Option Int) (n:Nat):(sliceBounds lo hi none n).1=((HT.sIx n 0 lo:Nat):Int)/\(sliceBounds lo hi none n).2.1=((HT.sIx n n hi:Nat):Int)/\(sliceBounds lo hi none n).2.2=1:=by
 refine⟨?_,?_,rfl⟩
 ·cases lo with
  | none=>simp[sliceBounds,HT.sIx]
  | some i=>
   simp only[sliceBounds,HT.sIx,Option.getD_none,show(1:Int) > 0 by decide,if_true]
   by_cases h:i<0
   ·simp only[h,if_true] <;> lia
   ·simp only[h,if_false] <;> lia
 ·cases hi with
  | none=>simp[sliceBounds,HT.sIx]
  | some i=>
   simp only[sliceBounds,HT.sIx,Option.getD_none,show(1:Int) > 0 by decide,if_true]
   by_cases h:i<0
   ·simp only[h,if_true] <;> lia
   ·simp only[h,if_false] <;> lia
theorem zH0 (its:List Value) (lo hi:Option Int):slicePick its.toArray lo hi none=((its.drop (HT.sIx its.length 0 lo)).take (HT.sIx its.length its.length hi-HT.sIx its.length 0 lo)).toArray:=by
 obtain⟨h1,h2,h3⟩:=zI3 lo hi its.toArray.size
 unfold slicePick
 rw[h1,h2,h3]
 simp only[sliceRange_one,pick_run,List.size_toArray] <;> rfl
def rSlL (K:PySem.W.Frag):V->Option Int->Option Int->Hp->VK->Prop:=fun x lo hi H Q=>∃a xs,x=.ref a/\SqL K H a xs/\∀p,H p=none->Q (.ref p) (upd H p (.lst (cutV xs lo hi)))
theorem zTt:SlR X (rSlL X.K):=by
 intro pins s σ H x v vl vu lo hi sl Q I rx hs pl pu h
 obtain⟨a,xs,rfl,hx,q⟩:=h
 cases rx
 obtain⟨its,r,ht,hz⟩:=I.list hx
 have hlen:=r.length
 refine⟨"list",_,slot_list_getitem.lookup,ht.isList.typeIs,?_⟩
 refine wpAny_getItem_list_slice ht.isList hs pl pu .none (by simp) ?_ (by rw[List.size_toArray] <;> lia)
 rw[zH0,<- hlen]
 refine⟨.ref s.heap.objs.size,_,I.laid (t':=s.toks) (o:=.lst (cutV xs lo hi)) (fun b ob q=>Heap.get?_push_of_some _ q) (Nat.le_refl _) ?_,rfl,q _ (I.hok.fresh (Nat.le_refl _))⟩
 exact⟨Nat.le_trans (zFm xs lo hi) hz,_,0,(r.drop (HT.sIx xs.length 0 lo)).take (HT.sIx xs.length xs.length hi-HT.sIx xs.length 0 lo),Heap.get?_push_size _ rfl⟩
theorem zIk:zBk X (.builtin "len") (fun xs H Q=>∃p ys,xs=[.ref p]/\(SqL X.K H p ys\/SqT X.K H p ys)/\Q (.int ys.length) H):=by
 intro pins s σ H xs us Q I r h
 obtain⟨p,ys,rfl,hq,q⟩:=h
 obtain⟨u,rfl,rx⟩:=vals1 r
 cases rx
 have hn:=line63
 rcases hq with hq|hq
 ·obtain⟨its,r',pl,hz⟩:=I.list hq
  have hlen:=r'.length
  exact Calls.call_len_list pl.isList (by simp only[List.size_toArray] <;> lia) ⟨.int ys.length,H,I.tok _,⟨s.toks+1,by rw[List.size_toArray,hlen]⟩,q⟩
 ·obtain⟨its,r',pl,hz⟩:=I.tuple hq
  have hlen:=r'.length
  exact len_tuple pl (by simp only[List.size_toArray] <;> lia) ⟨.int ys.length,H,I.tok _,⟨s.toks+1,by rw[List.size_toArray,hlen]⟩,q⟩
theorem zIj:zBk X (.builtin "len") (fun xs H Q=>∃z,xs=[.str z]/\z.length<=sizeLine/\Q (.int z.length) H):=by
 intro pins s σ H xs us Q I r h
 obtain⟨z,rfl,hz,q⟩:=h
 obtain⟨u,rfl,t,rfl⟩:=vals1 r
 have hn:=line63
 exact len_str (by first|assumption|lia) ⟨.int z.length,H,I.tok _,⟨_,rfl⟩,q⟩
theorem zIi:zBk X (.type "list") (fun xs H Q=>∃p ys,xs=[.ref p]/\(SqL X.K H p ys\/SqT X.K H p ys)/\∀l,H l=none->Q (.ref l) (upd H l (.lst ys))):=by
 intro pins s σ H xs us Q I r h
 obtain⟨p,ys,rfl,hq,q⟩:=h
 obtain⟨u,rfl,rx⟩:=vals1 r
 cases rx
 have fin:∀(its:List Value),Vals ys its->ys.length<=sizeLine->∀(h':Heap) (c':Nat),(∀b o',s.heap.get? b=some o'->h'.get? b=some o')->
   h'.get? s.heap.objs.size=some { cls:=.type "list",dict:=none,data:=.seq its.toArray c',slots:=#[] }->EP X pins σ Q (.ref s.heap.objs.size) { s with heap:=h' }:=fun its r' hz h' c' kp e=>
  ⟨.ref s.heap.objs.size,_,I.laid (t':=s.toks) kp (Nat.le_refl _) (show ObjOk X.prog X.w _ h' _ (.lst ys)from⟨hz,its,c',r',e⟩),rfl,q _ (I.hok.fresh (Nat.le_refl _))⟩
 rcases hq with hq|hq
 ·obtain⟨its,r',pl,hz⟩:=I.list hq
  have hlen:=r'.length
  obtain⟨o,ho,hc,n,hd⟩:=pl.isList
  exact call_list_seq p (.inl rfl) ho hc hd (fun h' c' kp e=>fin its r' hz h' c' kp e) (by simp only[List.size_toArray] <;> lia)
 ·obtain⟨its,r',pl,hz⟩:=I.tuple hq
  have hlen:=r'.length
  obtain⟨o,ho,hc,n,hd⟩:=pl
  exact call_list_seq p (.inr rfl) ho hc hd (fun h' c' kp e=>fin its r' hz h' c' kp e) (by simp only[List.size_toArray] <;> lia)
theorem zCj:zBk X (.type "tuple") (fun xs H Q=>∃p ys,xs=[.ref p]/\((SqL X.K H p ys/\∀l,H l=none->Q (.ref l) (upd H l (.tup ys)))\/(SqT X.K H p ys/\Q (.ref p) H))):=by
 intro pins s σ H xs us Q I r h
 obtain⟨p,ys,rfl,h⟩:=h
 obtain⟨u,rfl,rx⟩:=vals1 r
 cases rx
 rcases h with⟨hq,q⟩|⟨hq,q⟩
 ·obtain⟨its,r',pl,hz⟩:=I.list hq
  have hlen:=r'.length
  refine call_tuple_list pl.isList (fun h' kp=>?_) (by simp only[List.size_toArray] <;> lia)
  have I1:Inv X pins σ H { s with heap:=h' }:=I.kept (t':=s.toks) kp
  have I2:Inv X pins σ (upd H h'.objs.size (.tup ys)) { s with heap:=h'.push { cls:=.type "tuple",data:=.seq its.toArray } }:=
   I1.laid (t':=s.toks) (fun b o e=>Heap.get?_push_of_some _ e) (Nat.le_refl _) (show ObjOk X.prog X.w _ _ _ (.tup ys)from⟨hz,its,r',IsTup.new _ _⟩)
  exact⟨.ref h'.objs.size,_,I2,rfl,q _ (I1.hok.fresh (Nat.le_refl _))⟩
 ·obtain⟨its,r',pl,hz⟩:=I.tuple hq
  exact call_tuple_same pl ⟨.ref p,H,I,rfl,q⟩
def tyV (K:PySem.W.Frag) (T:String) (x:V) (H:Hp):Prop:=match x with
 | .str _=>T="str"
 | .int _=>T="int"
 | .ref p=>(T="list"/\∃xs,SqL K H p xs)\/(T="tuple"/\∃o,K.lookup p=some o/\o.cls=.type "tuple"/\o.dict=none) \/
   (T="dict"/\((∃kvs,H p=some (.dK kvs))\/∃kvs,H p=some (.dT kvs)))\/(T="set"/\∃S n,H p=some (.set S n))
 | _=>False
theorem zSe {pins:List (Addr × Obj)}{σ:St}{H:Hp}{s:Shared}{T:String}{x:V}{v:Value}(I:Inv X pins σ H s) (r:RelV x v) (ty:tyV X.K T x H):
  s.TypeIs v T/\∀a,v=.ref a->∃ob,s.heap.get? a=some ob/\ob.dict=none:=by
 cases x with
 | str z=>
  obtain⟨t,rfl⟩:=r
  cases(show T="str" from ty)
  exact⟨typeIs_str s z t,fun _ e=>nomatch e⟩
 | int i=>
  obtain⟨t,rfl⟩:=r
  cases(show T="int" from ty)
  exact⟨typeIs_int s i t,fun _ e=>nomatch e⟩
 | ref p=>
  cases r
  rcases ty with⟨rfl,xs,hq⟩|⟨rfl,o,hk,hc,hd⟩|⟨rfl,hk⟩|⟨rfl,S,n,hk⟩
  ·obtain⟨its,_,pl,_⟩:=I.list hq
   refine⟨pl.isList.typeIs,fun a e=>?_⟩
   cases e
   obtain⟨o,n,e,c,hd,_⟩:=pl
   exact⟨o,e,hd⟩
  ·refine⟨⟨o,I.kIn p o hk,hc⟩,fun a e=>?_⟩
   cases e
   exact⟨o,I.kIn _ o hk,hd⟩
  ·have z:∃o,s.heap.get? p=some o/\o.ExactDict:=by
    rcases hk with⟨kvs,hk⟩|⟨kvs,hk⟩
    ·obtain⟨_,_,_,_,o,_,_,e,ex,_⟩:=I.hok p _ hk
     exact⟨o,e,ex⟩
    ·obtain⟨_,_,_,_,o,_,_,e,ex,_⟩:=I.hok p _ hk
     exact⟨o,e,ex⟩
   obtain⟨o,e,ex⟩:=z
   refine⟨⟨o,e,ex.1⟩,fun a e2=>?_⟩
   cases e2
   exact⟨o,e,ex.2.1⟩
  ·obtain⟨o,_,_,_,e,ex,_⟩:=I.hok p _ hk
   refine⟨⟨o,e,ex.1⟩,fun a e2=>?_⟩
   cases e2
   exact⟨o,e,ex.2.1⟩
 | _=>exact False.elim ty
def tBM0 (K:PySem.W.Frag) (T:String) (r:V->List V->Hp->VK->Prop) (to:TE):TE:=fun σ H Q=>to σ H fun x H1=>tyV K T x H1/\r x [] H1 Q
def tBM (K:PySem.W.Frag) (T:String) (r:V->List V->Hp->VK->Prop) (to:TE) (t:TA):TE:=fun σ H Q=>to σ H fun x H1=>tyV K T x H1/\t σ H1 fun xs H2=>r x xs H2 Q
variable {o e:Expr}{es:List Expr}{to:TE}{t:TA}{name:Str}{apos cpos:Pos}{T id:String}{r:V->List V->Hp->VK->Prop}
theorem zXw (pa:PlainAttrs T) (slot:Slot T name id) (hty:typeOf (.builtin id)=pure (.type "method_descriptor")) (hm:MtR X id r) (ho:PE X o to)
  (hbase:attributeBase o name X.env (eval o X.env)=eval o X.env:=by rfl) (hline:(apos.endLine == cpos.line)=true:=by rfl):PE X (.Call (.Attribute o name apos) [] [] cpos) (tBM0 X.K T r to):=by
 intro pins s σ H Q I h
 refine wpAny_Call_method0_late hbase hline (thn (ho pins s σ H _ I h) fun v s1 ⟨x,H1,I1,r1,ty,q1⟩=>?_)
 obtain⟨h1,h2⟩:=zSe I1 r1 ty
 exact⟨T,id,pa,slot,hty,h1,h2,Calls.callWith_builtin rfl (PySem.evalArgs_none (hm pins s1 σ H1 x [] v [] Q I1 r1 .nil q1))⟩
theorem zZm (pa:PlainAttrs T) (slot:Slot T name id) (hty:typeOf (.builtin id)=pure (.type "method_descriptor")) (hm:MtR X id r) (ho:PE X o to) (ha:PA X (e::es) t)
  (hbase:attributeBase o name X.env (eval o X.env)=eval o X.env:=by rfl)
  (hfew:((backTo cpos (starEach (e::es) X.env)).all (fun x=>!x.1) && (backToKw cpos (keywordEach [] X.env)).all (fun x=>x.1.isSome)
   && decide ((e::es).length+([]:List Keyword).length+(if([]:List Keyword).isEmpty then 0 else 1)<30))=true:=by rfl)
  (hline:(apos.endLine == cpos.line)=true:=by rfl) (hs:starEach (e::es) X.env=(false,eval e X.env)::starEach es X.env:=by rfl) (hplain:(backTo cpos (starEach es X.env)).any (·.1)=false:=by rfl):
  PE X (.Call (.Attribute o name apos) (e::es) [] cpos) (tBM X.K T r to t):=by
 intro pins s σ H Q I h
 refine wpAny_Call_method_late hbase hfew hline rfl (thn (ho pins s σ H _ I h) fun v s1 ⟨x,H1,I1,r1,ty,q1⟩=>?_)
 obtain⟨h1,h2⟩:=zSe I1 r1 ty
 refine⟨T,id,pa,slot,hty,h1,h2,?_⟩
 have hA:=ha cpos pins s1 σ H1 _ I1 q1
 rw[hs]at hA ⊢
 refine Calls.callWith_builtin (by show(false || (backTo cpos (starEach es X.env)).any (·.1))=false;rw[hplain] <;> rfl) (Calls.evalArgs_plain ?_)
 exact thn hA fun us s2 ⟨vs,H2,I2,r2,q2⟩=>hm pins s2 σ H2 x vs v us Q I2 r1 r2 q2
end
end L2
namespace L2
open PySem PySem.Spec PyProof.Rows
def MtM (X:Cx) (id:String) (r:V->List V->Hp->VK->Prop):Prop:=
 ∀(pins:List (Addr × Obj)) (s:Shared) (σ:St) (H:Hp) (x:V) (xs:List V) (v:Value) (us:List Value) (Q:VK),Inv X pins σ H s->RelV x v->Vals xs us->r x xs H Q->
  wpAny (model X.prog X.w) X.A (call (.builtin id) (v::us)) (EP X pins σ Q) X.xe s
theorem Vals.one:∀{x:V}{us:List Value},Vals [x] us->∃u,us=[u]/\RelV x u
 | _,_,.cons r .nil=>⟨_,rfl,r⟩
theorem Vals.zero:∀{us:List Value},Vals [] us->us=[]
 | _,.nil=>rfl
theorem Vals.dropLast {xs:List V}{us:List Value}(h:Vals xs us):Vals xs.dropLast us.dropLast:=by
 induction h with
 | nil=>exact .nil
 | cons r t ih=>
  cases t with
  | nil=>exact .nil
  | cons q t'=>exact .cons r ih
theorem Vals.eraseIdx:∀{xs:List V}{us:List Value}(i:Nat),Vals xs us->Vals (xs.eraseIdx i) (us.eraseIdx i)
 | _,_,_,.nil=>.nil
 | _,_,0,.cons _ t=>t
 | _,_,i+1,.cons r t=>.cons r (Vals.eraseIdx i t)
theorem Vals.reverse {xs:List V}{us:List Value}(h:Vals xs us):Vals xs.reverse us.reverse:=by
 induction h with
 | nil=>exact .nil
 | cons r t ih=>rw[List.reverse_cons,List.reverse_cons];exact Vals.append ih (.cons r .nil)
theorem zLy {α:Type}(l:List α):l.eraseIdx (l.length-1)=l.dropLast:=by
 induction l with
 | nil=>rfl
 | cons a r ih=>
  cases r with
  | nil=>rfl
  | cons b r=>
   have e:(a::b::r).length-1=((b::r).length-1)+1:=by
    have h1:(a::b::r).length=r.length+2:=rfl
    have h2:(b::r).length=r.length+1:=rfl
    lia
   rw[e,List.eraseIdx_cons_succ,ih]
   all_goals rfl
section
variable {X:Cx}{pins:List (Addr × Obj)}{σ:St}{H:Hp}{s:Shared}{l b:Addr}{xs ys zs:List V}
theorem Inv.lset {its its':List Value}{n:Nat}{f:Array Value->Array Value}{t':Nat}(I:Inv X pins σ H s) (hH:H l=some (.lst xs))
  (e:s.heap.get? l=some { cls:=.type "list",data:=.seq its.toArray n }) (hf:f its.toArray=its'.toArray) (hv:Vals ys its') (hz:ys.length<=sizeLine):
  Inv X pins σ (upd H l (.lst ys)) { s with heap:=s.heap.update l (Obj.mapSeq f),toks:=t' }:=by
 have q:=PySem.IsL.update e f
 rw[hf]at q
 refine I.write (x:=l) (e:=l) (by rw[hH];exact trivial) (.inl rfl) (fun b' u hb hu=>(Heap.get?_update_other s.heap (Obj.mapSeq f) (Ne.symm hb)).trans hu) ⟨_,q⟩ ?_
 exact⟨hz,its',_,hv,q⟩
theorem Inv.lnew {its:List Value}{t':Nat}(I:Inv X pins σ H s) (hv:Vals ys its) (hz:ys.length<=sizeLine):
  Inv X pins σ (upd H s.heap.objs.size (.lst ys)) { s with heap:=s.heap.push { cls:=.type "list",data:=.seq its.toArray },toks:=t' }:=
 I.laid (fun _ _ q=>Heap.get?_push_of_some _ q) (Nat.le_refl _) ⟨hz,its,0,hv,Heap.get?_push_size _ rfl⟩
theorem Inv.fresh (I:Inv X pins σ H s):H s.heap.objs.size=none:=I.hok.fresh (Nat.le_refl _)
theorem Inv.lstM (I:Inv X pins σ H s) (hH:H l=some (.lst xs)):xs.length<=sizeLine/\∃(its:List Value) (n:Nat),Vals xs its/\xs.length=its.length/\s.heap.get? l=some { cls:=.type "list",data:=.seq its.toArray n }:=by
 obtain⟨z,its,n,r,e⟩:=I.hok l _ hH
 exact⟨z,its,n,r,r.length,e⟩
end
section
variable {X:Cx}
def zU3:V->List V->Hp->VK->Prop:=fun x vs H Q=>∃l xs y,x=.ref l/\vs=[y]/\H l=some (.lst xs)/\xs.length<sizeLine/\Q .non (upd H l (.lst (xs++[y])))
theorem zNx:MtM X "list.append" zU3:=by
 intro pins s σ H x vs v us Q I rx rv h
 obtain⟨l,xs,y,rfl,rfl,hH,hz,q⟩:=h
 cases rx
 obtain⟨u,rfl,ru⟩:=rv.one
 obtain⟨z,its,n,r,hl,e⟩:=I.lstM hH
 refine call_meets F.slot_list_append ⟨_,e,rfl⟩ F.entry_list_append (F.args_list_append_2 _ _) (PySem.list_append l its.toArray n u (by rw[List.size_toArray];lia)) ⟨e,?_⟩
 refine⟨.non,_,I.lset (its':=its++[u]) hH e (by simp) (r.append (.cons ru .nil)) ?_,rfl,q⟩
 rw[List.length_append,List.length_singleton]
 lia
def rPop:V->List V->Hp->VK->Prop:=fun x vs H Q=>∃l xs y,x=.ref l/\vs=[]/\H l=some (.lst xs)/\xs[xs.length-1]?=some y/\Q y (upd H l (.lst xs.dropLast))
theorem zY8:MtM X "list.pop" rPop:=by
 intro pins s σ H x vs v us Q I rx rv h
 obtain⟨l,xs,y,rfl,rfl,hH,hy,q⟩:=h
 cases rx
 have hus:=rv.zero
 subst hus
 obtain⟨z,its,n,r,hl,e⟩:=I.lstM hH
 obtain⟨u,hu,ru⟩:=r.get hy
 have hy':its.toArray[its.toArray.size-1]?=some u:=by
  show its.toArray[its.length-1]?=some u
  rw[<- Array.getElem?_toList,<- hl]
  exact hu
 refine call_meets F.slot_list_pop ⟨_,e,rfl⟩ F.entry_list_pop (F.args_list_pop_1 _) (MeetsSeq.list_pop_last l its.toArray n u hy' (by rw[List.size_toArray];lia)) ⟨e,?_⟩
 refine⟨y,_,I.lset (its':=its.dropLast) hH e ?_ r.dropLast ?_,ru,q⟩
 ·show its.toArray.eraseIdxIfInBounds (its.toArray.size-1)=its.dropLast.toArray
  rw[List.size_toArray,List.eraseIdxIfInBounds_toArray,zLy]
 ·rw[List.length_dropLast]
  lia
end
end L2
namespace Att
open PySem PySem.W PySem.Calls PyProof.Rows
theorem zFh {P:Params}{h:Heap}:∀(ns:List Int) (vs:List Value),WellAll P h vs (ns.map WData.int)->IntsAre vs ns:=by
 intro ns
 induction ns with
 | nil=>
  intro vs w
  rw[List.map_nil]at w
  cases w
  exact .nil
 | cons n ns ih=>
  intro vs w
  rw[List.map_cons]at w
  cases w with
  | cons a b=>
   cases a
   exact .cons _ _ (ih _ b)
theorem zMy {l:OpenLaw}{n:Nat}(hn:l.most=some n) {P:Params}{h:Heap}{args:List WData}{vals:List Value}
  (hpre:l.row.toRowW.claim.pre args=true) (hwl:WellAll P h vals args):
  ∃a vs ns,vals=[Value.ref a]/\args=[WData.list (ns.map WData.int)]/\h.get? a=some { cls:=.type "list",data:=.seq vs.toArray }/\IntsAre vs ns/\ns.length<=n:=by
 have hsh:WShape.hasAll [] args [.list .int]=true:=(pre_splitW hpre).1
 have hc:l.pre.holds [] { args:=args }=true:=(pre_splitW hpre).2
 obtain⟨d,r,rfl,h1,h2⟩:=hasAllW_cons hsh
 obtain rfl:=hasAllW_nil h2
 obtain⟨xs,rfl,h3⟩:=hasW_list h1
 obtain⟨ns,rfl⟩:=items_int h3
 have hlen:ns.length<=n:=by
  unfold OpenLaw.pre at hc
  have h4:(WTm.not (.lt (.lit (.int (n:Int))) (.len (.arg 0)))).holds [] { args:=[.list (ns.map .int)] }=true:=by
   have h4:=(holds_andW hc).1
   rw[hn]at h4
   exact h4
  have h5:=condW_of h4 (w_not (w_lt w_lit (w_len_list (w_arg rfl))))
  rw[List.length_map]at h5
  refine Nat.le_of_not_lt fun q=>?_
  have q':(n:Int)<((ns.length:Nat):Int):=by first|assumption|lia
  first
   | (rw[decide_eq_true q']at h5;exact absurd h5 (by decide))
   | (simp at h5;lia)
 cases hwl with
 | cons w1 w2=>
  cases w2
  cases w1 with
  | list ho hall=>exact⟨_,_,ns,rfl,rfl,ho,zFh ns _ hall,hlen⟩
theorem zN7 (l:OpenLaw) (args:List WData):l.row.toRowW.claim.post args (.bool true) args=true:=
 postW_of (r:=l.row.toRowW) (X:=(true == true))
  (show WShape.has [] (.bool true) .bool=true by first|rfl|decide|simp[WShape.has,WShape.arms,WShape.armsAll])
  (show(WTm.eq .res (.lit (.bool true))).value [] { args:=args,res:=some (.bool true),after:=args }=some (.bool (true == true))from w_eq_bool (w_res rfl) w_lit) rfl
theorem attach_call {l:OpenLaw}{n:Nat}{q:Program}{loose:List Str}{XP:(Str->Option Value)->Heap->Prop}{YP:World->Heap->Prop}{d:DefRec}
  (hn:l.most=some n) (hdf:d.params.defaults=[])
  (call:∀(w:World) (s₀ s₁:Shared) (mg mb:Str->Option Value) (fa:Addr) (o:Obj) (pm cd doc:Value) (a:Addr) (vs:List Value) (ns:List Int),
   Ground q loose [] XP w s₀ mg mb s₁.heap->YP w s₁.heap->
   s₁.heap.get? fa=some o->o.data=.func (docDef d.name d.params d.body d.scope pm cd doc)->s₁.heap.CodeRec cd d.name->mg d.name=some (.ref fa)->
   s₁.heap.get? a=some { cls:=.type "list",data:=.seq vs.toArray }->IntsAre vs ns->ns.length<=n->s₁.gens=#[]->
   codeAny (model l.prog w) callerA (.call (.ref fa) ⟨[.ref a],[]⟩) (fun r s'=>r=.ok (.ret (.bool true))/\OldK s₁.heap s'.heap/\s'.os=s₁.os/\AllBare s'.gens) s₁):
  WalkO q loose XP YP l.row.toRowW d [] (fun f vs=>PySem.call f vs):=by
 intro w s₀ s₁ mg mb G Y fa o pm cd doc dV kV ho hd hcd hD hmg hg args vals as hpre hlay hrd hwl hlo
 obtain rfl:dV=.none:=Dflts.none hD hdf
 obtain rfl:kV=.none:=Dflts.noKw hD
 obtain⟨a,vs,ns,rfl,rfl,hobj,hints,hlen⟩:=zMy hn hpre hwl
 refine enter_call (codeAny_mono (call w s₀ s₁ mg mb fa o pm cd doc a vs ns G Y ho (fd_plain hd) hcd hmg hobj hints hlen hg) fun r s' hq=>?_)
 obtain⟨rfl,h2,h3,h4⟩:=hq
 exact⟨.inl ⟨.bool true,.bool true,[],rfl,fun _=>rfl,.bool true,zN7 l _,fun _=>⟨List.Pairwise.nil,fun _ hm=>(nomatch hm)⟩⟩,h2,h3,h4⟩
end Att
namespace L2
open PySem PySem.Spec PyProof.Rows
theorem zI1:∀{vs:List Value}{ns:List Int},IntsAre vs ns->Vals (ns.map V.int) vs
 | _,_,.nil=>.nil
 | _,_,.cons n t h=>.cons ⟨t,rfl⟩ (zI1 h)
def Only (H:Hp):Prop:=∀b,H b=none\/∃o xs,H b=some (.frz o (.lst xs))
theorem law_call {P:Program}{w:World}{K:PySem.W.Frag}{mg mb:Str->Option Value}{CX:CXT}{k:Nat}{fa a:Addr}{fd:FuncData}{x:Str}{sp:Sp}{s₁:Shared}{vs:List Value}{ns:List Int}
  (KX:K.In s₁.heap) (hns:s₁.heap.Ns mainGlobals mg) (hb:s₁.heap.Ns builtinsNs mb) (hbb:∀x:Str,x≠"__name__"->mb x=bootBuiltins x) (hlim:s₁.heap.NoLimit) (hg:s₁.gens=#[])
  (ha:s₁.heap.get? a=some { cls:=.type "list",data:=.seq vs.toArray }) (hi:IntsAre vs ns) (hl:ns.length<=sizeLine) (hr:Room k callerA)
  (F:∀base:Heap,K.In base->base.Ns mainGlobals mg->FnOk P w K mg base CX k fa fd [x] sp) (hbind:∀(s:Shared) (u:Value),BindsTo s fd ⟨[u],[]⟩ [(x,u)])
  (hsp:∀H:Hp,Only H->SqL K H a (ns.map V.int)->sp [.ref a] H (fun v _=>v=.bl true) fun _ _ _=>False)
  (hCX:∀H e s',CX [] H s₁ (fun _ _ _=>False) e s'->False):
  codeAny (model P w) callerA (.call (.ref fa) ⟨[.ref a],[]⟩) (fun r s'=>r=.ok (.ret (.bool true))/\OldK s₁.heap s'.heap/\s'.os=s₁.os/\AllBare s'.gens) s₁:=by
 have rv:=zI1 hi
 have lenV:=hi.length
 -- from an abstract heap in which nothing but the script may be tracked
 have core:∀H:Hp,Only H->SqL K H a (ns.map V.int)->HOk P w H s₁.heap->(∀b,H b≠none->b=a)->(H a≠none->K.lookup a=none)->
   codeAny (model P w) callerA (.call (.ref fa) ⟨[.ref a],[]⟩) (fun r s'=>r=.ok (.ret (.bool true))/\OldK s₁.heap s'.heap/\s'.os=s₁.os/\AllBare s'.gens) s₁:=by
  intro H hO hS hok hA hK
  have zFo:∀{b:Addr}{o:Obj},s₁.heap.get? b=some o->H b=none->(hidT s₁.heap H).get? b=some o:=fun e n=>zRg e n
  have noA:∀{b:Addr}{o:Obj}{es:Array DictEntry}{ep:Nat},s₁.heap.get? b=some o->o.data=.dict es ep->H b=none:=fun {b o es ep} e d=>by
   cases q:H b with
   | none=>rfl
   | some u=>
    have e':b=a:=hA b (by rw[q];simp)
    subst e'
    rw[ha]at e;cases e
    have d':Data.seq vs.toArray _=Data.dict es ep:=d
    cases d'
  have nsK:∀{b:Addr}{m:Str->Option Value},s₁.heap.Ns b m->(hidT s₁.heap H).Ns b m:=fun {b m} ⟨o,es,ep,e,d,r⟩=>⟨o,es,ep,zFo e (noA e d),d,r⟩
  have hKb:K.In (hidT s₁.heap H):=fun b o e=>zFo (KX b o e) (by
   cases q:H b with
   | none=>rfl
   | some u=>
    have e':b=a:=hA b (by rw[q];simp)
    subst e'
    rw[hK (by rw[q];simp)]at e;cases e)
  have hM:Mod K mg (hidT s₁.heap H):=⟨hKb,nsK hns,⟨mb,nsK hb,hbb⟩,let ⟨mc,h1,h2⟩:=hlim;⟨mc,nsK h1,h2⟩⟩
  have e0:Env0 P w K mg (hidT s₁.heap H) callerA [] s₁ H:=⟨rfl,hM,fun b o e=>zV2 e,Nat.le_of_eq (zOj _ _),trivial,fun b hb=>absurd (show b∈([]:List Addr)from hb) (by simp),hok,.of_eq hg⟩
  refine codeAny_mono ((F _ hKb (nsK hns)).run callerA [] s₁ H ⟨[.ref a],[]⟩ [.ref a] [.ref a] _ _ hr e0 (hbind s₁ (.ref a)) (.cons rfl .nil) (hsp H hO hS)) fun r s' h=>?_
  cases r with
  | error e=>exact(hCX H e s' h).elim
  | ok fl=>
   cases fl with
   | next=>exact False.elim h
   | brk=>exact False.elim h
   | cont=>exact False.elim h
   | ret u=>
    obtain⟨v,H',os,bare,un,hok',r',q⟩:=h
    have q':v=.bl true:=q
    subst q'
    obtain rfl:u=Value.bool true:=r'
    refine⟨rfl,OldK.of_keep fun b o e=>?_,os,bare⟩
    cases q:H b with
    | none=>exact un.keep b o e q (by intro z;exact absurd (show b∈([]:List Addr)from z) (by simp)) (by simp)
    | some u=>
     rcases hO b with z|⟨ob,xs,z⟩
     ·rw[q]at z;cases z
     ·have z2:=un.frzs b ob _ z
      obtain⟨e1,_⟩:=hok b _ z
      obtain⟨e2,_⟩:=hok' b _ z2
      rw[e]at e1;cases e1
      exact e2
 cases hk:K.lookup a with
 | some o=>
  -- the script is one of the module's own objects
  have e:=KX a o hk
  rw[ha]at e
  cases e
  refine core (fun _=>none) (fun _=>.inl rfl) (.inr ⟨_,vs.toArray,_,hk,rfl,rfl,rfl,by rw[List.size_toArray,lenV];exact hl,by simpa using rv⟩) (fun b u z=>by have z':(none:Option HO)=some u:=z;cases z') (fun b z=>absurd rfl z) fun z=>absurd rfl z
 | none=>
  refine core (fun b=>if b=a then some (.frz { cls:=.type "list",data:=.seq vs.toArray } (.lst (ns.map V.int)))else none) (fun b=>?_) (.inl (.inr ⟨{ cls:=.type "list",data:=.seq vs.toArray },if_pos rfl⟩)) (fun b u z=>?_) (fun b z=>?_) fun _=>hk
  ·by_cases hb:b=a
   ·exact .inr ⟨_,_,if_pos hb⟩
   ·exact .inl (if_neg hb)
  ·by_cases hb:b=a
   ·have z':=(if_pos hb).symm.trans z
    cases z'
    subst hb
    exact⟨ha,by rw[List.length_map];exact hl,vs,_,rv,ha⟩
   ·have z':=(if_neg hb).symm.trans z
    cases z'
  ·by_cases hb:b=a
   ·exact hb
   ·exact absurd (if_neg hb) z
end L2
namespace L2
open PySem PySem.Spec PyProof.Rows
theorem walk_of {l:PySem.W.OpenLaw}{n k:Nat}{q:Program}{loose:List Str}{XP:(Str->Option Value)->Heap->Prop}{YP:World->Heap->Prop}{d:DefRec}{K:Params->PySem.W.Frag}{CX:World->CXT}{sp:World->Sp}{x:Str}
  (hn:l.most=some n) (hn2:n<=sizeLine) (hdf:d.params.defaults=[]) (hr:Room k callerA)
  (hY:∀(w:World) (h:Heap),YP w h->(K w.params).In h)
  (F:∀(w:World) (mg:Str->Option Value) (fa:Addr) (h:Heap),(K w.params).In h->h.Ns mainGlobals mg->mg d.name=some (.ref fa)->
   ∃fd:FuncData,(∀(s:Shared) (u:Value),BindsTo s fd ⟨[u],[]⟩ [(x,u)]) /\
    ∀base:Heap,(K w.params).In base->base.Ns mainGlobals mg->FnOk l.prog w (K w.params) mg base (CX w) k fa fd [x] (sp w))
  (hsp:∀(w:World) (H:Hp) (a:Addr) (ns:List Int),ns.length<=n->Only H->SqL (K w.params) H a (ns.map V.int)->sp w [.ref a] H (fun v _=>v=.bl true) fun _ _ _=>False)
  (hCX:∀(w:World) (H:Hp) (s:Shared) (e:Value) (s':Shared),CX w [] H s (fun _ _ _=>False) e s'->False):
  PySem.W.WalkO q loose XP YP l.row.toRowW d [] (fun f vs=>PySem.call f vs):=by
 refine Att.attach_call hn hdf fun w s₀ s₁ mg mb fa o pm cd doc a vs ns G Y ho hd hcd hmg hobj hints hlen hg=>?_
 have KX:=hY w _ Y
 obtain⟨fd,hb,hF⟩:=F w mg fa _ KX G.T.g hmg
 exact law_call KX G.T.g G.T.b G.T.builtins G.T.nolimit hg hobj hints (Nat.le_trans hlen hn2) hr hF hb (fun H hO hS=>hsp w H a ns hlen hO hS) fun H e s'=>hCX w H s₁ e s'
end L2
namespace L2
open PySem PySem.Spec PyProof.Rows
def zEb (s:Stmt):Arguments:=match s with
 | .FunctionDef _ a _ _ _ _ _ _ _ _=>a
 | _=>{ posonlyargs:=[],args:=[],vararg:=none,kwonlyargs:=[],kw_defaults:=[],kwarg:=none,defaults:=[] }
def zCi (s:Stmt):List Stmt:=match s with
 | .FunctionDef _ _ b _ _ _ _ _ _ _=>b
 | _=>[]
def zA6 (s:Stmt):Scope:=match s with
 | .FunctionDef _ _ _ _ _ _ sc _ _ _=>sc
 | _=>{ kind:=.function,names:=[],isGenerator:=false,isCoroutine:=false }
abbrev CX0:CXT:=fun _ _ _ _ _ _=>False
abbrev E0:XK:=fun _ _ _=>False
theorem pass0 {X:Cx}:Passes CX0 X E0:=fun _ _ _ _ _ _ _ h=>h.elim
structure Fun (K:PySem.W.Frag) (x qual:Str) (st:Stmt) (f:Addr) (fd:FuncData):Prop where
 ex:∃(oc:Value) (od:Option Addr) (kV doc pm:Value) (an:Option Addr) (cdv ct:Value) (osl:Array (Option Value)),
  fd=PySem.W.fnOf x qual (zEb st) (zCi st) (zA6 st) .none kV doc pm an cdv ct/\K.lookup f=some ⟨oc,od,.func fd,osl⟩/\PySem.W.codeIn K cdv qual=true
 kp:PySem.W.keepIn K (.ref f)=true
section
variable {P:Program}{w:World}{K:PySem.W.Frag}{mg:Str->Option Value}{base:Heap}
theorem Fun.ok {x qual:Str}{st:Stmt}{f:Addr}{fd:FuncData}{N ps:List Str}{k:Nat}{sp:Sp}(F:Fun K x qual st f fd) (S:zAl N ps (zA6 st)) (len:∀vs H Q E,sp vs H Q E->vs.length=ps.length)
  (hbody:∀(cdv:Value) (A:Around) (outer:List Env) (s:Shared) (H:Hp) (vs:List V) (Q:VK) (E:XK),Room k (A.deeper (envOfC qual (zA6 st) s.heap.objs.size f cdv))->sp vs H Q E->
   ∃t,PSs (cxOf CX0 P w K mg base N qual (zA6 st) f cdv A outer s H E).nox (zCi st) t/\t { nx:=fun _ H'=>Q .non H',rt:=Q } (start N vs) H):FnOk P w K mg base CX0 (k+1) f fd ps sp:=by
 obtain⟨oc,od,kV,doc,pm,an,cdv,ct,osl,rfl,lk,hcd⟩:=F.ex
 refine zZw lk hcd S len fun A outer s H vs Q E hr hsp=>?_
 obtain⟨t,h,q⟩:=hbody cdv A outer s H vs Q E hr hsp
 exact⟨t,h.nox,q⟩
theorem Fun.binds {x qual:Str}{st:Stmt}{f:Addr}{fd:FuncData}{ps:List Str}(F:Fun K x qual st f fd)
  (h:∀(kV doc pm:Value) (an:Option Addr) (cdv ct:Value) (us:List Value),us.length=ps.length->bindArgs (PySem.W.fnOf x qual (zEb st) (zCi st) (zA6 st) .none kV doc pm an cdv ct) ⟨us,[]⟩=pure (ps.zip us)):Binds K fd ps []:=by
 obtain⟨oc,od,kV,doc,pm,an,cdv,ct,osl,rfl,lk,hcd⟩:=F.ex
 exact .all (h kV doc pm an cdv ct)
theorem zAv {x qual:Str}{st:Stmt}{f:Addr}{oc:Value}{od an:Option Addr}{osl:Array (Option Value)}{kV doc pm cdv ct:Value}(l:K.lookup f=some ⟨oc,od,.func (PySem.W.fnOf x qual (zEb st) (zCi st) (zA6 st) .none kV doc pm an cdv ct),osl⟩)
  (c:PySem.W.codeIn K cdv qual=true) (k:PySem.W.keepIn K (.ref f)=true):Fun K x qual st f (PySem.W.fnOf x qual (zEb st) (zCi st) (zA6 st) .none kV doc pm an cdv ct):=⟨⟨oc,od,kV,doc,pm,an,cdv,ct,osl,rfl,l,c⟩,k⟩
end
theorem zBq {A:Around}{k:Nat}(hr:Room k A):A.units+1<cLine:=Nat.lt_of_le_of_lt (Nat.add_le_add_left (by decide:1<=64) _) hr.units
section
variable {X:Cx}
theorem pv (i:Nat) {x:Str}{pos:Pos}(hN:X.N[i]?=some x:=by rfl) (hv:Vis X.env.scope x:=by first|exact Or.inl rfl|exact Or.inr (Or.inl rfl)|exact Or.inr (Or.inr rfl)) (hd:(x == ("__debug__":Str))=false:=by decide)
  (hcd:(x == ("__classdict__":Str))=false:=by decide):PE X (.Name x pos) (tVar i):=zXm hN hv hd hcd
end
def Same (H H':Hp):Prop:=∀b o,H b=some o->H' b=some o
theorem Same.seq {K:PySem.W.Frag}{H H':Hp}{a:Addr}{xs:List V}(e:Same H H') (h:SqL K H a xs):SqL K H' a xs:=by
 rcases h with(h|⟨o,h⟩)|h
 ·exact .inl (.inl (e _ _ h))
 ·exact .inl (.inr ⟨o,e _ _ h⟩)
 ·exact .inr h
end L2
namespace L2
open PySem PySem.Spec PyProof.Rows
section
variable {prog:Program}{w:World}{A:Around}{R:Result->Shared->Prop}{s:Shared}
theorem zIh {elt target iter:Expr}{ifs:List Expr}{scope:Scope}{pos:Pos}{it acc:Value}{env:Env}(I:Nat->Shared->Prop)
  (turn:∀n s,I n s->wpAny (model prog w) A (pyNext it) (fun r s₁=>match r with
   | none=>R (.ok .next) s₁
   | some v=>wpAny (model prog w) A (letOwnedTupleGo target it v) (fun _ s₂=>wpAny (model prog w) A (assign target env v) (fun _ s₂=>
     wpAny (model prog w) A (forIn ifs true fun c r=>if r=true then do let ok <- isTrue c env (eval c env);pure (ForInStep.yield ok)else pure (ForInStep.yield r)) (fun ok s₃=>
      if ok=true then wpAny (model prog w) A (eval elt env) (fun x s₄=>
       wpAny (model prog w) A (call (.builtin "list.append") [acc,x]) (fun _ s₅=>∃m,m<n/\I m s₅) (fun _ _=>False) s₄) (fun _ _=>False) s₃
      else ∃m,m<n/\I m s₃) (fun _ _=>False) s₂) (fun _ _=>False) s₂) (fun _ _=>False) s₁) (fun _ _=>False) s)
  (n:Nat) (h:I n s):
  codeAny (model prog w) A (.compLoop (.ListComp elt [⟨target,iter,ifs,0⟩] scope pos) 0 it acc env) R s:=by
 refine codeAny_loop rfl I (fun n s hI=>?_) n h
 show wpAny _ A ((compTurn (.ListComp elt [⟨target,iter,ifs,0⟩] scope pos) 0 it acc env).onRaise (fun x=>do noteFrame x env;theTreesLotGoes x)) _ _ s
 refine wpAny_noted ?_
 rw[compTurn_list]
 refine wpAny_bind (wpAny_standAt (wpAny_bind (wpAny_mono (turn n s hI) (fun r s₁ h₁=>?_) fun _ _ h'=>h'.elim)))
 cases r with
 | none=>exact wpAny_pure h₁
 | some v=>
  refine wpAny_bind (wpAny_mono h₁ (fun _ s₁' h₁=>?_) fun _ _ h'=>h'.elim)
  refine wpAny_bind (wpAny_mono h₁ (fun _ s₂ h₂=>wpAny_bind (wpAny_mono h₂ (fun ok s₃ h₃=>?_) fun _ _ h'=>h'.elim)) fun _ _ h'=>h'.elim)
  cases ok with
  | false=>exact wpAny_pure ⟨rfl,h₃⟩
  | true=>
   exact wpAny_bind (wpAny_bind (wpAny_mono h₃ (fun x s₄ h₄=>wpAny_bind (wpAny_mono h₄ (fun _ s₅ h₅=>wpAny_pure (wpAny_pure ⟨rfl,h₅⟩)) fun _ _ h'=>h'.elim)) fun _ _ h'=>h'.elim))
end
theorem zM3 {env:Env}:∀(names:List (Str × NameKind)) (cs:List (Str × Addr)),(∀y∈names,y.2=.free->∃c,env.cells.lookup y.1=some c)->∃cl:List (Str × Addr),
  (forIn names cs fun x r=>(match x,r with|(name,kind),cs=>if(kind == NameKind.free)=true then do let c <- cellOf env name;pure (ForInStep.yield ((name,c)::cs))else pure (ForInStep.yield cs)):Sem (List (Str × Addr)))=pure cl /\
  (∀x c,cl.lookup x=some c->cs.lookup x=some c\/env.cells.lookup x=some c)/\(∀x c,cs.lookup x=some c->∃c',cl.lookup x=some c')/\∀y∈names,y.2=.free->∃c,cl.lookup y.1=some c:=by
 intro names
 induction names with
 | nil=>intro cs _;exact⟨cs,rfl,fun _ _ h=>.inl h,fun x c h=>⟨c,h⟩,fun _ h=>nomatch h⟩
 | cons y r ih=>
  intro cs h
  obtain⟨n,k⟩:=y
  have hr:∀y∈r,y.2=.free->∃c,env.cells.lookup y.1=some c:=fun y hy=>h y (List.mem_cons_of_mem _ hy)
  by_cases hk:k=.free
  ·subst hk
   obtain⟨c,hc⟩:=h (n,.free) List.mem_cons_self rfl
   obtain⟨cl,e,h1,h2,h3⟩:=ih ((n,c)::cs) hr
   refine⟨cl,?_,fun x d hx=>?_,fun x d hx=>?_,fun y hy hf=>?_⟩
   ·rw[List.forIn_cons]
    have hcell:cellOf env n=(pure c:Sem Addr):=by simp only[cellOf,hc]
    simp only[beq_self_eq_true,if_true,hcell]
    simpa using e
   ·rcases h1 x d hx with z|z
    ·rw[List.lookup_cons]at z
     by_cases hxn:(x == n)=true
     ·rw[hxn]at z;simp at z;subst z
      have:x=n:=by simpa using hxn
      subst this;exact .inr hc
     ·rw[Bool.not_eq_true]at hxn;rw[hxn]at z;exact .inl z
    ·exact .inr z
   ·by_cases hxn:(x == n)=true
    ·exact h2 x c (by rw[List.lookup_cons,hxn])
    ·rw[Bool.not_eq_true]at hxn
     exact h2 x d (by rw[List.lookup_cons,hxn];exact hx)
   ·rcases List.mem_cons.mp hy with z|z
    ·subst z;exact h2 n c (by rw[List.lookup_cons];simp)
    ·exact h3 y z hf
  ·have hb:(k == NameKind.free)=false:=by simpa using hk
   obtain⟨cl,e,h1,h2,h3⟩:=ih cs hr
   refine⟨cl,?_,h1,h2,fun y hy hf=>?_⟩
   ·rw[List.forIn_cons]
    simp only[hb,Bool.false_eq_true,if_false]
    simpa using e
   ·rcases List.mem_cons.mp hy with z|z
    ·subst z;exact absurd hf hk
    ·exact h3 y z hf
theorem zE2 {scope:Scope}{env:Env}(h:∀y∈scope.names,y.2=.free->∃c,env.cells.lookup y.1=some c):∃cl:List (Str × Addr),closureFor scope env=pure cl /\
  (∀x c,cl.lookup x=some c->env.cells.lookup x=some c)/\∀y∈scope.names,y.2=.free->∃c,cl.lookup y.1=some c:=by
 obtain⟨cl,e,h1,_,h3⟩:=zM3 (env:=env) scope.names [] h
 refine⟨cl,?_,fun x c hx=>(h1 x c hx).elim (fun z=>nomatch z) id,h3⟩
 simp only[closureFor]
 rw[e]
 rfl
theorem zEi {scope:Scope}{env:Env}{x:Str}(h:(relabel scope env).names.lookup x=some .cell\/(relabel scope env).names.lookup x=some .free):∃y∈scope.names,y.1=x/\(y.2=.free\/y.2=.cell):=by
 have key:∀(l:List (Str × NameKind)),((l.map fun(n,k)=>if(k == NameKind.free && env.scope.kind == .function && env.kindOf n == some .cell)then(n,NameKind.cell)else(n,k)).lookup x=some .cell \/
   (l.map fun(n,k)=>if(k == NameKind.free && env.scope.kind == .function && env.kindOf n == some .cell)then(n,NameKind.cell)else(n,k)).lookup x=some .free)->∃y∈l,y.1=x/\(y.2=.free\/y.2=.cell):=by
  intro l
  induction l with
  | nil=>intro h;rcases h with h|h <;> simp at h
  | cons y r ih=>
   intro h
   obtain⟨n,k⟩:=y
   by_cases hb:(k == NameKind.free && env.scope.kind == .function && env.kindOf n == some .cell)=true
   ·have kf:k=.free:=by simp at hb;exact hb.1.1
    by_cases hx:(x == n)=true
    ·have:x=n:=by simpa using hx
     exact⟨(n,k),List.mem_cons_self,this.symm,.inl kf⟩
    ·rw[Bool.not_eq_true]at hx
     simp only[List.map_cons,hb,if_true,List.lookup_cons,hx]at h
     obtain⟨y,hy,z⟩:=ih h
     exact⟨y,List.mem_cons_of_mem _ hy,z⟩
   ·rw[Bool.not_eq_true]at hb
    by_cases hx:(x == n)=true
    ·have e:x=n:=by simpa using hx
     simp only[List.map_cons,hb,List.lookup_cons,hx,Bool.false_eq_true,if_false]at h
     rcases h with h|h
     ·exact⟨(n,k),List.mem_cons_self,e.symm,.inr (Option.some.inj h)⟩
     ·exact⟨(n,k),List.mem_cons_self,e.symm,.inl (Option.some.inj h)⟩
    ·rw[Bool.not_eq_true]at hx
     simp only[List.map_cons,hb,List.lookup_cons,hx,Bool.false_eq_true,if_false]at h
     obtain⟨y,hy,z⟩:=ih h
     exact⟨y,List.mem_cons_of_mem _ hy,z⟩
 exact key scope.names h
def zAm (X:Cx) (N:List Str) (scope:Scope) (cl:List (Str × Addr)) (C:Addr) (s:Shared) (H:Hp) (fp:List Addr):Cx where
 prog:=X.prog
 w:=X.w
 K:=X.K
 mg:=X.mg
 base:=X.base
 A:=X.A
 N:=N
 s₀:=s
 H₀:=H
 env:=compEnvC scope cl C X.env
 outer:=X.stack
 stack:=X.stack
 ex:=fp
 fn:=fun x=>scope.names.lookup x == some .cell
 calm:=X.calm
 pn:=[]
 xe:=fun _ _=>False
structure CompScope (X:Cx) (own fre:List Str) (ix:List Nat) (scope:Scope):Prop where
 kind:scope.kind=.function
 cell:∀y∈scope.names,y.2=.cell->scope.names.lookup y.1=some .cell
 loc:∀y∈scope.names,y.2=.local->scope.names.lookup y.1=some .local
 fr:∀y∈scope.names,y.2=.free->X.env.kindOf y.1=some .cell\/X.env.kindOf y.1=some .free
 len:fre.length=ix.length
 at_:∀(j:Nat) (i:Nat) (x:Str),fre[j]?=some x->ix[j]?=some i->X.N[i]?=some x/\(X.env.kindOf x=some .cell\/X.env.kindOf x=some .free)
 vis:∀x∈fre,(relabel scope X.env).names.lookup x=some .cell\/(relabel scope X.env).names.lookup x=some .free
 fno:∀x∈fre,scope.names.lookup x≠some .cell
def zKc (scope sc:Scope):Scope:=
 { scope with names:=scope.names.map fun(n,k)=>if(k == .free && sc.kind == .function && sc.names.lookup n == some .cell)then(n,.cell)else(n,k) }
def zBn (o:Option NameKind):Bool:=o == some .cell || o == some .free
theorem zC4 {o:Option NameKind}(h:zBn o=true):o=some .cell\/o=some .free:=by
 simpa[zBn]using h
def zTb (sc:Scope) (N own fre:List Str) (ix:List Nat) (scope:Scope):Bool:=
 (scope.kind == .function) && (scope.names.all fun y=>y.2 != .cell || scope.names.lookup y.1 == some .cell) && (scope.names.all fun y=>y.2 != .local || scope.names.lookup y.1 == some .local) &&
 (scope.names.all fun y=>y.2 != .free || zBn (sc.names.lookup y.1)) && (fre.length == ix.length) && ((fre.zip ix).all fun p=>N[p.2]? == some p.1 && zBn (sc.names.lookup p.1)) &&
 (fre.all fun x=>zBn ((zKc scope sc).names.lookup x)) && fre.all fun x=>scope.names.lookup x != some .cell
theorem CompScope.mk' {X:Cx}{N own fre:List Str}{ix:List Nat}{scope sc:Scope}(hs:X.env.scope=sc) (hN:X.N=N) (h:zTb sc N own fre ix scope=true):CompScope X own fre ix scope:=by
 simp only[zTb,Bool.and_eq_true]at h
 obtain⟨⟨⟨⟨⟨⟨⟨h1,h2⟩,h3⟩,h4⟩,h5⟩,h6⟩,h7⟩,h8⟩:=h
 subst hs
 subst hN
 refine⟨by simpa using h1,fun y hy hl=>?_,fun y hy hl=>?_,fun y hy hl=>?_,by simpa using h5,fun j i x e1 e2=>?_,fun x hx=>?_,fun x hx=>?_⟩
 ·have:=List.all_eq_true.mp h2 y hy
  rw[hl]at this
  simpa using this
 ·have:=List.all_eq_true.mp h3 y hy
  rw[hl]at this
  simpa using this
 ·have:=List.all_eq_true.mp h4 y hy
  rw[hl]at this
  exact zC4 (show zBn (X.env.scope.names.lookup y.1)=true by simpa using this)
 ·have hz:(x,i)∈fre.zip ix:=by
   refine List.mem_iff_getElem?.mpr ⟨j,?_⟩
   rw[List.getElem?_zip_eq_some]
   exact⟨e1,e2⟩
  have:=List.all_eq_true.mp h6 (x,i) hz
  simp only[Bool.and_eq_true]at this
  exact⟨by simpa using this.1,zC4 this.2⟩
 ·exact zC4 (List.all_eq_true.mp h7 x hx)
 ·have:=List.all_eq_true.mp h8 x hx
  simpa using this
section
variable {M:Model}{A:Around}{E:Value->Shared->Prop}{s:Shared}
theorem zP5 {lo:Nat}:∀(names:List (Str × NameKind)) (n:Nat) (acc:List (Str × Addr)) (x:Str) (c:Addr),lo<=n->((x,NameKind.cell)∈names\/∀c,acc.lookup x=some c->lo<=c)->(cellsFrom n names acc).lookup x=some c->lo<=c
 | [],_,_,_,_,_,h,e=>h.elim (fun z=>nomatch z) fun z=>z _ e
 | (m,k)::r,n,acc,x,c,hn,h,e=>by
  unfold cellsFrom at e
  split at e
  ·refine zP5 r (n+1) _ x c (by first|assumption|lia) ?_ e
   by_cases hx:x=m
   ·refine .inr fun c' q=>?_
    rw[List.lookup_cons,show(x == m)=true by rw[hx];exact beq_self_eq_true m]at q
    cases q;exact hn
   ·have hb:(x == m)=false:=by simpa using hx
    rcases h with h|h
    ·rcases List.mem_cons.mp h with z|z
     ·exact absurd (congrArg Prod.fst z) hx
     ·exact .inl z
    ·exact .inr fun c' q=>h c' (by rw[List.lookup_cons,hb]at q;exact q)
  ·rename_i hk
   refine zP5 r n acc x c hn ?_ e
   rcases h with h|h
   ·rcases List.mem_cons.mp h with z|z
    ·cases z;exact absurd rfl hk
    ·exact .inl z
   ·exact .inr h
theorem zP6:∀(names:List (Str × NameKind)) (n:Nat) (acc:List (Str × Addr)) (x:Str),(∀y∈names,y.1=x->y.2≠.cell)->(cellsFrom n names acc).lookup x=acc.lookup x
 | [],_,_,_,_=>rfl
 | (m,k)::r,n,acc,x,h=>by
  unfold cellsFrom
  split
  ·rename_i hk
   rw[zP6 r _ _ x fun y hy=>h y (List.mem_cons_of_mem _ hy),List.lookup_cons]
   have hx:(x == m)=false:=by
    cases q:x == m with
    | false=>rfl
    | true=>exact absurd (by simpa using hk) (h (m,k) List.mem_cons_self (by simpa using(beq_iff_eq.mp q).symm))
   rw[hx]
  ·exact zP6 r n acc x fun y hy=>h y (List.mem_cons_of_mem _ hy)
theorem zP7:∀(names:List (Str × NameKind)) (n:Nat) (acc:List (Str × Addr)),(∀x c,acc.lookup x=some c->c<n)->(∀x y c,acc.lookup x=some c->acc.lookup y=some c->x=y)->
  ∀x y c,(cellsFrom n names acc).lookup x=some c->(cellsFrom n names acc).lookup y=some c->x=y
 | [],_,_,_,h=>h
 | (m,k)::r,n,acc,hl,h=>by
  unfold cellsFrom
  split
  ·refine zP7 r (n+1) _ (fun x c e=>?_) fun x y c e1 e2=>?_
   ·rw[List.lookup_cons]at e
    cases q:x == m with
    | true=>rw[q]at e;cases e;exact Nat.lt_succ_self _
    | false=>rw[q]at e;exact Nat.lt_succ_of_lt (hl x c e)
   ·rw[List.lookup_cons]at e1 e2
    cases q:x == m with
    | true=>
     cases q':y == m with
     | true=>rw[beq_iff_eq.mp q,beq_iff_eq.mp q']
     | false=>rw[q]at e1;rw[q']at e2;cases e1;exact absurd (hl y _ e2) (Nat.lt_irrefl _)
    | false=>
     cases q':y == m with
     | true=>rw[q]at e1;rw[q']at e2;cases e2;exact absurd (hl x _ e1) (Nat.lt_irrefl _)
     | false=>rw[q]at e1;rw[q']at e2;exact h x y c e1 e2
  ·exact zP7 r n acc hl h
theorem zHr:∀(names:List (Str × NameKind)) (n:Nat) (acc:List (Str × Addr)) (x:Str),((x,NameKind.cell)∈names\/∃c,acc.lookup x=some c)->∃c,(cellsFrom n names acc).lookup x=some c
 | [],_,_,_,h=>h.elim (fun z=>nomatch z) id
 | (m,k)::r,n,acc,x,h=>by
  unfold cellsFrom
  split
  ·refine zHr r (n+1) _ x ?_
   cases q:x == m with
   | true=>exact .inr ⟨n,by rw[List.lookup_cons,q]⟩
   | false=>
    rcases h with h|⟨c,h⟩
    ·rcases List.mem_cons.mp h with z|z
     ·rw[show x=m from congrArg Prod.fst z,beq_self_eq_true]at q;cases q
     ·exact .inl z
    ·exact .inr ⟨c,by rw[List.lookup_cons,q];exact h⟩
  ·rename_i hk
   refine zHr r n acc x ?_
   rcases h with h|h
   ·rcases List.mem_cons.mp h with z|z
    ·cases z;exact absurd rfl hk
    ·exact .inl z
   ·exact .inr h
theorem zJr:∀(names:List (Str × NameKind)) (h:Heap) (acc:List (Str × Addr)) (lo:Nat),lo<=h.objs.size->(∀x c,acc.lookup x=some c->lo<=c->h.IsCell c none)->∀x c,(cellsFrom h.objs.size names acc).lookup x=some c->lo<=c->(pushCells h names).IsCell c none
 | [],_,_,_,_,q=>q
 | (m,k)::r,h,acc,lo,hl,q=>by
  unfold cellsFrom pushCells
  split
  ·have:=zJr r (h.push { cls:=.type "cell",data:=.cell none }) ((m,h.objs.size)::acc) lo (by rw[Heap.size_push];lia) fun x c e hc=>by
    rw[List.lookup_cons]at e
    cases z:x == m with
    | true=>rw[z]at e;cases e;exact⟨_,Heap.get?_push_size _ rfl,rfl⟩
    | false=>rw[z]at e;exact(q x c e hc).keeps fun b o e=>Heap.get?_push_of_some _ e
   rwa[Heap.size_push]at this
  ·exact zJr r h acc lo hl q
theorem zNt {scope:Scope}{globals:Addr}{closure:List (Str × Addr)}{qual:Str}{around:Env}{Q:Env->Shared->Prop}
  (hQ:Q (newEnv scope s.heap.objs.size globals (cellsFrom (s.heap.objs.size+1) scope.names closure) qual none .none (some around) builtinsNs) { s with heap:=pushCells (s.heap.push { cls:=.type "dict",data:=.dict #[] }) scope.names }):
  wpAny M A (newFunctionEnv scope globals closure [] qual none .none (some around)) Q E s:=by
 simp only[newFunctionEnv,Option.isSome_some,if_true]
 refine wpAny_bind (wpAny_alloc ?_)
 refine wpAny_bind (wpAny_layCells _ (fun name kind cells=>by cases hkc:kind == NameKind.cell <;> simp[hkc]) _ _ _ _ ?_)
 rw[show({ s with heap:=s.heap.push { cls:=.type "dict",data:=.dict #[] } }:Shared).heap.objs.size=s.heap.objs.size+1 from Heap.size_push ..]
 simp only[List.forIn_nil]
 exact wpAny_bind (wpAny_pure (wpAny_pure hQ))
end
structure ClOk (X:Cx) (scope:Scope) (C:Addr) (cl:List (Str × Addr)):Prop where
 inj:∀x y c,cl.lookup x=some c->cl.lookup y=some c->x=y
 own:∀x c,scope.names.lookup x=some .cell->cl.lookup x=some c->C<c
 old:∀x c,scope.names.lookup x≠some .cell->cl.lookup x=some c->X.env.cells.lookup x=some c
 has:∀y∈scope.names,(y.2=.free\/y.2=.cell)->∃c,cl.lookup y.1=some c
theorem ClOk.or {X:Cx}{scope:Scope}{C:Addr}{cl:List (Str × Addr)}(h:ClOk X scope C cl) {x:Str}{c:Addr}(e:cl.lookup x=some c):X.env.cells.lookup x=some c\/C<c:=by
 by_cases q:scope.names.lookup x=some .cell
 ·exact .inr (h.own x c q e)
 ·exact .inl (h.old x c q e)
def zDc (own:List Str) (ix:List Nat) (σ:St):St:=own.map (fun _=>none)++ix.map fun i=>(σ[i]?).join
section
variable {X:Cx}{pins:List (Addr × Obj)}{σ:St}{H:Hp}{s:Shared}{own fre:List Str}{ix:List Nat}{scope:Scope}{cl:List (Str × Addr)}{fp:List Addr}{C:Addr}
theorem Inv.stkNo (I:Inv X pins σ H s) {b:Addr}(h:FpOk X pins H b):b ∉ frs X.stack:=fun hb=>
 (List.mem_cons.mp (I.stkSub b hb)).elim h.2.1 h.2.2.1
theorem zWa (I:Inv X pins σ H s) (hf:∀b∈fp,FpOk X pins H b) (hlt:∀b∈fp,b<s.heap.objs.size) (S:CompScope X own fre ix scope) (hcl:ClOk X scope C cl)
  (hC:s.heap.objs.size<=C):(zAm X (own++fre) scope cl C s H fp).Ok where
 mod:=I.ok.mod
 kind:=S.kind
 glob:=I.ok.glob
 blt:=I.ok.blt
 above:=hC
 inj:=hcl.inj
 has:=fun x hx=>by
  obtain⟨y,hy,e,k⟩:=zEi hx
  subst e
  exact hcl.has y hy k
 cab:=fun x c h e=>Nat.le_of_lt (Nat.lt_of_le_of_lt hC (hcl.own x c (by simpa[zAm]using h) e))
 hd:=I.ok.hd
 frames:=I.ok.frames
 stk:=.inl rfl
 exf:=fun b hb=>⟨Nat.ne_of_lt (Nat.lt_of_lt_of_le (hlt b hb) hC),fun x c e=>(hcl.or e).elim (fun e=>(hf b hb).2.2.2.2.1 x c e) fun z=>Ne.symm (Nat.ne_of_lt (Nat.lt_trans (Nat.lt_of_lt_of_le (hlt b hb) hC) z))⟩
 bs:=I.bs
 bsz:=Nat.le_trans I.ok.bsz I.sz
 noex:=fun b o e hb=>by
  rcases(hf b hb).2.2.2.1 with z|z
  ·exact I.ok.noex b o e z
  ·exact absurd (Nat.lt_of_lt_of_le (Heap.lt_size e) (Nat.le_trans I.ok.bsz z)) (Nat.lt_irrefl _)
 exfs:=fun b hb=>I.stkNo (hf b hb)
 funs:=I.stack
 frf:=I.stkFree
theorem zM1 {h₁:Heap}{t':Nat}{m:Str->Option Value}(I:Inv X pins σ H s) (hf:∀b∈fp,FpOk X pins H b) (hlt:∀b∈fp,b<s.heap.objs.size) (S:CompScope X own fre ix scope) (hcl:ClOk X scope C cl) (hnew:∀x c,cl.lookup x=some c->C<c->h₁.IsCell c none)
  (hC:s.heap.objs.size<=C) (old:∀b o,s.heap.get? b=some o->h₁.get? b=some o) (hn:h₁.Ns C m):
  Inv (zAm X (own++fre) scope cl C s H fp) [] (zDc own ix σ) H { s with heap:=h₁,toks:=t' } where
 ok:=zWa I hf hlt S hcl hC
 os:=rfl
 bare:=I.bare
 base:=Un.kept old
 loc:=by
  refine⟨m,hn,fun i x v e1 e2 e3=>?_⟩
  obtain⟨m0,hn0,hl⟩:=I.loc
  have hi:own.length<=i:=by
   rcases Nat.lt_or_ge i own.length with z|z
   ·rw[zDc,List.getElem?_append_left (by simpa using z),List.getElem?_map]at e2
    cases q:own[i]? <;> rw[q]at e2 <;> simp at e2
   ·exact z
  have e1':(own++fre)[i]?=some x:=e1
  rw[List.getElem?_append_right hi]at e1'
  rw[zDc,List.getElem?_append_right (by simpa using hi),List.getElem?_map,List.length_map]at e2
  cases q:ix[i-own.length]? with
  | none=>rw[q]at e2;simp at e2
  | some j=>
   rw[q]at e2
   obtain⟨hN,hk⟩:=S.at_ _ _ _ e1' q
   have e2':(σ[j]?).join=some v:=by simpa using e2
   have e4:σ[j]?=some (some v):=by
    cases z:σ[j]? with
    | none=>rw[z]at e2';cases e2'
    | some o=>rw[z]at e2';exact congrArg some e2'
   obtain⟨u,r,lk⟩:=hl j x v hN e4 (hk.elim (fun z=>.inr (.inl z)) fun z=>.inr (.inr z))
   refine⟨u,r,.inr ?_⟩
   rcases lk with⟨k,_⟩|⟨k,c,ec,hc⟩
   ·rcases hk with z|z <;> · rw[k]at z;cases z
   ·have fin:((zAm X (own++fre) scope cl C s H fp).env.kindOf x=some .cell\/(zAm X (own++fre) scope cl C s H fp).env.kindOf x=some .free):=by
     exact S.vis x (List.mem_of_getElem? e1')
    refine⟨fin,?_⟩
    obtain⟨y,hy,e,kf⟩:=zEi (env:=X.env) (x:=x) fin
    subst e
    obtain⟨c',hc'⟩:=hcl.has y hy kf
    have:=(hcl.old _ _ (S.fno _ (List.mem_of_getElem? e1')) hc').symm.trans ec
    cases this
    exact⟨c,hc',by obtain⟨o,ho,hd⟩:=hc;exact⟨o,old _ _ ho,hd⟩⟩
 cell:=fun x c e=>by
  rcases hcl.or e with q|q
  ·obtain⟨v,o,ho,hd⟩:=I.cell x c q
   exact⟨v,o,old _ _ ho,hd⟩
  ·exact⟨none,hnew x c e q⟩
 free:=I.hok.fresh hC
 freeC:=fun x c e=>(hcl.or e).elim (fun q=>I.freeC x c q) fun q=>I.hok.fresh (Nat.le_of_lt (Nat.lt_of_le_of_lt hC q))
 pin:=fun p hp=>nomatch hp
 hok:=I.hok.kept old
 len:=by simp[zDc,zAm,S.len]
end
def PIfs (X:Cx) (ifs:List Expr) (t:TT):Prop:=
 ∀(pins:List (Addr × Obj)) (s:Shared) (σ:St) (H:Hp) (Q:Bool->Hp->Prop),Inv X pins σ H s->t σ H Q->
  wpAny (model X.prog X.w) X.A (forIn ifs true fun c r=>if r=true then do let ok <- isTrue c X.env (eval c X.env);pure (ForInStep.yield ok)else pure (ForInStep.yield r)) (TP X pins σ Q) X.xe s
def tYes:TT:=fun _ H Q=>Q true H
theorem zQd {X:Cx}:PIfs X [] tYes:=fun pins s σ H Q I h=>wpAny_pure ⟨H,I,h⟩
theorem zQc {X:Cx}{c:Expr}{t:TT}(hc:PT X c t):PIfs X [c] t:=by
 intro pins s σ H Q I h
 rw[List.forIn_cons]
 simp only[if_true]
 refine wpAny_bind (wpAny_bind (thn (hc pins s σ H Q I h) fun b s1 q=>wpAny_pure ?_))
 simp only[List.forIn_nil]
 exact wpAny_pure q
def zSi (J:It) (g:TG) (tt:TT) (te:TE) (σc:St) (H1:Hp) (Qd:List V->Hp->Prop):Prop:=
 ∃W:Nat->Nat->List V->St->Hp->Prop,(∃m,W 0 m [] σc H1)/\∀i m ys σ H,W i m ys σ H->
  (J.stop i H/\Qd ys H)\/(J.go i H/\ys.length<sizeLine/\∃N:List V->St->Hp->Prop,(∀zs σ' H',N zs σ' H'->∃m',m'<m/\W (i+1) m' zs σ' H')/\∀x H',J.yld i H x H'->g x σ H' fun σ2 H2=>tt σ2 H2 fun c H3=>
   if c=true then te σ2 H3 fun y H4=>N (ys++[y]) σ2 H4 else N ys σ2 H3)
theorem HOk.adopt {P:Program}{w:World}{H:Hp}{h:Heap}{D:Addr}{o:HO}(x:HOk P w H h) (n:H D=none) (new:ObjOk P w (upd H D o) h D o):HOk P w (upd H D o) h:=fun b u e=>by
 by_cases hb:b=D
 ·subst hb
  rw[zAo]at e
  cases e
  exact new
 ·rw[zAh hb]at e
  refine(x b u e).stay (fun c v _ q=>q) (fun c q=>?_) fun c xs q=>?_
  ·rw[zAh (zAd q n)];exact q
  ·rw[zAh (zAd q n)];exact q
theorem Un.adopt {fs ex:List Addr}{H H':Hp}{h h':Heap}{D:Addr}{o:HO}(u:Un fs ex H H' h h') (hD:h.objs.size<=D) (n:H' D=none):Un fs ex H (upd H' D o) h h' where
 keep:=u.keep
 slot:=u.slot
 free:=fun b ob e n' hx=>by rw[zAh (Nat.ne_of_lt (Nat.lt_of_lt_of_le (Heap.lt_size e) hD))];exact u.free b ob e n' hx
 there:=u.there
 tups:=fun b xs e=>by have:=u.tups b xs e;rw[zAh (zAd this n)];exact this
 frzs:=fun b ob xs e=>by have:=u.frzs b ob xs e;rw[zAh (zAd this n)];exact this
 tbls:=fun b ps e=>by obtain⟨m,z⟩:=u.tbls b ps e;exact⟨m,by rw[zAh (zAd z n)];exact z⟩
section
variable {X:Cx}{pins:List (Addr × Obj)}{σ:St}{H2:Hp}{s2:Shared}{own fre:List Str}{ix:List Nat}{scope:Scope}{cl:List (Str × Addr)}{fp:List Addr}{C:Addr}
theorem zGn {tg elt iter:Expr}{ifs:List Expr}{pos:Pos}{J:It}{it:Addr}{tn:Nat->Heap->Prop}{g:TG}{tt:TT}{te:TE}{Qd:List V->Hp->Prop}{RR:Value->Addr->Result->Shared->Prop}{E:Value->Shared->Prop}{cl0:List (Str × Addr)}
  (I2:Inv X pins σ H2 s2) (T:Turn X.prog X.w X.K tg J fp it tn) (st2:tn 0 s2.heap) (f2:∀b∈fp,FpOk X pins H2 b) (hc:X.calm=true) (S:CompScope X own fre ix scope)
  (hcl0:∀x c,cl0.lookup x=some c->X.env.cells.lookup x=some c) (hcf0:∀y∈scope.names,y.2=.free->∃c,cl0.lookup y.1=some c)
  (hg:∀cl C,PG (zAm X (own++fre) scope cl C s2 H2 fp) tg g) (hi:∀cl C,PIfs (zAm X (own++fre) scope cl C s2 H2 fp) ifs tt) (he:∀cl C,PE (zAm X (own++fre) scope cl C s2 H2 fp) elt te)
  (q:zSi J g tt te (zDc own ix σ) H2 Qd)
  (hRR:∀D C s' m' ys H',Inv X pins σ (upd H' D (.lst ys)) s'->s'.heap.Ns C m'->FpOk X pins (upd H' D (.lst ys)) C->H' D=none->Qd ys H'->RR (.ref D) C (.ok .next) s'):
  wpAny (model X.prog X.w) X.A (newList []) (fun acc s₃=>wpAny (model X.prog X.w) X.A (newFunctionEnv scope X.env.globals cl0 [] X.env.qual none .none (some X.env)) (fun cenv s₄=>
   codeAny (model X.prog X.w) X.A (.compStart (.ListComp elt [⟨tg,iter,ifs,0⟩] scope pos) 0 (.ref it) acc { cenv with scope:=relabel scope X.env }) (RR acc cenv.locals) s₄) E s₃) E s2:=by
 obtain⟨W,⟨m0,w0⟩,turn⟩:=q
 refine wpAny_newObj_type (zNt ?_)
 dsimp only
 generalize hHH:s2.heap.push { cls:=.type "list",dict:=none,data:=.seq ([]:List Value).toArray }=HH
 have hC:HH.objs.size=s2.heap.objs.size+1:=by rw[<- hHH,Heap.size_push]
 have hns₁:(pushCells (HH.push { cls:=.type "dict",data:=.dict #[] }) scope.names).Ns HH.objs.size fun _=>none:=(Heap.Ns.new HH (.type "dict")).keeps (pushCells_keeps _ _)
 have hkp:∀b o,HH.get? b=some o->(pushCells (HH.push { cls:=.type "dict",data:=.dict #[] }) scope.names).get? b=some o:=fun b o e=>pushCells_keeps _ _ b o (Heap.get?_push_of_some _ e)
 have hltc:∀x c,cl0.lookup x=some c->c<HH.objs.size+1:=fun x c e=>by
  obtain⟨v,o,ho,_⟩:=I2.cell x c (hcl0 x c e)
  rw[hC]
  exact Nat.lt_succ_of_lt (Nat.lt_succ_of_lt (Heap.lt_size ho))
 have hnew:∀x c,(cellsFrom (HH.objs.size+1) scope.names cl0).lookup x=some c->HH.objs.size<c->(pushCells (HH.push { cls:=.type "dict",data:=.dict #[] }) scope.names).IsCell c none:=by
  have:=zJr scope.names (HH.push { cls:=.type "dict",data:=.dict #[] }) cl0 (HH.objs.size+1) (by rw[Heap.size_push];exact Nat.le_refl _) fun x c e hc=>absurd (Nat.lt_of_lt_of_le (hltc x c e) hc) (Nat.lt_irrefl _)
  rw[Heap.size_push]at this
  exact fun x c e h=>this x c e h
 have hcl:ClOk X scope HH.objs.size (cellsFrom (HH.objs.size+1) scope.names cl0):={
  inj:=zP7 _ _ _ hltc fun x y c e1 e2=>I2.ok.inj x y c (hcl0 x c e1) (hcl0 y c e2)
  own:=fun x c h e=>zP5 (lo:=HH.objs.size+1) _ _ _ x c (Nat.le_refl _) (.inl (PySem.mem_of_lookup h)) e
  old:=fun x c h e=>by
   rw[zP6 _ _ _ x fun y hy ex ec=>h (by rw[<- ex];exact S.cell y hy ec)]at e
   exact hcl0 x c e
  has:=fun y hy hk=>by
   obtain⟨n,k⟩:=y
   rcases hk with hk|hk
   ·exact zHr _ _ _ _ (.inr (hcf0 _ hy hk))
   ·dsimp only at hk
    subst hk
    exact zHr _ _ _ _ (.inl hy) }
 generalize cellsFrom (HH.objs.size+1) scope.names cl0=cl at hnew hcl ⊢
 generalize pushCells (HH.push { cls:=.type "dict",data:=.dict #[] }) scope.names=h₁ at hns₁ hkp hnew ⊢
 generalize hDe:s2.heap.objs.size=D at *
 generalize hCe:HH.objs.size=C at *
 have hDC:D≠C:=by first|assumption|lia
 have hDle:s2.heap.objs.size<=D:=by first|assumption|lia
 have hCle:s2.heap.objs.size<=C:=by first|assumption|lia
 have below:∀b o,s2.heap.get? b=some o->b≠C/\b≠D:=fun b o e=>⟨Nat.ne_of_lt (Nat.lt_of_lt_of_le (Heap.lt_size e) hCle),Nat.ne_of_lt (Nat.lt_of_lt_of_le (Heap.lt_size e) hDle)⟩
 have old:∀b o,s2.heap.get? b=some o->h₁.get? b=some o:=fun b o e=>hkp b o (hHH ▸ Heap.get?_push_of_some _ e)
 have hacc:h₁.get? D=some { cls:=.type "list",dict:=none,data:=.seq ([]:List Value).toArray }:=hkp _ _ (hHH ▸ hDe ▸ Heap.get?_push_size _ rfl)
 have fpo:∀b∈fp,∃o,s2.heap.get? b=some o/\∀v,o.data≠.cell v:=T.obj _ _ st2
 have hlt:∀b∈fp,b<s2.heap.objs.size:=fun b hb=>by obtain⟨o,e,_⟩:=fpo b hb;exact Heap.lt_size e
 have hDf:D ∉ fp:=fun hm=>absurd (Nat.lt_of_lt_of_le (hlt D hm) hDle) (Nat.lt_irrefl _)
 have hcD:∀x c,cl.lookup x=some c->c≠D:=fun x c e z=>by
  rcases hcl.or e with q|q
  ·obtain⟨v,o,ho,_⟩:=I2.cell x c q
   exact(below c o ho).2 z
  ·exact absurd (Nat.lt_of_lt_of_le q (by rw[z,hC];exact Nat.le_succ _)) (Nat.lt_irrefl _)
 let Xc:=zAm X (own++fre) scope cl C s2 H2 fp
 have hnoS:∀b,s2.heap.objs.size<=b->b ∉ frs X.stack:=fun b hb z=>by
  rcases List.mem_cons.mp (I2.stkSub b z)with z|z
  ·exact absurd (Nat.lt_of_lt_of_le I2.lt hb) (by rw[z];exact Nat.lt_irrefl _)
  ·exact I2.nofs hb z
 have loop:∀t',codeAny (model X.prog X.w) X.A (.compLoop (.ListComp elt [⟨tg,iter,ifs,0⟩] scope pos) 0 (.ref it) (.ref D) (compEnvC scope cl C X.env)) (RR (.ref D) C) { s2 with heap:=h₁,toks:=t' }:=by
  intro t'
  have I4:Inv Xc [] (zDc own ix σ) H2 { s2 with heap:=h₁,toks:=t' }:=zM1 I2 f2 hlt S hcl hnew hCle old hns₁
  refine zIh (fun n s'=>∃i ys σ' H' its k,Inv Xc [] σ' H' s'/\tn i s'.heap/\(∀b∈fp,H' b=none)/\H' D=none/\s'.heap.get? D=some ({ cls:=.type "list",data:=.seq (List.toArray its) k }:Obj)/\Vals ys its/\ys.length<=sizeLine/\W i n ys σ' H')
   ?_ m0 ⟨0,[],_,H2,[],_,I4,T.keep _ _ _ st2 (fun b _ o e=>old b o e),fun b hb=>(f2 b hb).1,I2.hok.fresh hDle,hacc,.nil,Nat.zero_le _,w0⟩
  rintro n s3 ⟨i,ys,σ3,H3,its,k,I3,st3,fr3,hD3,ho3,hv3,hz3,w3⟩
  have I3p:Inv Xc [(D,{ cls:=.type "list",data:=.seq (List.toArray its) k })] σ3 H3 s3:=I3.pins_of fun p hp=>by
   have e:p=(D,({ cls:=.type "list",data:=.seq (List.toArray its) k }:Obj)):=by simpa using hp
   subst e
   exact⟨ho3,hD3,hDC,hnoS D hDle,fun v z=>by cases z⟩
  have stat:∀{H':Hp},(∀b∈fp,H' b=none)->∀b∈fp,FpOk Xc [(D,({ cls:=.type "list",data:=.seq (List.toArray its) k }:Obj))] H' b:=fun hn b hb=>
   ⟨hn b hb,Nat.ne_of_lt (Nat.lt_of_lt_of_le (hlt b hb) hCle),I2.stkNo (f2 b hb),.inl hb,fun x c e=>(hcl.or e).elim (fun e=>(f2 b hb).2.2.2.2.1 x c e) fun z=>Ne.symm (Nat.ne_of_lt (Nat.lt_trans (Nat.lt_of_lt_of_le (hlt b hb) hCle) z)),fun p hp z=>by
    have e:p=(D,({ cls:=.type "list",data:=.seq (List.toArray its) k }:Obj)):=by simpa[Xc,zAm]using hp
    rw[e]at z;exact hDf (by rw[show D=b from z];exact hb)⟩
  rcases turn i n ys σ3 H3 w3 with⟨stop,qn⟩|⟨go,hys,N,hN,step⟩
  ·refine thn (T.done Xc rfl rfl rfl hc i _ s3 σ3 H3 _ I3p (stat fr3) st3 stop) fun r s4 ⟨hr,I4⟩=>?_
   subst hr
   have ho4:=(I4.pin (D,_) (List.mem_append_right _ List.mem_cons_self)).1
   obtain⟨m',hn',_⟩:=I4.loc
   have un:Un (frs X.stack) fp H2 (upd H3 D (.lst ys)) s2.heap s4.heap:=Un.adopt (show Un (frs X.stack) fp H2 H3 s2.heap s4.heap from I4.base) hDle hD3
   have hok:HOk X.prog X.w (upd H3 D (.lst ys)) s4.heap:=HOk.adopt (show HOk X.prog X.w H3 s4.heap from I4.hok) hD3 ⟨hz3,its,_,hv3,ho4⟩
   have IX:Inv X pins σ (upd H3 D (.lst ys)) s4:=I2.call' (ch:=fp) I4.os un hok I4.bare fun b hb=>⟨(f2 b hb).2.2.2.1,(f2 b hb).2.1,(f2 b hb).2.2.2.2.1,(f2 b hb).2.2.2.2.2⟩
   exact hRR D C s4 m' ys H3 IX hn' (I2.fpOk hCle (by rw[zAh (Ne.symm hDC)];exact I4.free)) hD3 qn
  ·refine thn (T.item Xc rfl rfl rfl hc i _ s3 σ3 H3 _ I3p (stat fr3) st3 go) fun r s4 ⟨u,hr,h4⟩=>?_
   subst hr
   refine thn h4 fun _ s5 ⟨x,H5,I5,r5,y5,st5,fr5⟩=>?_
   have I5':=I5.pinned (stat fr5) (T.obj _ _ st5)
   refine thn (hg cl C _ s5 σ3 H5 x u _ I5' r5 (step x H5 y5)) fun _ s6 ⟨σ6,H6,I6,q6⟩=>?_
   refine thn (hi cl C _ s6 σ6 H6 _ I6 q6) fun b s7 ⟨H7,I7,q7⟩=>?_
   have keepT:∀{σ7:St}{H7:Hp}{s7:Shared}{h':Heap},Inv Xc ([(D,({ cls:=.type "list",data:=.seq (List.toArray its) k }:Obj))]++zI4 fp s5.heap) σ7 H7 s7->(∀b o,b≠D->s7.heap.get? b=some o->h'.get? b=some o)->tn (i+1) h'/\∀b∈fp,H7 b=none:=fun {σ7 H7 s7 h'} I7 hk=>by
    refine⟨T.keep _ _ _ st5 fun b hb o e=>hk b o (fun z=>hDf (z ▸ hb)) (I7.pin (b,o) (List.mem_append_right _ (List.mem_append_right _ (zD1 hb e)))).1,fun b hb=>?_⟩
    obtain⟨o,e,d⟩:=T.obj _ _ st5 b hb
    exact(I7.pin (b,o) (List.mem_append_right _ (List.mem_append_right _ (zD1 hb e)))).2.1
   cases b with
   | false=>
    obtain⟨m',hm,w7⟩:=hN _ _ _ q7
    obtain⟨t7,f7⟩:=keepT (h':=s7.heap) I7 fun _ _ _ e=>e
    have pD:=I7.pin (D,_) (List.mem_append_right _ (List.mem_append_left _ List.mem_cons_self))
    exact⟨m',hm,i+1,ys,σ6,H7,its,k,I7.pins_of (fun p hp=>nomatch hp),t7,f7,pD.2.1,pD.1,hv3,hz3,w7⟩
   | true=>
    refine thn (he cl C _ s7 σ6 H7 _ I7 q7) fun y s8 ⟨v,H8,I8,r8,n8⟩=>?_
    obtain⟨m',hm,w8⟩:=hN _ _ _ n8
    have pD:=I8.pin (D,_) (List.mem_append_right _ (List.mem_append_left _ List.mem_cons_self))
    have hsz:its.toArray.size<=sizeLine:=by rw[List.size_toArray,<- hv3.length];exact hz3
    refine wpAny_list_append_plain (hsz:=hsz) (show s8.heap.PlainList D its.toArray from⟨_,pD.1⟩) fun h₅ hl₅ hs₅=>?_
    obtain⟨t8,f8⟩:=keepT (h':=h₅) I8 fun b o hb e=>hs₅.extBut b o hb e
    obtain⟨k',ho5⟩:=hl₅
    have I9:Inv Xc [] σ6 H8 { s8 with heap:=h₅ }:=(I8.pins_of (pins':=[]) (fun p hp=>nomatch hp)).turned (it:=D) (t':=s8.toks) (fun b o hb e=>hs₅.extBut b o hb e) pD.2.1 hDC (.inr hDle) hcD fun p hp=>nomatch hp
    refine⟨m',hm,i+1,ys++[v],σ6,H8,its++[y],k',I9,t8,f8,pD.2.1,?_,hv3.append (.cons r8 .nil),(by rw[List.length_append,List.length_singleton];exact hys),w8⟩
    show h₅.get? D=_
    rw[ho5];simp
 exact codeAny_compStart_list (loop _) (T.self _ 0 _ _ _ (T.keep _ _ _ st2 (fun b _ o e=>old b o e)) (loop _))
end
def zJ1 (own:List Str) (ix:List Nat) (wi:TI) (g:TG) (tt:TT) (te:TE):TE:=fun σ H Q=>wi σ H fun J H1=>
 zSi J g tt te (zDc own ix σ) H1 fun ys H2=>∀D,H2 D=none->Q (.ref D) (upd H2 D (.lst ys))
section
variable {X:Cx}{own fre:List Str}{ix:List Nat}{scope:Scope}
theorem zQi {tg elt iter:Expr}{ifs:List Expr}{pos:Pos}{wi:TI}{g:TG}{tt:TT}{te:TE}(hc:X.calm=true) (S:CompScope X own fre ix scope) (hi:PI X tg iter wi)
  (hg:∀cl C s H fp,PG (zAm X (own++fre) scope cl C s H fp) tg g) (ht:∀cl C s H fp,PIfs (zAm X (own++fre) scope cl C s H fp) ifs tt) (he:∀cl C s H fp,PE (zAm X (own++fre) scope cl C s H fp) elt te)
  (hs:∀x,foldedSetIterable iter X.env x=pure x:=by intro _;rfl):PE X (.ListComp elt [⟨tg,iter,ifs,0⟩] scope pos) (zJ1 own ix wi g tt te):=by
 intro pins s σ H Q I h
 obtain⟨cl,ecl,hcl,hcf⟩:=zE2 (scope:=scope) (env:=X.env) fun y hy hf=>I.ok.has y.1 (S.fr y hy hf)
 rw[eval_ListComp]
 refine wpAny_comprehension_free (use:=none) rfl hs ecl S.kind S.loc (thn (hi pins s σ H _ I h) fun v s1 h1=>thn h1 fun itv s2 h2=>?_)
 obtain⟨it,fp,tn,J,H2,e,I2,T,st2,f2,q⟩:=h2
 subst e
 refine zGn (RR:=fun acc C=>compPost (model X.prog X.w) X.A X.xe none (EP X pins σ Q) acc C) I2 T st2 f2 hc S hcl hcf (fun cl C=>hg _ _ _ _ _) (fun cl C=>ht _ _ _ _ _) (fun cl C=>he _ _ _ _ _) q ?_
 intro D C s' m' ys H' IX hn fC hD qd
 refine⟨m',hn,fun h' hs'=>?_⟩
 exact⟨.ref D,_,IX.turned (it:=C) (t':=s'.toks) (fun b o hb e=>hs'.extBut b o hb e) fC.1 fC.2.1 fC.2.2.2.1 fC.2.2.2.2.1 fC.2.2.2.2.2,rfl,qd D hD⟩
theorem zUd {i:Nat}{x:Str}{pos':Pos}{tg elt iter:Expr}{ifs:List Expr}{pos cpos:Pos}{wi:TI}{g:TG}{tt:TT}{te:TE}(hN:X.N.Nodup) (hix:X.N[i]?=some x) (hx:Loc X.env.scope x)
  (hc:X.calm=true) (S:CompScope X own fre ix scope) (hi:PI X tg iter wi)
  (hg:∀cl C s H fp,PG (zAm X (own++fre) scope cl C s H fp) tg g) (ht:∀cl C s H fp,PIfs (zAm X (own++fre) scope cl C s H fp) ifs tt) (he:∀cl C s H fp,PE (zAm X (own++fre) scope cl C s H fp) elt te)
  (hsw:swapsWith (.ListComp elt [⟨tg,iter,ifs,0⟩] scope cpos) (some (.Name x pos')) pos.line X.env=pure true:=by rfl)
  (hs:∀x,foldedSetIterable iter X.env x=pure x:=by intro _;rfl) (hf:X.fn x=true\/X.env.scope.names.lookup x=some .local:=by first|exact .inl rfl|exact .inr rfl|assumption):
  PS X (.Assign [.Name x pos'] (.ListComp elt [⟨tg,iter,ifs,0⟩] scope cpos) pos) (tAsg (zJ1 own ix wi g tt te) (gName i)):=by
 intro pins s σ H D I h
 obtain⟨cl,ecl,hcl,hcf⟩:=zE2 (scope:=scope) (env:=X.env) fun y hy hf=>I.ok.has y.1 (S.fr y hy hf)
 rw[exec_Assign_Name_used _ _ _ _ hsw]
 refine wpAny_bind (wpAny_standAt (wpAny_bind ?_))
 show wpAny _ X.A (do let _ <- comprehension (.ListComp elt [⟨tg,iter,ifs,0⟩] scope cpos) scope X.env _ (newList []) false (eval iter X.env) (some (assign (.Name x pos') X.env))) _ _ s
 refine wpAny_bind (wpAny_mono (wpAny_comprehension_free (use:=some (assign (.Name x pos') X.env)) (Q:=fun _ s'=>SP X pins D .next s') rfl hs ecl S.kind S.loc
  (thn (hi pins s σ H _ I h) fun v s1 h1=>thn h1 fun itv s2 h2=>?_)) (fun _ s' hq=>wpAny_pure (wpAny_pure hq)) fun _ _ e=>e)
 obtain⟨it,fp,tn,J,H2,e,I2,T,st2,f2,q⟩:=h2
 subst e
 refine zGn (RR:=fun acc C=>compPost (model X.prog X.w) X.A X.xe (some (assign (.Name x pos') X.env)) (fun _ s'=>SP X pins D .next s') acc C) I2 T st2 f2 hc S hcl hcf (fun cl C=>hg _ _ _ _ _) (fun cl C=>ht _ _ _ _ _) (fun cl C=>he _ _ _ _ _) q ?_
 intro D' C s' m' ys H' IX hn fC hD qd
 show wpAny _ X.A (assign (.Name x pos') X.env (.ref D')) _ _ _
 refine wpAny_assign_Name (zI2 (v:=.ref D') IX hN hix hx rfl (fun s'' I'' hsb=>?_) hf)
 obtain⟨a,hsb,ha⟩:=hsb
 have hCa:C≠a:=by
  rcases ha with z|z
  ·rw[z];exact fC.2.1
  ·exact Ne.symm (fC.2.2.2.2.1 x a z)
 refine⟨m',hn.sameBut hsb hCa,fun h' hs'=>?_⟩
 exact⟨_,_,I''.turned (it:=C) (t':=s''.toks) (fun b o hb e=>hs'.extBut b o hb e) fC.1 fC.2.1 fC.2.2.2.1 fC.2.2.2.2.1 fC.2.2.2.2.2,qd D' hD⟩
end
end L2
namespace LX
open PySem
open Sem (wp)
theorem zQv:typeLookup (.type "list_reverseiterator") "__len__"=pure none:=by rw[typeLookup_type,builtinLookup_eq_fast];kernel_rfl
theorem zVr:typeLookup (.type "list_reverseiterator") "__length_hint__"=pure (some (.builtin "list_reverseiterator.__length_hint__")):=by rw[typeLookup_type,builtinLookup_eq_fast];kernel_rfl
section
variable {prog:Program}{w:World}{A:Around}{E:Value->Shared->Prop}{s:Shared}
theorem zLx {R:Result->Shared->Prop}{I l:Addr}{items:Array Value}(hh:A.handled=none) (hne:l≠I) (hit:s.heap.IsRevIter I l ((items.size:Int)-1)) (hl:s.heap.IsList l items)
  (S:Addr) (res:Value) (c₀:Nat) (hSI:S≠I) (hSl:S≠l) (hS:s.heap.get? S=some { cls:=.type "list",data:=.seq #[] c₀ }) (hn:items.size<=sizeLine)
  (hR:∀h' tk acc' c',(∀b o,b≠S->b≠I->s.heap.get? b=some o->h'.get? b=some o)->h'.get? S=some { cls:=.type "list",dict:=none,data:=.seq acc' c',slots:=#[] }->
   ItemsOf (fun i v=>items[items.size-1-i]?=some v) acc' items.size->R (.ok (.ret res)) { s with heap:=h',toks:=tk }):
  wpAny (model prog w) A.in1 (Builtin.List.listExtendWith (.ref S) (.ref I) res)
   (fun fin s'=>match fin with|.done f=>R (.ok f) s'|.again c'=>c'.quiet=true/\codeAny (model prog w) A c' R s') (fun e s'=>R (.error e) s') s:=by
 have W:=(Walks.listRev (prog:=prog) (w:=w) (A:=A.in1) hh I l hne items).toS
 have st:0<=items.size/\s.heap.IsRevIter I l ((items.size:Int)-1-((0:Nat):Int))/\s.heap.IsList l items:=⟨Nat.zero_le _,by simpa using hit,hl⟩
 have hT:s.TypeIs (.ref I) "list_reverseiterator":=hit.typeIs
 have hSf:S ∉ [I,l]:=fun hm=>by
  rcases List.mem_cons.mp hm with z|z
  ·exact hSI z
  ·exact hSl (List.mem_singleton.mp z)
 have h1:Builtin.List.listSameRef (.ref S) (.ref I)=false:=by simp[Builtin.List.listSameRef,hSI]
 unfold Builtin.List.listExtendWith
 refine wpAny_bind (wpAny_typeOf hT ?_)
 rw[if_neg (by rw[h1];decide)]
 refine wpAny_bind (wpAny_pyIter_revIter hit ?_)
 refine wpAny_bind (wpAny_holding ?_)
 unfold Builtin.List.listLengthHint
 refine wpAny_bind (wpAny_specialOf hT zQv ?_)
 show wpAny _ A.in1 (specialOf (Value.ref I) (Str.ofString "__length_hint__") >>= _) _ _ _
 refine wpAny_bind (wpAny_specialOf hT zVr ?_)
 (generalize hid:("list_reverseiterator.__length_hint__":String)=id0;(fail_if_success (clear hid id0));wp_delta;rw[show splitId id0=some ("list_reverseiterator","__length_hint__")from by subst hid;decide +kernel];subst hid)
 refine wpAny_bind (wpAny_isInstance (b:=true) hT (by rw[isSubtype_type];kernel_rfl) ?_)
 refine wpAny_pure ?_
 rw[if_neg (by decide)]
 refine wpAny_pure ⟨plainId_quiet F.plain_extend_loop _,codeAny_extend_loopS W hn _ hSf _ items.size 0 _ _ _ rfl (Nat.zero_le _) st hS (ItemsOf.nil _) fun s' acc' c' hm hS' hacc=>?_⟩
 rw[Moved.eq_with hm]
 refine hR s'.heap s'.toks acc' c' (fun b o hb hb' e=>hm.heap b o (fun hmem=>?_) e) hS' hacc
 rcases List.mem_cons.mp hmem with z|z
 ·exact hb z
 ·exact hb' (List.mem_singleton.mp z)
theorem zRd {R:Result->Shared->Prop}{I l:Addr}{items:Array Value}(hh:A.handled=none) (hne:l≠I) (hit:s.heap.IsRevIter I l ((items.size:Int)-1)) (hl:s.heap.IsList l items)
  (S:Addr) (hSI:S≠I) (hSl:S≠l) (hS:s.heap.get? S=some { cls:=.type "list",data:=.seq #[] }) (hn:items.size<=sizeLine)
  (hR:∀h' tk acc' c',(∀b o,b≠S->b≠I->s.heap.get? b=some o->h'.get? b=some o)->h'.get? S=some { cls:=.type "list",dict:=none,data:=.seq acc' c',slots:=#[] }->
   ItemsOf (fun i v=>items[items.size-1-i]?=some v) acc' items.size->R (.ok (.ret .none)) { s with heap:=h',toks:=tk }):
  wpAny (model prog w) A.in1 (Builtin.«list.__init__» ⟨[.ref S,.ref I],[]⟩)
   (fun fin s'=>match fin with|.done f=>R (.ok f) s'|.again c'=>c'.quiet=true/\codeAny (model prog w) A c' R s') (fun e s'=>R (.error e) s') s:=by
 show wpAny _ A.in1 (do let old <- Builtin.List.listItems (.ref S);Builtin.List.listUpdate (.ref S) (fun _=>#[]);letGo old.toList.reverse;Builtin.List.listExtendWith (.ref S) (.ref I) .none) _ _ s
 refine wpAny_bind ?_
 unfold Builtin.List.listItems
 refine wpAny_bind (wpAny_seqItems hS rfl (wpAny_pure ?_))
 show wpAny _ A.in1 (updateSeq S (fun _=>#[]) >>= fun _=>letGo (#[]:Array Value).toList.reverse >>= fun _=>Builtin.List.listExtendWith (.ref S) (.ref I) .none) _ _ s
 refine wpAny_bind (wpAny_updateSeq hS rfl ?_)
 have hS₂:=Heap.get?_update_self (Obj.mapSeq (fun _=>(#[]:Array Value))) hS rfl
 have oth:∀b o,b≠S->s.heap.get? b=some o->(s.heap.update S (Obj.mapSeq (fun _=>(#[]:Array Value)))).get? b=some o:=
  fun b o hb e=>(Heap.get?_update_other _ _ (Ne.symm hb)).trans e
 refine wpAny_bind (wpAny_letGo ?_)
 refine zLx hh hne (hit.at fun o e=>oth I o (Ne.symm hSI) e) (hl.at fun o e=>oth l o (Ne.symm hSl) e) S .none _ hSI hSl hS₂ hn fun h' tk acc' c' hk hS' hacc=>?_
 exact hR h' tk acc' c' (fun b o hb hb' e=>hk b o hb hb' (oth b o hb e)) hS' hacc
theorem call_list_rev {Q:Value->Shared->Prop}{I l:Addr}{items:Array Value}(hh:A.handled=none) (hne:l≠I) (hit:s.heap.IsRevIter I l ((items.size:Int)-1)) (hl:s.heap.IsList l items) (hn:items.size<=sizeLine)
  (hQ:∀h' tk acc' c',(∀b o,b≠I->s.heap.get? b=some o->h'.get? b=some o)->h'.get? s.heap.objs.size=some { cls:=.type "list",dict:=none,data:=.seq acc' c',slots:=#[] }->
   ItemsOf (fun i v=>items[items.size-1-i]?=some v) acc' items.size->Q (.ref s.heap.objs.size) { s with heap:=h',toks:=tk }):wpAny (model prog w) A (call (.type "list") [.ref I]) Q E s:=by
 refine callType_codes (Q₁:=fun obj s₁=>obj=.ref s.heap.objs.size/\s₁={ s with heap:=s.heap.push { cls:=.type "list",data:=.seq #[] } }) F.called_list (F.typeCall_list_1 _) F.entry_list_init
  (code_list_new _ ⟨rfl,rfl⟩) fun obj s₁ h₁=>?_
 obtain⟨rfl,rfl⟩:=h₁
 have hS:(s.heap.push { cls:=.type "list",data:=.seq #[] }).get? s.heap.objs.size=some { cls:=.type "list",data:=.seq #[] }:=Heap.get?_push_size _ rfl
 have nI:s.heap.objs.size≠I:=by obtain⟨o,ho,_⟩:=hit;exact Ne.symm (Nat.ne_of_lt (Heap.lt_size ho))
 have nl:s.heap.objs.size≠l:=by obtain⟨o,ho,_⟩:=hl;exact Ne.symm (Nat.ne_of_lt (Heap.lt_size ho))
 refine⟨⟨_,hS,rfl⟩,F.args_list_init_2 _ _,zRd (A:=A.in1) hh hne (hit.at fun o e=>Heap.get?_push_of_some _ e) (hl.at fun o e=>Heap.get?_push_of_some _ e) _ nI nl hS hn fun h' tk acc' c' hk hS' hacc=>?_⟩
 exact⟨rfl,hQ h' tk acc' c' (fun b o hb e=>hk b o (Nat.ne_of_lt (Heap.lt_size e)) hb (Heap.get?_push_of_some _ e)) hS' hacc⟩
end
end LX
namespace L2
open PySem PySem.Spec PyProof.Rows
section
variable {X:Cx}
def zGy (K:PySem.W.Frag) (te:TE):TE:=fun σ H Q=>te σ H fun x H1=>∃a xs,x=.ref a/\SqL K H1 a xs/\∀l,H1 l=none->Q (.ref l) (upd H1 l (.lst xs.reverse))
theorem zIy {xs:List V}{its:List Value}{acc:Array Value}(r:Vals xs its) (h:ItemsOf (fun i v=>its.toArray[its.toArray.size-1-i]?=some v) acc its.toArray.size):acc.toList=its.reverse:=by
 obtain⟨hs,hi⟩:=h
 have hs':acc.size=its.length:=by simpa using hs
 refine List.ext_getElem? fun j=>?_
 rcases Nat.lt_or_ge j its.length with hj|hj
 ·have e1:acc[j]?=some (acc[j]'(by first|assumption|lia)):=Array.getElem?_eq_getElem (by first|assumption|lia)
  have e2:=hi j _ e1
  rw[Array.getElem?_toList,e1,List.getElem?_reverse hj,<- e2]
  simp
 ·rw[List.getElem?_eq_none (by simpa[hs']using hj),List.getElem?_eq_none (by simpa using hj)]
theorem zLh {e:Expr}{te:TE}{p p2 pos pos2:Pos}(hc:X.calm=true) (he:PE X e te) (hgl:Gl X "list") (hml:X.mg "list"=none) (hgr:Gl X "reversed") (hmr:X.mg "reversed"=none)
  (hs:starEach [e] X.env=[(false,eval e X.env)]:=by rfl)
  (hs2:starEach [Expr.Call (.Name "reversed" p2) [e] [] pos2] X.env=[(false,eval (.Call (.Name "reversed" p2) [e] [] pos2) X.env)]:=by rfl):
  PE X (.Call (.Name "list" p) [.Call (.Name "reversed" p2) [e] [] pos2] [] pos) (zGy X.K te):=by
 intro pins s σ H Q I h
 refine wpAny_Call_Name_kw (zCq I hgl hml PyProof.Rows.boot_list ?_)
 refine PyProof.Rows.callWith_type1 ?_ hs2 rfl
 rw[hs2]
 show wpAny _ _ (spliced ((false,eval (.Call (.Name "reversed" p2) [e] [] pos2) X.env)::backTo pos [])) _ _ s
 refine Calls.spliced_cons ?_
 refine wpAny_Call_Name_kw (zCq I hgr hmr PyProof.Rows.boot_reversed ?_)
 refine PyProof.Rows.callWith_type1 ?_ hs rfl
 rw[hs]
 show wpAny _ _ (spliced ((false,eval e X.env)::backTo pos2 [])) _ _ s
 refine Calls.spliced_cons (thn (he pins s σ H _ I h) fun u s1 ⟨x,H1,I1,r1,a,xs,ex,hq,q⟩=>?_)
 subst ex
 cases r1
 refine Calls.spliced_nil ?_
 obtain⟨its,rv,pl,hz⟩:=I1.list hq
 refine call_reversed_list pl.isList ?_
 refine Calls.spliced_nil ?_
 have I2:Inv X pins σ H1 { s1 with heap:=s1.heap.push (revObj a ((its.toArray.size:Int)-1)) }:=I1.kept (t':=s1.toks) fun b o e=>Heap.get?_push_of_some _ e
 have hne:a≠s1.heap.objs.size:=by obtain⟨o,ho,_⟩:=pl.isList;exact Nat.ne_of_lt (Heap.lt_size ho)
 refine LX.call_list_rev (items:=its.toArray) (I.ok.hd hc) hne ⟨_,Heap.get?_push_size _ rfl,rfl,rfl⟩ (pl.isList.at fun o e=>Heap.get?_push_of_some _ e) (by simpa[<- rv.length]using hz) fun h' tk acc c kp ho hi=>?_
 have hfr:H1 s1.heap.objs.size=none:=I1.hok.fresh (Nat.le_refl _)
 have fp:FpOk X pins H1 s1.heap.objs.size:=I1.fpOk (Nat.le_refl _) hfr
 have I3:Inv X pins σ H1 { s1 with heap:=h',toks:=tk }:=Inv.turned (s:={ s1 with heap:=s1.heap.push (revObj a ((its.toArray.size:Int)-1)) }) (it:=s1.heap.objs.size) (h':=h') (t':=tk) I2 (fun b o hb e=>kp b o hb e) fp.1 fp.2.1 fp.2.2.2.1 fp.2.2.2.2.1 fp.2.2.2.2.2
 generalize hDD:(s1.heap.push (revObj a ((its.toArray.size:Int)-1))).objs.size=D at ho ⊢
 have hD:H1 D=none:=by rw[<- hDD];exact I2.hok.fresh (Nat.le_refl _)
 have fD:FpOk X pins H1 D:=I2.fpOk (by rw[<- hDD];exact Nat.le_refl _) hD
 have e1:acc.toList=its.reverse:=zIy rv hi
 have ho':h'.get? D=some { cls:=.type "list",dict:=none,data:=.seq (its.reverse).toArray c,slots:=#[] }:=by rw[ho,<- e1]
 have hok:HOk X.prog X.w (upd H1 D (.lst xs.reverse)) h':=HOk.adopt I3.hok hD ⟨by rw[List.length_reverse];exact hz,_,_,rv.reverse,ho'⟩
 have I4:Inv X pins σ (upd H1 D (.lst xs.reverse)) { s1 with heap:=h',toks:=tk }:=by
  refine Inv.call' (s:={ s1 with heap:=s1.heap.push (revObj a ((its.toArray.size:Int)-1)) }) (s':={ s1 with heap:=h',toks:=tk }) (ch:=[s1.heap.objs.size]) I2 rfl ?_ hok I3.bare fun b hb=>?_
  ·have ne:∀b,b ∉ [s1.heap.objs.size]->b≠s1.heap.objs.size:=fun b hb z=>hb (by simp[z])
   exact⟨fun b o e _ _ hx=>kp b o (ne b hx) e,fun b o e _ _ hx=>⟨o.slots,kp b o (ne b hx) e⟩,fun b o e n _=>by
     rw[zAh (Nat.ne_of_lt (Nat.lt_of_lt_of_le (Heap.lt_size e) (by rw[<- hDD];exact Nat.le_refl _)))];exact n,fun b o e hx=>⟨o,kp b o (ne b hx) e⟩,
    fun b ys e=>by rw[zAh (zAd e hD)];exact e,fun b o u e=>by rw[zAh (zAd e hD)];exact e,fun b ps e=>⟨#[],by rw[zAh (zAd e hD),e];simp⟩⟩
  ·have e:b=s1.heap.objs.size:=by simpa using hb
   subst e
   exact⟨fp.2.2.2.1,fp.2.1,fp.2.2.2.2.1,fp.2.2.2.2.2⟩
 exact⟨.ref D,_,I4,rfl,q D hD⟩
theorem zGv {A:Around}{P:Program}{w:World}{bs:List Bool}{its:List Value}(r:Vals (bs.map V.bl) its):TruthOf P w A (fun i v=>its.toArray[i]?=some v) (fun i=>bs.getD i false):=by
 intro i v s Q E hv hq
 have hv':its[i]?=some v:=by simpa using hv
 have hlt:i<its.length:=(List.getElem?_eq_some_iff.mp hv').1
 have hl:=r.length
 rw[List.length_map]at hl
 have hb:(bs.map V.bl)[i]?=some (V.bl (bs[i]'(by first|assumption|lia))):=by rw[List.getElem?_map,List.getElem?_eq_getElem (by first|assumption|lia)];rfl
 obtain⟨u,hu,ru⟩:=r.get hb
 rw[hv']at hu
 cases hu
 cases ru
 dsimp only at hq
 rw[List.getD_eq_getElem?_getD,List.getElem?_eq_getElem (by first|assumption|lia)]at hq
 exact wpAny_truthy_bool hq
theorem zG4:∀bs:List Bool,((List.range bs.length).all fun i=>bs.getD i false)=bs.all id:=by
 intro bs
 rw[Bool.eq_iff_iff,List.all_eq_true,List.all_eq_true]
 constructor
 ·intro h b hb
  obtain⟨i,hi,rfl⟩:=List.mem_iff_getElem.mp hb
  have:=h i (List.mem_range.mpr hi)
  simpa[List.getD_eq_getElem?_getD,hi]using this
 ·intro h i hi
  have hi':=List.mem_range.mp hi
  have:=h bs[i] (List.getElem_mem hi')
  simpa[List.getD_eq_getElem?_getD,hi']using this
theorem zPb (hc:X.calm=true):zBk X (.builtin "all") (fun xs H Q=>∃(p:Addr) (bs:List Bool),xs=[.ref p]/\SqL X.K H p (bs.map V.bl)/\Q (.bl (bs.all id)) H):=by
 intro pins s σ H xs us Q I r h
 obtain⟨p,bs,rfl,hq,q⟩:=h
 obtain⟨u,rfl,rx⟩:=vals1 r
 cases rx
 obtain⟨its,rv,pl,hz⟩:=I.list hq
 have hl:=rv.length
 rw[List.length_map]at hl
 have hne:p≠s.heap.objs.size:=by obtain⟨o,ho,_⟩:=pl.isList;exact Nat.ne_of_lt (Heap.lt_size ho)
 refine call_all_walk (wpAny_pyIter_list pl.isList ?_)
 refine⟨_,_,_,_,_,_,_,rfl,Walks.list (A:=X.A.in1) (I.ok.hd hc) _ p hne its.toArray,⟨⟨_,Heap.get?_push_size _ rfl,rfl,rfl⟩,pl.isList.at fun o e=>Heap.get?_push_of_some _ e⟩,zGv rv,fun h' tk hk=>?_⟩
 have hfr:H s.heap.objs.size=none:=I.hok.fresh (Nat.le_refl _)
 have fp:FpOk X pins H s.heap.objs.size:=I.fpOk (Nat.le_refl _) hfr
 have e:((List.range its.toArray.size).all fun i=>bs.getD i false)=bs.all id:=by rw[List.size_toArray,<- hl];exact zG4 bs
 rw[e]
 exact⟨.bl (bs.all id),H,Inv.turned (it:=s.heap.objs.size) (h':=h') (t':=tk) (I.kept (t':=s.toks) fun b o e=>Heap.get?_push_of_some _ e) (fun b o hb e=>hk b o (by simpa using hb) e) fp.1 fp.2.1 fp.2.2.2.1 fp.2.2.2.2.1 fp.2.2.2.2.2,rfl,q⟩
end
end L2
namespace L2
open PySem PySem.Spec PyProof.Rows
inductive Dv where
 | non|bl (b:Bool)|int (i:Int)|str (x:Str)|tup (l:List Dv)|lst (l:List Dv)
mutual
def Dv.eqv:Dv->Dv->Bool
 | .non,.non=>true
 | .bl a,.bl b=>a == b
 | .int a,.int b=>a == b
 | .str a,.str b=>decide (a=b)
 | .tup a,.tup b=>eqvL a b
 | .lst a,.lst b=>eqvL a b
 | _,_=>false
def eqvL:List Dv->List Dv->Bool
 | [],[]=>true
 | a::r,b::t=>a.eqv b && eqvL r t
 | _,_=>false
end
mutual
def Dv.cmp:Dv->Dv->Bool
 | .non,.non=>true
 | .bl _,.bl _=>true
 | .int _,.int _=>true
 | .str _,.str _=>true
 | .tup a,.tup b=>cmpL a b
 | .lst a,.lst b=>cmpL a b
 | _,_=>false
def cmpL:List Dv->List Dv->Bool
 | a::r,b::t=>a.cmp b && cmpL r t
 | _,_=>true
end
mutual
def Dv.dep:Dv->Nat
 | .tup l=>depL l+1
 | .lst l=>depL l+1
 | _=>0
def depL:List Dv->Nat
 | []=>0
 | d::r=>max d.dep (depL r)
end
mutual
def Den (K:PySem.W.Frag) (H:Hp):Dv->V->Prop
 | .non,v=>v=.non
 | .bl b,v=>v=.bl b
 | .int i,v=>v=.int i
 | .str x,v=>v=.str x
 | .tup ds,v=>∃a xs,v=.ref a/\SqT K H a xs/\DenL K H ds xs
 | .lst ds,v=>∃a xs,v=.ref a/\SqL K H a xs/\DenL K H ds xs
def DenL (K:PySem.W.Frag) (H:Hp):List Dv->List V->Prop
 | [],xs=>xs=[]
 | d::ds,xs=>∃x r,xs=x::r/\Den K H d x/\DenL K H ds r
end
mutual
theorem Dv.eqv_iff:∀(a b:Dv),a.eqv b=true <-> a=b
 | .non,b=>by cases b <;> simp[Dv.eqv]
 | .bl x,b=>by cases b <;> simp[Dv.eqv]
 | .int x,b=>by cases b <;> simp[Dv.eqv]
 | .str x,b=>by cases b <;> simp[Dv.eqv]
 | .tup l,b=>by
  cases b with
  | tup m=>simp only[Dv.eqv,Dv.tup.injEq];exact zHi l m
  | _=>simp[Dv.eqv]
 | .lst l,b=>by
  cases b with
  | lst m=>simp only[Dv.eqv,Dv.lst.injEq];exact zHi l m
  | _=>simp[Dv.eqv]
theorem zHi:∀(a b:List Dv),eqvL a b=true <-> a=b
 | [],b=>by cases b <;> simp[eqvL]
 | x::r,b=>by
  cases b with
  | nil=>simp[eqvL]
  | cons y t=>simp only[eqvL,Bool.and_eq_true,List.cons.injEq,Dv.eqv_iff x y,zHi r t]
end
section
variable {X:Cx}{pins:List (Addr × Obj)}{σ:St}{H:Hp}{s:Shared}
mutual
theorem Den.inj (I:Inv X pins σ H s):∀(d e:Dv) (v:V),Den X.K H d v->Den X.K H e v->d.cmp e=true->d=e
 | .non,e,v,h,h',c=>by cases e <;> simp[Dv.cmp]at c;rfl
 | .bl x,e,v,h,h',c=>by
  cases e <;> simp[Dv.cmp]at c
  have:=Eq.trans (Eq.symm (show v=.bl x from h)) (show v=.bl _ from h')
  cases this;rfl
 | .int x,e,v,h,h',c=>by
  cases e <;> simp[Dv.cmp]at c
  have:=Eq.trans (Eq.symm (show v=.int x from h)) (show v=.int _ from h')
  cases this;rfl
 | .str x,e,v,h,h',c=>by
  cases e <;> simp[Dv.cmp]at c
  have:=Eq.trans (Eq.symm (show v=.str x from h)) (show v=.str _ from h')
  cases this;rfl
 | .tup l,e,v,h,h',c=>by
  cases e with
  | tup m=>
   obtain⟨a,xs,e1,q1,r1⟩:=h
   obtain⟨b,ys,e2,q2,r2⟩:=h'
   have e3:=Eq.trans (Eq.symm e1) e2
   cases e3
   have e4:=I.tuple_inj q1 q2
   subst e4
   rw[DenL.inj I l m xs r1 r2 (by simpa[Dv.cmp]using c)]
  | _=>simp[Dv.cmp]at c
 | .lst l,e,v,h,h',c=>by
  cases e with
  | lst m=>
   obtain⟨a,xs,e1,q1,r1⟩:=h
   obtain⟨b,ys,e2,q2,r2⟩:=h'
   have e3:=Eq.trans (Eq.symm e1) e2
   cases e3
   have e4:=I.list_inj q1 q2
   subst e4
   rw[DenL.inj I l m xs r1 r2 (by simpa[Dv.cmp]using c)]
  | _=>simp[Dv.cmp]at c
theorem DenL.inj (I:Inv X pins σ H s):∀(ds es:List Dv) (xs:List V),DenL X.K H ds xs->DenL X.K H es xs->cmpL ds es=true->ds=es
 | [],es,xs,h,h',c=>by
  cases es with
  | nil=>rfl
  | cons e es=>
   obtain⟨x,r,e1,_⟩:=h'
   rw[show xs=[]from h]at e1
   cases e1
 | d::ds,es,xs,h,h',c=>by
  cases es with
  | nil=>
   obtain⟨x,r,e1,_⟩:=h
   rw[show xs=[]from h']at e1
   cases e1
  | cons e es=>
   obtain⟨x,r,e1,h1,h2⟩:=h
   obtain⟨y,t,e2,h3,h4⟩:=h'
   have e3:=Eq.trans (Eq.symm e1) e2
   cases e3
   simp only[cmpL,Bool.and_eq_true]at c
   rw[Den.inj I d e x h1 h3 c.1,DenL.inj I ds es r h2 h4 c.2]
end
theorem DenL.len {K:PySem.W.Frag}{H:Hp}:∀{ds:List Dv}{xs:List V},DenL K H ds xs->ds.length=xs.length
 | [],_,h=>by rw[show _=[]from h];rfl
 | d::ds,xs,⟨x,r,e,_,h⟩=>by rw[e,List.length_cons,List.length_cons,DenL.len h]
theorem DenL.get {K:PySem.W.Frag}{H:Hp}:∀{ds:List Dv}{xs:List V}{j:Nat}{d:Dv}{x:V},DenL K H ds xs->ds[j]?=some d->xs[j]?=some x->Den K H d x
 | [],_,_,_,_,_,e,_=>by simp at e
 | d::ds,xs,0,d',x',⟨x,r,e,h1,_⟩,e1,e2=>by
  subst e
  simp at e1 e2
  subst e1 e2
  exact h1
 | d::ds,xs,j+1,d',x',⟨x,r,e,_,h2⟩,e1,e2=>by
  subst e
  exact DenL.get (j:=j) h2 (by simpa using e1) (by simpa using e2)
theorem zHq:∀{ds es:List Dv}{j:Nat}{d e:Dv},cmpL ds es=true->ds[j]?=some d->es[j]?=some e->d.cmp e=true
 | [],_,_,_,_,_,h,_=>by simp at h
 | _::_,[],_,_,_,_,_,h=>by simp at h
 | a::r,b::t,0,d,e,c,h1,h2=>by
  simp at h1 h2
  subst h1 h2
  simp only[cmpL,Bool.and_eq_true]at c
  exact c.1
 | a::r,b::t,j+1,d,e,c,h1,h2=>by
  simp only[cmpL,Bool.and_eq_true]at c
  exact zHq (j:=j) c.2 (by simpa using h1) (by simpa using h2)
theorem zHp:∀{ds:List Dv}{j:Nat}{d:Dv},ds[j]?=some d->d.dep<=depL ds
 | [],_,_,h=>by simp at h
 | a::r,0,d,h=>by simp at h;subst h;simp only[depL];lia
 | a::r,j+1,d,h=>by
  have:=zHp (ds:=r) (j:=j) (d:=d) (by simpa using h)
  simp only[depL];lia
def zG6 (ds es:List Dv) (j:Nat):Bool:=match ds[j]?,es[j]? with
 | some d,some e=>d.eqv e
 | _,_=>true
theorem zHj:∀(ds es:List Dv),((List.range (min ds.length es.length)).all (zG6 ds es) && ds.length == es.length)=eqvL ds es
 | [],[]=>rfl
 | [],e::es=>by simp[eqvL]
 | d::ds,[]=>by simp[eqvL]
 | d::ds,e::es=>by
  have ih:=zHj ds es
  have h1:min (d::ds).length (e::es).length=min ds.length es.length+1:=by simp only[List.length_cons];lia
  have hf:((List.range (min ds.length es.length)).map Nat.succ).all (zG6 (d::ds) (e::es))=(List.range (min ds.length es.length)).all (zG6 ds es):=by
   rw[List.all_map]
   rfl
  have h0:zG6 (d::ds) (e::es) 0=d.eqv e:=rfl
  have h2:((d::ds).length == (e::es).length)=(ds.length == es.length):=by simp
  rw[h1,List.range_succ_eq_map,List.all_cons,hf,h0,h2,Bool.and_assoc,ih,eqvL]
theorem units_in1 (A:Around):A.in1.units=A.units+1:=rfl
theorem zYw (I:Inv X pins σ H s):∀(n:Nat) (d e:Dv),d.dep<=n->∀(A:Around) (x y:V) (u v:Value),A.units+n<cLine->Den X.K H d x->Den X.K H e y->RelV x u->RelV y v->d.cmp e=true->SeqAt.EqAt A s u v (d.eqv e):=by
 intro n
 induction n with
 | zero=>
  intro d e hd A x y u v hu h1 h2 r1 r2 hc
  cases d with
  | non=>cases e <;> simp[Dv.cmp]at hc;rw[show x=.non from h1]at r1;rw[show y=.non from h2]at r2;cases r1;cases r2;exact SeqAt.EqAt.same _
  | bl a=>cases e with|bl b=>(rw[show x=.bl a from h1]at r1;rw[show y=.bl b from h2]at r2;cases r1;cases r2;exact SeqAt.EqAt.bool_bool a b)|_=>simp[Dv.cmp]at hc
  | int a=>cases e with|int b=>(rw[show x=.int a from h1]at r1;rw[show y=.int b from h2]at r2;obtain⟨t,rfl⟩:=r1;obtain⟨t',rfl⟩:=r2;exact SeqAt.EqAt.int_int a t b t')|_=>simp[Dv.cmp]at hc
  | str a=>cases e with|str b=>(rw[show x=.str a from h1]at r1;rw[show y=.str b from h2]at r2;obtain⟨t,rfl⟩:=r1;obtain⟨t',rfl⟩:=r2;have q:=SeqAt.EqAt.str_str (A:=A) (s:=s) a t b t';rw[Bool.beq_eq_decide_eq]at q;exact q)|_=>simp[Dv.cmp]at hc
  | tup l=>simp[Dv.dep]at hd
  | lst l=>simp[Dv.dep]at hd
 | succ n ih=>
  intro d e hd A x y u v hu h1 h2 r1 r2 hc
  cases d with
  | non=>exact ih .non e (by simp[Dv.dep]) A x y u v (by first|assumption|lia) h1 h2 r1 r2 hc
  | bl a=>exact ih (.bl a) e (by simp[Dv.dep]) A x y u v (by first|assumption|lia) h1 h2 r1 r2 hc
  | int a=>exact ih (.int a) e (by simp[Dv.dep]) A x y u v (by first|assumption|lia) h1 h2 r1 r2 hc
  | str a=>exact ih (.str a) e (by simp[Dv.dep]) A x y u v (by first|assumption|lia) h1 h2 r1 r2 hc
  | tup l=>
   cases e with
   | tup m=>
    obtain⟨a,xs,ea,qa,ra⟩:=id h1
    obtain⟨b,ys,eb,qb,rb⟩:=id h2
    subst ea eb
    cases r1
    cases r2
    by_cases hab:a=b
    ·subst hab
     have e1:=Den.inj I _ _ _ h1 h2 hc
     rw[(Dv.eqv_iff _ _).mpr e1]
     exact SeqAt.EqAt.same _
    ·obtain⟨its,va,ta,_⟩:=I.tuple qa
     obtain⟨jts,vb,tb,_⟩:=I.tuple qb
     have la:=ra.len.trans va.length
     have lb:=rb.len.trans vb.length
     refine SeqAt.EqAt.of_refs hab ?_
     have key:=SeqAt.RcAt.tuples (A:=A) (e:=zG6 l m) (show s.heap.IsTuple a its.toArray from ta) (show s.heap.IsTuple b jts.toArray from tb) (by first|assumption|lia) (fun j h1' h2'=>?_)
     ·simp only[List.size_toArray]at key
      rw[<- la,<- lb,zHj]at key
      exact key
     ·simp only[List.size_toArray]at h1' h2'
      simp only[List.getElem_toArray]
      have gl:l[j]?=some (l[j]'(by first|assumption|lia)):=List.getElem?_eq_getElem (by first|assumption|lia)
      have gm:m[j]?=some (m[j]'(by first|assumption|lia)):=List.getElem?_eq_getElem (by first|assumption|lia)
      have gx:xs[j]?=some (xs[j]'(by rw[va.length];lia)):=List.getElem?_eq_getElem _
      have gy:ys[j]?=some (ys[j]'(by rw[vb.length];lia)):=List.getElem?_eq_getElem _
      obtain⟨u',gu,ru⟩:=va.get gx
      obtain⟨v',gv,rv⟩:=vb.get gy
      rw[List.getElem?_eq_getElem h1']at gu
      rw[List.getElem?_eq_getElem h2']at gv
      cases gu
      cases gv
      have e1:zG6 l m j=(l[j]'(by first|assumption|lia)).eqv (m[j]'(by first|assumption|lia)):=by simp only[zG6,gl,gm]
      rw[e1]
      have hdep:=zHp gl
      simp only[Dv.dep]at hd
      simp only[Dv.cmp]at hc
      exact ih _ _ (by first|assumption|lia) A.in1 _ _ _ _ (by rw[units_in1];lia) (ra.get gl gx) (rb.get gm gy) ru rv (zHq hc gl gm)
   | _=>simp[Dv.cmp]at hc
  | lst l=>
   cases e with
   | lst m=>
    obtain⟨a,xs,ea,qa,ra⟩:=id h1
    obtain⟨b,ys,eb,qb,rb⟩:=id h2
    subst ea eb
    cases r1
    cases r2
    by_cases hab:a=b
    ·subst hab
     have e1:=Den.inj I _ _ _ h1 h2 hc
     rw[(Dv.eqv_iff _ _).mpr e1]
     exact SeqAt.EqAt.same _
    ·obtain⟨its,va,ta,_⟩:=I.list qa
     obtain⟨jts,vb,tb,_⟩:=I.list qb
     have la:=ra.len.trans va.length
     have lb:=rb.len.trans vb.length
     refine SeqAt.EqAt.of_refs hab ?_
     by_cases hsz:its.length=jts.length
     ·have key:=SeqAt.RcAt.lists (A:=A) (e:=zG6 l m) ta.isList tb.isList (by simpa using hsz) (by first|assumption|lia) (fun j h1' h2'=>?_)
      ·simp only[List.size_toArray]at key
       have e2:=zHj l m
       rw[la,lb,hsz,Nat.min_self,beq_self_eq_true,Bool.and_true]at e2
       rw[hsz,e2]at key
       exact key
      ·simp only[List.size_toArray]at h1' h2'
       simp only[List.getElem_toArray]
       have gl:l[j]?=some (l[j]'(by first|assumption|lia)):=List.getElem?_eq_getElem (by first|assumption|lia)
       have gm:m[j]?=some (m[j]'(by first|assumption|lia)):=List.getElem?_eq_getElem (by first|assumption|lia)
       have gx:xs[j]?=some (xs[j]'(by rw[va.length];lia)):=List.getElem?_eq_getElem _
       have gy:ys[j]?=some (ys[j]'(by rw[vb.length];lia)):=List.getElem?_eq_getElem _
       obtain⟨u',gu,ru⟩:=va.get gx
       obtain⟨v',gv,rv⟩:=vb.get gy
       rw[List.getElem?_eq_getElem h1']at gu
       rw[List.getElem?_eq_getElem h2']at gv
       cases gu
       cases gv
       have e1:zG6 l m j=(l[j]'(by first|assumption|lia)).eqv (m[j]'(by first|assumption|lia)):=by simp only[zG6,gl,gm]
       rw[e1]
       have hdep:=zHp gl
       simp only[Dv.dep]at hd
       simp only[Dv.cmp]at hc
       exact ih _ _ (by first|assumption|lia) A.in1 _ _ _ _ (by rw[units_in1];lia) (ra.get gl gx) (rb.get gm gy) ru rv (zHq hc gl gm)
     ·have e2:(Dv.lst l).eqv (.lst m)=false:=by
       rw[Bool.eq_false_iff]
       intro z
       have z':=(Dv.eqv_iff _ _).mp z
       cases z'
       lia
      rw[e2]
      exact SeqAt.RcAt.lists_lengths ta.isList tb.isList (by simpa using hsz) (by first|assumption|lia)
   | _=>simp[Dv.cmp]at hc
def gLst (K:PySem.W.Frag) (n:Nat) (t:TGs):TG:=fun v σ H Q=>∃a xs,v=.ref a/\SqL K H a xs/\xs.length=n/\t xs σ H Q
theorem zL0 {prog:Program}{w:World}{A:Around}{E:Value->Shared->Prop}{it t:Addr}{items:Array Value}(hne:t≠it):∀(n i:Nat) (s:Shared) (Q:List Value->Shared->Prop),s.heap.IsListIter it t i->s.heap.IsList t items->i+n<=items.size->
  (∀h',h'.IsListIter it t (i+n)->Heap.SameBut it s.heap h'->Q ((items.toList.drop i).take n) { s with heap:=h' })->wpAny (model prog w) A (draw (.ref it) n) Q E s
 | 0,i,s,Q,hit,_,_,hQ=>by
  show wpAny _ _ (pure []) Q E s
  exact wpAny_pure (by simpa using hQ s.heap hit (Heap.SameBut.refl ..))
 | n+1,i,s,Q,hit,ht,hle,hQ=>by
  have hlt:i<items.size:=by first|assumption|lia
  show wpAny _ _ (pyNext (.ref it) >>= _) Q E s
  refine wpAny_bind (wpAny_pyNext_list_item hit ht (x:=items[i]) (by simp[hlt]) fun h₁ hit₁ hs₁=>?_)
  refine wpAny_bind (wpAny_holding (zL0 hne n (i+1) { s with heap:=h₁ } _ hit₁ (ht.at fun o e=>hs₁.extBut t o hne e) (by first|assumption|lia) fun h₂ hit₂ hs₂=>wpAny_pure ?_))
  have hd:items.toList.drop i=items[i]::items.toList.drop (i+1):=by simp[List.drop_eq_getElem_cons,hlt]
  have:=hQ h₂ (by rw[show i+(n+1)=i+1+n by first|assumption|lia];exact hit₂) (hs₁.trans hs₂)
  rw[hd,List.take_succ_cons]at this
  exact this
theorem zF1 {prog:Program}{w:World}{A:Around}{E:Value->Shared->Prop}{s:Shared}{t:Addr}{items:Array Value}{Q:List Value->Shared->Prop}(hh:A.handled=none) (ht:s.heap.IsList t items)
  (hQ:∀h',Heap.ExtBut s.heap.objs.size s.heap h'->Q items.toList { s with heap:=h' }):wpAny (model prog w) A (unpackItems (.ref t) items.size none) Q E s:=by
 have hlt:t≠s.heap.objs.size:=by obtain⟨o,ho,_⟩:=ht;exact Nat.ne_of_lt (Heap.lt_size ho)
 unfold unpackItems
 refine wpAny_bind ?_
 ·unfold notIterableAtAll
  refine wpAny_bind (wpAny_specialOf ht.typeIs slot_list_iter.lookup ?_)
  refine wpAny_pure ?_
  simp only[Bool.false_eq_true,if_false]
  refine wpAny_bind (wpAny_holding (wpAny_pyIter_list ht ?_))
  refine wpAny_bind (wpAny_holding (zL0 hlt items.size 0 _ _ ⟨_,Heap.get?_push_size _ rfl,rfl,rfl⟩ (ht.at fun o e=>Heap.get?_push_of_some _ e) (by first|assumption|lia) fun h₁ hit₁ hs₁=>?_))
  have hall:List.take items.size (List.drop 0 items.toList)=items.toList:=by
   rw[List.drop_zero];exact List.take_of_length_le (by simp)
  rw[hall]
  rw[if_neg (by simp)]
  have ht₁:h₁.IsList t items:=ht.at fun o e=>hs₁.extBut t o hlt (Heap.get?_push_of_some _ e)
  refine wpAny_bind (wpAny_holding (wpAny_pyNext_list_end hh hit₁ ht₁ (by simp) fun h₂ he₂=>?_))
  simp only[Option.isSome_none,Bool.false_eq_true,if_false]
  refine wpAny_pure (hQ h₂ fun b o hb e=>he₂ b o hb (hs₁.extBut b o hb (Heap.get?_push_of_some _ e)))
theorem zXj {es:List Expr}{k:Nat}{t:TGs}{n:Nat}{pos:Pos}(hc:X.calm=true) (h:PGs X es t)
  (hn:(assignEach es X.env).length=n:=by rfl) (hst:(assignEach es X.env).findIdx? (·.1)=none:=by rfl):PG X (.Tuple es k pos) (gLst X.K n t):=by
 intro pins s σ H v u Q I r hw
 obtain⟨a,xs,e1,hq,hl,hw⟩:=hw
 subst e1
 cases r
 obtain⟨its,rv,ht,hz⟩:=I.list hq
 rw[assign_Tuple]
 refine wpAny_bind (wpAny_standAt ?_)
 unfold unpack
 rw[hst,hn,show n=its.toArray.size by rw[List.size_toArray,<- rv.length,hl]]
 refine wpAny_bind (wpAny_holding (zF1 (I.ok.hd hc) ht.isList fun h' hx=>?_))
 have I1:Inv X pins σ H { s with heap:=h' }:=I.kept (t':=s.toks) fun b o e=>hx b o (Nat.ne_of_lt (Heap.lt_size e)) e
 exact h pins _ σ H xs _ Q I1 (by simpa using rv) hw
end
end L2
namespace L2
open PySem PySem.Spec PyProof.Rows
structure Cal (P:Program) (w:World) (K:PySem.W.Frag) (mg:Str->Option Value) (base:Heap) (x:Str) (k:Nat) (ps:List Str) (sp:Sp):Prop where
 ex:∃f fd,FnOk P w K mg base CX0 k f fd ps sp/\mg x=some (.ref f)/\PySem.W.keepIn K (.ref f)=true/\Binds K fd ps []
section
variable {X:Cx}{x:Str}{k:Nat}{ps:List Str}{sp:Sp}{e:Expr}{es:List Expr}{t:TA}{p pos:Pos}
theorem zXv (C:Cal X.prog X.w X.K X.mg X.base x k ps sp) (hr:Room k X.A) (hg:Gl X x) (ha:PA X (e::es) t) (hdb:(x == ("__debug__":Str))=false:=by decide)
  (hs:starEach (e::es) X.env=(false,eval e X.env)::starEach es X.env:=by rfl) (hpl:(backTo pos (starEach es X.env)).any (·.1)=false:=by rfl):
  PE X (.Call (.Name x p) (e::es) [] pos) (zPq sp [] E0 t):=by
 obtain⟨f,fd,F,hm,hk,hb⟩:=C.ex
 exact zUu F hr hg hm hk hb .nil pass0 ha hdb hs hpl
end
structure yA7 (s n:Int) (ls:List Int):Prop where
 s0:0<=s
 s1:s<2147483647
 n0:0<=n
 all:∀i∈ls,0<=i
 len:ls.length<=100
end L2
namespace L2
open PySem PySem.Spec PyProof.Rows
def nst:Expr->Bool
 | .Starred ..=>false
 | _=>true
theorem zBd {e:Expr}{es:List Expr}{env:Env}(h:nst e=true):starEach (e::es) env=(false,eval e env)::starEach es env:=by
 cases e <;> first|rfl|cases h
theorem zFp {env:Env}{pos:Pos}:∀{es:List Expr},es.all nst=true->(backTo pos (starEach es env)).any (·.1)=false
 | [],_=>rfl
 | e::es,h=>by
  simp only[List.all_cons,Bool.and_eq_true]at h
  rw[zBd h.1]
  show(false || (backTo pos (starEach es env)).any (·.1))=false
  rw[zFp h.2];rfl
def nsl:Expr->Bool
 | .Slice ..=>false
 | _=>true
theorem zQb {b:Expr}(h:nsl b=true):zPl b:=fun o i=>by cases b <;> first|rfl|cases h
def nco:Expr->Bool
 | .ListComp ..|.SetComp ..|.DictComp ..=>false
 | _=>true
theorem zGz {e:Expr}{tg:Option Expr}{l:Nat}{env:Env}(h:nco e=true):swapsWith e tg l env=pure false:=by cases e <;> first|rfl|cases h
theorem zTs {e:Expr}{tg:Expr}{l:Nat}{env:Env}(h:nco e=true):swapsWithSole [tg] e l env=pure false:=zGz h
theorem zK8 {e:Expr}{es:List Expr}{k:Nat}{p:Pos}{l:Nat}{env:Env}:swapsWithSole [.Tuple es k p] e l env=pure false:=by
 show swapsWith e (some (.Tuple es k p)) l env=pure false
 cases e <;> rfl
def ntu:Expr->Bool
 | .Tuple ..=>false
 | _=>true
theorem zMm {e:Expr}{tg:Expr}{env:Env}(h:ntu e=true):swappedStores [tg] e env=pure none:=by
 unfold swappedStores
 split
 ·rename_i q
  split at q
  ·cases h
  ·cases h
  ·cases q
 ·rfl
theorem zFw {tg:Expr}{es:List Expr}{env:Env}(h:nst tg=true):(assignEach (tg::es) env).map (·.2)=assign tg env::(assignEach es env).map (·.2):=by cases tg <;> first|rfl|cases h
theorem zB3 {env:Env}:∀{es:List Expr},es.all nst=true->(assignEach es env).length=es.length/\(assignEach es env).findIdx? (·.1)=none
 | [],_=>⟨rfl,rfl⟩
 | e::es,h=>by
  simp only[List.all_cons,Bool.and_eq_true]at h
  obtain⟨h1,h2⟩:=zB3 (env:=env) h.2
  have e1:assignEach (e::es) env=(false,assign e env)::assignEach es env:=by
   have:=h.1
   cases e <;> first|rfl|cases this
  rw[e1]
  refine⟨by rw[List.length_cons,h1,List.length_cons],?_⟩
  rw[List.findIdx?_cons]
  simp[h2]
def nse:Expr->Bool
 | .Set ..=>false
 | _=>true
theorem zH1 {e:Expr}{env:Env}(h:nse e=true) (x:Value):foldedSetIterable e env x=pure x:=by cases e <;> first|rfl|cases h
def nba:Expr->Bool
 | .Call ..=>false
 | _=>true
theorem zFo {o:Expr}{m:Str}{env:Env}(h:nba o=true):attributeBase o m env (eval o env)=eval o env:=by cases o <;> first|rfl|cases h
def ntt:Expr->Bool
 | .UnaryOp ..|.BoolOp ..|.IfExp ..|.Compare ..=>false
 | _=>true
theorem zTm {e:Expr}{env:Env}(h:ntt e=true) (whole:Sem Value):isTrue e env whole=(do let v <- whole;standAt e.pos;holding [v] (truthy v)):=by cases e <;> first|rfl|cases h
section
variable {X:Cx}{e o i a b:Expr}{es:List Expr}{te ta tb to ti:TE}{t:TA}{p pos cpos apos:Pos}
theorem qa (ha:PE X e te) (hr:PA X es t) (h:nst e=true:=by rfl):PA X (e::es) (zTo te t):=zUw ha hr (zBd h)
theorem qix {r:R2}(hr:IxR X r) (ha:PE X a ta) (hb:PE X b tb) (h:nsl b=true:=by rfl):PE X (.Subscript a b pos) (tOp r ta tb):=zZl hr ha hb (zQb h)
theorem qcal {x:Str}{k:Nat}{ps:List Str}{sp:Sp}(C:Cal X.prog X.w X.K X.mg X.base x k ps sp) (hr:Room k X.A) (hg:Gl X x) (ha:PA X (e::es) t) (hdb:(x == ("__debug__":Str))=false:=by decide)
  (h:(e::es).all nst=true:=by rfl):PE X (.Call (.Name x p) (e::es) [] pos) (zPq sp [] E0 t):=by
 simp only[List.all_cons,Bool.and_eq_true]at h
 exact zXv C hr hg ha hdb (zBd h.1) (zFp h.2)
theorem zX7 {x:Str}{id:String}{r:List V->Hp->VK->Prop}(hc:zBk X (.builtin id) r) (hg:Gl X x) (hm:X.mg x=none) (hv:bootBuiltins x=some (.builtin id)) (ha:PA X (e::es) t) (hn:x≠"__name__":=by decide) (hdb:(x == ("__debug__":Str))=false:=by decide)
  (h:(e::es).all nst=true:=by rfl):PE X (.Call (.Name x p) (e::es) [] pos) (tCB r t):=by
 simp only[List.all_cons,Bool.and_eq_true]at h
 exact zQn hc hg hm hv ha hn hdb (zBd h.1) (zFp h.2)
theorem zX6 {x:Str}{T:String}{r:List V->Hp->VK->Prop}(hc:zBk X (.type T) r) (hg:Gl X x) (hm:X.mg x=none) (hv:bootBuiltins x=some (.type T)) (ha:PA X (e::es) t) (hn:x≠"__name__":=by decide) (hdb:(x == ("__debug__":Str))=false:=by decide)
  (h:(e::es).all nst=true:=by rfl):PE X (.Call (.Name x p) (e::es) [] pos) (tCB r t):=by
 simp only[List.all_cons,Bool.and_eq_true]at h
 exact zNg hc hg hm hv ha hn hdb (zBd h.1) (zFp h.2)
theorem qtruth (ha:PE X e te) (h:ntt e=true:=by rfl):PT X e (fun σ H Q=>te σ H fun x H1=>∃k,TruV X.K x H1 k/\Q k H1):=zQ1 ha (zTm h)
theorem qset {j:Nat}{x:Str}{pos':Pos}(hN:X.N.Nodup) (hi:X.N[j]?=some x) (hx:Loc X.env.scope x) (he:PE X e te) (hf:X.fn x=true\/X.env.scope.names.lookup x=some .local:=by first|exact .inl rfl|exact .inr rfl|assumption) (h:nco e=true:=by rfl):
  PS X (.Assign [.Name x pos'] e pos) (tAsg te (gName j)):=zXe hN hi hx he (zGz h) hf
theorem qasgt {ts:List Expr}{k:Nat}{tp:Pos}{g:TG}(he:PE X e te) (hg:PG X (.Tuple ts k tp) g) (h1:ntu e=true:=by rfl):PS X (.Assign [.Tuple ts k tp] e pos) (tAsg te g):=zSn he hg zK8 (zMm h1) rfl
theorem qgs {tg:Expr}{ts:List Expr}{g:TG}{gs:TGs}(h1:PG X tg g) (h2:PGs X ts gs) (h:nst tg=true:=by rfl):PGs X (tg::ts) (zVu g gs):=zQf h1 h2 (zFw h)
theorem qtup {ts:List Expr}{k n:Nat}{gs:TGs}(hc:X.calm=true) (h:PGs X ts gs) (hn:ts.length=n:=by rfl) (h1:ts.all nst=true:=by rfl):PG X (.Tuple ts k pos) (gTup X.K n gs):=zXk hc h ((zB3 h1).1.trans hn) (zB3 h1).2
theorem qunl {ts:List Expr}{k n:Nat}{gs:TGs}(hc:X.calm=true) (h:PGs X ts gs) (hn:ts.length=n:=by rfl) (h1:ts.all nst=true:=by rfl):PG X (.Tuple ts k pos) (gLst X.K n gs):=zXj hc h ((zB3 h1).1.trans hn) (zB3 h1).2
theorem qfor {tg iter:Expr}{body:List Stmt}{wi:TI}{g:TG}{tb:TS}(hp:PassesOwn (model X.prog X.w) X.A X.env X.xe) (hc:X.calm=true) (hi:PI X tg iter wi) (hg:PG X tg g) (hb:PSs X body tb) (h:nse iter=true:=by rfl):
  PS X (.For tg iter body [] pos) (tFor wi g tb):=zXi hp hc hi hg hb (zH1 h)
theorem qexpr (he:PE X e te) (h:nco e=true:=by rfl):PS X (.Expr e pos) (zTn te):=zUf he (zGz h)
theorem qlcomp {own fre:List Str}{ix:List Nat}{scope:Scope}{tg elt iter:Expr}{ifs:List Expr}{wi:TI}{g:TG}{tt:TT}(hc:X.calm=true) (S:CompScope X own fre ix scope) (hi:PI X tg iter wi)
  (hg:∀cl C s H fp,PG (zAm X (own++fre) scope cl C s H fp) tg g) (ht:∀cl C s H fp,PIfs (zAm X (own++fre) scope cl C s H fp) ifs tt) (he:∀cl C s H fp,PE (zAm X (own++fre) scope cl C s H fp) elt te)
  (h:nse iter=true:=by rfl):PE X (.ListComp elt [⟨tg,iter,ifs,0⟩] scope pos) (zJ1 own ix wi g tt te):=zQi hc S hi hg ht he (zH1 h)
theorem qsetc {own fre:List Str}{ix:List Nat}{scope:Scope}{j:Nat}{x:Str}{pos':Pos}{tg elt iter:Expr}{ifs:List Expr}{wi:TI}{g:TG}{tt:TT}(hN:X.N.Nodup) (hix:X.N[j]?=some x) (hx:Loc X.env.scope x)
  (hc:X.calm=true) (S:CompScope X own fre ix scope) (hi:PI X tg iter wi)
  (hg:∀cl C s H fp,PG (zAm X (own++fre) scope cl C s H fp) tg g) (ht:∀cl C s H fp,PIfs (zAm X (own++fre) scope cl C s H fp) ifs tt) (he:∀cl C s H fp,PE (zAm X (own++fre) scope cl C s H fp) elt te)
  (hsw:swapsWith (.ListComp elt [⟨tg,iter,ifs,0⟩] scope cpos) (some (.Name x pos')) pos.line X.env=pure true:=by rfl) (h:nse iter=true:=by rfl) (hf:X.fn x=true\/X.env.scope.names.lookup x=some .local:=by first|exact .inl rfl|exact .inr rfl|assumption):
  PS X (.Assign [.Name x pos'] (.ListComp elt [⟨tg,iter,ifs,0⟩] scope cpos) pos) (tAsg (zJ1 own ix wi g tt te) (gName j)):=zUd hN hix hx hc S hi hg ht he hsw (zH1 h) hf
theorem qrange1 {tg:Expr}{ta:TA}(hg:Gl X "range") (hm:X.mg "range"=none) (ha:PA X [a] ta) (h:nst a=true:=by rfl):PI X tg (.Call (.Name "range" p) [a] [] pos) (zVm ta):=zNc hg hm ha (zBd h)
theorem qlistrev {p2 pos2:Pos}(hc:X.calm=true) (he:PE X e te) (hgl:Gl X "list") (hml:X.mg "list"=none) (hgr:Gl X "reversed") (hmr:X.mg "reversed"=none) (h:nst e=true:=by rfl):
  PE X (.Call (.Name "list" p) [.Call (.Name "reversed" p2) [e] [] pos2] [] pos) (zGy X.K te):=zLh hc he hgl hml hgr hmr (zBd h) rfl
theorem qbm0 {T name id:_}{r:V->List V->Hp->VK->Prop}(pa:PlainAttrs T) (slot:Slot T name id) (hty:typeOf (.builtin id)=pure (.type "method_descriptor")) (hm:MtR X id r) (ho:PE X o to) (h:nba o=true:=by rfl) (hline:(apos.endLine == cpos.line)=true:=by rfl):
  PE X (.Call (.Attribute o name apos) [] [] cpos) (tBM0 X.K T r to):=zXw pa slot hty hm ho (zFo h) hline
theorem qpar {x y:Str}{px py pt pt2:Pos}{kt k2 i j:Nat}{ta:TA}(hc:X.calm=true) (hN:X.N.Nodup) (hi:X.N[i]?=some x) (hj:X.N[j]?=some y) (hij:i≠j)
  (hx:X.env.scope.names.lookup x=some .local) (hy:X.env.scope.names.lookup y=some .local) (ha:PA X [a,b] ta)
  (hw:swappedStores [.Tuple [.Name x px,.Name y py] kt pt] (.Tuple [a,b] k2 pt2) X.env=pure (some [x,y])):
  PS X (.Assign [.Tuple [.Name x px,.Name y py] kt pt] (.Tuple [a,b] k2 pt2) pos) (tPar i j ta):=zXg hc hN hi hj hij hx hy ha hw zK8
end
end L2
namespace L2
open PySem PySem.Spec PyProof.Rows
structure SE (X:Cx) (e:Expr) (t:TE):Prop where h:PE X e t
structure ST (X:Cx) (e:Expr) (t:TT):Prop where h:PT X e t
structure SW (X:Cx) (e:Expr) (t:TT):Prop where h:PW X e t
structure SA (X:Cx) (es:List Expr) (t:TA):Prop where h:PA X es t
structure SS (X:Cx) (st:Stmt) (t:TS):Prop where h:PS X st t
structure SSs (X:Cx) (st:List Stmt) (t:TS):Prop where h:PSs X st t
structure SG (X:Cx) (e:Expr) (t:TG):Prop where h:PG X e t
structure SGs (X:Cx) (es:List Expr) (t:TGs):Prop where h:PGs X es t
structure SI (X:Cx) (tg e:Expr) (t:TI):Prop where h:PI X tg e t
structure SIfs (X:Cx) (es:List Expr) (t:TT):Prop where h:PIfs X es t
structure SO (X:Cx) (e:Option Expr) (t:TO):Prop where h:PO X e t
structure SPs (X:Cx) (pos:Pos) (ks:List (Option Expr)) (vs:List Expr) (t:List (TE × TE)):Prop where h:PPs X pos ks vs t
section
variable {X:Cx}{e o i a b c:Expr}{es:List Expr}{te ta tb tc to ti tv td ty:TE}{t:TA}{p pos cpos apos:Pos}{tA tB':TT}
theorem pv' (i:Nat) {x:Str}{pos:Pos}(hN:X.N[i]?=some x:=by rfl) (hv:Vis X.env.scope x:=by first|exact Or.inl rfl|exact Or.inr (Or.inl rfl)|exact Or.inr (Or.inr rfl)) (hd:(x == ("__debug__":Str))=false:=by decide)
  (hcd:(x == ("__classdict__":Str))=false:=by decide):SE X (.Name x pos) (tVar i):=⟨pv i hN hv hd hcd⟩
theorem zUq {i:Int}{j:Nat}:SE X (.Constant (.int i) j pos) (tC (.int i)):=⟨zXu⟩
theorem zXy {b:Bool}{j:Nat}:SE X (.Constant (.bool b) j pos) (tC (.bl b)):=⟨zZn⟩
theorem zNd {x:Str}{j:Nat}:SE X (.Constant (.str x) j pos) (tC (.str x)):=⟨zXp⟩
theorem zQo {x:Str}{v:V}{u:Value}(hg:Gl X x) (hm:X.mg x=none) (hv:bootBuiltins x=some u) (r:RelV v u) (hn:x≠"__name__":=by decide) (hd:(x == ("__debug__":Str))=false:=by decide):SE X (.Name x pos) (tC v):=⟨zUv hg hm hv r hn hd⟩
theorem zXq {op:Operator}{r:R2}(ho:OpR X (binaryOp op) r) (ha:SE X a ta) (hb:SE X b tb):SE X (.BinOp a op b pos) (tOp r ta tb):=⟨zZk ho ha.h hb.h⟩
theorem zXn {op:UnaryOp}{r:V->Hp->VK->Prop}(ho:UnR X (unaryOp op) r) (ha:SE X a ta):SE X (.UnaryOp op a pos) (tUn r ta):=⟨zZj ho ha.h⟩
theorem zUo (ha:SE X a ta):SE X (.UnaryOp .Not a pos) (zWw ta):=⟨zXs ha.h⟩
theorem zUn {op:BoolOp}(ha:SE X a ta):SE X (.BoolOp op [a] pos) ta:=⟨zXr ha.h⟩
theorem zNf (hc:ST X c tA) (ha:SE X a ta) (hb:SE X b tb):SE X (.IfExp c a b pos) (tIf tA ta tb):=⟨zQj hc.h ha.h hb.h⟩
theorem zUm {k:Nat}(h:SA X es t):SE X (.Tuple es k pos) (tTup t):=⟨zXo h.h⟩
theorem zUp (h:SA X es t):SE X (.List es pos) (tLst t):=⟨zXt h.h⟩
theorem zQl {keys:List (Option Expr)}{values:List Expr}{trs:List (TE × TE)}(h:SPs X pos keys values trs) (hall:keys.all (·.isSome)=true) (hl:keys.length=values.length) (h0:keys≠[]) (h15:keys.length<=15):SE X (.Dict keys values pos) (zWy trs):=⟨zUs h.h hall hl h0 h15⟩
theorem zQ7:SPs X pos [] [] []:=⟨zUg⟩
theorem zN6 {k v:Expr}{ks:List (Option Expr)}{vs:List Expr}{tk:TE}{trs:List (TE × TE)}(hk:SE X k tk) (hv:SE X v tv) (hr:SPs X pos ks vs trs):SPs X pos (some k::ks) (v::vs) ((tk,tv)::trs):=⟨zQ8 hk.h hv.h hr.h⟩
theorem zNe {r:V->Option Int->Option Int->Hp->VK->Prop}{lo hi:Option Expr}{tl th:TO}{p2:Pos}(hr:SlR X r) (he:SE X e te) (hl:SO X lo tl) (hu:SO X hi th):SE X (.Subscript e (.Slice lo hi none p2) pos) (tSl r te tl th):=⟨zQh hr he.h hl.h hu.h⟩
theorem po_none':SO X none zMj:=⟨zUi⟩
theorem zQa (h:SE X e te):SO X (some e) (zWv te):=⟨zUh h.h⟩
theorem pa_nil':SA X [] tNil:=⟨zXz⟩
theorem qa' (ha:SE X e te) (hr:SA X es t) (h:nst e=true:=by rfl):SA X (e::es) (zTo te t):=⟨qa ha.h hr.h h⟩
theorem qix' {r:R2}(hr:IxR X r) (ha:SE X a ta) (hb:SE X b tb) (h:nsl b=true:=by rfl):SE X (.Subscript a b pos) (tOp r ta tb):=⟨qix hr ha.h hb.h h⟩
theorem qcal' {x:Str}{k:Nat}{ps:List Str}{sp:Sp}(C:Cal X.prog X.w X.K X.mg X.base x k ps sp) (hr:Room k X.A) (hg:Gl X x) (ha:SA X (e::es) t) (hdb:(x == ("__debug__":Str))=false:=by decide)
  (h:(e::es).all nst=true:=by rfl):SE X (.Call (.Name x p) (e::es) [] pos) (zPq sp [] E0 t):=⟨qcal C hr hg ha.h hdb h⟩
theorem zU4 {x:Str}{id:String}{r:List V->Hp->VK->Prop}(hc:zBk X (.builtin id) r) (hg:Gl X x) (hm:X.mg x=none) (hv:bootBuiltins x=some (.builtin id)) (ha:SA X (e::es) t) (hn:x≠"__name__":=by decide) (hdb:(x == ("__debug__":Str))=false:=by decide)
  (h:(e::es).all nst=true:=by rfl):SE X (.Call (.Name x p) (e::es) [] pos) (tCB r t):=⟨zX7 hc hg hm hv ha.h hn hdb h⟩
theorem zN2 {x:Str}{T:String}{r:List V->Hp->VK->Prop}(hc:zBk X (.type T) r) (hg:Gl X x) (hm:X.mg x=none) (hv:bootBuiltins x=some (.type T)) (ha:SA X (e::es) t) (hn:x≠"__name__":=by decide) (hdb:(x == ("__debug__":Str))=false:=by decide)
  (h:(e::es).all nst=true:=by rfl):SE X (.Call (.Name x p) (e::es) [] pos) (tCB r t):=⟨zX6 hc hg hm hv ha.h hn hdb h⟩
theorem qlistrev' {p2 pos2:Pos}(hc:X.calm=true) (he:SE X e te) (hgl:Gl X "list") (hml:X.mg "list"=none) (hgr:Gl X "reversed") (hmr:X.mg "reversed"=none) (h:nst e=true:=by rfl):
  SE X (.Call (.Name "list" p) [.Call (.Name "reversed" p2) [e] [] pos2] [] pos) (zGy X.K te):=⟨qlistrev hc he.h hgl hml hgr hmr h⟩
theorem qbm0' {T name id:_}{r:V->List V->Hp->VK->Prop}(pa:PlainAttrs T) (slot:Slot T name id) (hty:typeOf (.builtin id)=pure (.type "method_descriptor")) (hm:MtR X id r) (ho:SE X o to) (h:nba o=true:=by rfl) (hline:(apos.endLine == cpos.line)=true:=by rfl):
  SE X (.Call (.Attribute o name apos) [] [] cpos) (tBM0 X.K T r to):=⟨qbm0 pa slot hty hm ho.h h hline⟩
theorem zLa {env:Env}{pos:Pos}:∀{es:List Expr},es.all nst=true->(backTo pos (starEach es env)).all (fun x=>!x.1)=true
 | [],_=>rfl
 | e::es,h=>by
  simp only[List.all_cons,Bool.and_eq_true]at h
  rw[zBd h.1]
  show(true && (backTo pos (starEach es env)).all (fun x=>!x.1))=true
  rw[zLa h.2];rfl
theorem zXx {T name id:_}{r:V->List V->Hp->VK->Prop}(pa:PlainAttrs T) (slot:Slot T name id) (hty:typeOf (.builtin id)=pure (.type "method_descriptor")) (hm:MtR X id r) (ho:SE X o to) (ha:SA X (e::es) t) (h:nba o=true:=by rfl) (hs:(e::es).all nst=true:=by rfl)
  (hlen:decide ((e::es).length+0+0<30)=true:=by rfl) (hline:(apos.endLine == cpos.line)=true:=by rfl):SE X (.Call (.Attribute o name apos) (e::es) [] cpos) (tBM X.K T r to t):=by
 have hs':=hs
 simp only[List.all_cons,Bool.and_eq_true]at hs'
 refine⟨zZm pa slot hty hm ho.h ha.h (zFo h) ?_ hline (zBd hs'.1) (zFp hs'.2)⟩
 rw[zLa hs]
 exact hlen
theorem zQm {op:CmpOp}{r:R2}(ho:OpR X (compareOp op) r) (ha:SE X a ta) (hb:SE X b tb) (hm:behindInMarks op b=false):SE X (.Compare a [op] [b] pos) (tOp r ta tb):=⟨zUt ho ha.h hb.h hm⟩
theorem zQ3 {op:CmpOp}{r:R2}(ho:OpR X (compareOp op) r) (ha:SE X a ta) (hb:SE X b tb) (hm:behindInMarks op b=false):ST X (.Compare a [op] [b] pos) (zWu (tOp r ta tb)):=⟨zUa ho ha.h hb.h hm⟩
theorem zU9 (ha:ST X a tA):ST X (.UnaryOp .Not a pos) (tNot tA):=⟨zXd ha.h⟩
theorem zPz (ha:ST X a tA):SW X (.BoolOp .And [a] pos) tA:=⟨zU6 ha.h⟩
theorem zU5 (ha:ST X a tA):SW X (.BoolOp .Or [a] pos) tA:=⟨zX9 ha.h⟩
theorem zU7 (ha:ST X a tA) (hb:SW X (.BoolOp .And (b::es) pos) tB'):SW X (.BoolOp .And (a::b::es) pos) (tAnd tA tB'):=⟨zXb ha.h hb.h⟩
theorem zXa (ha:ST X a tA) (hb:SW X (.BoolOp .Or (b::es) pos) tB'):SW X (.BoolOp .Or (a::b::es) pos) (tOr tA tB'):=⟨zZh ha.h hb.h⟩
theorem zX8 (h:SW X e tA):ST X e tA:=⟨h.h.pt⟩
def tTru (K:PySem.W.Frag) (te:TE):TT:=fun σ H Q=>te σ H fun x H1=>∃k,TruV K x H1 k/\Q k H1
theorem qtruth' (ha:SE X e te) (h:ntt e=true:=by rfl):ST X e (tTru X.K te):=⟨qtruth ha.h h⟩
theorem qrange1' {tg:Expr}{ta:TA}(hg:Gl X "range") (hm:X.mg "range"=none) (ha:SA X [a] ta) (h:nst a=true:=by rfl):SI X tg (.Call (.Name "range" p) [a] [] pos) (zVm ta):=⟨qrange1 hg hm ha.h h⟩
theorem zQg {j:Nat}{x:Str}(hN:X.N.Nodup) (hi:X.N[j]?=some x) (hx:Loc X.env.scope x) (hf:X.fn x=true\/X.env.scope.names.lookup x=some .local:=by first|exact .inl rfl|exact .inr rfl|assumption):SG X (.Name x pos) (gName j):=⟨zUl hN hi hx hf⟩
theorem pgs_nil':SGs X [] gNil:=⟨zUj⟩
theorem qgs' {tg:Expr}{ts:List Expr}{g:TG}{gs:TGs}(h1:SG X tg g) (h2:SGs X ts gs) (h:nst tg=true:=by rfl):SGs X (tg::ts) (zVu g gs):=⟨qgs h1.h h2.h h⟩
theorem qtup' {ts:List Expr}{k n:Nat}{gs:TGs}(hc:X.calm=true) (h:SGs X ts gs) (hn:ts.length=n:=by rfl) (h1:ts.all nst=true:=by rfl):SG X (.Tuple ts k pos) (gTup X.K n gs):=⟨qtup hc h.h hn h1⟩
theorem qunl' {ts:List Expr}{k n:Nat}{gs:TGs}(hc:X.calm=true) (h:SGs X ts gs) (hn:ts.length=n:=by rfl) (h1:ts.all nst=true:=by rfl):SG X (.Tuple ts k pos) (gLst X.K n gs):=⟨qunl hc h.h hn h1⟩
theorem zUk {ts:TSet}(ho:SE X o to) (hi:SE X i ti) (hs:PSet X ts) (h:nsl i=true:=by rfl):SG X (.Subscript o i pos) (gSub to ti ts):=by
 refine⟨zXl ho.h hi.h hs fun v=>?_⟩
 cases i <;> first|rfl|cases h
theorem pifs_nil':SIfs X [] tYes:=⟨zQd⟩
theorem zN9 (hc:ST X c tA):SIfs X [c] tA:=⟨zQc hc.h⟩
theorem qlcomp' {own fre:List Str}{ix:List Nat}{scope:Scope}{tg elt iter:Expr}{ifs:List Expr}{wi:TI}{g:TG}{tt:TT}(hc:X.calm=true) (S:CompScope X own fre ix scope) (hi:SI X tg iter wi)
  (hg:∀cl C s H fp,SG (zAm X (own++fre) scope cl C s H fp) tg g) (ht:∀cl C s H fp,SIfs (zAm X (own++fre) scope cl C s H fp) ifs tt) (he:∀cl C s H fp,SE (zAm X (own++fre) scope cl C s H fp) elt te)
  (h:nse iter=true:=by rfl):SE X (.ListComp elt [⟨tg,iter,ifs,0⟩] scope pos) (zJ1 own ix wi g tt te):=⟨qlcomp hc S hi.h (fun _ _ _ _ _=>(hg _ _ _ _ _).h) (fun _ _ _ _ _=>(ht _ _ _ _ _).h) (fun _ _ _ _ _=>(he _ _ _ _ _).h) h⟩
theorem qsetc' {own fre:List Str}{ix:List Nat}{scope:Scope}{j:Nat}{x:Str}{pos':Pos}{tg elt iter:Expr}{ifs:List Expr}{wi:TI}{g:TG}{tt:TT}(hN:X.N.Nodup) (hix:X.N[j]?=some x) (hx:Loc X.env.scope x)
  (hc:X.calm=true) (S:CompScope X own fre ix scope) (hi:SI X tg iter wi)
  (hg:∀cl C s H fp,SG (zAm X (own++fre) scope cl C s H fp) tg g) (ht:∀cl C s H fp,SIfs (zAm X (own++fre) scope cl C s H fp) ifs tt) (he:∀cl C s H fp,SE (zAm X (own++fre) scope cl C s H fp) elt te)
  (hsw:swapsWith (.ListComp elt [⟨tg,iter,ifs,0⟩] scope cpos) (some (.Name x pos')) pos.line X.env=pure true:=by rfl) (h:nse iter=true:=by rfl) (hf:X.fn x=true\/X.env.scope.names.lookup x=some .local:=by first|exact .inl rfl|exact .inr rfl|assumption):
  SS X (.Assign [.Name x pos'] (.ListComp elt [⟨tg,iter,ifs,0⟩] scope cpos) pos) (tAsg (zJ1 own ix wi g tt te) (gName j)):=⟨qsetc hN hix hx hc S hi.h (fun _ _ _ _ _=>(hg _ _ _ _ _).h) (fun _ _ _ _ _=>(ht _ _ _ _ _).h) (fun _ _ _ _ _=>(he _ _ _ _ _).h) hsw h hf⟩
theorem qset' {j:Nat}{x:Str}{pos':Pos}(hN:X.N.Nodup) (hi:X.N[j]?=some x) (hx:Loc X.env.scope x) (he:SE X e te) (hf:X.fn x=true\/X.env.scope.names.lookup x=some .local:=by first|exact .inl rfl|exact .inr rfl|assumption) (h:nco e=true:=by rfl):
  SS X (.Assign [.Name x pos'] e pos) (tAsg te (gName j)):=⟨qset hN hi hx he.h hf h⟩
theorem qasgt' {ts:List Expr}{k:Nat}{tp:Pos}{g:TG}(he:SE X e te) (hg:SG X (.Tuple ts k tp) g) (h1:ntu e=true:=by rfl):SS X (.Assign [.Tuple ts k tp] e pos) (tAsg te g):=⟨qasgt he.h hg.h h1⟩
theorem qasgs' {g:TG}{sp2:Pos}(he:SE X e te) (hg:SG X (.Subscript o i sp2) g) (h2:nco e=true:=by rfl):SS X (.Assign [.Subscript o i sp2] e pos) (tAsg te g):=⟨zSn he.h hg.h (zTs h2) (by cases e <;> rfl) rfl⟩
theorem qpar' {x y:Str}{px py pt pt2:Pos}{kt k2 i j:Nat}{ta:TA}(hc:X.calm=true) (hN:X.N.Nodup) (hi:X.N[i]?=some x) (hj:X.N[j]?=some y) (hij:i≠j)
  (hx:X.env.scope.names.lookup x=some .local) (hy:X.env.scope.names.lookup y=some .local) (ha:SA X [a,b] ta)
  (hw:swappedStores [.Tuple [.Name x px,.Name y py] kt pt] (.Tuple [a,b] k2 pt2) X.env=pure (some [x,y])):
  SS X (.Assign [.Tuple [.Name x px,.Name y py] kt pt] (.Tuple [a,b] k2 pt2) pos) (tPar i j ta):=⟨qpar hc hN hi hj hij hx hy ha.h hw⟩
theorem zUe (he:SE X e te):SS X (.Return (some e) pos) (tRet te):=⟨zXf he.h⟩
theorem zXh {ba bb:List Stmt}{t u:TS}(hc:ST X c tA) (ha:SSs X ba t) (hb:SSs X bb u):SS X (.If c ba bb pos) (tIfS tA t u):=⟨zZi hc.h ha.h hb.h⟩
theorem zN5 {body:List Stmt}{t:TS}(hp:PassesOwn (model X.prog X.w) X.A X.env X.xe) (hc:ST X c tA) (hb:SSs X body t):SS X (.While c body [] pos) (zSh tA t):=⟨zQ6 hp hc.h hb.h⟩
theorem qfor' {tg iter:Expr}{body:List Stmt}{wi:TI}{g:TG}{t:TS}(hp:PassesOwn (model X.prog X.w) X.A X.env X.xe) (hc:X.calm=true) (hi:SI X tg iter wi) (hg:SG X tg g) (hb:SSs X body t) (h:nse iter=true:=by rfl):
  SS X (.For tg iter body [] pos) (tFor wi g t):=⟨qfor hp hc hi.h hg.h hb.h h⟩
theorem qexpr' (he:SE X e te) (h:nco e=true:=by rfl):SS X (.Expr e pos) (zTn te):=⟨qexpr he.h h⟩
theorem pss_nil':SSs X [] zWx:=⟨zUc⟩
theorem zQ4 {st:Stmt}{t:TS}(h:SS X st t):SSs X [st] t:=⟨zUb h.h⟩
theorem zN4 {st:Stmt}{r:List Stmt}{t u:TS}(h1:SS X st t) (h2:SSs X r u):SSs X (st::r) (tSeq t u):=⟨zQ5 h1.h h2.h⟩
end
end L2
namespace L2
open PySem PySem.Spec PyProof.Rows
def BN (n:Nat) (x:Int):Prop:=x.natAbs<2 ^ n
theorem BN.bits {x:Int}(h:BN 5000 x):Builtin.Int.intBits x<=2 ^ 20:=by
 unfold Builtin.Int.intBits
 split
 ·exact Nat.zero_le _
 ·rename_i hx
  have h0:x.natAbs≠0:=by
   intro z
   apply hx
   have:x=0:=by first|assumption|lia
   rw[this];rfl
  have:=(Nat.log2_lt h0).mpr h
  lia
theorem BN.log {x:Int}(h:BN 5000 x):x.natAbs.log2<9000:=by
 by_cases h0:x.natAbs=0
 ·rw[h0];decide +kernel
 ·have:=(Nat.log2_lt h0).mpr h
  lia
section
variable {X:Cx}
theorem zUz:OpR X (binaryOp .Mult) (rI (fun i j=>BN 5000 i/\BN 5000 j) fun i j=>.int (i*j)):=opI fun _ _ _ _ _ _ _ hc q=>mul_int q (IntMulOk.of_bits hc.1.bits hc.2.bits)
theorem zQp:OpR X (binaryOp .FloorDiv) (rI (fun _ j=>j≠0/\BN 5000 j) fun i j=>.int (i.fdiv j)):=opI fun _ _ _ _ _ _ _ hc q=>floordiv_int hc.1 q (.inl (PyProof.noPylong_of_log2 hc.2.log))
end
def dv (u l:Int):Int:=if l<0 then -(Int.gcd u l:Int)else(Int.gcd u l:Int)
end L2
namespace L2
open PySem PySem.Spec PyProof.Rows
section
variable {X:Cx}{pins:List (Addr × Obj)}{σ:St}{H:Hp}{s:Shared}{h':Heap}
theorem Inv.turnedT {t':Nat}{fp:List Addr}{T:Addr}{o:HO}(I:Inv X pins σ H s) (hf:∀b∈fp,FpOk X pins H b) (k:∀b o,b ∉ fp->s.heap.get? b=some o->h'.get? b=some o) (hT:s.heap.objs.size<=T)
  (new:ObjOk X.prog X.w (upd H T o) h' T o):Inv X pins σ (upd H T o) { s with heap:=h',toks:=t' }:=by
 have hn:H T=none:=I.hok.fresh hT
 have nit:∀b u,H b=some u->b ∉ fp:=fun b u e z=>by rw[(hf b z).1]at e;cases e
 refine I.step (g':=s.gens) (d':=s.drawn) (ch:=fp) (fun b hb=>⟨(hf b hb).2.2.2.1,(hf b hb).2.1,(hf b hb).2.2.2.2.1,(hf b hb).2.2.2.2.2⟩) (fun b o _ _ hc e _=>k b o hc e) (fun b o _ _ hc e _=>⟨o.slots,k b o hc e⟩)
  (fun b u _ q n=>by rw[zAh (Nat.ne_of_lt (Nat.lt_of_lt_of_le (Heap.lt_size q) hT))];exact n)
  (fun b o hc e=>⟨o,k b o hc e⟩) (fun b xs q=>by rw[zAh (zAd q hn)];exact q) (fun b u xs q=>by rw[zAh (zAd q hn)];exact q) (fun b ps q=>⟨#[],by rw[zAh (zAd q hn),q];simp⟩) (fun m hm=>?_) (fun b u e=>?_) I.bare
 ·obtain⟨o,es,ep,ho,r⟩:=hm
  exact⟨o,es,ep,k _ o (fun z=>(hf _ z).2.1 rfl) ho,r⟩
 ·by_cases hb:b=T
  ·subst hb;rw[zAo]at e;cases e;exact new
  ·rw[zAh hb]at e
   refine(I.hok b u e).stay (fun c v hc q=>k c v ?_ q) (fun c q=>by rw[zAh (zAd q hn)];exact q) fun c xs q=>by rw[zAh (zAd q hn)];exact q
   rcases hc with z|z
   ·rw[z];exact nit b u e
   ·exact nit c _ z
theorem Inv.turnedL {t':Nat}{fp:List Addr}(I:Inv X pins σ H s) (hf:∀b∈fp,FpOk X pins H b) (k:∀b o,b ∉ fp->s.heap.get? b=some o->h'.get? b=some o):Inv X pins σ H { s with heap:=h',toks:=t' }:=by
 have nit:∀b u,H b=some u->b ∉ fp:=fun b u e z=>by rw[(hf b z).1]at e;cases e
 refine I.step (g':=s.gens) (d':=s.drawn) (ch:=fp) (fun b hb=>⟨(hf b hb).2.2.2.1,(hf b hb).2.1,(hf b hb).2.2.2.2.1,(hf b hb).2.2.2.2.2⟩) (fun b o _ _ hc e _=>k b o hc e) (fun b o _ _ hc e _=>⟨o.slots,k b o hc e⟩)
  (fun _ _ _ _ n=>n) (fun b o hc e=>⟨o,k b o hc e⟩) (fun _ _ e=>e) (fun _ _ _ e=>e) (fun b ps e=>⟨#[],by rw[e];simp⟩) (fun m hm=>?_) (fun b u e=>?_) I.bare
 ·obtain⟨o,es,ep,ho,r⟩:=hm
  exact⟨o,es,ep,k _ o (fun z=>(hf _ z).2.1 rfl) ho,r⟩
 ·refine(I.hok b u e).stay (fun c v hc q=>k c v ?_ q) (fun _ q=>q) fun _ _ q=>q
  rcases hc with z|z
  ·rw[z];exact nit b u e
  ·exact nit c _ z
end
structure ZipOwn (z TI TO i1 i2:Addr):Prop where
 TIz:TI≠z
 TOz:TO≠z
 i1z:i1≠z
 i2z:i2≠z
 TITO:TI≠TO
 TIi1:TI≠i1
 TIi2:TI≠i2
 TOi1:TO≠i1
 TOi2:TO≠i2
 i12:i1≠i2
theorem ZipOwn.apart {z TI TO i1 i2 a b:Addr}(D:ZipOwn z TI TO i1 i2) (ha:a ∉ [z,TI,TO,i1,i2]) (hb:b ∉ [z,TI,TO,i1,i2]):ZipApart z TI TO i1 i2 a b:=by
 simp only[List.mem_cons,List.not_mem_nil,or_false,not_or]at ha hb
 obtain⟨a1,a2,a3,a4,a5⟩:=ha
 obtain⟨b1,b2,b3,b4,b5⟩:=hb
 exact⟨D.TIz,D.TOz,D.i1z,D.i2z,D.TITO,D.TIi1,D.TIi2,D.TOi1,D.TOi2,D.i12,a1,a3,a4,a5,b1,b3,b4,b5⟩
end L2
namespace TB
open PySem
abbrev Up (l:List Nat):Prop:=l.Pairwise (·<·)
theorem zG8 {l:List Nat}(h:Up l) {i j:Nat}(hij:i<j) (hj:j<l.length):l[i]'(Nat.lt_trans hij hj)<l[j]:=List.pairwise_iff_getElem.mp h i j _ hj hij
theorem zIz:∀(l:List Nat) (a b:Nat),Up l->(∀e,a<=e->e<b->e∈l)->b-a<=l.length
 | [],a,b,_,h=>by
  by_cases c:a<b
  ·exact absurd (h a (Nat.le_refl _) c) (by simp)
  ·simp;lia
 | x::xs,a,b,u,h=>by
  have ux:=List.pairwise_cons.mp u
  by_cases c:a<b
  ·have ha:=h a (Nat.le_refl _) c
   rcases Nat.lt_trichotomy a x with q|q|q
   ·rcases List.mem_cons.mp ha with z|z
    ·lia
    ·exact absurd (ux.1 a z) (by first|assumption|lia)
   ·subst q
    have r:=zIz xs (a+1) b ux.2 fun e h1 h2=>by
     rcases List.mem_cons.mp (h e (by first|assumption|lia) h2)with z|z
     ·lia
     ·exact z
    simp only[List.length_cons];lia
   ·have r:=zIz xs a b ux.2 fun e h1 h2=>by
     rcases List.mem_cons.mp (h e h1 h2)with z|z
     ·lia
     ·exact z
    simp only[List.length_cons];lia
  ·lia
theorem zWp {l:List Nat}{m:Nat}(u:Up l) (h:l.length<=m):∃e,e<=m/\e ∉ l:=by
 refine Classical.byContradiction fun n=>?_
 have r:=zIz l 0 (m+1) u fun e _ h2=>Classical.byContradiction fun q=>n ⟨e,by first|assumption|lia,q⟩
 lia
theorem zHx {xs:Array Nat}{j:Nat}(u:Up xs.toList):∀(f lo hi:Nat),hi-lo<=f->lo<=hi->hi<=xs.size->(∀i (q:i<xs.size),i<lo->xs[i]<j)->(∀i (q:i<xs.size),hi<=i->j<=xs[i])->
  (SetTable.below.go xs j f lo hi<=xs.size/\(∀i (q:i<xs.size),i<SetTable.below.go xs j f lo hi->xs[i]<j)/\(∀i (q:i<xs.size),SetTable.below.go xs j f lo hi<=i->j<=xs[i]))
 | 0,lo,hi,h1,h2,h3,h4,h5=>by
  have e:lo=hi:=by first|assumption|lia
  subst e
  exact⟨h3,h4,h5⟩
 | f+1,lo,hi,h1,h2,h3,h4,h5=>by
  unfold SetTable.below.go
  by_cases c:lo<hi
  ·rw[if_pos c]
   have hm:(lo+hi) / 2<hi:=by first|assumption|lia
   have hl:lo<=(lo+hi) / 2:=by first|assumption|lia
   have hz:(lo+hi) / 2<xs.size:=by first|assumption|lia
   have eg:xs.getD ((lo+hi) / 2) j=xs[(lo+hi) / 2]:=by simp[Array.getD,hz]
   dsimp only
   rw[eg]
   have rise:∀i k (q:i<xs.size) (r:k<xs.size),i<k->xs[i]<xs[k]:=fun i k q r hik=>by
    have:=zG8 u hik (by simpa using r)
    simpa using this
   by_cases d:xs[(lo+hi) / 2]<j
   ·rw[if_pos d]
    refine zHx u f _ hi (by first|assumption|lia) (by first|assumption|lia) h3 (fun i q hi'=>?_) h5
    rcases Nat.lt_or_ge i ((lo+hi) / 2)with z|z
    ·exact Nat.lt_trans (rise _ _ q hz z) d
    ·have:i=(lo+hi) / 2:=by first|assumption|lia
     subst this;exact d
   ·rw[if_neg d]
    refine zHx u f lo _ (by first|assumption|lia) hl (by first|assumption|lia) h4 (fun i q hi'=>?_)
    rcases Nat.lt_or_ge ((lo+hi) / 2) i with z|z
    ·have:=rise _ _ hz q z;lia
    ·have:i=(lo+hi) / 2:=by first|assumption|lia
     subst this;lia
  ·rw[if_neg c]
   have e:lo=hi:=by first|assumption|lia
   subst e
   exact⟨h3,h4,h5⟩
theorem zHw {xs:Array Nat}(j:Nat) (u:Up xs.toList):SetTable.below xs j<=xs.size/\(∀i (q:i<xs.size),i<SetTable.below xs j->xs[i]<j)/\(∀i (q:i<xs.size),SetTable.below xs j<=i->j<=xs[i]):=
 zHx u xs.size 0 xs.size (by first|assumption|lia) (by first|assumption|lia) (Nat.le_refl _) (fun i q h=>by first|assumption|lia) (fun i q h=>by first|assumption|lia)
theorem zS5 {xs:Array Nat}{j k:Nat}(u:Up xs.toList) (hk:k<=xs.size) (h1:∀i (q:i<xs.size),i<k->xs[i]<j) (h2:∀i (q:i<xs.size),k<=i->j<=xs[i]):SetTable.below xs j=k:=by
 obtain⟨a,b,c⟩:=zHw j u
 rcases Nat.lt_trichotomy (SetTable.below xs j) k with z|z|z
 ·have p:=h1 _ (by first|assumption|lia) z;have q:=c _ (by first|assumption|lia) (Nat.le_refl _);lia
 ·exact z
 ·have p:=h2 k (by first|assumption|lia) (Nat.le_refl _);have q:=b k (by first|assumption|lia) z;lia
def slotAt (xs:Array Nat) (k:Nat):Nat:=if k=0 then 0 else xs.getD (k-1) 0+1
theorem zIr {xs:Array Nat}{k:Nat}(u:Up xs.toList) (hk:k<=xs.size):SetTable.below xs (slotAt xs k)=k:=by
 have rise:∀i k (q:i<xs.size) (r:k<xs.size),i<k->xs[i]<xs[k]:=fun i k q r hik=>by
  have:=zG8 u hik (by simpa using r)
  simpa using this
 refine zS5 u hk (fun i q h=>?_) (fun i q h=>?_)
 ·unfold slotAt
  rw[if_neg (by first|assumption|lia)]
  have hz:k-1<xs.size:=by first|assumption|lia
  have:xs.getD (k-1) 0=xs[k-1]:=by simp[Array.getD,hz]
  rw[this]
  rcases Nat.lt_or_ge i (k-1)with z|z
  ·have:=rise _ _ q hz z;lia
  ·have:i=k-1:=by first|assumption|lia
   subst this;lia
 ·unfold slotAt
  by_cases c:k=0
  ·rw[if_pos c];lia
  ·rw[if_neg c]
   have hz:k-1<xs.size:=by first|assumption|lia
   have:xs.getD (k-1) 0=xs[k-1]:=by simp[Array.getD,hz]
   rw[this]
   have:=rise _ _ hz q (by first|assumption|lia);lia
theorem zEx {α:Type}(xs:Array α) (p:Nat) (x:α):(SetTable.insertAt xs p x).toList=xs.toList.take p++x::xs.toList.drop p:=by
 unfold SetTable.insertAt
 simp[Array.toList_extract]
 exact List.take_of_length_le (by simp)
theorem ins_perm {α:Type}(xs:Array α) (p:Nat) (x:α):(SetTable.insertAt xs p x).toList.Perm (x::xs.toList):=by
 rw[zEx]
 exact List.perm_middle.trans (by rw[List.take_append_drop])
theorem zKs {α:Type}(xs:Array α) (p:Nat) (x:α):(SetTable.insertAt xs p x).size=xs.size+1:=by
 have:=(ins_perm xs p x).length_eq
 simpa using this
theorem ins_up {xs:Array Nat}{j:Nat}(u:Up xs.toList) (h:xs[SetTable.below xs j]?≠some j):Up (SetTable.insertAt xs (SetTable.below xs j) j).toList:=by
 obtain⟨a,b,c⟩:=zHw j u
 rw[zEx]
 have h1:∀v∈xs.toList.take (SetTable.below xs j),v<j:=fun v hv=>by
  obtain⟨i,hi,rfl⟩:=List.mem_iff_getElem.mp hv
  rw[List.length_take]at hi
  rw[List.getElem_take]
  have:=b i (by simp at hi;lia) (by first|assumption|lia)
  simpa using this
 have h2:∀v∈xs.toList.drop (SetTable.below xs j),j<v:=fun v hv=>by
  obtain⟨i,hi,rfl⟩:=List.mem_iff_getElem.mp hv
  rw[List.length_drop]at hi
  rw[List.getElem_drop]
  have hz:SetTable.below xs j+i<xs.size:=by simp at hi;lia
  have h3:=c _ hz (by first|assumption|lia)
  have h4:xs[SetTable.below xs j]'(by first|assumption|lia)≠j:=fun e=>h (by rw[Array.getElem?_eq_getElem (by first|assumption|lia),e])
  have h5:=c (SetTable.below xs j) (by first|assumption|lia) (Nat.le_refl _)
  have h6:xs[SetTable.below xs j]'(by first|assumption|lia)<=xs[SetTable.below xs j+i]:=by
   rcases Nat.eq_zero_or_pos i with z|z
   ·subst z;exact Nat.le_refl _
   ·have:=zG8 u (i:=SetTable.below xs j) (j:=SetTable.below xs j+i) (by first|assumption|lia) (by simpa using hz)
    exact Nat.le_of_lt (by simpa using this)
  simp only[Array.getElem_toList]
  lia
 refine List.pairwise_append.mpr ⟨u.sublist (List.take_sublist _ _),List.pairwise_cons.mpr ⟨fun v hv=>h2 v hv,u.sublist (List.drop_sublist _ _)⟩,fun p hp q hq=>?_⟩
 rcases List.mem_cons.mp hq with rfl|hq
 ·exact h1 p hp
 ·exact Nat.lt_trans (h1 p hp) (h2 q hq)
def orb (m:Nat):Nat->Nat × Nat->Nat × Nat
 | 0,x=>x
 | L+1,x=>orb m L (SetTable.leap m x.1 x.2)
def gs (m:Nat):Nat->Nat->Nat
 | 0,i=>i
 | k+1,i=>gs m k ((i*5+1) % (m+1))
theorem zKt (m:Nat):∀(a b i:Nat),gs m (a+b) i=gs m b (gs m a i)
 | 0,b,i=>by rw[Nat.zero_add];rfl
 | a+1,b,i=>by rw[show a+1+b=(a+b)+1 by first|assumption|lia];exact zKt m a b _
def Msk (m:Nat):Prop:=m=7\/m=31\/m=127\/m=511
theorem zYr {m:Nat}(h:Msk m):gs m (m+1) 0=0/\∀e,e<m+1->∃k,k<m+1/\gs m k 0=e:=by
 have t:∀(M:Nat) (f:Nat->Nat),(gs M (M+1) 0 == 0 && (List.range (M+1)).all fun e=>decide (f e<M+1) && gs M (f e) 0 == e)=true->gs M (M+1) 0=0/\∀e,e<M+1->∃k,k<M+1/\gs M k 0=e:=fun M f hh=>by
  rw[Bool.and_eq_true,List.all_eq_true]at hh
  refine⟨by simpa using hh.1,fun e he=>⟨f e,?_⟩⟩
  have:=hh.2 e (List.mem_range.mpr he)
  simpa using this
 rcases h with rfl|rfl|rfl|rfl
 ·exact t 7 (fun e=>((List.range 8).find? fun k=>gs 7 k 0 == e).getD 0) (by decide +kernel)
 ·exact t 31 (fun e=>((List.range 32).find? fun k=>gs 31 k 0 == e).getD 0) (by decide +kernel)
 ·exact t 127 (fun e=>((List.range 128).find? fun k=>gs 127 k 0 == e).getD 0) (by decide +kernel)
 ·exact t 511 (fun e=>((List.range 512).find? fun k=>gs 511 k 0 == e).getD 0) (by decide +kernel)
theorem zYq {m i e:Nat}(h:Msk m) (hi:i<m+1) (he:e<m+1):∃k,k<=m/\gs m k i=e:=by
 obtain⟨z,al⟩:=zYr h
 obtain⟨a,ha,rfl⟩:=al i hi
 obtain⟨b,hb,rfl⟩:=al e he
 rcases Nat.lt_or_ge b a with c|c
 ·refine⟨m+1-a+b,by first|assumption|lia,?_⟩
  rw[<- zKt,show a+(m+1-a+b)=(m+1)+b by first|assumption|lia,zKt,z]
 ·exact⟨b-a,by first|assumption|lia,by rw[<- zKt,show a+(b-a)=b by first|assumption|lia]⟩
theorem zNj (m:Nat):∀(a b:Nat) (x:Nat × Nat),orb m (a+b) x=orb m b (orb m a x)
 | 0,b,x=>by rw[Nat.zero_add];rfl
 | a+1,b,x=>by rw[show a+1+b=(a+b)+1 by first|assumption|lia];exact zNj m a b _
theorem zNi (m:Nat):∀(L:Nat) (x:Nat × Nat),(orb m L x).2=x.2 / 32 ^ L
 | 0,x=>by simp[orb]
 | L+1,x=>by
  show(orb m L _).2=_
  rw[zNi m L]
  show x.2 / 32 / 32 ^ L=_
  rw[Nat.div_div_eq_div_mul,Nat.pow_succ,Nat.mul_comm]
theorem zSq {m:Nat}:∀(L:Nat) (x:Nat × Nat),x.1<m+1->(orb m L x).1<m+1
 | 0,x,h=>h
 | L+1,x,h=>zSq L _ (Nat.mod_lt _ (by first|assumption|lia))
theorem zSr (m:Nat):∀(k:Nat) (x:Nat × Nat),x.2=0->(orb m k x).1=gs m k x.1
 | 0,x,h=>rfl
 | k+1,x,h=>by
  show(orb m k (SetTable.leap m x.1 x.2)).1=gs m k _
  rw[zSr m k _ (by show x.2 / 32=0;rw[h])]
  show gs m k ((x.1*5+1+x.2 / 32) % (m+1))=_
  rw[h]
theorem zJ4 {m i p e:Nat}(h:Msk m) (hi:i<m+1) (hp:p<2 ^ 64) (he:e<m+1):∃L,L<=13+m/\(orb m L (i,p)).1=e:=by
 obtain⟨k,hk,ek⟩:=zYq h (zSq 13 (i,p) hi) he
 have h0:(orb m 13 (i,p)).2=0:=by rw[zNi];exact Nat.div_eq_of_lt (Nat.lt_trans hp (by decide))
 exact⟨13+k,by first|assumption|lia,by rw[zNj,zSr m k _ h0,ek]⟩
end TB
namespace TB
open PySem
def adv (t:SetTable):Nat->SetTable.Probe->SetTable.Probe
 | 0,p=>p
 | m+1,p=>adv t m (t.advance p)
theorem zCl (t:SetTable):∀(a b:Nat) (p:SetTable.Probe),adv t (a+b) p=adv t b (adv t a p)
 | 0,b,p=>by rw[Nat.zero_add];rfl
 | a+1,b,p=>by rw[show a+1+b=(a+b)+1 by first|assumption|lia];exact zCl t a b _
theorem zIs (t:SetTable):∀(m:Nat) (p:SetTable.Probe),(adv t m p).dummy=p.dummy
 | 0,p=>rfl
 | m+1,p=>by
  show(adv t m (t.advance p)).dummy=_
  rw[zIs t m]
  unfold SetTable.advance
  split <;> rfl
def beg (t:SetTable) (x:Nat × Nat) (d:Option Nat):SetTable.Probe:={ j:=x.1,more:=SetTable.runEnd t.mask x.1-x.1,i:=x.1,perturb:=x.2,dummy:=d }
theorem zHz (t:SetTable):∀(c:Nat) (p:SetTable.Probe),p.more=c->adv t (c+1) p=beg t (SetTable.leap t.mask p.i p.perturb) p.dummy
 | 0,p,h=>by
  show t.advance p=_
  unfold SetTable.advance
  rw[if_neg (by first|assumption|lia)]
  rfl
 | c+1,p,h=>by
  show adv t (c+1) (t.advance p)=_
  have e:t.advance p={ p with j:=p.j+1,more:=p.more-1 }:=by
   unfold SetTable.advance
   rw[if_pos (by first|assumption|lia)]
  rw[e]
  exact zHz t c _ (by show p.more-1=c;lia)
theorem zWf (t:SetTable) (x:Nat × Nat) (d:Option Nat):∃c,1<=c/\c<=10/\adv t c (beg t x d)=beg t (SetTable.leap t.mask x.1 x.2) d:=by
 refine⟨SetTable.runEnd t.mask x.1-x.1+1,by first|assumption|lia,?_,zHz t _ (beg t x d) rfl⟩
 unfold SetTable.runEnd
 split <;> lia
theorem zPg (t:SetTable) (d:Option Nat):∀(L:Nat) (x:Nat × Nat),∃c,c<=10*L/\adv t c (beg t x d)=beg t (orb t.mask L x) d
 | 0,x=>⟨0,by first|assumption|lia,rfl⟩
 | L+1,x=>by
  obtain⟨c,_,h1,e1⟩:=zWf t x d
  obtain⟨c',h2,e2⟩:=zPg t d L (SetTable.leap t.mask x.1 x.2)
  refine⟨c+c',by first|assumption|lia,?_⟩
  rw[zCl,e1,e2]
  rfl
theorem zJu (h:Int):SetTable.bits h<2 ^ 64:=by
 unfold SetTable.bits
 have:=Int.emod_lt_of_pos h (show(0:Int)<2 ^ 64 by decide)
 have:=Int.emod_nonneg h (show(2 ^ 64:Int)≠0 by decide)
 lia
theorem zMo {t:SetTable}{h:Int}{e:Nat}(hm:Msk t.mask) (he:e<=t.mask):∃c,c<10*SetTable.turns t.mask/\(adv t c (t.probeStart h)).j=e:=by
 obtain⟨L,hL,eL⟩:=zJ4 (p:=SetTable.bits h) (i:=SetTable.bits h % (t.mask+1)) hm (Nat.mod_lt _ (by first|assumption|lia)) (zJu h) (show e<t.mask+1 by first|assumption|lia)
 obtain⟨c,hc,ec⟩:=zPg t none L (SetTable.bits h % (t.mask+1),SetTable.bits h)
 refine⟨c,by unfold SetTable.turns;lia,?_⟩
 have e0:t.probeStart h=beg t (SetTable.bits h % (t.mask+1),SetTable.bits h) none:=rfl
 rw[e0,ec]
 exact eL
def Far (t:SetTable) (p:SetTable.Probe) (m:Nat):Prop:=t.slot (adv t m p).j=.empty/\p.dummy=none
theorem zCn {t:SetTable}(hd:t.dummies=#[]) (j:Nat):t.slot j=(if t.place[SetTable.below t.place j]? == some j then .live (SetTable.below t.place j)else .empty):=by
 have e:SetTable.has t.dummies j=false:=by rw[hd];rfl
 unfold SetTable.slot
 simp only[e]
 simp
theorem zE6 {t:SetTable}(hd:t.dummies=#[]) {j:Nat}:t.slot j=.empty <-> t.place[SetTable.below t.place j]?≠some j:=by
 rw[zCn hd]
 by_cases c:t.place[SetTable.below t.place j]?=some j
 ·simp[c]
 ·simp[c]
structure Tab (t:SetTable) (n:Nat) (led:Bool):Prop where
 hm:Msk t.mask
 size:t.place.size=n
 nod:t.dummies=#[]
 up:Up t.place.toList
 room:n*5<t.mask*3
 plain:t.plain=true
 led:t.led=led
theorem Tab.fill {t:SetTable}{n:Nat}{b:Bool}(T:Tab t n b):t.fill=n:=by unfold SetTable.fill;rw[T.size,T.nod];rfl
theorem Tab.fits {t:SetTable}{n:Nat}{b:Bool}(T:Tab t n b):(t.place.size != n || decide (t.fill > t.mask))=false:=by
 have:=T.room
 rw[T.fill,T.size]
 simp;lia
theorem Tab.way {t:SetTable}{n:Nat}{b:Bool}(T:Tab t n b):t.gaveWay=false:=by
 unfold SetTable.gaveWay
 rcases T.hm with e|e|e|e <;> rw[e] <;> rfl
theorem Tab.start {t:SetTable}{n:Nat}{b:Bool}(T:Tab t n b) (h:Int):∃m,m<10*SetTable.turns t.mask/\Far t (t.probeStart h) m:=by
 have hn:t.place.toList.length<=t.mask:=by have:=T.room;have:=T.size;simp;lia
 obtain⟨e,he,hne⟩:=zWp T.up hn
 obtain⟨c,hc,ec⟩:=zMo (t:=t) (h:=h) T.hm he
 refine⟨c,hc,?_,rfl⟩
 rw[ec,zE6 T.nod]
 intro q
 exact hne (by
  obtain⟨hz,e'⟩:=Array.getElem?_eq_some_iff.mp q
  rw[<- e']
  simp)
theorem Tab.turns {t:SetTable}{n:Nat}{b:Bool}(T:Tab t n b):10*SetTable.turns t.mask<100000:=by
 rcases T.hm with e|e|e|e <;> rw[e] <;> decide
theorem zId (b:Bool):Tab (SetTable.fresh 0 0 b) 0 b:=⟨.inl rfl,rfl,rfl,.nil,(show 0*5<7*3 by decide),rfl,rfl⟩
structure TabP (t:SetTable) (n:Nat) (led:Bool):Prop where
 hm:Msk t.mask
 size:t.place.size=n
 nod:t.dummies=#[]
 up:Up t.place.toList
 most:(n-1)*5<t.mask*3
 plain:t.plain=true
 led:t.led=led
theorem Tab.put {t:SetTable}{n j:Nat}{b:Bool}(T:Tab t n b) (hj:t.slot j=.empty):TabP (t.put j).1 (n+1) b:=by
 have e:SetTable.has t.dummies j=false:=by rw[T.nod];rfl
 have e2:(t.put j).1={ t with place:=SetTable.insertAt t.place (SetTable.below t.place j) j }:=by
  unfold SetTable.put
  simp[e]
 rw[e2]
 exact⟨T.hm,by show(SetTable.insertAt _ _ _).size=_;rw[zKs,T.size],T.nod,ins_up T.up ((zE6 T.nod).mp hj),by show(n+1-1)*5<t.mask*3;have:=T.room;simpa using this,T.plain,T.led⟩
theorem TabP.fill {t:SetTable}{n:Nat}{b:Bool}(T:TabP t n b):t.fill=n:=by unfold SetTable.fill;rw[T.size,T.nod];rfl
theorem TabP.tab {t:SetTable}{n:Nat}{b:Bool}(T:TabP t n b) (h:t.tooFull=false):Tab t n b:=by
 refine⟨T.hm,T.size,T.nod,T.up,?_,T.plain,T.led⟩
 unfold SetTable.tooFull at h
 rw[T.fill]at h
 simpa using h
theorem TabP.fits {t:SetTable}{n:Nat}{b:Bool}(T:TabP t n b):(t.place.size != n || decide (t.fill > t.mask))=false:=by
 have h:=T.most
 have hm:7<=t.mask:=by rcases T.hm with e|e|e|e <;> rw[e] <;> decide
 rw[T.fill,T.size]
 simp;lia
theorem zHg {m:Nat}{owner:Array (Option Nat)}{e:Nat}(ho:owner.getD e (some 0)=none):∀(L f:Nat) (x:Nat × Nat),L<f->(orb m L x).1=e->∃j,SetTable.layClean.free m owner f x.1 x.2=some j/\owner.getD j (some 0)=none
 | L,0,x,h,_=>by first|assumption|lia
 | L,f+1,x,h,he=>by
  unfold SetTable.layClean.free
  cases hf:(List.range (SetTable.runEnd m x.1+1-x.1)).find? fun k=>(owner.getD (x.1+k) (some 0)).isNone with
  | some k=>
   have:=List.find?_some hf
   exact⟨x.1+k,rfl,by simpa using this⟩
  | none=>
   cases L with
   | zero=>
    have hx:x.1=e:=he
    have:=List.find?_eq_none.mp hf 0 (List.mem_range.mpr (by unfold SetTable.runEnd;split <;> lia))
    rw[Nat.add_zero,hx,ho]at this
    exact absurd rfl this
   | succ L=>exact zHg ho L f (SetTable.leap m x.1 x.2) (by first|assumption|lia) he
theorem zJ9:∀(l:List (Option Nat)),(l.filterMap id).length<l.length->∃e,e<l.length/\l[e]?=some none
 | [],h=>by simp at h
 | none::l,_=>⟨0,by simp,rfl⟩
 | some v::l,h=>by
  obtain⟨e,h1,h2⟩:=zJ9 l (by simpa using h)
  exact⟨e+1,by simp;lia,by simpa using h2⟩
theorem zH2:∀(l:List (Option Nat)) (j k:Nat),l[j]?=some none->((l.set j (some k)).filterMap id).Perm (k::l.filterMap id)
 | [],j,k,h=>by simp at h
 | x::l,0,k,h=>by
  have:x=none:=by simpa using h
  subst this
  simp
 | x::l,j+1,k,h=>by
  have ih:=zH2 l j k (by simpa using h)
  cases x with
  | none=>simpa using ih
  | some v=>
   simp only[List.set_cons_succ,List.filterMap_cons,id]
   exact(List.Perm.cons v ih).trans (List.Perm.swap _ _ _)
def Laid (m:Nat) (acc:Option (Array (Option Nat) × Nat)) (k:Nat):Prop:=∃owner,acc=some (owner,k)/\owner.size=m+1/\(owner.toList.filterMap id).Perm (List.range k)
theorem zO6 {m k:Nat}(hm:Msk m) (hk:k<=m) {owner:Array (Option Nat)}(hs:owner.size=m+1) (hp:(owner.toList.filterMap id).Perm (List.range k)) (h:Int):
  ∃j,SetTable.layClean.free m owner (SetTable.turns m) (SetTable.bits h % (m+1)) (SetTable.bits h)=some j/\Laid m (some (owner.setIfInBounds j (some k),k+1)) (k+1):=by
 obtain⟨e,h1,h2⟩:=zJ9 owner.toList (by rw[hp.length_eq,List.length_range];simp[hs];lia)
 have h1':e<owner.size:=by simpa using h1
 have ho:owner.getD e (some 0)=none:=by
  have:owner[e]?=some none:=by simpa using h2
  simp[Array.getD_eq_getD_getElem?,this]
 obtain⟨L,hL,eL⟩:=zJ4 (p:=SetTable.bits h) (i:=SetTable.bits h % (m+1)) hm (Nat.mod_lt _ (by first|assumption|lia)) (zJu h) (show e<m+1 by first|assumption|lia)
 obtain⟨j,ej,hj⟩:=zHg ho L (SetTable.turns m) (SetTable.bits h % (m+1),SetTable.bits h) (by unfold SetTable.turns;lia) eL
 refine⟨j,ej,_,rfl,by simpa using hs,?_⟩
 have hj2:owner.toList[j]?=some none:=by
  rw[Array.getD_eq_getD_getElem?]at hj
  cases hq:owner[j]? with
  | none=>rw[hq]at hj;cases hj
  | some v=>rw[hq]at hj;have:v=none:=hj;subst this;simpa using hq
 rw[Array.toList_setIfInBounds]
 refine(zH2 _ j k hj2).trans ((List.Perm.cons k hp).trans ?_)
 rw[List.range_succ]
 exact(List.perm_append_singleton k (List.range k)).symm
theorem zKk {m:Nat}(hm:Msk m):∀(hs:List Int) (k:Nat) (acc:Option (Array (Option Nat) × Nat)),k+hs.length<=m+1->Laid m acc k->
  Laid m (hs.foldl (fun acc h=>do
   let (owner,k) <- acc
   let j <- SetTable.layClean.free m owner (SetTable.turns m) (SetTable.bits h % (m+1)) (SetTable.bits h)
   pure (owner.setIfInBounds j (some k),k+1)) acc) (k+hs.length)
 | [],k,acc,_,L=>L
 | h::hs,k,acc,hl,⟨owner,ea,h1,h2⟩=>by
  subst ea
  obtain⟨j,ej,L⟩:=zO6 hm (by simp at hl;lia) h1 h2 h
  have:=zKk hm hs (k+1) _ (by simp at hl;lia) L
  rw[List.foldl_cons]
  have e2:(do
   let (owner,k) <- some (owner,k)
   let j <- SetTable.layClean.free m owner (SetTable.turns m) (SetTable.bits h % (m+1)) (SetTable.bits h)
   pure (owner.setIfInBounds j (some k),k+1))=some (owner.setIfInBounds j (some k),k+1):=by
   show(SetTable.layClean.free m owner (SetTable.turns m) (SetTable.bits h % (m+1)) (SetTable.bits h) >>= fun j=>pure (owner.setIfInBounds j (some k),k+1))=_
   rw[ej];rfl
  rw[e2,List.length_cons,show k+(hs.length+1)=k+1+hs.length by first|assumption|lia]
  exact this
theorem zKj:∀(l:List (Option Nat)) (g:Nat->Nat),((List.range l.length).filterMap fun j=>((l[j]?).getD none).map fun v=>(g j,v)).map (·.2)=l.filterMap id
 | [],g=>rfl
 | x::l,g=>by
  have ih:=zKj l (fun j=>g (j+1))
  rw[List.length_cons,List.range_succ_eq_map,List.filterMap_cons]
  have e:((List.map Nat.succ (List.range l.length)).filterMap fun j=>(((x::l)[j]?).getD none).map fun v=>(g j,v))=(List.range l.length).filterMap fun j=>((l[j]?).getD none).map fun v=>(g (j+1),v):=by
   rw[List.filterMap_map];rfl
  cases x with
  | none=>simp only[List.getElem?_cons_zero,Option.getD_some,Option.map_none];rw[e,ih];rfl
  | some v=>simp only[List.getElem?_cons_zero,Option.getD_some,Option.map_some,List.map_cons];rw[e,ih];rfl
theorem zJd (f:Nat->Option Nat):∀(l:List Nat),Up l->Up ((l.filterMap fun j=>(f j).map fun v=>(j,v)).map (·.1))
 | [],_=>.nil
 | x::l,u=>by
  have ux:=List.pairwise_cons.mp u
  rw[List.filterMap_cons]
  cases hx:f x with
  | none=>exact zJd f l ux.2
  | some v=>
   simp only[Option.map_some,List.map_cons]
   refine List.pairwise_cons.mpr ⟨fun y hy=>?_,zJd f l ux.2⟩
   obtain⟨q,hq,rfl⟩:=List.mem_map.mp hy
   obtain⟨z,hz,ez⟩:=List.mem_filterMap.mp hq
   cases hf:f z with
   | none=>rw[hf]at ez;cases ez
   | some w=>rw[hf]at ez;cases ez;exact ux.1 _ hz
theorem zVe {m:Nat}(hm:Msk m) {hs:Array Int}(hl:hs.size<=m) (hr:hs.size*5<m*3) (fing moves:Nat) (led:Bool):∃t order,SetTable.laid m fing moves led true hs=some (t,order)/\Tab t hs.size led/\order.toList.Perm (List.range hs.size):=by
 obtain⟨owner,e,h1,h2⟩:=zKk hm hs.toList 0 (some (Array.replicate (m+1) none,0)) (by simp;lia) ⟨_,rfl,by simp,by simp⟩
 have ec:SetTable.layClean m hs=some owner:=by
  unfold SetTable.layClean
  rw[<- Array.foldl_toList,e]
  rfl
 have es:=zKj owner.toList id
 have eg:∀j,(owner.getD j none).map (j,·)=((owner.toList[j]?).getD none).map fun v=>(id j,v):=fun j=>by
  rw[Array.getD_eq_getD_getElem?];simp
 refine⟨_,_,by unfold SetTable.laid;rw[ec];rfl,⟨hm,?_,rfl,?_,hr,rfl,rfl⟩,?_⟩
 ·show(List.map _ _).toArray.size=_
  rw[List.size_toArray,List.length_map,<- List.length_map (f:=(·.2))]
  rw[<- h1] 
  rw[show owner.size=owner.toList.length by simp]
  simp only[eg]
  rw[es,h2.length_eq]
  simp
 ·show Up (List.map _ _).toArray.toList
  exact zJd _ _ (List.pairwise_lt_range)
 ·show(List.map _ _).toArray.toList.Perm _
  rw[<- h1,show owner.size=owner.toList.length by simp]
  simp only[eg]
  rw[List.toList_toArray,es]
  simpa using h2
end TB
namespace SR
open PySem PySem.W PyProof.Rows
def Pm (n:Nat) (p:Array Nat):Prop:=p.Perm (List.range n).toArray
section
variable {key:Nat->Nat}{n:Nat}
def Ky (key:Nat->Nat) (p:Array Nat) (i:Nat):Nat:=key (p.getD i 0)
def Dec (key:Nat->Nat) (p:Array Nat) (m:Nat):Prop:=∀i j,i<=j->j<m->Ky key p j<=Ky key p i
structure Fall (key:Nat->Nat) (n:Nat) (p:Array Nat) (m q:Nat):Prop where
 pm:Pm n p
 dec:Dec key p m
 le:q+1<=m
 eq:∀i,m-(q+1)<=i->i<m->Ky key p i=Ky key p (m-1)
end
end SR
namespace TB
open PySem
theorem zE5 {t t':SetTable}(h:t.mask=t'.mask):∀(m:Nat) (p:SetTable.Probe),adv t m p=adv t' m p
 | 0,_=>rfl
 | m+1,p=>by
  show adv t m (t.advance p)=adv t' m (t'.advance p)
  have e:t.advance p=t'.advance p:=by unfold SetTable.advance;rw[h]
  rw[e];exact zE5 h m _
theorem zCv {t t':SetTable}(h:t.mask=t'.mask) (x:Int):t.probeStart x=t'.probeStart x:=by unfold SetTable.probeStart;rw[h]
theorem zR1 {xs:Array Nat}{j:Nat}(u:Up xs.toList):xs[SetTable.below xs j]?=some j <-> j∈xs.toList:=by
 constructor
 ·intro h
  obtain⟨z,e⟩:=Array.getElem?_eq_some_iff.mp h
  rw[<- e];simp
 ·intro h
  obtain⟨i,hi,e⟩:=List.mem_iff_getElem.mp h
  have hi':i<xs.size:=by simpa using hi
  have e':xs[i]=j:=by simpa using e
  obtain⟨a,b,c⟩:=zHw j u
  have h1:¬ i<SetTable.below xs j:=fun q=>by have:=b i hi' q;lia
  have h2:¬ SetTable.below xs j<i:=fun q=>by
   have h3:=c _ (by first|assumption|lia) (Nat.le_refl _)
   have:=zG8 u q (by simpa using hi')
   have:xs[SetTable.below xs j]'(by first|assumption|lia)<xs[i]:=by simpa using this
   lia
  have h3:SetTable.below xs j=i:=by first|assumption|lia
  rw[h3,Array.getElem?_eq_getElem hi',e']
theorem zIg {t:SetTable}{n:Nat}{b:Bool}(T:Tab t n b) (j:Nat):t.slot j=.empty <-> j ∉ t.place.toList:=by
 rw[zE6 T.nod,ne_eq,zR1 T.up]
def Chn (t:SetTable) (h:Int) (j:Nat):Prop:=∃m,(adv t m (t.probeStart h)).j=j/\∀m',m'<m->(adv t m' (t.probeStart h)).j∈t.place.toList
def Chs (t:SetTable) (hs:List Int):Prop:=∀q∈t.place.toList.zip hs,Chn t q.2 q.1
theorem Chn.grow {t t':SetTable}{h:Int}{j:Nat}(c:Chn t h j) (hm:t.mask=t'.mask) (hp:∀j∈t.place.toList,j∈t'.place.toList):Chn t' h j:=by
 obtain⟨m,e,al⟩:=c
 refine⟨m,by rw[<- zCv hm,<- zE5 hm];exact e,fun m' hm'=>?_⟩
 rw[<- zCv hm,<- zE5 hm]
 exact hp _ (al m' hm')
theorem zM8 {α β:Type}:∀(p:Nat) (a:List α) (b:List β) (x:α) (y:β),a.length=b.length->∀q∈(a.take p++x::a.drop p).zip (b.take p++y::b.drop p),q=(x,y)\/q∈a.zip b
 | 0,a,b,x,y,h,q,hq=>by
  simp only[List.take_zero,List.nil_append,List.drop_zero,List.zip_cons_cons]at hq
  exact List.mem_cons.mp hq
 | p+1,[],[],x,y,h,q,hq=>by
  simp at hq
  exact .inl hq
 | p+1,c::a,d::b,x,y,h,q,hq=>by
  simp only[List.take_succ_cons,List.drop_succ_cons,List.cons_append,List.zip_cons_cons]at hq
  rcases List.mem_cons.mp hq with rfl|hq
  ·exact .inr (List.mem_cons_self)
  ·rcases zM8 p a b x y (by simpa using h) q hq with z|z
   ·exact .inl z
   ·exact .inr (List.mem_cons_of_mem _ z)
 | p+1,[],_::_,x,y,h,q,hq=>by simp at h
 | p+1,_::_,[],x,y,h,q,hq=>by simp at h
theorem zU8 {t:SetTable}{n j M:Nat}{b:Bool}{hs:List Int}{h:Int}(T:Tab t n b) (hn:hs.length=n) (C:Chs t hs) (hj:t.slot j=.empty) (hM:(adv t M (t.probeStart h)).j=j) (al:∀m',m'<M->(adv t m' (t.probeStart h)).j∈t.place.toList):
  Chs (t.put j).1 (hs.take (t.put j).2++h::hs.drop (t.put j).2)/\(t.put j).2=SetTable.below t.place j:=by
 have e:SetTable.has t.dummies j=false:=by rw[T.nod];rfl
 have e2:t.put j=({ t with place:=SetTable.insertAt t.place (SetTable.below t.place j) j },SetTable.below t.place j):=by
  unfold SetTable.put
  simp[e]
 rw[e2]
 have pl:({ t with place:=SetTable.insertAt t.place (SetTable.below t.place j) j }:SetTable).place.toList=t.place.toList.take (SetTable.below t.place j)++j::t.place.toList.drop (SetTable.below t.place j):=zEx _ _ _
 have sub:∀i∈t.place.toList,i∈({ t with place:=SetTable.insertAt t.place (SetTable.below t.place j) j }:SetTable).place.toList:=fun i hi=>(ins_perm t.place _ j).mem_iff.mpr (List.mem_cons_of_mem _ hi)
 refine⟨fun q hq=>?_,rfl⟩
 rw[pl]at hq
 rcases zM8 _ _ _ _ _ (by simp[T.size,hn]) q hq with rfl|z
 ·exact Chn.grow (t:=t) ⟨M,hM,al⟩ rfl sub
 ·exact(C q z).grow rfl sub
theorem zLb (t:SetTable):∀(c:Nat) (p:SetTable.Probe),c<=p.more->(adv t c p).j=p.j+c
 | 0,p,_=>rfl
 | c+1,p,h=>by
  show(adv t c (t.advance p)).j=_
  have e:t.advance p={ p with j:=p.j+1,more:=p.more-1 }:=by
   unfold SetTable.advance
   rw[if_pos (by first|assumption|lia)]
  rw[e,zLb t c _ (by show c<=p.more-1;lia)]
  show p.j+1+c=p.j+(c+1)
  lia
theorem zKu {t:SetTable}{owner:Array (Option Nat)}:∀(f:Nat) (x:Nat × Nat) (j:Nat),SetTable.layClean.free t.mask owner f x.1 x.2=some j->
  ∃m,(adv t m (beg t x none)).j=j/\∀m',m'<m->owner.getD (adv t m' (beg t x none)).j (some 0)≠none
 | 0,x,j,h=>by cases h
 | f+1,x,j,h=>by
  unfold SetTable.layClean.free at h
  have rl:SetTable.runEnd t.mask x.1+1-x.1=(beg t x none).more+1:=by
   show _=SetTable.runEnd t.mask x.1-x.1+1
   unfold SetTable.runEnd;split <;> lia
  rw[rl]at h
  cases hf:(List.range ((beg t x none).more+1)).find? fun k=>(owner.getD (x.1+k) (some 0)).isNone with
  | some k=>
   rw[hf]at h
   have ej:x.1+k=j:=Option.some.inj h
   obtain⟨h1,h2,h3⟩:=List.find?_range_eq_some.mp hf
   have hk:k<(beg t x none).more+1:=List.mem_range.mp h2
   refine⟨k,by rw[zLb t k _ (by first|assumption|lia)];exact ej,fun m' hm'=>?_⟩
   rw[zLb t m' _ (by first|assumption|lia)]
   have:=h3 m' hm'
   intro z
   have z':owner.getD (x.1+m') (some 0)=none:=z
   rw[z']at this
   simp at this
  | none=>
   rw[hf]at h
   obtain⟨m,e,al⟩:=zKu f (SetTable.leap t.mask x.1 x.2) j h
   refine⟨(beg t x none).more+1+m,by rw[zCl,zHz t _ _ rfl];exact e,fun m' hm'=>?_⟩
   rcases Nat.lt_or_ge m' ((beg t x none).more+1)with z|z
   ·rw[zLb t m' _ (by first|assumption|lia)]
    have:=List.find?_eq_none.mp hf m' (List.mem_range.mpr z)
    intro w
    have w':owner.getD (x.1+m') (some 0)=none:=w
    rw[w']at this
    simp at this
   ·obtain⟨c,rfl⟩:∃c,m'=(beg t x none).more+1+c:=⟨m' - ((beg t x none).more+1),by first|assumption|lia⟩
    rw[zCl,zHz t _ _ rfl]
    exact al c (by first|assumption|lia)
end TB
namespace TB
open PySem
theorem zSl (m i:Nat) (h:i<=m):SetTable.runEnd m i<=m:=by unfold SetTable.runEnd;split <;> lia
theorem zSm (m i:Nat):i<=SetTable.runEnd m i:=by unfold SetTable.runEnd;split <;> lia
theorem zTd (t:SetTable):∀(m:Nat) (p:SetTable.Probe),p.j+p.more<=t.mask->(adv t m p).j<=t.mask
 | 0,p,h=>by show p.j<=_;lia
 | m+1,p,h=>by
  refine zTd t m (t.advance p) ?_
  unfold SetTable.advance
  by_cases c:p.more > 0
  ·rw[if_pos c];show p.j+1+(p.more-1)<=_;lia
  ·rw[if_neg c]
   have:(p.i*5+1+p.perturb / 32) % (t.mask+1)<t.mask+1:=Nat.mod_lt _ (by first|assumption|lia)
   show(p.i*5+1+p.perturb / 32) % (t.mask+1)+(SetTable.runEnd t.mask ((p.i*5+1+p.perturb / 32) % (t.mask+1))-(p.i*5+1+p.perturb / 32) % (t.mask+1))<=t.mask
   have a:=zSl t.mask ((p.i*5+1+p.perturb / 32) % (t.mask+1)) (by first|assumption|lia)
   have b:=zSm t.mask ((p.i*5+1+p.perturb / 32) % (t.mask+1))
   lia
theorem zPr (t:SetTable) (h:Int) (m:Nat):(adv t m (t.probeStart h)).j<=t.mask:=by
 refine zTd t m _ ?_
 have:SetTable.bits h % (t.mask+1)<t.mask+1:=Nat.mod_lt _ (by first|assumption|lia)
 show SetTable.bits h % (t.mask+1)+(SetTable.runEnd t.mask (SetTable.bits h % (t.mask+1))-SetTable.bits h % (t.mask+1))<=t.mask
 have a:=zSl t.mask (SetTable.bits h % (t.mask+1)) (by first|assumption|lia)
 have b:=zSm t.mask (SetTable.bits h % (t.mask+1))
 lia
def OwnC (t:SetTable) (hs:List Int) (owner:Array (Option Nat)):Prop:=∀j v,owner[j]?=some (some v)->∃m,(adv t m (t.probeStart (hs.getD v 0))).j=j/\∀m',m'<m->owner.getD (adv t m' (t.probeStart (hs.getD v 0))).j (some 0)≠none
def zWg (t:SetTable) (hs:List Int) (acc:Option (Array (Option Nat) × Nat)) (k:Nat):Prop:=∃owner,acc=some (owner,k)/\owner.size=t.mask+1/\(owner.toList.filterMap id).Perm (List.range k)/\OwnC t hs owner
theorem zLq {t:SetTable}{hs:List Int}{k:Nat}(hm:Msk t.mask) (hk:k<=t.mask) {owner:Array (Option Nat)}(hz:owner.size=t.mask+1) (hp:(owner.toList.filterMap id).Perm (List.range k)) (C:OwnC t hs owner) {h:Int}(eh:hs.getD k 0=h):
  ∃j,SetTable.layClean.free t.mask owner (SetTable.turns t.mask) (SetTable.bits h % (t.mask+1)) (SetTable.bits h)=some j/\zWg t hs (some (owner.setIfInBounds j (some k),k+1)) (k+1):=by
 obtain⟨e,h1,h2⟩:=zJ9 owner.toList (by rw[hp.length_eq,List.length_range];simp[hz];lia)
 have h1':e<owner.size:=by simpa using h1
 have ho:owner.getD e (some 0)=none:=by
  have:owner[e]?=some none:=by simpa using h2
  simp[Array.getD_eq_getD_getElem?,this]
 obtain⟨L,hL,eL⟩:=zJ4 (p:=SetTable.bits h) (i:=SetTable.bits h % (t.mask+1)) hm (Nat.mod_lt _ (by first|assumption|lia)) (zJu h) (show e<t.mask+1 by first|assumption|lia)
 obtain⟨j,ej,hj⟩:=zHg ho L (SetTable.turns t.mask) (SetTable.bits h % (t.mask+1),SetTable.bits h) (by unfold SetTable.turns;lia) eL
 have hj1:owner[j]?=some none:=by
  rw[Array.getD_eq_getD_getElem?]at hj
  cases hq:owner[j]? with
  | none=>rw[hq]at hj;cases hj
  | some v=>rw[hq]at hj;have:v=none:=hj;subst this;rfl
 have hj2:owner.toList[j]?=some none:=by simpa using hj1
 have hjz:j<owner.size:=(Array.getElem?_eq_some_iff.mp hj1).1
 have gd:∀i,owner.getD i (some 0)≠none->(owner.setIfInBounds j (some k)).getD i (some 0)≠none:=fun i hi=>by
  rw[Array.getD_eq_getD_getElem?]at hi ⊢
  rw[Array.getElem?_setIfInBounds]
  by_cases c:j=i
  ·rw[if_pos c];split <;> simp
  ·rw[if_neg c];exact hi
 refine⟨j,ej,_,rfl,by simpa using hz,?_,fun i v hv=>?_⟩
 ·rw[Array.toList_setIfInBounds]
  refine(zH2 _ j k hj2).trans ((List.Perm.cons k hp).trans ?_)
  rw[List.range_succ]
  exact(List.perm_append_singleton k (List.range k)).symm
 ·rw[Array.getElem?_setIfInBounds]at hv
  by_cases c:j=i
  ·rw[if_pos c,if_pos hjz]at hv
   have ev:k=v:=by simpa using hv
   subst ev c
   obtain⟨m,em,al⟩:=zKu _ (SetTable.bits h % (t.mask+1),SetTable.bits h) j ej
   rw[eh]
   exact⟨m,em,fun m' hm'=>gd _ (al m' hm')⟩
  ·rw[if_neg c]at hv
   obtain⟨m,em,al⟩:=C i v hv
   exact⟨m,em,fun m' hm'=>gd _ (al m' hm')⟩
theorem zI9 {t:SetTable}(hm:Msk t.mask) (hs0:List Int):∀(hs:List Int) (k:Nat) (acc:Option (Array (Option Nat) × Nat)),k+hs.length<=t.mask+1->(∀i,hs.getD i 0=hs0.getD (k+i) 0)->zWg t hs0 acc k->
  zWg t hs0 (hs.foldl (fun acc h=>do
   let (owner,k) <- acc
   let j <- SetTable.layClean.free t.mask owner (SetTable.turns t.mask) (SetTable.bits h % (t.mask+1)) (SetTable.bits h)
   pure (owner.setIfInBounds j (some k),k+1)) acc) (k+hs.length)
 | [],k,acc,_,_,L=>L
 | h::hs,k,acc,hl,he,⟨owner,ea,h1,h2,h3⟩=>by
  subst ea
  obtain⟨j,ej,L⟩:=zLq hm (by simp at hl;lia) h1 h2 h3 (h:=h) (by have:=he 0;simpa using this.symm)
  have:=zI9 hm hs0 hs (k+1) _ (by simp at hl;lia) (fun i=>by have:=he (i+1);rw[show k+1+i=k+(i+1) by first|assumption|lia];simpa using this) L
  rw[List.foldl_cons]
  have e2:(do
   let (owner,k) <- some (owner,k)
   let j <- SetTable.layClean.free t.mask owner (SetTable.turns t.mask) (SetTable.bits h % (t.mask+1)) (SetTable.bits h)
   pure (owner.setIfInBounds j (some k),k+1))=some (owner.setIfInBounds j (some k),k+1):=by
   show(SetTable.layClean.free t.mask owner (SetTable.turns t.mask) (SetTable.bits h % (t.mask+1)) (SetTable.bits h) >>= fun j=>pure (owner.setIfInBounds j (some k),k+1))=_
   rw[ej];rfl
  rw[e2,List.length_cons,show k+(hs.length+1)=k+1+hs.length by first|assumption|lia]
  exact this
theorem zR5 {m:Nat}(hm:Msk m) {hs:Array Int}(hl:hs.size<=m) (hr:hs.size*5<m*3) (fing moves:Nat) (led:Bool):∃t order,SetTable.laid m fing moves led true hs=some (t,order)/\Tab t hs.size led/\order.toList.Perm (List.range hs.size)/\Chs t (order.toList.map fun k=>hs.toList.getD k 0):=by
 let t0:SetTable:={ mask:=m,place:=#[],dummies:=#[],finger:=fing,led:=led,moves:=moves,plain:=true }
 obtain⟨owner,e,h1,h2,h3⟩:=zI9 (t:=t0) hm hs.toList hs.toList 0 (some (Array.replicate (m+1) none,0)) (by show 0+hs.toList.length<=m+1;simp;lia) (fun i=>by rw[Nat.zero_add]) ⟨_,rfl,by show _=m+1;simp,by show((Array.replicate (m+1) (none:Option Nat)).toList.filterMap id).Perm (List.range 0);simp,fun j v hv=>by rw[Array.getElem?_replicate]at hv;split at hv <;> cases hv⟩
 have h1:owner.size=m+1:=h1
 have ec:SetTable.layClean m hs=some owner:=by
  unfold SetTable.layClean
  rw[<- Array.foldl_toList]
  have e':(hs.toList.foldl (fun acc h=>do
   let (owner,k) <- acc
   let j <- SetTable.layClean.free m owner (SetTable.turns m) (SetTable.bits h % (m+1)) (SetTable.bits h)
   pure (owner.setIfInBounds j (some k),k+1)) (some (Array.replicate (m+1) none,0)))=some (owner,0+hs.toList.length):=e
  rw[e']
  rfl
 obtain⟨t,order,a,T,p⟩:=zVe hm hl hr fing moves led
 refine⟨t,order,a,T,p,?_⟩
 unfold SetTable.laid at a
 rw[ec]at a
 have a':((({ mask:=m,place:=(((List.range (m+1)).filterMap fun j=>(owner.getD j none).map (j,·)).map (·.1)).toArray,dummies:=#[],finger:=fing,led:=led,moves:=moves,plain:=true }:SetTable),(((List.range (m+1)).filterMap fun j=>(owner.getD j none).map (j,·)).map (·.2)).toArray):SetTable × Array Nat)=(t,order):=Option.some.inj a
 obtain⟨e1,e2⟩:=Prod.mk.inj a'
 have mem:∀j,j<=m->owner.getD j (some 0)≠none->j∈t.place.toList:=fun j hj hn=>by
  rw[<- e1]
  show j∈(List.map (fun r:Nat × Nat=>r.1) _).toArray.toList
  have hz:j<owner.size:=by first|assumption|lia
  have hg:owner[j]?=some owner[j]:=Array.getElem?_eq_getElem hz
  rw[Array.getD_eq_getD_getElem?,hg]at hn
  cases hv:owner[j]with
  | none=>rw[hv]at hn;exact absurd rfl hn
  | some v=>exact List.mem_map.mpr ⟨(j,v),List.mem_filterMap.mpr ⟨j,List.mem_range.mpr (by first|assumption|lia),by rw[Array.getD_eq_getD_getElem?,hg,hv];rfl⟩,rfl⟩
 have tm:t.mask=t0.mask:=by rw[<- e1]
 intro q hq
 have zq:∃r∈((List.range (m+1)).filterMap fun j=>(owner.getD j none).map (j,·)),q=(r.1,hs.toList.getD r.2 0):=by
  rw[<- e1,<- e2]at hq
  simp only[List.map_map]at hq
  generalize ((List.range (m+1)).filterMap fun j=>(owner.getD j none).map (j,·))=live at hq
  clear a a' e1 e2 T p mem
  induction live with
  | nil=>simp at hq
  | cons r live ih=>
   simp only[List.map_cons,List.zip_cons_cons]at hq
   rcases List.mem_cons.mp hq with rfl|hq
   ·exact⟨r,.head _,rfl⟩
   ·obtain⟨r',hr',e'⟩:=ih hq
    exact⟨r',.tail _ hr',e'⟩
 obtain⟨⟨j,v⟩,hr,rfl⟩:=zq
 obtain⟨j',hj',ej⟩:=List.mem_filterMap.mp hr
 have hov:owner[j']?=some (some v)/\j'=j:=by
  rw[Array.getD_eq_getD_getElem?]at ej
  cases ho:owner[j']? with
  | none=>rw[ho]at ej;cases ej
  | some w=>
   rw[ho]at ej
   cases w with
   | none=>cases ej
   | some u=>cases ej;exact⟨rfl,rfl⟩
 obtain⟨hov,rfl⟩:=hov
 obtain⟨mm,em,al⟩:=h3 j' v hov
 refine⟨mm,by rw[zCv tm,zE5 tm];exact em,fun m' hm'=>?_⟩
 rw[zCv tm,zE5 tm]
 exact mem _ (zPr t0 _ m') (al m' hm')
end TB
namespace TB
open PySem
theorem zGb {t:SetTable}{hashAt:Nat->Int}{h:Int}(hd:t.dummies=#[]):∀(f m:Nat) (p:SetTable.Probe),m<f->Far t p m->
  (∃d,d<=m/\SetTable.probe.go t hashAt h f p=some (.empty (adv t d p).j none)/\t.slot (adv t d p).j=.empty/\∀d',d'<d->∃i,t.slot (adv t d' p).j=.live i/\(hashAt i == h)=false) \/
  (∃d i,d<m/\SetTable.probe.go t hashAt h f p=some (.candidate (adv t d p).j i (adv t (d+1) p))/\t.slot (adv t d p).j=.live i/\(∀d',d'<d->∃i,t.slot (adv t d' p).j=.live i/\(hashAt i == h)=false)/\Far t (adv t (d+1) p) (m-(d+1)))
 | 0,m,p,hf,_=>by first|assumption|lia
 | f+1,m,p,hf,⟨hm,hp⟩=>by
  unfold SetTable.probe.go
  have nd:=zCn hd p.j
  cases hs:t.slot p.j with
  | empty=>exact .inl ⟨0,Nat.zero_le _,by rw[hp];rfl,hs,fun d' h=>by first|assumption|lia⟩
  | dummy=>rw[hs]at nd;split at nd <;> cases nd
  | live i=>
   obtain⟨m',rfl⟩:∃m',m=m'+1:=by
    cases m with
    | zero=>
     have:t.slot p.j=.empty:=hm
     rw[hs]at this;cases this
    | succ k=>exact⟨k,rfl⟩
   have fr:Far t (t.advance p) m':=⟨hm,(zIs t 1 p).trans hp⟩
   dsimp only
   by_cases c:(hashAt i == h)=true
   ·rw[if_pos c]
    exact .inr ⟨0,i,by first|assumption|lia,rfl,hs,fun d' h=>by first|assumption|lia,by rw[show m'+1-(0+1)=m' by first|assumption|lia];exact fr⟩
   ·rw[if_neg c]
    have c':(hashAt i == h)=false:=by simpa using c
    rcases zGb hd f m' _ (by first|assumption|lia) fr with⟨d,h1,h2,h3,h4⟩|⟨d,i',h1,h2,h3,h4,h5⟩
    ·refine .inl ⟨d+1,by first|assumption|lia,h2,h3,fun d' hd'=>?_⟩
     cases d' with
     | zero=>exact⟨i,hs,c'⟩
     | succ d'=>exact h4 d' (by first|assumption|lia)
    ·refine .inr ⟨d+1,i',by first|assumption|lia,h2,h3,fun d' hd'=>?_,by rw[show m'+1-(d+1+1)=m' - (d+1) by first|assumption|lia];exact h5⟩
     cases d' with
     | zero=>exact⟨i,hs,c'⟩
     | succ d'=>exact h4 d' (by first|assumption|lia)
theorem zJe {t:SetTable}{n j i:Nat}{b:Bool}(T:Tab t n b) (h:t.slot j=.live i):t.place[i]?=some j:=by
 rw[zCn T.nod]at h
 split at h
 ·rename_i c
  cases h
  exact eq_of_beq c
 ·cases h
theorem zVa {t:SetTable}{n j i:Nat}{b:Bool}(T:Tab t n b) (h:t.slot j=.live i):j∈t.place.toList:=by
 obtain⟨z,e⟩:=Array.getElem?_eq_some_iff.mp (zJe T h)
 rw[<- e];simp
theorem zWo {l:List Nat}(u:Up l) {i j:Nat}(hi:i<l.length) (hj:j<l.length) (e:l[i]=l[j]):i=j:=by
 rcases Nat.lt_trichotomy i j with z|z|z
 ·have:=zG8 u z hj;lia
 ·exact z
 ·have:=zG8 u z hi;lia
theorem zN1 {t:SetTable}{n:Nat}{b:Bool}(T:TabP t n b) (hf:t.tooFull=true) (hn:n<=300) (hs:Array Int) (hz:hs.size=n):
  (decide (SetTable.sizeAbove (SetTable.grown n) > sizeLine)=false)/\∃t' order,t.relaid hs (SetTable.grown n)=some (t',order)/\Tab t' n b/\order.toList.Perm (List.range n)/\Chs t' (order.toList.map fun k=>hs.toList.getD k 0):=by
 have h1:=T.most
 unfold SetTable.tooFull at hf
 rw[T.fill]at hf
 have hf:t.mask*3<=n*5:=by simpa using hf
 have c:n=5\/n=19\/n=77:=by
  rcases T.hm with e|e|e|e <;> rw[e]at h1 hf <;> lia
 have key:∀M,Msk M->SetTable.sizeAbove (SetTable.grown n)=M+1->n<=M->n*5<M*3->∃t' order,t.relaid hs (SetTable.grown n)=some (t',order)/\Tab t' n b/\order.toList.Perm (List.range n)/\Chs t' (order.toList.map fun k=>hs.toList.getD k 0):=fun M hM e1 e2 e3=>by
  obtain⟨t',order,a,T',p,C⟩:=zR5 hM (hs:=hs) (by first|assumption|lia) (by first|assumption|lia) t.finger (t.movedTo M) b
  rw[hz]at T' p
  refine⟨t',order,?_,T',p,C⟩
  unfold SetTable.relaid
  rw[e1,T.plain,T.led]
  exact a
 rcases c with rfl|rfl|rfl
 ·exact⟨by decide +kernel,key 31 (by simp[Msk]) (by decide +kernel) (by decide) (by decide)⟩
 ·exact⟨by decide +kernel,key 127 (by simp[Msk]) (by decide +kernel) (by decide) (by decide)⟩
 ·exact⟨by decide +kernel,key 511 (by simp[Msk]) (by decide +kernel) (by decide) (by decide)⟩
end TB
namespace TS
open PySem TB
abbrev sObj (es:Array (Int × Value)) (ep:Nat) (t:SetTable):Obj:={ cls:=.type "set",dict:=none,data:=.set es ep t,slots:=#[] }
theorem Tab.ft {t:SetTable}{n:Nat}{b:Bool}(T:Tab t n b):t.fits n=true:=by
 have:=T.fits
 unfold SetTable.fits
 simp at this ⊢
 exact⟨this.1,this.2⟩
theorem TabP.ft {t:SetTable}{n:Nat}{b:Bool}(T:TabP t n b):t.fits n=true:=by
 have:=T.fits
 unfold SetTable.fits
 simp at this ⊢
 exact⟨this.1,this.2⟩
section
variable {prog:Program}{w:World}{A:Around}{E:Value->Shared->Prop}{s:Shared}
abbrev TK (prog:Program) (w:World) (h:Heap) (ks:List Int) (a:Addr):Prop:=IsTupleKey (intKind prog w) h ks a
theorem gate {M:Model}{α:Type}{c:Prop}[Decidable c] {m:Sem Bool}{U R:Sem α}{Q:α->Shared->Prop}(hm:∀Q':Bool->Shared->Prop,Q' false s->wpAny M A m Q' E s) (hR:wpAny M A R Q E s):
  wpAny M A (if c then m >>= fun b=>if b=true then U else R else R) Q E s:=by
 by_cases h:c
 ·rw[if_pos h]
  exact wpAny_bind (hm _ (by rw[if_neg (by decide)];exact hR))
 ·rw[if_neg h];exact hR
def adr:Value->Addr
 | .ref a=>a
 | _=>0
end
end TS
namespace TS
open PySem TB
abbrev zDe (w:World):Bool:=!(w.params.followText "set-order")
section
variable {prog:Program}{w:World}{A:Around}{E:Value->Shared->Prop}{s:Shared}
abbrev nObj (w:World):Obj:=sObj #[] 0 (.fresh 0 0 (zDe w))
theorem zEt (a:Value) {Q₁:Value->Shared->Prop}(h:Q₁ (.ref s.heap.objs.size) { s with heap:=s.heap.push (nObj w) }):
  codeAny (model prog w) A (.call (.builtin "set.__new__") ⟨[.type "set",a],[]⟩) (wants Q₁ E) s:=by
 refine codeAny_of_tree (show wpAny _ A.in1 (checkBuiltinCall "set.__new__" ⟨[.type "set",a],[]⟩ >>= fun _=>again (.builtin "set.__new__" ⟨[.type "set",a],[]⟩)) _ _ s from ?_)
 refine wpAny_bind (wpAny_of_eq (F.newCall_set_1 a) (wpAny_pure ⟨plainId_quiet F.plain_set_new _,codeAny_builtin F.entry_set_new ?_⟩));rw[Around.under_plainId F.plain_set_new _]
 unfold Builtin.«set.__new__» Builtin.Frozenset.newClass;have hsub:=sub_set_self;obtain⟨hp,g,d,tk,os⟩:=s;dsimp only;wp_walk
 refine wpAny_askSetting (wpAny_pure ?_);dsimp only;simp only[newObj]
 exact wpAny_bind (wpAny_alloc (wpAny_pure (wpAny_pure h)))
end
end TS
namespace TS
open PySem TB
theorem si_next:Slot "set_iterator" "__next__" "set_iterator.__next__":=
 .of (owner:="set_iterator") (n:="__next__") (by rw[typeLookup_type,builtinLookup_eq_fast];kernel_rfl) (by decide +kernel) (by decide +kernel) (by decide +kernel) (by first|exact .inl (by decide +kernel)|exact .inr (by decide +kernel)) (by rw[isSubtype_type];kernel_rfl)
theorem zKa:entryFor table "set_iterator.__next__"=some Builtin.«set_iterator.__next__»:=entryFor_of_tree (by kernel_rfl)
theorem zMu (a:Value):argsOk "set_iterator.__next__" ⟨[a],[]⟩:=by unfold argsOk;kernel_rfl
theorem zMs:Slot "set_iterator" "__iter__" "set_iterator.__iter__":=
 .of (owner:="set_iterator") (n:="__iter__") (by rw[typeLookup_type,builtinLookup_eq_fast];kernel_rfl) (by decide +kernel) (by decide +kernel) (by decide +kernel) (by first|exact .inl (by decide +kernel)|exact .inr (by decide +kernel)) (by rw[isSubtype_type];kernel_rfl)
theorem zMt:entryFor table "set_iterator.__iter__"=some Builtin.«dict_keyiterator.__iter__»:=entryFor_alias (id':="dict_keyiterator.__iter__") (by kernel_rfl) rfl (by decide +kernel) (by kernel_rfl)
theorem zPt (a:Value):argsOk "set_iterator.__iter__" ⟨[a],[]⟩:=by unfold argsOk;kernel_rfl
theorem zZd:entryFor table "set.__iter__"=some Builtin.«frozenset.__iter__»:=entryFor_alias (id':="frozenset.__iter__") (by kernel_rfl) rfl (by decide +kernel) (by kernel_rfl)
theorem zGi {α:Type}:∀(l:List α) (i:Nat) (h:i<l.length),(l[i]::l.eraseIdx i).Perm l
 | [],i,h=>by simp at h
 | x::l,0,h=>by simp
 | x::l,i+1,h=>by
  simp only[List.getElem_cons_succ,List.eraseIdx_cons_succ]
  exact(List.Perm.swap _ _ _).trans (List.Perm.cons x (zGi l i (by simpa using h)))
theorem zNb {α:Type}(next:Nat->Nat):∀(f k:Nat) (left:List α) (out:Array α),left.length=f->∃l,(pickOrder.go next f k left out).toList=out.toList++l/\l.Perm left
 | 0,k,left,out,h=>⟨[],by simp[pickOrder.go],by rw[List.length_eq_zero_iff.mp h]⟩
 | f+1,k,left,out,h=>by
  have hl:next k % left.length<left.length:=Nat.mod_lt _ (by first|assumption|lia)
  unfold pickOrder.go
  rw[List.getElem?_eq_getElem hl]
  dsimp only
  obtain⟨l,e,p⟩:=zNb next f (k+1) (left.eraseIdx (next k % left.length)) (out.push left[next k % left.length]) (by rw[List.length_eraseIdx];simp[hl];lia)
  refine⟨left[next k % left.length]::l,by rw[e];simp,(List.Perm.cons _ p).trans ?_⟩
  exact zGi left _ hl
theorem zNa {α:Type}(next:Nat->Nat) (xs:Array α):(pickOrder next xs).toList.Perm xs.toList:=by
 obtain⟨l,e,p⟩:=zNb next xs.size 0 xs.toList #[] (by simp)
 unfold pickOrder
 rw[e]
 simpa using p
def ordW (w:World) (S:Addr) (ep:Nat) (es:Array (Int × Value)):Array (Int × Value):=if w.params.followText "set-order"=true then pickOrder (w.params.setOrder S ep) es else es
theorem zF9 (w:World) (S:Addr) (ep:Nat) (es:Array (Int × Value)):(ordW w S ep es).toList.Perm es.toList:=by
 unfold ordW
 split
 ·exact zNa _ _
 ·exact .refl _
theorem zCp (w:World) (S:Addr) (ep:Nat) (es:Array (Int × Value)):(ordW w S ep es).size=es.size:=by simpa using(zF9 w S ep es).length_eq
def zF6 (w:World) (t:SetTable) (i:Nat):Nat:=if w.params.followText "set-order"=true then 0 else TB.slotAt t.place i
section
variable {prog:Program}{w:World}{A:Around}{E:Value->Shared->Prop}{s:Shared}
def IsSI (w:World) (h:Heap) (I S:Addr) (i n ep:Nat) (t:SetTable):Prop:=∃o,h.get? I=some o/\o.cls=.type "set_iterator"/\o.data=.fields #[.int (zF6 w t i) 0,.int i 0,.ref S,.int n 0,.int ep 0]
theorem IsSI.typeIs {I S:Addr}{i n ep:Nat}{t:SetTable}(x:IsSI w s.heap I S i n ep t):s.TypeIs (.ref I) "set_iterator":=let ⟨o,ho,hc,_⟩:=x;⟨o,ho,hc⟩
theorem walk_of {S:Addr}{es:Array (Int × Value)}{ep:Nat}{t:SetTable}(ho:s.heap.get? S=some (sObj es ep t)) (T:Tab t es.size (!(w.params.followText "set-order"))) (i:Nat) (hi:i<=es.size) {Q:Option (Value × Nat)->Shared->Prop}
  (h:Q (((ordW w S ep es)[i]?).map fun e=>(e.2,zF6 w t (i+1))) s):wpAny (model prog w) A (setNext S (zF6 w t i) i ep) Q E s:=by
 unfold setNext
 refine wpAny_bind (wpAny_setState_of ho rfl (Tab.ft T) ?_)
 dsimp only
 unfold setsByText
 refine wpAny_bind (wpAny_bind (wpAny_askSetting (wpAny_pure ?_)))
 show wpAny _ _ (if(w.params.followText "set-order")=true then _ else _) _ _ _
 by_cases c:w.params.followText "set-order"=true
 ·rw[if_pos c]
  rw[if_neg (by simp)]
  refine wpAny_bind ?_
  unfold setWalk
  refine wpAny_bind (wpAny_setState_of ho rfl (Tab.ft T) ?_)
  dsimp only
  unfold setsByText
  refine wpAny_bind (wpAny_bind (wpAny_askSetting (wpAny_pure ?_)))
  show wpAny _ _ (if(w.params.followText "set-order")=true then _ else _) _ _ _
  rw[if_pos c]
  refine wpAny_bind (wpAny_askSetting (wpAny_pure (wpAny_pure ?_)))
  unfold ordW zF6 at h
  rw[if_pos c,if_pos c]at h
  unfold zF6
  rw[if_pos c]
  exact h
 ·rw[if_neg c]
  have hl:t.led=true:=by rw[T.led];simpa using c
  have e1:(!t.plain && decide (es.size > 1))=false:=by rw[T.plain];rfl
  show wpAny _ _ (if(!t.plain && decide (es.size > 1))=true then _ else _) _ _ _
  rw[e1]
  rw[if_neg (by decide)]
  show wpAny _ _ ((if(!t.led && !es.isEmpty)=true then _ else pure ()) >>= _) _ _ _
  rw[hl]
  rw[if_neg (by simp)]
  refine wpAny_bind (wpAny_pure ?_)
  unfold ordW zF6 at h
  rw[if_neg c,if_neg c]at h
  unfold zF6
  rw[if_neg c,zIr T.up (by rw[T.size];exact hi)]
  refine wpAny_pure ?_
  rcases Nat.lt_or_ge i es.size with z|z
  ·have z2:i<t.place.size:=by rw[T.size];exact z
   rw[Array.getElem?_eq_getElem z,Array.getElem?_eq_getElem z2]
   rw[Array.getElem?_eq_getElem z]at h
   have:TB.slotAt t.place (i+1)=t.place[i]+1:=by unfold TB.slotAt;simp[Array.getD,z2]
   rw[this]at h
   exact h
  ·rw[Array.getElem?_eq_none z]
   rw[Array.getElem?_eq_none z]at h
   exact h
theorem zTx {I S:Addr}{i ep:Nat}{es:Array (Int × Value)}{t:SetTable}{e:Int × Value}{Q:Option Value->Shared->Prop}(hit:IsSI w s.heap I S i es.size ep t) (ho:s.heap.get? S=some (sObj es ep t)) (T:Tab t es.size (!(w.params.followText "set-order"))) (hne:S≠I)
  (hx:(ordW w S ep es)[i]?=some e) (hQ:∀h',IsSI w h' I S (i+1) es.size ep t->Heap.SameBut I s.heap h'->Q (some e.2) { s with heap:=h' }):wpAny (model prog w) A (pyNext (.ref I)) Q E s:=by
 have hlt:i<es.size:=by rw[<- zCp w S ep es];exact(Array.getElem?_eq_some_iff.mp hx).1
 obtain⟨o,hi,hc,hd⟩:=id hit
 unfold pyNext
 refine wpAny_bind (wpAny_attempt (wpAny_callSpecial?_slot (name:=Str.ofString "__next__") hit.typeIs si_next (wpAny_call_entry si_next hit.typeIs zKa ?_ (zMu _))))
 unfold Builtin.«set_iterator.__next__»
 refine wpAny_bind (wpAny_pure ?_)
 refine wpAny_bind (wpAny_fieldsOf hi hd ?_)
 dsimp only
 refine wpAny_bind (wpAny_setEntries_of ho rfl (Tab.ft T) ?_)
 rw[if_neg (by simp)]
 simp only[Int.toNat_natCast]
 refine wpAny_bind (walk_of ho T i (Nat.le_of_lt hlt) ?_)
 rw[hx]
 simp only[Option.map_some]
 refine wpAny_bind (wpAny_setField hi hd (by simp) ?_)
 have g1:=Heap.get?_update_self (Obj.mapFields fun x=>x.setIfInBounds 0 (rawInt ↑(zF6 w t (i+1)))) hi (Obj.isFreed_of_fields (Obj.data_mapFields hd _))
 have d1:=Obj.data_mapFields hd fun x=>x.setIfInBounds 0 (rawInt ↑(zF6 w t (i+1)))
 refine wpAny_bind (wpAny_setField g1 d1 (by simp) (wpAny_pure ⟨e.2,rfl,wpAny_pure (hQ _ ⟨_,Heap.get?_update_self _ g1 (Obj.isFreed_of_fields (Obj.data_mapFields d1 _)),(Obj.cls_mapFields ..).trans ((Obj.cls_mapFields ..).trans hc),?_⟩ ((Heap.SameBut.update ..).trans (Heap.SameBut.update ..)))⟩))
 rw[Obj.data_mapFields d1]
 simp[rawInt]
theorem zTy {I S:Addr}{ep:Nat}{es:Array (Int × Value)}{t:SetTable}{Q:Option Value->Shared->Prop}(hh:A.handled=none) (hit:IsSI w s.heap I S es.size es.size ep t) (ho:s.heap.get? S=some (sObj es ep t)) (T:Tab t es.size (!(w.params.followText "set-order"))) (hne:S≠I)
  (hQ:∀h',Heap.ExtBut I s.heap h'->Q none { s with heap:=h' }):wpAny (model prog w) A (pyNext (.ref I)) Q E s:=by
 obtain⟨o,hi,hc,hd⟩:=id hit
 unfold pyNext
 refine wpAny_bind (wpAny_attempt (wpAny_callSpecial?_slot (name:=Str.ofString "__next__") hit.typeIs si_next (wpAny_call_entry si_next hit.typeIs zKa ?_ (zMu _))))
 unfold Builtin.«set_iterator.__next__»
 refine wpAny_bind (wpAny_pure ?_)
 refine wpAny_bind (wpAny_fieldsOf hi hd ?_)
 dsimp only
 refine wpAny_bind (wpAny_setEntries_of ho rfl (Tab.ft T) ?_)
 rw[if_neg (by simp)]
 simp only[Int.toNat_natCast]
 refine wpAny_bind (walk_of ho T es.size (Nat.le_refl _) ?_)
 rw[Array.getElem?_eq_none (by rw[zCp];exact Nat.le_refl _)]
 simp only[Option.map_none]
 refine wpAny_bind (wpAny_setField hi hd (by simp) ?_)
 refine wpAny_bind ?_
 simp only[newExc,newTuple]
 refine wpAny_bind (wpAny_newObj_type (wpAny_bind (m:=firstArgMember _ _) (wpAny_of_eq (a:=Value.none) (by first|rfl|(simp only[firstArgMember];rfl)) (wpAny_newObj_type ?_ (by size_fits)))) (by size_fits))
 simp only[raiseNew]
 refine wpAny_bind (wpAny_handled ?_);rw[show A.in1.handled=none from hh]
 refine wpAny_bind (wpAny_pure (wpAny_throw ?_))
 refine wpAny_bind (wpAny_isInstance (b:=true) (T:="StopIteration") ⟨_,Heap.get?_push_size _ rfl,rfl⟩ isSubtype_stop (wpAny_pure (hQ _ (((Heap.SameBut.update ..).extBut.push _).push _))))
theorem zMb (hh:A.handled=none) (I S:Addr) (hne:S≠I) (es:Array (Int × Value)) (ep:Nat) (t:SetTable) (T:Tab t es.size (!(w.params.followText "set-order"))):
  Walks prog w A I [I,S] [I] es.size (fun i v=>((ordW w S ep es).map (·.2))[i]?=some v) (fun i h=>IsSI w h I S i es.size ep t/\h.get? S=some (sObj es ep t)) where
 sub:=fun b hb=>by simp at hb;simp[hb]
 frame:=fun _ _ _ st hk=>⟨let ⟨o,ho,r⟩:=st.1;⟨o,hk I (by simp) o ho,r⟩,hk S (by simp) _ st.2⟩
 item:=fun i s Q E hi st hQ=>by
  have hz:i<(ordW w S ep es).size:=by rw[zCp];exact hi
  refine zTx st.1 st.2 T hne (Array.getElem?_eq_getElem hz) fun h' it' sb=>?_
  exact hQ _ h' s.toks (by rw[Array.getElem?_map,Array.getElem?_eq_getElem hz];rfl) ⟨it',(sb.2 S hne).trans st.2⟩ fun b o hb e=>(sb.2 b fun z=>hb (by simp[z])).trans e
 done:=fun s Q E st hQ=>zTy hh st.1 st.2 T hne fun h' he'=>hQ h' s.toks fun b o hb e=>he' b o (fun h=>hb (by simp[h])) e
 self:=fun i s Q E st hQ=>wpAny_pyIter_slot st.1.typeIs zMs (wpAny_call_entry zMs st.1.typeIs zMt (show wpAny _ _ (ret (.ref I)) _ _ s from wpAny_pure ⟨_,rfl,"set_iterator",_,st.1.typeIs,si_next.lookup,hQ⟩) (zPt _))
theorem zR8 {S:Addr}{es:Array (Int × Value)}{ep:Nat}{t:SetTable}{Q:Value->Shared->Prop}(ho:s.heap.get? S=some (sObj es ep t)) (T:Tab t es.size (!(w.params.followText "set-order")))
  (h:Q (.ref s.heap.objs.size) { s with heap:=s.heap.push { cls:=.type "set_iterator",data:=.fields #[.int 0 0,.int 0 0,.ref S,.int es.size 0,.int ep 0] } }):wpAny (model prog w) A (pyIter (.ref S)) Q E s:=by
 have hT:s.TypeIs (.ref S) "set":=⟨_,ho,rfl⟩
 refine wpAny_pyIter_slot hT F.slot_set_iter (wpAny_call_entry F.slot_set_iter hT zZd ?_ (F.args_set_iter_1 _))
 unfold Builtin.«frozenset.__iter__»
 refine wpAny_bind (m:=Builtin.Frozenset.slot0 _ _) (wpAny_pure ?_)
 unfold Builtin.Frozenset.sizeOf
 refine wpAny_bind (wpAny_bind (wpAny_setEntries_of ho rfl (Tab.ft T) (wpAny_pure ?_)))
 unfold setDrawn
 refine wpAny_bind (wpAny_bind (wpAny_setState_of ho rfl (Tab.ft T) ?_))
 dsimp only
 unfold setsByText
 refine wpAny_bind (wpAny_bind (wpAny_askSetting (wpAny_pure (wpAny_pure ?_))))
 show wpAny _ _ (if(!(w.params.followText "set-order") && (!t.plain && decide (es.size > 1)))=true then _ else _) _ _ _
 rw[if_neg (by rw[T.plain];simp)]
 refine wpAny_bind (wpAny_pure ?_)
 refine wpAny_bind (wpAny_setEpoch_of ho rfl (Tab.ft T) ?_)
 unfold newFields
 refine wpAny_bind (wpAny_newObj_type (wpAny_pure ⟨_,rfl,"set_iterator",_,⟨_,Heap.get?_push_size _ rfl,rfl⟩,si_next.lookup,?_⟩))
 simpa[rawInt]using h
theorem zRf {S:Addr}{Q:Bool->Shared->Prop}(hT:s.TypeIs (.ref S) "set") (h:Q false s):wpAny (model prog w) A (Builtin.List.listLengthHint (.ref S)) Q E s:=by
 unfold Builtin.List.listLengthHint
 refine wpAny_bind (wpAny_specialOf hT F.slot_set_len.lookup ?_)
 generalize hid:("set.__len__":String)=id0;wp_delta;rw[show splitId id0=some ("set","__len__")from by subst hid;decide +kernel];subst hid
 refine wpAny_bind (wpAny_isInstance (T:="set") (b:=true) hT sub_set_self (wpAny_ite_split (fun hab=>absurd hab (by decide)) fun _=>wpAny_ite_split (fun _=>wpAny_bind (wpAny_typeOf hT (wpAny_pure h))) fun hab=>absurd (by decide +kernel) hab))
open PySem.W in
theorem zMp {S:Addr}{es:Array (Int × Value)}{ep:Nat}{t:SetTable}(T:Tab t es.size (!(w.params.followText "set-order"))):
  KdlSrc prog w "set" S S es.size (fun i v=>((ordW w S ep es).map (·.2))[i]?=some v) (fun h=>h.get? S=some (sObj es ep t)) where
 type:=fun s ok=>⟨_,ok,rfl⟩
 there:=fun h ok=>⟨Heap.lt_size ok,Heap.lt_size ok⟩
 keep:=fun h h' ok k=>k S (.inl rfl) _ ok
 notList:=by decide
 notTuple:=by decide
 hint:=fun A E s Q ok h=>zRf ⟨_,ok,rfl⟩ h
 iter:=fun A s hh ok=>⟨{ cls:=.type "set_iterator",data:=.fields #[.int 0 0,.int 0 0,.ref S,.int es.size 0,.int ep 0] },_,fun E Q h=>zR8 ok T h,
  zMb hh _ S (Nat.ne_of_lt (Heap.lt_size ok)) es ep t T,⟨_,Heap.get?_push_size _ rfl,rfl,by
   have:zF6 w t 0=0:=by unfold zF6;split <;> rfl
   rw[this];rfl⟩,Heap.get?_push_of_some _ ok⟩
end
end TS
namespace TS
open PySem TB SR PyProof.Rows PySem.W
def CO (h:Heap) (c:Addr × Int × Int):Prop:=∃o n t u,h.get? c.1=some o/\o.cls=.type "tuple"/\o.data=.seq #[.int c.2.1 t,.int c.2.2 u] n
theorem CO.tk {prog:Program}{w:World}{h:Heap}{c:Addr × Int × Int}(x:CO h c):TK prog w h [c.2.1,c.2.2] c.1:=by
 obtain⟨o,n,t,u,h1,h2,h3⟩:=x
 exact⟨o,_,n,h1,h2,h3,.cons (by simp[intKind,Value.isInt]) (.cons (by simp[intKind,Value.isInt]) .nil)⟩
end TS
namespace L2
open PySem PySem.Spec PyProof.Rows TS
abbrev rv (cs:List (Addr × Int × Int)):List V:=cs.map fun c=>V.ref c.1
end L2
namespace TS
open PySem
def KIt (b:Bool) (h:Heap) (i a:Addr) (k:Nat):Prop:=∃o,h.get? i=some o/\o.cls=.type (if b then "tuple_iterator" else "list_iterator")/\o.data=.fields #[.ref a,.int k 0]
def KSq (b:Bool) (h:Heap) (a:Addr) (xs:Array Value):Prop:=∃o,h.get? a=some o/\o.cls=.type (if b then "tuple" else "list")/\∃n,o.data=.seq xs n
theorem KIt.at {b:Bool}{h h':Heap}{i a:Addr}{k:Nat}(x:KIt b h i a k) (e:∀o,h.get? i=some o->h'.get? i=some o):KIt b h' i a k:=let ⟨o,ho,r⟩:=x;⟨o,e _ ho,r⟩
theorem KSq.at {b:Bool}{h h':Heap}{a:Addr}{xs:Array Value}(x:KSq b h a xs) (e:∀o,h.get? a=some o->h'.get? a=some o):KSq b h' a xs:=let ⟨o,ho,r⟩:=x;⟨o,e _ ho,r⟩
theorem KIt.xb {b:Bool}{h h':Heap}{i a c:Addr}{k:Nat}(x:KIt b h i a k) (e:Heap.ExtBut c h h') (n:i≠c):KIt b h' i a k:=x.at fun o q=>e _ _ n q
theorem KSq.xb {b:Bool}{h h':Heap}{a c:Addr}{xs:Array Value}(x:KSq b h a xs) (e:Heap.ExtBut c h h') (n:a≠c):KSq b h' a xs:=x.at fun o q=>e _ _ n q
section
variable {prog:Program}{w:World}{A:Around}{E:Value->Shared->Prop}{s:Shared}
theorem next_item {b:Bool}{it l:Addr}{i:Nat}{items:Array Value}{x:Value}{Q:Value->Shared->Prop}(hit:KIt b s.heap it l i) (hl:KSq b s.heap l items) (hx:items[i]?=some x)
  (hQ:∀h',KIt b h' it l (i+1)->Heap.SameBut it s.heap h'->Q x { s with heap:=h' }):wpAny (model prog w) A (Builtin.SmallTypes.nextOf (.ref it)) Q E s:=by
 cases b with
 | false=>exact wpAny_nextOf_list_item hit hl hx hQ
 | true=>
  obtain⟨o,ho,hc,hd⟩:=id hit
  obtain⟨ol,hol,_,nl,hdl⟩:=hl
  have hT:s.TypeIs (.ref it) "tuple_iterator":=⟨o,ho,hc⟩
  unfold Builtin.SmallTypes.nextOf
  refine wpAny_bind (wpAny_callSpecial?_slot (name:=Str.ofString "__next__") hT F.slot_tuple_iterator_next (wpAny_call_entry F.slot_tuple_iterator_next hT F.entry_tuple_iterator_next ?_ (F.args_tuple_iterator_next_1 _)))
  refine(show wpAny _ _ (field (.ref it) 0 >>= _) _ _ s from wpAny_bind (wpAny_field ho hd (x:=.ref l) rfl (show wpAny _ _ (if(Value.ref l == Value.none)=true then _ else _) _ _ s from ?_)))
  rw[if_neg (show ¬ ((Value.ref l == Value.none)=true)from Bool.false_ne_true)]
  refine(show wpAny _ _ (field (.ref it) 1 >>= _) _ _ s from wpAny_bind (wpAny_field ho hd (x:=.int i 0) rfl (show wpAny _ _ (seqItems? (.ref l) >>= _) _ _ s from wpAny_bind (wpAny_seqItems hol hdl ?_))))
  simp only[Int.toNat_natCast,hx]
  refine wpAny_bind (wpAny_setField ho hd (by simp) (wpAny_pure ⟨x,rfl,wpAny_pure (hQ _ ⟨_,Heap.get?_update_self _ ho (Obj.isFreed_of_fields (Obj.data_mapFields hd _)),(Obj.cls_mapFields ..).trans hc,?_⟩ (Heap.SameBut.update ..))⟩))
  rw[Obj.data_mapFields hd];simp[rawInt]
theorem next_end {b:Bool}{it l:Addr}{i:Nat}{items:Array Value}{Q:Value->Shared->Prop}(hh:A.handled=none) (hit:KIt b s.heap it l i) (hl:KSq b s.heap l items) (hx:items[i]?=none)
  (hE:∀h' e,Heap.ExtBut it s.heap h'->(∃o,h'.get? e=some o/\o.cls=.type "StopIteration")->E (.ref e) { s with heap:=h' }):wpAny (model prog w) A (Builtin.SmallTypes.nextOf (.ref it)) Q E s:=by
 cases b with
 | false=>exact wpAny_nextOf_list_end hh hit hl hx hE
 | true=>
  obtain⟨o,ho,hc,hd⟩:=id hit
  obtain⟨ol,hol,_,nl,hdl⟩:=hl
  have hT:s.TypeIs (.ref it) "tuple_iterator":=⟨o,ho,hc⟩
  unfold Builtin.SmallTypes.nextOf
  refine wpAny_bind (wpAny_callSpecial?_slot (name:=Str.ofString "__next__") hT F.slot_tuple_iterator_next (wpAny_call_entry F.slot_tuple_iterator_next hT F.entry_tuple_iterator_next ?_ (F.args_tuple_iterator_next_1 _)))
  refine(show wpAny _ _ (field (.ref it) 0 >>= _) _ _ s from wpAny_bind (wpAny_field ho hd (x:=.ref l) rfl (show wpAny _ _ (if(Value.ref l == Value.none)=true then _ else _) _ _ s from ?_)))
  rw[if_neg (show ¬ ((Value.ref l == Value.none)=true)from Bool.false_ne_true)]
  refine(show wpAny _ _ (field (.ref it) 1 >>= _) _ _ s from wpAny_bind (wpAny_field ho hd (x:=.int i 0) rfl (show wpAny _ _ (seqItems? (.ref l) >>= _) _ _ s from wpAny_bind (wpAny_seqItems hol hdl ?_))))
  simp only[Int.toNat_natCast,hx]
  refine wpAny_bind (wpAny_rule (wpAny_bind (wpAny_setField ho hd (by simp) (show wpAny _ _ (newExc (.type "StopIteration") [] >>= _) _ _ _ from wpAny_bind ?_))))
  simp only[newExc,newTuple]
  refine wpAny_bind (wpAny_newObj_type (wpAny_bind (m:=firstArgMember _ _) (wpAny_of_eq (a:=Value.none) (by first|rfl|(simp only[firstArgMember];rfl)) (wpAny_newObj_type ?_ (by size_fits)))) (by size_fits))
  simp only[raiseNew]
  refine wpAny_bind (wpAny_handled ?_);rw[show A.in1.handled=none from hh]
  refine wpAny_bind (wpAny_pure (wpAny_throw ?_))
  exact hE _ _ (((Heap.SameBut.update ..).extBut.push _).push _) ⟨_,Heap.get?_push_size _ rfl,rfl⟩
theorem zTg {b1 b2:Bool}{z TI TO i1 i2 l1 l2:Addr}{k1 k2:Nat}{xs ys:Array Value}{x y a b:Value}{Q:Option Value->Shared->Prop}(D:ZipApart z TI TO i1 i2 l1 l2)
  (hz:IsZip s.heap z TI TO .none) (hTI:IsPair s.heap TI (.ref i1) (.ref i2)) (hTO:IsPair s.heap TO a b) (h1:KIt b1 s.heap i1 l1 k1) (h2:KIt b2 s.heap i2 l2 k2) (q1:KSq b1 s.heap l1 xs) (q2:KSq b2 s.heap l2 ys) (hx:xs[k1]?=some x) (hy:ys[k2]?=some y)
  (hQ:∀h',IsZip h' z TI TO (rawInt s.heap.objs.size)->IsPair h' TO x y->KIt b1 h' i1 l1 (k1+1)->KIt b2 h' i2 l2 (k2+1)->IsPair h' s.heap.objs.size x y->(∀c o,c≠z->c≠TO->c≠i1->c≠i2->s.heap.get? c=some o->h'.get? c=some o)->Q (some (.ref s.heap.objs.size)) { s with heap:=h' }):
  wpAny (model prog w) A (pyNext (.ref z)) Q E s:=by
 have hT:s.TypeIs (.ref z) "zip":=⟨_,hz,rfl⟩
 unfold pyNext
 refine wpAny_bind (wpAny_attempt (wpAny_callSpecial?_slot (name:=Str.ofString "__next__") hT F.slot_zip_next (wpAny_call_entry F.slot_zip_next hT F.entry_zip_next ?_ (F.args_zip_next_1 _))))
 refine(show wpAny _ _ (field (.ref z) 2 >>= _) _ _ _ from wpAny_bind (wpAny_field hz rfl (x:=.bool false) rfl (show wpAny _ _ (field (.ref z) 3 >>= _) _ _ _ from wpAny_bind (wpAny_field hz rfl (x:=.ref TI) rfl (wpAny_bind (wpAny_seqItems hTI rfl (show wpAny _ _ (Builtin.SmallTypes.ownedTupleIsFree (.ref z) >>= _) _ _ _ from wpAny_bind ?_)))))))
 unfold Builtin.SmallTypes.ownedTupleIsFree;refine wpAny_bind (wpAny_field hz rfl (x:=.none) rfl (wpAny_pure ?_));simp only[if_true]
 refine wpAny_bind (wpAny_rule (wpAny_bind (wpAny_field hz rfl (x:=.ref TO) rfl (wpAny_bind (wpAny_setField_rec hz (by simp) fun g1 z1 s1=>wpAny_bind ?_)))))
 replace z1:IsZip g1 z TI TO .ellipsis:=z1
 simp only[List.zipIdx_cons,List.zipIdx_nil,List.forIn_cons,List.forIn_nil]
 refine wpAny_bind (wpAny_bind (wpAny_onRaise (show wpAny _ _ (Builtin.SmallTypes.nextOf (.ref i1) >>= _) _ _ _ from wpAny_bind (next_item (h1.xb s1.extBut D.i1z) (q1.xb s1.extBut D.l1z) hx fun g2 h12 s2=>wpAny_pure ?_))))
 have T2:IsPair g2 TO a b:=s2.extBut _ _ D.TOi1 (s1.extBut _ _ D.TOz hTO)
 refine wpAny_bind (wpAny_seqItems T2 rfl (wpAny_bind (wpAny_updateSeq_pair T2 fun g3 T3 s3=>wpAny_bind (wpAny_letGo (wpAny_pure ?_)))))
 replace T3:IsPair g3 TO x b:=T3
 refine wpAny_bind (wpAny_bind (wpAny_onRaise (show wpAny _ _ (Builtin.SmallTypes.nextOf (.ref i2) >>= _) _ _ _ from wpAny_bind (next_item (((h2.xb s1.extBut D.i2z).xb s2.extBut D.i12.symm).xb s3.extBut D.TOi2.symm) (((q2.xb s1.extBut D.l2z).xb s2.extBut D.l2i1).xb s3.extBut D.l2TO) hy fun g4 h24 s4=>wpAny_pure ?_))))
 have T4:IsPair g4 TO x b:=s4.extBut _ _ D.TOi2 T3
 refine wpAny_bind (wpAny_seqItems T4 rfl (wpAny_bind (wpAny_updateSeq_pair T4 fun g5 T5 s5=>wpAny_bind (wpAny_letGo (wpAny_pure (wpAny_pure ?_))))))
 replace T5:IsPair g5 TO x y:=T5
 refine wpAny_bind (wpAny_seqItems T5 rfl (wpAny_bind (wpAny_newTuple ?_)))
 have sz:g5.objs.size=s.heap.objs.size:=by rw[s5.1,s4.1,s3.1,s2.1,s1.1]
 have z5:IsZip g5 z TI TO .ellipsis:=s5.extBut _ _ D.TOz.symm (s4.extBut _ _ D.i2z.symm (s3.extBut _ _ D.TOz.symm (s2.extBut _ _ D.i1z.symm z1)))
 have k5:∀c o,c≠z->c≠TO->c≠i1->c≠i2->s.heap.get? c=some o->g5.get? c=some o:=fun c o c1 c2 c3 c4 e=>s5.extBut _ _ c2 (s4.extBut _ _ c4 (s3.extBut _ _ c2 (s2.extBut _ _ c3 (s1.extBut _ _ c1 e))))
 have a5:KIt b1 g5 i1 l1 (k1+1):=((h12.xb s3.extBut D.TOi1.symm).xb s4.extBut D.i12).xb s5.extBut D.TOi1.symm
 have b5:KIt b2 g5 i2 l2 (k2+1):=h24.xb s5.extBut D.TOi2.symm
 have zlt:z<g5.objs.size:=Heap.lt_size z5
 refine(show wpAny _ _ (Builtin.SmallTypes.ownedTupleHandOut (.ref z) (.ref g5.objs.size) >>= _) _ _ _ from wpAny_bind ?_)
 unfold Builtin.SmallTypes.ownedTupleHandOut
 have z6:IsZip (g5.push { cls:=.type "tuple",data:=.seq #[x,y] }) z TI TO .ellipsis:=Heap.get?_push_of_some _ z5
 refine wpAny_bind (wpAny_setField_rec z6 (by simp) fun g7 z7 s7=>?_)
 replace z7:IsZip g7 z TI TO (rawInt g5.objs.size):=z7
 refine wpAny_setField_rec z7 (by simp) fun g8 z8 s8=>?_
 replace z8:IsZip g8 z TI TO (rawInt g5.objs.size):=z8
 have up:∀c o,c≠z->g5.get? c=some o->g8.get? c=some o:=fun c o c1 e=>s8.extBut _ _ c1 (s7.extBut _ _ c1 (Heap.get?_push_of_some _ e))
 have T8:IsPair g8 g5.objs.size x y:=s8.extBut _ _ (Nat.ne_of_gt zlt) (s7.extBut _ _ (Nat.ne_of_gt zlt) (Heap.get?_push_size _ rfl))
 rw[sz]at z8 T8
 refine wpAny_pure ⟨_,rfl,?_⟩
 show wpAny _ _ (pure (some (Value.ref g5.objs.size))) _ _ _
 rw[sz]
 exact wpAny_pure (hQ g8 z8 (up _ _ D.TOz T5) (a5.at fun o e=>up _ o D.i1z e) (b5.at fun o e=>up _ o D.i2z e) T8 fun c o c1 c2 c3 c4 e=>up c o c1 (k5 c o c1 c2 c3 c4 e))
theorem zWj {b1 b2:Bool}{z TI TO i1 i2 l1 l2:Addr}{k1 k2:Nat}{xs ys:Array Value}{a b:Value}{Q:Option Value->Shared->Prop}(hh:A.handled=none) (D:ZipApart z TI TO i1 i2 l1 l2)
  (hz:IsZip s.heap z TI TO .none) (hTI:IsPair s.heap TI (.ref i1) (.ref i2)) (hTO:IsPair s.heap TO a b) (h1:KIt b1 s.heap i1 l1 k1) (h2:KIt b2 s.heap i2 l2 k2) (q1:KSq b1 s.heap l1 xs) (q2:KSq b2 s.heap l2 ys) (hend:xs[k1]?=none\/ys[k2]?=none)
  (hQ:∀h',(∀c o,c≠z->c≠TO->c≠i1->c≠i2->s.heap.get? c=some o->h'.get? c=some o)->Q none { s with heap:=h' }):wpAny (model prog w) A (pyNext (.ref z)) Q E s:=by
 have hT:s.TypeIs (.ref z) "zip":=⟨_,hz,rfl⟩
 unfold pyNext
 have stop:∀(g:Heap) (e:Addr),(∀c o,c≠z->c≠TO->c≠i1->c≠i2->s.heap.get? c=some o->g.get? c=some o)->(∃o,g.get? e=some o/\o.cls=.type "StopIteration")->wpAny (model prog w) A (do
   let b <- isInstance (.ref e) (.type "StopIteration")
   if b=true then pure none else throw (.ref e)) Q E { s with heap:=g }:=fun g e kp ⟨o,ho,hc⟩=>wpAny_bind (wpAny_isInstance (b:=true) (T:="StopIteration") ⟨o,ho,hc⟩ isSubtype_stop (wpAny_pure (hQ _ kp)))
 refine wpAny_bind (wpAny_attempt (wpAny_callSpecial?_slot (name:=Str.ofString "__next__") hT F.slot_zip_next (wpAny_call_entry F.slot_zip_next hT F.entry_zip_next ?_ (F.args_zip_next_1 _))))
 refine(show wpAny _ _ (field (.ref z) 2 >>= _) _ _ _ from wpAny_bind (wpAny_field hz rfl (x:=.bool false) rfl (show wpAny _ _ (field (.ref z) 3 >>= _) _ _ _ from wpAny_bind (wpAny_field hz rfl (x:=.ref TI) rfl (wpAny_bind (wpAny_seqItems hTI rfl (show wpAny _ _ (Builtin.SmallTypes.ownedTupleIsFree (.ref z) >>= _) _ _ _ from wpAny_bind ?_)))))))
 unfold Builtin.SmallTypes.ownedTupleIsFree;refine wpAny_bind (wpAny_field hz rfl (x:=.none) rfl (wpAny_pure ?_));simp only[if_true]
 refine wpAny_bind (wpAny_rule (wpAny_bind (wpAny_field hz rfl (x:=.ref TO) rfl (wpAny_bind (wpAny_setField_rec hz (by simp) fun g1 z1 s1=>wpAny_bind ?_)))))
 replace z1:IsZip g1 z TI TO .ellipsis:=z1
 simp only[List.zipIdx_cons,List.zipIdx_nil,List.forIn_cons,List.forIn_nil]
 have hhi:A.in1.handled=none:=hh
 refine wpAny_bind (wpAny_bind (wpAny_onRaise (show wpAny _ _ (Builtin.SmallTypes.nextOf (.ref i1) >>= _) _ _ _ from wpAny_bind ?_)))
 cases hx:xs[k1]? with
 | none=>
  refine next_end hhi (h1.xb s1.extBut D.i1z) (q1.xb s1.extBut D.l1z) hx fun g2 e s2 he=>?_
  obtain⟨oe,hoe,hce⟩:=he
  have z2:IsZip g2 z TI TO .ellipsis:=s2 _ _ D.i1z.symm z1
  have ne:e≠z:=fun x=>by subst x;rw[z2]at hoe;cases hoe;simp at hce
  exact wpAny_setField_rec z2 (by simp) fun g3 _ s3=>stop g3 e (fun c o c1 _ c3 _ x=>s3.extBut _ _ c1 (s2 _ _ c3 (s1.extBut _ _ c1 x))) ⟨oe,s3.extBut _ _ ne hoe,hce⟩
 | some x=>
  have hy:ys[k2]?=none:=by rcases hend with h|h;rw[hx]at h;cases h;exact h
  refine next_item (h1.xb s1.extBut D.i1z) (q1.xb s1.extBut D.l1z) hx fun g2 h12 s2=>wpAny_pure ?_
  have T2:IsPair g2 TO a b:=s2.extBut _ _ D.TOi1 (s1.extBut _ _ D.TOz hTO)
  refine wpAny_bind (wpAny_seqItems T2 rfl (wpAny_bind (wpAny_updateSeq_pair T2 fun g3 T3 s3=>wpAny_bind (wpAny_letGo (wpAny_pure ?_)))))
  refine wpAny_bind (wpAny_bind (wpAny_onRaise (show wpAny _ _ (Builtin.SmallTypes.nextOf (.ref i2) >>= _) _ _ _ from wpAny_bind (next_end hhi (((h2.xb s1.extBut D.i2z).xb s2.extBut D.i12.symm).xb s3.extBut D.TOi2.symm) (((q2.xb s1.extBut D.l2z).xb s2.extBut D.l2i1).xb s3.extBut D.l2TO) hy fun g4 e s4 he=>?_))))
  obtain⟨oe,hoe,hce⟩:=he
  have z4:IsZip g4 z TI TO .ellipsis:=s4 _ _ D.i2z.symm (s3.extBut _ _ D.TOz.symm (s2.extBut _ _ D.i1z.symm z1))
  have ne:e≠z:=fun x=>by subst x;rw[z4]at hoe;cases hoe;simp at hce
  exact wpAny_setField_rec z4 (by simp) fun g5 _ s5=>stop g5 e (fun c o c1 c2 c3 c4 x=>s5.extBut _ _ c1 (s4 _ _ c4 (s3.extBut _ _ c2 (s2.extBut _ _ c3 (s1.extBut _ _ c1 x))))) ⟨oe,s5.extBut _ _ ne hoe,hce⟩
end
end TS
namespace TS
open PySem
abbrev itO (b:Bool) (l:Addr):Obj:={ cls:=.type (if b then "tuple_iterator" else "list_iterator"),data:=.fields #[.ref l,.int 0 0] }
section
variable {prog:Program}{w:World}{A:Around}{E:Value->Shared->Prop}{s:Shared}
theorem zGg {b:Bool}{l:Addr}{xs:Array Value}{Q:Value->Shared->Prop}(q:KSq b s.heap l xs) (h:Q (.ref s.heap.objs.size) { s with heap:=s.heap.push (itO b l) }):wpAny (model prog w) A (pyIter (.ref l)) Q E s:=by
 cases b with
 | false=>exact wpAny_pyIter_list q h
 | true=>exact wpAny_pyIter_tuple q h
end
abbrev kz1 (b1 b2:Bool) (h:Heap) (l1 l2:Addr):Heap:=(h.push (itO b1 l1)).push (itO b2 l2)
abbrev kz2 (b1 b2:Bool) (h:Heap) (l1 l2:Addr):Heap:=(kz1 b1 b2 h l1 l2).push { cls:=.type "tuple",data:=.seq #[.ref h.objs.size,.ref (h.push (itO b1 l1)).objs.size] }
abbrev kz3 (b1 b2:Bool) (h:Heap) (l1 l2:Addr):Heap:=(kz2 b1 b2 h l1 l2).push { cls:=.type "tuple",data:=.seq #[.none,.none] }
abbrev kz4 (b1 b2:Bool) (h:Heap) (l1 l2:Addr):Heap:=(kz3 b1 b2 h l1 l2).push { cls:=.type "zip",data:=.fields #[.none,.bool false,.bool false,.ref (kz1 b1 b2 h l1 l2).objs.size,.ref (kz2 b1 b2 h l1 l2).objs.size] }
theorem zYd (b1 b2:Bool) (l1 l2:Addr) (xs ys:Array Value):Meets (Builtin.«zip.__new__» ⟨[.type "zip",.ref l1,.ref l2],[]⟩) (fun _ R s=>KSq b1 s.heap l1 xs/\KSq b2 s.heap l2 ys/\R (.ok (.ret (.ref (kz3 b1 b2 s.heap l1 l2).objs.size))) { s with heap:=kz4 b1 b2 s.heap l1 l2 }):=
 .of_wp fun prog w A R s h=>by
  obtain⟨hp,g,d,tk,os⟩:=s;obtain⟨q1,q2,h⟩:=h
  have hsub:=sub_zip
  have L1:KSq b1 (Shared.heap ⟨hp,g,d,tk,os⟩) l1 xs:=q1
  have L2:KSq b2 (Shared.heap ⟨hp.push (itO b1 l1),g,d,tk,os⟩) l2 ys:=q2.at fun o e=>Heap.get?_push_of_some _ e
  wp_walk using zGg L1,zGg L2
  exact⟨_,rfl,h⟩
section
variable {prog:Program}{w:World}{A:Around}{E:Value->Shared->Prop}{s:Shared}
theorem zVf {b1 b2:Bool}{l1 l2:Addr}{xs ys:Array Value}{Q:Value->Shared->Prop}(q1:KSq b1 s.heap l1 xs) (q2:KSq b2 s.heap l2 ys)
  (h:∀h',IsZip h' (s.heap.objs.size+4) (s.heap.objs.size+2) (s.heap.objs.size+3) .none->IsPair h' (s.heap.objs.size+2) (.ref s.heap.objs.size) (.ref (s.heap.objs.size+1))->
   IsPair h' (s.heap.objs.size+3) .none .none->KIt b1 h' s.heap.objs.size l1 0->KIt b2 h' (s.heap.objs.size+1) l2 0->(∀c o,s.heap.get? c=some o->h'.get? c=some o)->Q (.ref (s.heap.objs.size+4)) { s with heap:=h' }):
  wpAny (model prog w) A (call (.type "zip") [.ref l1,.ref l2]) Q E s:=by
 refine callType_new F.called_zip (by decide) (F.typeCall_zip_2 _ _) (F.newCall_zip_2 _ _) (fun obj=>F.args_object_init_3 obj _ _) F.entry_zip_new (zYd b1 b2 l1 l2 xs ys) ⟨q1,q2,?_⟩
 have z0:(s.heap.push (itO b1 l1)).objs.size=s.heap.objs.size+1:=Heap.size_push ..
 have z1:(kz1 b1 b2 s.heap l1 l2).objs.size=s.heap.objs.size+2:=by rw[Heap.size_push,z0]
 have z2:(kz2 b1 b2 s.heap l1 l2).objs.size=s.heap.objs.size+3:=by rw[Heap.size_push,z1]
 have z3:(kz3 b1 b2 s.heap l1 l2).objs.size=s.heap.objs.size+4:=by rw[Heap.size_push,z2]
 have g5:(kz4 b1 b2 s.heap l1 l2).get? (kz3 b1 b2 s.heap l1 l2).objs.size=some _:=Heap.get?_push_size _ rfl
 have g4:(kz4 b1 b2 s.heap l1 l2).get? (kz2 b1 b2 s.heap l1 l2).objs.size=some _:=Heap.get?_push_of_some _ (Heap.get?_push_size _ rfl)
 have g3:(kz4 b1 b2 s.heap l1 l2).get? (kz1 b1 b2 s.heap l1 l2).objs.size=some _:=Heap.get?_push_of_some _ (Heap.get?_push_of_some _ (Heap.get?_push_size _ rfl))
 have g2:(kz4 b1 b2 s.heap l1 l2).get? (s.heap.push (itO b1 l1)).objs.size=some (itO b2 l2):=Heap.get?_push_of_some _ (Heap.get?_push_of_some _ (Heap.get?_push_of_some _ (Heap.get?_push_size _ (by cases b2 <;> rfl))))
 have g1:(kz4 b1 b2 s.heap l1 l2).get? s.heap.objs.size=some (itO b1 l1):=Heap.get?_push_of_some _ (Heap.get?_push_of_some _ (Heap.get?_push_of_some _ (Heap.get?_push_of_some _ (Heap.get?_push_size _ (by cases b1 <;> rfl)))))
 have gk:∀c o,s.heap.get? c=some o->(kz4 b1 b2 s.heap l1 l2).get? c=some o:=fun c o x=>Heap.get?_push_of_some _ (Heap.get?_push_of_some _ (Heap.get?_push_of_some _ (Heap.get?_push_of_some _ (Heap.get?_push_of_some _ x))))
 show _/\_
 rw[z3]at g5 ⊢
 rw[z1,z2]at g5
 rw[z1,z0]at g3
 rw[z2]at g4
 rw[z0]at g2
 exact⟨⟨_,g5,rfl⟩,h _ g5 g3 g4 ⟨_,g1,rfl,rfl⟩ ⟨_,g2,rfl,rfl⟩ gk⟩
end
end TS
namespace L2
open PySem PySem.Spec PyProof.Rows TS
def hoK (b:Bool) (xs:List V):HO:=if b then .tup xs else .lst xs
theorem Inv.kSq {X:Cx}{pins:List (Addr × Obj)}{σ:St}{H:Hp}{s:Shared}{b:Bool}{a:Addr}{xs:List V}(I:Inv X pins σ H s) (h:H a=some (hoK b xs)):∃its:List Value,Vals xs its/\KSq b s.heap a its.toArray/\xs.length<=sizeLine:=by
 cases b with
 | false=>obtain⟨its,r,p,z⟩:=I.list (SqL.of h);exact⟨its,r,p.isList,z⟩
 | true=>obtain⟨its,r,p,z⟩:=I.tuple (SqT.of h);exact⟨its,r,p,z⟩
section
variable {A:TA}{σ σc:St}{H:Hp}{g:TG}{tt:TT}{te:TE}{Qd:List V->Hp->Prop}
theorem zVq {b:Bool}{xs ys:List V}(h:hoK b xs=hoK b ys):xs=ys:=by
 cases b with
 | false=>exact HO.lst.inj h
 | true=>exact HO.tup.inj h
end
end L2
namespace L2
open PySem PySem.Spec PyProof.Rows TS
section
variable {X:Cx}{K:PySem.W.Frag}
def rLeS:R2:=fun x y H Q=>∃i j,x=.str i/\y=.str j/\Q (.bl (!decide (j.cps.toList<i.cps.toList))) H
theorem zNm:OpR X (compareOp .LtE) rLeS:=by
 intro pins s σ H x y v u Q I rx ry h
 obtain⟨i,j,rfl,rfl,q⟩:=h
 obtain⟨t,rfl⟩:=rx
 obtain⟨t',rfl⟩:=ry
 exact P.le_str ⟨.bl _,H,I,rfl,q⟩
def Its (x:Str):It:=⟨fun i _=>i<x.cps.size,fun i H v H'=>H'=H/\∃c,x.cps[i]?=some c/\v=.str ⟨#[c]⟩,fun i _=>x.cps.size<=i⟩
theorem zPo {P:Program}{w:World}{tg:Expr}(it:Addr) (x:Str) (t:Tok):Turn P w K tg (Its x) [it] it (fun i h=>i<=x.cps.size/\h.IsStrIter it "str_ascii_iterator" x t i) where
 mem:=by simp
 obj:=fun i h st b hb=>by
  have e:b=it:=by simpa using hb
  subst e
  obtain⟨_,o,e,c,d⟩:=st
  exact⟨o,e,fun v z=>by rw[d]at z;cases z⟩
 keep:=fun i h h' st k=>⟨st.1,let ⟨o,ho,r⟩:=st.2;⟨o,k it (by simp) o ho,r⟩⟩
 item:=by
  intro X hP hw hK hc i pins s σ H E I hf st hg
  subst hP hw hK
  obtain⟨f0,f1,f2,f3,f4,f5⟩:=hf it (by simp)
  have hg:i<x.cps.size:=hg
  refine wpAny_pyNext_ascii_item st.2 (c:=x.cps[i]) (by simp[hg]) fun h' st' sb=>?_
  have I1:Inv X pins σ H { s with heap:=h',toks:=s.toks+1 }:=I.turned (t':=s.toks+1) (fun b o hb e=>(sb.2 b hb).trans e) f0 f1 f3 f4 f5
  obtain⟨o,e,c,d⟩:=id st'
  exact⟨_,rfl,zRh (s:={ s with heap:=h',toks:=s.toks+1 }) e c d (by decide) ⟨.str ⟨#[x.cps[i]]⟩,H,I1,⟨_,rfl⟩,⟨rfl,_,by simp[hg],rfl⟩,⟨hg,st'⟩,fun b hb=>(hf b hb).1⟩⟩
 done:=by
  intro X hP hw hK hc i pins s σ H E I hf st hg
  subst hP hw hK
  obtain⟨f0,f1,f2,f3,f4,f5⟩:=hf it (by simp)
  have hg:x.cps.size<=i:=hg
  exact wpAny_pyNext_ascii_end (I.ok.hd hc) st.2 (by simp[hg]) fun h' eb=>⟨rfl,I.turned (t':=s.toks) (fun b o hb e=>eb b o hb e) f0 f1 f3 f4 f5⟩
 self:=fun _ _ _ _ _ st h=>wpAny_pyIter_striter_ascii st.2 h
end
end L2
namespace TX
open PySem PySem.Builtin PySem.Builtin.Str
abbrev ls (x:Str):List Nat:=x.cps.toList
def dg (m:Nat):List Nat:=(Nat.toDigits 10 m).map Char.toNat
theorem dc:∀d:Nat,d<10->(Nat.digitChar d).toNat=48+d:=by decide
def nm (n:Int):List Nat:=if n<0 then 45::dg n.natAbs else dg n.natAbs
end TX
namespace L2
open PySem PySem.Spec PyProof.Rows TS
section
variable {X:Cx}{K:PySem.W.Frag}
theorem zQk {x:Str}{v:V}{u:Value}{pos:Pos}(hg:Gl X x) (hm:X.mg x=some u) (r:RelV v u) (hd:(x == ("__debug__":Str))=false:=by decide):SE X (.Name x pos) (tC v):=⟨zUr hg hm r hd⟩
variable {σ:St}{H:Hp}{Q:VK}
end
end L2
namespace TX
open PySem PySem.Builtin PySem.Builtin.Str TS L2
def tn (n:Int):Str:=Str.ofString (toString n)
end TX
namespace DS
open PySem (Str)
inductive D where
 | non|bl (b:Bool)|int (i:Int)|str (x:Str)|ty (n:String)
 | tup (l:List D)|ktup (l:List D)|lst (l:List D)|klst (l:List D)|dct (t:Bool) (ks vs:List D)|st (l:List D)
 | ref (n:Nat)
abbrev Store:=List D
abbrev Env:=List (Option D)
structure Exn where
 cls:Str
 fs:List (Str × D)
inductive Rs (α:Type) where
 | ok (a:α) (S:Store)|ex (x:Exn) (S:Store)|bad
inductive SR where
 | nx (e:Env) (S:Store)|rt (d:D) (S:Store)|bk (e:Env) (S:Store)|ct (e:Env) (S:Store)|ex (x:Exn) (S:Store)|bad
def Rs.bind {α β:Type}(r:Rs α) (k:α->Store->Rs β):Rs β:=match r with
 | .ok a S=>k a S
 | .ex x S=>.ex x S
 | .bad=>.bad
@[simp] theorem Rs.bind_ok {α β:Type}{a:α}{S:Store}{k:α->Store->Rs β}:(Rs.ok a S).bind k=k a S:=rfl
@[simp] theorem Rs.bind_ex {α β:Type}{x:Exn}{S:Store}{k:α->Store->Rs β}:(Rs.ex x S:Rs α).bind k=.ex x S:=rfl
@[simp] theorem Rs.bind_bad {α β:Type}{k:α->Store->Rs β}:(Rs.bad:Rs α).bind k=.bad:=rfl
def Rs.then {α:Type}(r:Rs α) (k:α->Store->SR):SR:=match r with
 | .ok a S=>k a S
 | .ex x S=>.ex x S
 | .bad=>.bad
@[simp] theorem Rs.then_ok {α:Type}{a:α}{S:Store}{k:α->Store->SR}:(Rs.ok a S).then k=k a S:=rfl
@[simp] theorem Rs.then_ex {α:Type}{x:Exn}{S:Store}{k:α->Store->SR}:(Rs.ex x S:Rs α).then k=.ex x S:=rfl
@[simp] theorem Rs.then_bad {α:Type}{k:α->Store->SR}:(Rs.bad:Rs α).then k=.bad:=rfl
def lift {α:Type}(o:Option α) (S:Store):Rs α:=match o with
 | some a=>.ok a S
 | none=>.bad
@[simp] theorem zA7 {α:Type}{a:α}{S:Store}:lift (some a) S=.ok a S:=rfl
@[simp] theorem zYc {α:Type}{S:Store}:lift (none:Option α) S=.bad:=rfl
def zVb {α:Type}(o:Option (α × Store)):Rs α:=match o with
 | some a=>.ok a.1 a.2
 | none=>.bad
@[simp] theorem zD2 {α:Type}{a:α × Store}:zVb (some a)=.ok a.1 a.2:=rfl
@[simp] theorem zWh {α:Type}:zVb (none:Option (α × Store))=.bad:=rfl
mutual
/-- all refs are below n -/
def D.low (n:Nat):D->Bool
 | .ref m=>decide (m<n)
 | .tup l=>lowL n l
 | .lst l=>lowL n l
 | .ktup l=>lowL n l
 | .klst l=>lowL n l
 | .dct _ ks vs=>lowL n ks && lowL n vs
 | .st l=>lowL n l
 | .non=>true
 | .bl _=>true
 | .int _=>true
 | .str _=>true
 | .ty _=>true
def lowL (n:Nat):List D->Bool
 | []=>true
 | d::r=>d.low n && lowL n r
end
mutual
/-- numbers,texts,truths,None,tuples and lists of them -/
def D.flat:D->Bool
 | .ref _=>false
 | .tup l=>zDf l
 | .lst l=>zDf l
 | .dct _ _ _=>false
 | .ktup _=>false
 | .klst _=>false
 | .st _=>false
 | .ty _=>false
 | .non=>true
 | .bl _=>true
 | .int _=>true
 | .str _=>true
def zDf:List D->Bool
 | []=>true
 | d::r=>d.flat && zDf r
end
mutual
/-- they may be compared: of one kind wherever == looks;no refs -/
def D.cmp:D->D->Bool
 | .non,.non=>true
 | .bl _,.bl _=>true
 | .int _,.int _=>true
 | .str _,.str _=>true
 | .tup a,.tup b=>cmpL a b
 | .lst a,.lst b=>cmpL a b
 | _,_=>false
def cmpL:List D->List D->Bool
 | a::r,b::t=>a.cmp b && cmpL r t
 | _,_=>true
end
mutual
def D.dep:D->Nat
 | .tup l=>depL l+1
 | .lst l=>depL l+1
 | .dct _ _ _=>0
 | .ktup _=>0
 | .klst _=>0
 | .st _=>0
 | .non=>0
 | .bl _=>0
 | .int _=>0
 | .str _=>0
 | .ty _=>0
 | .ref _=>0
def depL:List D->Nat
 | []=>0
 | d::r=>max d.dep (depL r)
end
noncomputable section
open Classical
def look (S:Store):D->Option D
 | .ref n=>S[n]?
 | .ktup l=>some (.tup l)
 | .klst l=>some (.lst l)
 | d=>some d
def items (S:Store) (d:D):Option (List D):=match look S d with
 | some (.tup l)=>some l
 | some (.lst l)=>some l
 | _=>none
def litems (S:Store) (d:D):Option (List D):=match d with
 | .klst _=>none
 | d=>match look S d with
  | some (.lst l)=>some l
  | _=>none
abbrev EM:=Env->Store->Rs D
abbrev TM:=Env->Store->Rs Bool
abbrev AM:=Env->Store->Rs (List D)
abbrev SM:=Env->Store->SR
abbrev GM:=Store->D->Env->Option Env
abbrev Fn:=List D->Store->Rs D
def eVar (i:Nat):EM:=fun env S=>match env[i]? with
 | some (some d)=>.ok d S
 | _=>.bad
def eC (d:D):EM:=fun _ S=>.ok d S
def eOp (g:Store->D->D->Option D) (a b:EM):EM:=fun env S=>(a env S).bind fun x S1=>(b env S1).bind fun y S2=>lift (g S2 x y) S2
def eUn (g:Store->D->Option D) (a:EM):EM:=fun env S=>(a env S).bind fun x S1=>lift (g S1 x) S1
def aNil:AM:=fun _ S=>.ok [] S
def zA1 (a:EM) (r:AM):AM:=fun env S=>(a env S).bind fun x S1=>(r env S1).bind fun xs S2=>.ok (x::xs) S2
def eTup (a:AM):EM:=fun env S=>(a env S).bind fun xs S1=>.ok (.tup xs) S1
def eLst (a:AM):EM:=fun env S=>(a env S).bind fun xs S1=>.ok (.lst xs) S1
def zRq (ks:List D) (a:AM):EM:=fun env S=>(a env (S++[.dct false [] []])).bind fun vs S1=>if S1[S.length]?=some (.dct false [] [])then .ok (.ref S.length) (S1.set S.length (.dct false ks vs))else .bad
def eNew (a:EM):EM:=fun env S=>(a env S).bind fun x S1=>.ok (.ref S1.length) (S1++[x])
def eCB (g:Store->List D->Option D) (a:AM):EM:=fun env S=>(a env S).bind fun xs S1=>lift (g S1 xs) S1
def zA9 (F:Fn) (a:AM):EM:=fun env S=>(a env S).bind fun xs S1=>F xs S1
def tyD (S:Store) (d:D):Option String:=match look S d with
 | some (.str _)=>some "str"
 | some (.lst _)=>some "list"
 | some (.dct _ _ _)=>some "dict"
 | some (.tup _)=>some "tuple"
 | some (.int _)=>some "int"
 | some (.bl _)=>some "bool"
 | some .non=>some "NoneType"
 | some (.st _)=>some "set"
 | _=>none
def eMt (T:String) (g:Store->D->List D->Option (D × Store)) (o:EM) (a:AM):EM:=fun env S=>(o env S).bind fun x S1=>if tyD S1 x=some T then(a env S1).bind fun xs S2=>zVb (g S2 x xs)else .bad
def asI:D->Option Int
 | .int i=>some i
 | _=>none
def pNo:Env->Store->Rs (Option Int):=fun _ S=>.ok none S
def pYes (a:EM):Env->Store->Rs (Option Int):=fun env S=>(a env S).bind fun x S1=>lift ((asI x).map some) S1
def eSl (g:Store->D->Option Int->Option Int->Option D) (a:EM) (lo hi:Env->Store->Rs (Option Int)):EM:=fun env S=>
 (a env S).bind fun x S1=>(lo env S1).bind fun l S2=>(hi env S2).bind fun h S3=>lift (g S3 x l h) S3
def asB:D->Option Bool
 | .bl b=>some b
 | _=>none
def tB (a:EM):TM:=fun env S=>(a env S).bind fun x S1=>lift (asB x) S1
def most:Nat:=2 ^ 24
def truth (S:Store) (d:D):Option Bool:=match look S d with
 | some (.bl b)=>some b
 | some (.int i)=>some (decide (i≠0))
 | some (.str x)=>if x.length<=most then some (decide (x.length≠0))else none
 | some (.tup l)=>some (decide (l≠[]))
 | some (.lst l)=>some (decide (l≠[]))
 | some .non=>some false
 | _=>none
def tTru (a:EM):TM:=fun env S=>(a env S).bind fun x S1=>lift (truth S1 x) S1
def tAnd (a b:TM):TM:=fun env S=>(a env S).bind fun c S1=>if c=true then b env S1 else .ok false S1
def tOr (a b:TM):TM:=fun env S=>(a env S).bind fun c S1=>if c=true then .ok true S1 else b env S1
def tNot (a:TM):TM:=fun env S=>(a env S).bind fun c S1=>.ok (!c) S1
def tYes:TM:=fun _ S=>.ok true S
def eAnd (a b:EM):EM:=fun env S=>(a env S).bind fun x S1=>(lift (asB x) S1).bind fun c S1=>if c=true then b env S1 else .ok (.bl false) S1
def eOr (a b:EM):EM:=fun env S=>(a env S).bind fun x S1=>(lift (asB x) S1).bind fun c S1=>if c=true then .ok (.bl true) S1 else b env S1
def eNot (a:EM):EM:=fun env S=>(a env S).bind fun x S1=>(lift (asB x) S1).bind fun c S1=>.ok (.bl (!c)) S1
def eIf (c:TM) (a b:EM):EM:=fun env S=>(c env S).bind fun k S1=>if k=true then a env S1 else b env S1
structure Walk where
 its:List D
 gd:List (Nat × D)
def gOk (S:Store) (gd:List (Nat × D)):Prop:=∀p∈gd,S[p.1]?=some p.2
abbrev IM:=Env->Store->Rs Walk
def gdOf (S:Store):D->List (Nat × D)
 | .ref n=>match S[n]? with
  | some d=>[(n,d)]
  | none=>[]
 | _=>[]
def chars (x:Str):List D:=x.cps.toList.map fun c=>.str ⟨#[c]⟩
def zDj (S:Store) (d:D):Option Walk:=match look S d with
 | some (.tup l)=>some ⟨l,gdOf S d⟩
 | some (.lst l)=>some ⟨l,gdOf S d⟩
 | some (.str x)=>if x.cps.all (·<128)then some ⟨chars x,[]⟩else none
 | _=>none
def iVal (a:EM):IM:=fun env S=>(a env S).bind fun x S1=>lift (zDj S1 x) S1
def fits62 (i:Int):Bool:=decide (-(2 ^ 62)<=i/\i<2 ^ 62)
def zGa (i j:Int):List D:=(List.range (j-i).toNat).map fun(k:Nat)=>.int (i+k)
def zJ3:List D->Option Walk
 | [.int j]=>if fits62 j then some ⟨zGa 0 j,[]⟩else none
 | [.int i,.int j]=>if fits62 i && fits62 j then some ⟨zGa i j,[]⟩else none
 | _=>none
def zIc (a:AM):IM:=fun env S=>(a env S).bind fun xs S1=>lift (zJ3 xs) S1
def zEq (l:List D) (n:Nat):List D:=match l with
 | []=>[]
 | d::r=>.tup [.int n,d]::zEq r (n+1)
def gName (i:Nat):GM:=fun _ d env=>some (env.set i (some d))
def gAll:List GM->Store->List D->Env->Option Env
 | [],_,[],env=>some env
 | g::gs,S,d::ds,env=>match g S d env with
  | some env'=>gAll gs S ds env'
  | none=>none
 | _,_,_,_=>none
def gTup (gs:List GM):GM:=fun S d env=>match items S d with
 | some l=>gAll gs S l env
 | none=>none
def zDi (gd:List (Nat × D)) (g:GM) (c:TM) (e:EM):Nat->List D->Env->Store->Rs (List D)
 | _,[],_,S=>if gOk S gd then .ok [] S else .bad
 | k,d::r,env,S=>if gOk S gd/\k<most then(match g S d env with
  | some env'=>(c env' S).bind fun b S1=>if b=true then(e env' S1).bind fun v S2=>(zDi gd g c e (k+1) r env' S2).bind fun vs S3=>.ok (v::vs) S3 else zDi gd g c e k r env' S1
  | none=>.bad)else .bad
def compEnv (own:Nat) (ix:List Nat) (env:Env):Env:=List.replicate own none++ix.map fun i=>(env[i]?).join
def zB0 (own:Nat) (ix:List Nat) (i:IM) (g:GM) (c:TM) (e:EM):EM:=fun env S=>
 (i env S).bind fun w S1=>(zDi w.gd g c e 0 w.its (compEnv own ix env) S1).bind fun vs S2=>.ok (.lst vs) S2
def zAz:SM:=fun env S=>.nx env S
def sSeq (a b:SM):SM:=fun env S=>match a env S with
 | .nx e S1=>b e S1
 | r=>r
def sSet (i:Nat) (e:EM):SM:=fun env S=>(e env S).then fun d S1=>.nx (env.set i (some d)) S1
def sUnp (g:GM) (e:EM):SM:=fun env S=>(e env S).then fun d S1=>match g S1 d env with
 | some env'=>.nx env' S1
 | none=>.bad
def zG3 (e:EM):SM:=fun env S=>(e env S).then fun _ S1=>.nx env S1
def sRet (e:EM):SM:=fun env S=>(e env S).then fun d S1=>.rt d S1
def zZe:SM:=fun _ S=>.rt .non S
def sIf (c:TM) (a b:SM):SM:=fun env S=>(c env S).then fun k S1=>if k=true then a env S1 else b env S1
def zMw:List Nat->List D->Env->Option Env
 | [],[],env=>some env
 | i::is,d::ds,env=>zMw is ds (env.set i (some d))
 | _,_,_=>none
def sPar (is:List Nat) (a:AM):SM:=fun env S=>(a env S).then fun ds S1=>match zMw is ds env with
 | some env'=>.nx env' S1
 | none=>.bad
def sPut (g:Store->D->D->D->Option Store) (o i v:EM):SM:=fun env S=>(v env S).then fun y S1=>(o env S1).then fun x S2=>(i env S2).then fun k S3=>match g S3 x k y with
 | some S4=>.nx env S4
 | none=>.bad
def forL (gd:List (Nat × D)) (g:GM) (b:SM):List D->Env->Store->SR
 | [],env,S=>if gOk S gd then .nx env S else .bad
 | d::r,env,S=>if gOk S gd then(match g S d env with
  | some env'=>(match b env' S with
   | .nx e S1=>forL gd g b r e S1
   | .ct e S1=>forL gd g b r e S1
   | .bk e S1=>.nx e S1
   | q=>q)
  | none=>.bad)else .bad
def sFor (i:IM) (g:GM) (b:SM):SM:=fun env S=>(i env S).then fun w S1=>forL w.gd g b w.its env S1
def zAu (c:TM) (b:SM):Nat->Env->Store->SR
 | 0,_,_=>.bad
 | n+1,env,S=>(c env S).then fun k S1=>if k=true then(match b env S1 with
   | .nx e S2=>zAu c b n e S2
   | .ct e S2=>zAu c b n e S2
   | .bk e S2=>.nx e S2
   | q=>q)else .nx env S1
def zC6 (c:TM) (b:SM):SM:=fun env S=>if h:∃n,zAu c b n env S≠.bad then zAu c b (choose h) env S else .bad
theorem zCb {c:TM}{b:SM}:∀{n:Nat}{env:Env}{S:Store},zAu c b n env S≠.bad->∀m,n<=m->zAu c b m env S=zAu c b n env S
 | 0,_,_,h,_,_=>absurd rfl h
 | n+1,env,S,h,m,hm=>by
  obtain⟨m,rfl⟩:∃k,m=k+1:=⟨m-1,by first|assumption|lia⟩
  unfold zAu at h ⊢
  cases hc:c env S with
  | ok k S1=>
   rw[hc]at h
   simp only[Rs.then_ok]at h ⊢
   by_cases hk:k=true
   ·rw[if_pos hk]at h ⊢
    rw[if_pos hk]
    cases hb:b env S1 with
    | nx e S2=>rw[hb]at h;exact zCb h m (by first|assumption|lia)
    | ct e S2=>rw[hb]at h;exact zCb h m (by first|assumption|lia)
    | _=>rfl
   ·rw[if_neg hk,if_neg hk]
  | ex x S1=>rfl
  | bad=>rfl
theorem zF7 {c:TM}{b:SM}{n:Nat}{env:Env}{S:Store}(h:zAu c b n env S≠.bad):zC6 c b env S=zAu c b n env S:=by
 unfold zC6
 have hx:∃n,zAu c b n env S≠.bad:=⟨n,h⟩
 rw[dif_pos hx]
 have h1:=choose_spec hx
 rw[<- zCb h1 (max (choose hx) n) (Nat.le_max_left _ _),<- zCb h (max (choose hx) n) (Nat.le_max_right _ _)]
def keeps (n:Nat):Store->Store->Prop
 | [],_=>True
 | a::r,b::t=>(a=b\/b.low n=true)/\keeps n r t
 | _::_,[]=>False
def fin (S:Store) (d:D) (S':Store):Rs D:=
 if keeps S.length S S' then
  if d.low S.length=true then .ok d (S'.take S.length)
  else match d with
   | .ref n=>match S'[n]? with
    | some c=>if c.low S.length=true then .ok c (S'.take S.length)else .ok d S'
    | none=>.bad
   | _=>.ok d S'
 else .ok d S'
def zAx (np nl:Nat) (b:SM):Fn:=fun ds S=>if ds.length=np then
  (match b (ds.map some++List.replicate (nl-np) none) S with
  | .nx _ S'=>fin S .non S'
  | .rt d S'=>fin S d S'
  | .ex x S'=>.ex x S'
  | _=>.bad)
 else .bad
def zHt (np nl:Nat) (b:SM):Fn:=fun ds S=>if ds.length=np then
  (match b (ds.map some++List.replicate (nl-np) none) S with
  | .nx _ S'=>.ok .non S'
  | .rt d S'=>.ok d S'
  | .ex x S'=>.ex x S'
  | _=>.bad)
 else .bad
end
end DS
namespace L2
open PySem PySem.Spec PyProof.Rows
open DS (D Store Exn Rs SR)
abbrev Js:=List Addr
def TAt (K:PySem.W.Frag) (J:Js) (H:Hp) (a:Addr) (xs:List V):Prop:=H a=some (.tup xs)/\a ∉ J
def KAt (K:PySem.W.Frag) (a:Addr) (xs:List V):Prop:=∃(o:Obj) (its:Array Value) (n:Nat),K.lookup a=some o/\o.cls=.type "tuple"/\o.data=.seq its n/\its.size<=sizeLine/\Vals xs its.toList
def LAt (K:PySem.W.Frag) (J:Js) (H:Hp) (a:Addr) (xs:List V):Prop:=H a=some (.lst xs)/\a ∉ J
def SAt (K:PySem.W.Frag) (J:Js) (H:Hp) (a:Addr) (xs:List V):Prop:=
 (Rd H a (.lst xs)/\a ∉ J)\/∃(o:Obj) (its:Array Value) (n:Nat),K.lookup a=some o/\o.cls=.type "list"/\o.dict=none/\o.data=.seq its n/\its.size<=sizeLine/\Vals xs its.toList
def keyD:Key->D
 | .inl i=>.int i
 | .inr x=>.str x
def zPp (k:List Key):D:=.tup (k.map keyD)
def DOb (o:HO) (t:Bool) (ks:List D) (xs:List V):Prop:=
 (t=false/\∃kvs:List (Key × V),o=.dK kvs/\ks=kvs.map (fun p=>keyD p.1)/\xs=kvs.map (·.2)) \/
  (t=true/\∃kvs:List (List Key × V),o=.dT kvs/\ks=kvs.map (fun p=>zPp p.1)/\xs=kvs.map (·.2))
mutual
def Rep (K:PySem.W.Frag) (J:Js) (H:Hp):D->V->Prop
 | .non,v=>v=.non
 | .bl b,v=>v=.bl b
 | .int i,v=>v=.int i
 | .str x,v=>v=.str x
 | .ty n,v=>v=.ty n
 | .tup ds,v=>∃a xs,v=.ref a/\TAt K J H a xs/\RepL K J H ds xs
 | .lst ds,v=>∃a xs,v=.ref a/\LAt K J H a xs/\RepL K J H ds xs
 | .ktup ds,v=>∃a xs,v=.ref a/\KAt K a xs/\RepL K J H ds xs
 | .klst ds,v=>∃a xs,v=.ref a/\SAt K J H a xs/\RepL K J H ds xs
 | .dct t ks vs,v=>∃a o xs,v=.ref a/\a ∉ J/\H a=some o/\DOb o t ks xs/\RepL K J H vs xs
 | .st _,_=>False
 | .ref n,v=>∃a,J[n]?=some a/\v=.ref a
def RepL (K:PySem.W.Frag) (J:Js) (H:Hp):List D->List V->Prop
 | [],xs=>xs=[]
 | d::ds,xs=>∃x r,xs=x::r/\Rep K J H d x/\RepL K J H ds r
end
def ObD (K:PySem.W.Frag) (J:Js) (H:Hp):D->HO->Prop
 | .lst ds,o=>∃xs,o=.lst xs/\RepL K J H ds xs
 | .dct t ks vs,o=>∃xs,DOb o t ks xs/\RepL K J H vs xs
 | _,_=>False
def RepO (K:PySem.W.Frag) (J:Js) (H:Hp) (d:D) (a:Addr):Prop:=∃o,H a=some o/\ObD K J H d o
structure AbS (K:PySem.W.Frag) (J:Js) (S:Store) (H:Hp):Prop where
 len:J.length=S.length
 nd:J.Nodup
 ob:∀(i:Nat) (a:Addr) (d:D),J[i]?=some a->S[i]?=some d->RepO K J H d a
structure Grow (J:Js) (H:Hp) (J':Js) (H':Hp):Prop where
 pre:∀(i:Nat) (a:Addr),J[i]?=some a->J'[i]?=some a
 new:∀a∈J',a ∉ J->H a=none
 keep:∀b o,b ∉ J->H b=some o->H' b=some o
 dom:∀b,H' b=none->H b=none
structure RepE (K:PySem.W.Frag) (J:Js) (H:Hp) (env:DS.Env) (σ:St):Prop where
 len:env.length=σ.length
 get:∀(i:Nat) (d:D),env[i]?=some (some d)->∃v,σ[i]?=some (some v)/\Rep K J H d v
section
variable {K:PySem.W.Frag}{J J' J1 J2:Js}{H H' H1 H2:Hp}{a:Addr}{d:D}{v:V}{S S':Store}{env:DS.Env}{σ:St}
theorem Grow.refl:Grow J H J H:=⟨fun _ _ h=>h,fun _ h n=>absurd h n,fun _ _ _ h=>h,fun _ h=>h⟩
theorem Grow.trans (g:Grow J H J1 H1) (k:Grow J1 H1 J2 H2):Grow J H J2 H2 where
 pre:=fun i a h=>k.pre i a (g.pre i a h)
 new:=fun a h n=>by
  by_cases z:a∈J1
  ·exact g.new a z n
  ·exact g.dom a (k.new a h z)
 keep:=fun b o n h=>k.keep b o (fun z=>by rw[g.new b z n]at h;cases h) (g.keep b o n h)
 dom:=fun b h=>g.dom b (k.dom b h)
theorem Grow.out {o:HO}(g:Grow J H J' H') (n:a ∉ J) (h:H a=some o):a ∉ J':=fun z=>by rw[g.new a z n]at h;cases h
theorem Grow.rd {u:HO}(g:Grow J H J' H') (n:a ∉ J) (h:Rd H a u):Rd H' a u/\a ∉ J':=by
 rcases h with h|⟨o,h⟩
 ·exact⟨.inl (g.keep _ _ n h),g.out n h⟩
 ·exact⟨.inr ⟨o,g.keep _ _ n h⟩,g.out n h⟩
theorem TAt.sq {xs:List V}(h:TAt K J H a xs):SqT K H a xs:=.inl (.inl h.1)
theorem KAt.sq {xs:List V}(h:KAt K a xs):SqT K H a xs:=.inr h
theorem LAt.sq {xs:List V}(h:LAt K J H a xs):SqL K H a xs:=.inl (.inl h.1)
theorem SAt.sq {xs:List V}(h:SAt K J H a xs):SqL K H a xs:=by
 rcases h with h|h
 ·exact .inl h.1
 ·exact .inr h
theorem SAt.grow {xs:List V}(g:Grow J H J' H') (h:SAt K J H a xs):SAt K J' H' a xs:=by
 rcases h with h|h
 ·exact .inl (g.rd h.2 h.1)
 ·exact .inr h
theorem TAt.grow {xs:List V}(g:Grow J H J' H') (h:TAt K J H a xs):TAt K J' H' a xs:=⟨g.keep _ _ h.2 h.1,g.out h.2 h.1⟩
theorem LAt.grow {xs:List V}(g:Grow J H J' H') (h:LAt K J H a xs):LAt K J' H' a xs:=⟨g.keep _ _ h.2 h.1,g.out h.2 h.1⟩
mutual
theorem Rep.grow (g:Grow J H J' H'):∀(d:D) (v:V),Rep K J H d v->Rep K J' H' d v
 | .non,_,h=>h
 | .bl _,_,h=>h
 | .int _,_,h=>h
 | .str _,_,h=>h
 | .ty _,_,h=>h
 | .tup ds,v,⟨a,xs,e,t,r⟩=>⟨a,xs,e,t.grow g,RepL.grow g ds xs r⟩
 | .lst ds,v,⟨a,xs,e,t,r⟩=>⟨a,xs,e,t.grow g,RepL.grow g ds xs r⟩
 | .ktup ds,v,⟨a,xs,e,t,r⟩=>⟨a,xs,e,t,RepL.grow g ds xs r⟩
 | .klst ds,v,⟨a,xs,e,t,r⟩=>⟨a,xs,e,t.grow g,RepL.grow g ds xs r⟩
 | .dct _ ks vs,v,⟨a,o,xs,e,n,h,t,r⟩=>⟨a,o,xs,e,g.out n h,g.keep _ _ n h,t,RepL.grow g vs xs r⟩
 | .st _,_,h=>h
 | .ref n,v,⟨a,e,h⟩=>⟨a,g.pre n a e,h⟩
theorem RepL.grow (g:Grow J H J' H'):∀(ds:List D) (xs:List V),RepL K J H ds xs->RepL K J' H' ds xs
 | [],_,h=>h
 | d::ds,xs,⟨x,r,e,h,t⟩=>⟨x,r,e,Rep.grow g d x h,RepL.grow g ds r t⟩
end
theorem RepE.grow (g:Grow J H J' H') (h:RepE K J H env σ):RepE K J' H' env σ:=⟨h.len,fun i d e=>by
 obtain⟨v,q,r⟩:=h.get i d e
 exact⟨v,q,Rep.grow g d v r⟩⟩
theorem RepL.length:∀{ds:List D}{xs:List V},RepL K J H ds xs->ds.length=xs.length
 | [],_,h=>by cases h;rfl
 | _::ds,_,⟨x,r,e,_,t⟩=>by subst e;simp[RepL.length t]
theorem RepL.get:∀{ds:List D}{xs:List V}{i:Nat}{d:D},RepL K J H ds xs->ds[i]?=some d->∃x,xs[i]?=some x/\Rep K J H d x
 | [],_,_,_,_,e=>by simp at e
 | d::ds,_,0,_,⟨x,r,e,h,t⟩,q=>by subst e;simp at q;subst q;exact⟨x,rfl,h⟩
 | _::ds,_,i+1,d,⟨x,r,e,_,t⟩,q=>by subst e;exact RepL.get (i:=i) t (by simpa using q)
theorem RepL.get' {ds:List D}{xs:List V}{i:Nat}{x:V}(h:RepL K J H ds xs) (e:xs[i]?=some x):∃d,ds[i]?=some d/\Rep K J H d x:=by
 have hl:=h.length
 have hi:i<ds.length:=by rw[hl];exact(List.getElem?_eq_some_iff.mp e).1
 obtain⟨y,ey,r⟩:=h.get (List.getElem?_eq_getElem hi)
 rw[e]at ey;cases ey
 exact⟨_,List.getElem?_eq_getElem hi,r⟩
theorem RepL.append:∀{ds es:List D}{xs ys:List V},RepL K J H ds xs->RepL K J H es ys->RepL K J H (ds++es) (xs++ys)
 | [],_,_,_,h,k=>by cases h;exact k
 | d::ds,_,_,_,⟨x,r,e,h,t⟩,k=>by subst e;exact⟨x,_,rfl,h,t.append k⟩
theorem RepL.snoc {ds:List D}{xs:List V}{x:V}(h:RepL K J H ds xs) (r:Rep K J H d x):RepL K J H (ds++[d]) (xs++[x]):=h.append ⟨x,[],rfl,r,rfl⟩
theorem RepL.take:∀{ds:List D}{xs:List V}(n:Nat),RepL K J H ds xs->RepL K J H (ds.take n) (xs.take n)
 | _,_,0,_=>rfl
 | [],_,_+1,h=>by cases h;rfl
 | d::ds,_,n+1,⟨x,r,e,h,t⟩=>by subst e;exact⟨x,_,rfl,h,t.take n⟩
theorem RepL.drop:∀{ds:List D}{xs:List V}(n:Nat),RepL K J H ds xs->RepL K J H (ds.drop n) (xs.drop n)
 | _,_,0,h=>h
 | [],_,_+1,h=>by cases h;rfl
 | d::ds,_,n+1,⟨x,r,e,h,t⟩=>by subst e;exact t.drop n
theorem RepL.reverse:∀{ds:List D}{xs:List V},RepL K J H ds xs->RepL K J H ds.reverse xs.reverse
 | [],_,h=>by cases h;rfl
 | d::ds,_,⟨x,r,e,h,t⟩=>by subst e;rw[List.reverse_cons,List.reverse_cons];exact t.reverse.snoc h
theorem RepL.dropLast {ds:List D}{xs:List V}(h:RepL K J H ds xs):RepL K J H ds.dropLast xs.dropLast:=by
 rw[List.dropLast_eq_take,List.dropLast_eq_take,h.length];exact h.take _
theorem RepL.ints:∀{ns:List Int},RepL K J H (ns.map D.int) (ns.map V.int)
 | []=>rfl
 | n::ns=>⟨_,_,rfl,rfl,RepL.ints⟩
theorem AbS.lt (h:AbS K J S H) {n:Nat}(e:J[n]?=some a):n<S.length:=by rw[<- h.len];exact(List.getElem?_eq_some_iff.mp e).1
theorem AbS.at (h:AbS K J S H) {n:Nat}(e:J[n]?=some a):∃d,S[n]?=some d/\RepO K J H d a:=
 ⟨S[n]'(h.lt e),List.getElem?_eq_getElem (h.lt e),h.ob n a _ e (List.getElem?_eq_getElem (h.lt e))⟩
theorem AbS.mem (h:AbS K J S H) (m:a∈J):∃o,H a=some o:=by
 obtain⟨i,e⟩:=List.mem_iff_getElem?.mp m
 obtain⟨d,_,o,r,_⟩:=h.at e
 exact⟨o,r⟩
theorem AbS.out (h:AbS K J S H) (n:H a=none):a ∉ J:=fun m=>by
 obtain⟨o,e⟩:=h.mem m
 rw[n]at e;cases e
theorem ObD.imp {o:HO}(rl:∀ds xs,RepL K J H ds xs->RepL K J' H' ds xs):∀{d:D},ObD K J H d o->ObD K J' H' d o
 | .lst ds,⟨xs,e,r⟩=>⟨xs,e,rl _ _ r⟩
 | .dct _ ks vs,⟨xs,e,r⟩=>⟨xs,e,rl _ _ r⟩
 | .non,h=>False.elim h
 | .bl _,h=>False.elim h
 | .int _,h=>False.elim h
 | .str _,h=>False.elim h
 | .ty _,h=>False.elim h
 | .tup _,h=>False.elim h
 | .ktup _,h=>False.elim h
 | .klst _,h=>False.elim h
 | .st _,h=>False.elim h
 | .ref _,h=>False.elim h
theorem ObD.grow {o:HO}(g:Grow J H J' H') (h:ObD K J H d o):ObD K J' H' d o:=h.imp (RepL.grow g)
theorem Grow.of (k:∀b o,H b=some o->H' b=some o):Grow J H J H':=⟨fun _ _ h=>h,fun _ h n=>absurd h n,fun b o _ h=>k b o h,fun b h=>by
 cases e:H b with
 | none=>rfl
 | some o=>rw[k b o e]at h;cases h⟩
theorem AbS.more (h:AbS K J S H) (k:∀b o,H b=some o->H' b=some o):AbS K J S H':=
 ⟨h.len,h.nd,fun i a d e q=>by
  obtain⟨o,eo,r⟩:=h.ob i a d e q
  exact⟨o,k _ _ eo,r.grow (.of k)⟩⟩
theorem zEw {p:Addr}{o:HO}(n:H p=none):∀b u,H b=some u->upd H p o b=some u:=fun b u e=>by rw[zAh (zAd e n)];exact e
theorem AbS.push {p:Addr}{o:HO}(h:AbS K J S H) (n:H p=none):AbS K J S (upd H p o):=h.more (zEw n)
theorem Grow.push {p:Addr}{o:HO}(n:H p=none):Grow J H J (upd H p o):=.of (zEw n)
theorem Grow.name {p:Addr}{o:HO}(n:H p=none):Grow J H (J++[p]) (upd H p o) where
 pre:=fun i a h=>by rw[List.getElem?_append_left (List.getElem?_eq_some_iff.mp h).1];exact h
 new:=fun a h z=>by
  rcases List.mem_append.mp h with h|h
  ·exact absurd h z
  ·rw[List.mem_singleton.mp h];exact n
 keep:=fun b u _ e=>zEw n b u e
 dom:=(Grow.push (J:=J) n).dom
theorem AbS.name {p:Addr}{o:HO}(h:AbS K J S H) (n:H p=none) (r:ObD K J H d o):AbS K (J++[p]) (S++[d]) (upd H p o):=by
 have hp:p ∉ J:=h.out n
 have g:Grow J H (J++[p]) (upd H p o):=.name n
 refine⟨by simp[h.len],?_,fun i a d' e q=>?_⟩
 ·refine List.nodup_append.mpr ⟨h.nd,(List.nodup_cons.mpr ⟨by simp,List.nodup_nil⟩),fun x hx y hy=>?_⟩
  rintro rfl
  exact hp (by rw[<- List.mem_singleton.mp hy];exact hx)
 ·by_cases hi:i<J.length
  ·rw[List.getElem?_append_left hi]at e
   rw[List.getElem?_append_left (by rw[<- h.len];exact hi)]at q
   obtain⟨o',eo,r'⟩:=h.ob i a d' e q
   exact⟨o',zEw n _ _ eo,r'.grow g⟩
  ·have hl:i=J.length:=by
    have:=(List.getElem?_eq_some_iff.mp e).1
    simp at this
    lia
   subst hl
   rw[List.getElem?_append_right (Nat.le_refl _)]at e
   rw[List.getElem?_append_right (by rw[h.len];exact Nat.le_refl _),h.len]at q
   simp at e q
   subst e q
   exact⟨o,zAo,r.grow g⟩
theorem Grow.write {n:Nat}{o:HO}(e:J[n]?=some a):Grow J H J (upd H a o) where
 pre:=fun _ _ h=>h
 new:=fun b h z=>absurd h z
 keep:=fun b u z h=>by rw[zAh (fun q=>z (by rw[q];exact List.mem_of_getElem? e))];exact h
 dom:=fun b h=>by
  by_cases q:b=a
  ·subst q;rw[zAo]at h;cases h
  ·rw[zAh q]at h;exact h
theorem AbS.write {n:Nat}{o:HO}(h:AbS K J S H) (e:J[n]?=some a) (r:ObD K J H d o):AbS K J (S.set n d) (upd H a o):=by
 have g:Grow J H J (upd H a o):=.write e
 refine⟨by simp[h.len],h.nd,fun i b d' ei q=>?_⟩
 by_cases hi:i=n
 ·subst hi
  rw[e]at ei;cases ei
  rw[List.getElem?_set_self (h.lt e)]at q
  cases q
  exact⟨o,zAo,r.grow g⟩
 ·rw[List.getElem?_set_ne (Ne.symm hi)]at q
  obtain⟨o',eo,r'⟩:=h.ob i b d' ei q
  have hb:b≠a:=fun z=>by
   subst z
   exact hi ((List.getElem?_inj (List.getElem?_eq_some_iff.mp ei).1 h.nd).mp (ei.trans e.symm))
  exact⟨o',by rw[zAh hb];exact eo,r'.grow g⟩
theorem lowL_iff {n:Nat}:∀{l:List D},DS.lowL n l=true <-> ∀d∈l,d.low n=true
 | []=>⟨(fun _ _ h=>nomatch h),fun _=>rfl⟩
 | d::r=>by
  show(d.low n && DS.lowL n r)=true <-> _
  rw[Bool.and_eq_true,lowL_iff (l:=r)]
  simp
theorem zKn (n:Nat) (k:Key):(keyD k).low n=true:=by cases k <;> rfl
theorem DOb.low {o:HO}{t:Bool}{ks:List D}{xs:List V}{n:Nat}(h:DOb o t ks xs):DS.lowL n ks=true:=by
 rcases h with⟨_,kvs,_,rfl,_⟩|⟨_,kvs,_,rfl,_⟩
 ·exact lowL_iff.mpr fun d hd=>by obtain⟨p,_,rfl⟩:=List.mem_map.mp hd;exact zKn n p.1
 ·exact lowL_iff.mpr fun d hd=>by
   obtain⟨p,_,rfl⟩:=List.mem_map.mp hd
   show DS.lowL n (p.1.map keyD)=true
   exact lowL_iff.mpr fun d hd=>by obtain⟨q,_,rfl⟩:=List.mem_map.mp hd;exact zKn n q
mutual
theorem Rep.low:∀(d:D) (v:V),Rep K J H d v->d.low J.length=true
 | .non,_,_=>rfl
 | .bl _,_,_=>rfl
 | .int _,_,_=>rfl
 | .str _,_,_=>rfl
 | .ty _,_,_=>rfl
 | .tup ds,v,⟨a,xs,e,t,r⟩=>RepL.low ds xs r
 | .lst ds,v,⟨a,xs,e,t,r⟩=>RepL.low ds xs r
 | .ktup ds,v,⟨a,xs,e,t,r⟩=>RepL.low ds xs r
 | .klst ds,v,⟨a,xs,e,t,r⟩=>RepL.low ds xs r
 | .dct _ ks vs,v,⟨a,o,xs,e,n,h,t,r⟩=>by
  show(DS.lowL J.length ks && DS.lowL J.length vs)=true
  rw[RepL.low vs xs r,Bool.and_true]
  exact DOb.low t
 | .st _,_,h=>False.elim h
 | .ref n,v,⟨a,e,h⟩=>decide_eq_true (List.getElem?_eq_some_iff.mp e).1
theorem RepL.low:∀(ds:List D) (xs:List V),RepL K J H ds xs->DS.lowL J.length ds=true
 | [],_,_=>rfl
 | d::ds,xs,⟨x,r,e,h,t⟩=>by
  show(d.low J.length && DS.lowL J.length ds)=true
  rw[Rep.low d x h,RepL.low ds r t];rfl
end
theorem ObD.low {o:HO}:∀{d:D},ObD K J H d o->d.low J.length=true
 | .lst ds,⟨xs,_,r⟩=>RepL.low ds xs r
 | .dct _ ks vs,⟨xs,t,r⟩=>by
  show(DS.lowL J.length ks && DS.lowL J.length vs)=true
  rw[RepL.low vs xs r,Bool.and_true]
  exact DOb.low t
 | .non,h=>False.elim h
 | .bl _,h=>False.elim h
 | .int _,h=>False.elim h
 | .str _,h=>False.elim h
 | .ty _,h=>False.elim h
 | .tup _,h=>False.elim h
 | .ktup _,h=>False.elim h
 | .klst _,h=>False.elim h
 | .st _,h=>False.elim h
 | .ref _,h=>False.elim h
theorem zD0 {n:Nat}(h:a ∉ J):a ∉ J.take n:=fun z=>h (List.mem_of_mem_take z)
mutual
theorem Rep.cut (n:Nat):∀(d:D) (v:V),d.low n=true->Rep K J H d v->Rep K (J.take n) H d v
 | .non,_,_,h=>h
 | .bl _,_,_,h=>h
 | .int _,_,_,h=>h
 | .str _,_,_,h=>h
 | .ty _,_,_,h=>h
 | .tup ds,v,l,⟨a,xs,e,t,r⟩=>⟨a,xs,e,⟨t.1,zD0 t.2⟩,RepL.cut n ds xs l r⟩
 | .ktup ds,v,l,⟨a,xs,e,t,r⟩=>⟨a,xs,e,t,RepL.cut n ds xs l r⟩
 | .klst ds,v,l,⟨a,xs,e,t,r⟩=>⟨a,xs,e,by
   rcases t with t|t
   ·exact .inl ⟨t.1,zD0 t.2⟩
   ·exact .inr t,RepL.cut n ds xs l r⟩
 | .lst ds,v,l,⟨a,xs,e,t,r⟩=>⟨a,xs,e,⟨t.1,zD0 t.2⟩,RepL.cut n ds xs l r⟩
 | .dct _ ks vs,v,l,⟨a,o,xs,e,q,h,t,r⟩=>⟨a,o,xs,e,zD0 q,h,t,RepL.cut n vs xs (by
   have l:(DS.lowL n ks && DS.lowL n vs)=true:=l
   rw[Bool.and_eq_true]at l
   exact l.2) r⟩
 | .st _,_,_,h=>h
 | .ref m,v,l,⟨a,e,h⟩=>⟨a,by rw[List.getElem?_take_of_lt (of_decide_eq_true l)];exact e,h⟩
theorem RepL.cut (n:Nat):∀(ds:List D) (xs:List V),DS.lowL n ds=true->RepL K J H ds xs->RepL K (J.take n) H ds xs
 | [],_,_,h=>h
 | d::ds,xs,l,⟨x,r,e,h,t⟩=>by
  have l:(d.low n && DS.lowL n ds)=true:=l
  rw[Bool.and_eq_true]at l
  exact⟨x,r,e,Rep.cut n d x l.1 h,RepL.cut n ds r l.2 t⟩
end
theorem ObD.cut {n:Nat}{o:HO}:∀{d:D},d.low n=true->ObD K J H d o->ObD K (J.take n) H d o
 | .lst ds,l,⟨xs,e,r⟩=>⟨xs,e,RepL.cut n ds xs l r⟩
 | .dct _ ks vs,l,⟨xs,t,r⟩=>⟨xs,t,RepL.cut n vs xs (by
   have l:(DS.lowL n ks && DS.lowL n vs)=true:=l
   rw[Bool.and_eq_true]at l
   exact l.2) r⟩
 | .non,_,h=>False.elim h
 | .bl _,_,h=>False.elim h
 | .int _,_,h=>False.elim h
 | .str _,_,h=>False.elim h
 | .ty _,_,h=>False.elim h
 | .tup _,_,h=>False.elim h
 | .ktup _,_,h=>False.elim h
 | .klst _,_,h=>False.elim h
 | .st _,_,h=>False.elim h
 | .ref _,_,h=>False.elim h
theorem zFf {n:Nat}:∀{S S':Store},DS.keeps n S S'->∀i,i<S.length->∃b,S'[i]?=some b/\(S[i]?=some b\/b.low n=true)
 | [],_,_,i,hi=>by simp at hi
 | a::r,[],h,_,_=>False.elim h
 | a::r,b::t,h,0,_=>⟨b,rfl,by
   rcases h.1 with e|e
   ·subst e;exact .inl rfl
   ·exact .inr e⟩
 | a::r,b::t,h,i+1,hi=>by simpa using zFf h.2 i (by simpa using hi)
theorem Grow.take (h:AbS K J S H) (g:Grow J H J' H'):J'.take S.length=J:=by
 refine List.ext_getElem? fun i=>?_
 by_cases hi:i<S.length
 ·rw[List.getElem?_take_of_lt hi]
  have hj:i<J.length:=by rw[h.len];exact hi
  rw[List.getElem?_eq_getElem hj]
  exact g.pre i _ (List.getElem?_eq_getElem hj)
 ·rw[List.getElem?_eq_none (by rw[List.length_take];lia),List.getElem?_eq_none (by rw[h.len];lia)]
theorem Grow.cut (g:Grow J H J' H'):Grow J H J H':=⟨fun _ _ h=>h,fun _ h n=>absurd h n,g.keep,g.dom⟩
theorem AbS.cut (h:AbS K J S H) (g:Grow J H J' H') (h':AbS K J' S' H') (k:DS.keeps S.length S S'):AbS K J (S'.take S.length) H':=by
 have e:=g.take h
 refine⟨?_,h.nd,fun i a d ei q=>?_⟩
 ·have l:∀i,i<S.length->i<S'.length:=fun i hi=>by
   obtain⟨b,eb,_⟩:=zFf k i hi
   exact(List.getElem?_eq_some_iff.mp eb).1
  rw[h.len,List.length_take]
  by_cases z:S.length=0
  ·lia
  ·have:=l (S.length-1) (by first|assumption|lia)
   lia
 ·have hi:=h.lt ei
  rw[List.getElem?_take_of_lt hi]at q
  obtain⟨b,eb,lo⟩:=zFf k i hi
  rw[q]at eb;cases eb
  obtain⟨o,eo,r⟩:=h'.ob i a d (g.pre i a ei) q
  have low:d.low S.length=true:=by
   rcases lo with lo|lo
   ·obtain⟨o',_,r'⟩:=h.ob i a d ei lo
    have:=r'.low
    rw[h.len]at this
    exact this
   ·exact lo
  have:=r.cut low
  rw[e]at this
  exact⟨o,eo,this⟩
theorem zYu {d2:D}{S2:Store}(h:AbS K J S H) (g:Grow J H J' H') (h':AbS K J' S' H') (r:Rep K J' H' d v) (e:DS.fin S d S'=.ok d2 S2):∃J2,AbS K J2 S2 H'/\Grow J H J2 H'/\Rep K J2 H' d2 v:=by
 have ek:=g.take h
 unfold DS.fin at e
 by_cases k:DS.keeps S.length S S'
 ·rw[if_pos k]at e
  by_cases l:d.low S.length=true
  ·rw[if_pos l]at e
   cases e
   refine⟨J,h.cut g h' k,g.cut,?_⟩
   have:=Rep.cut _ _ _ l r
   rw[ek]at this
   exact this
  ·rw[if_neg l]at e
   cases d with
   | ref n=>
    obtain⟨a,ea,rfl⟩:=r
    obtain⟨c,ec,o,eo,rc⟩:=h'.at ea
    simp only[ec]at e
    by_cases lc:c.low S.length=true
    ·rw[if_pos lc]at e
     cases e
     refine⟨J,h.cut g h' k,g.cut,?_⟩
     have ha:a ∉ J:=fun z=>by
      obtain⟨i,ei⟩:=List.mem_iff_getElem?.mp z
      have hi:=h.lt ei
      have e2:=g.pre i a ei
      have:i=n:=(List.getElem?_inj (List.getElem?_eq_some_iff.mp e2).1 h'.nd).mp (e2.trans ea.symm)
      subst this
      exact l (decide_eq_true hi)
     have rc2:=rc.cut lc
     rw[ek]at rc2
     cases d2 with
     | lst ds=>obtain⟨xs,rfl,rl⟩:=rc2;exact⟨a,xs,rfl,⟨eo,ha⟩,rl⟩
     | dct _ ks vs=>obtain⟨xs,t,rl⟩:=rc2;exact⟨a,o,xs,rfl,ha,eo,t,rl⟩
     | _=>exact False.elim rc2
    ·rw[if_neg lc]at e
     cases e
     exact⟨J',h',g,a,ea,rfl⟩
   | _=>cases e;exact⟨J',h',g,r⟩
 ·rw[if_neg k]at e
  cases e
  exact⟨J',h',g,r⟩
end
end L2
namespace L2
open PySem PySem.Spec PyProof.Rows
open DS (D Store Exn Rs SR)
abbrev XE:=Exn->Store->Js->Hp->Prop
def XE0:XE:=fun _ _ _ _=>False
def Post {α:Type}(K:PySem.W.Frag) (E:XE) (J:Js) (H:Hp) (r:Rs α) (P:α->Store->Js->Hp->Prop):Prop:=match r with
 | .ok a S=>∀J' H',AbS K J' S H'->Grow J H J' H'->P a S J' H'
 | .ex x S=>∀J' H',AbS K J' S H'->Grow J H J' H'->E x S J' H'
 | .bad=>False
def PostS (K:PySem.W.Frag) (E:XE) (J:Js) (H:Hp) (r:SR) (D:Ends):Prop:=match r with
 | .nx e S=>∀J' H' σ,AbS K J' S H'->Grow J H J' H'->RepE K J' H' e σ->D.nx σ H'
 | .rt d S=>∀J' H' v,AbS K J' S H'->Grow J H J' H'->Rep K J' H' d v->D.rt v H'
 | .bk e S=>∀J' H' σ,AbS K J' S H'->Grow J H J' H'->RepE K J' H' e σ->D.bk σ H'
 | .ct e S=>∀J' H' σ,AbS K J' S H'->Grow J H J' H'->RepE K J' H' e σ->D.ct σ H'
 | .ex x S=>∀J' H',AbS K J' S H'->Grow J H J' H'->E x S J' H'
 | .bad=>False
section
variable {α β:Type}{K:PySem.W.Frag}{E:XE}{J J1:Js}{H H1:Hp}{S:Store}
theorem Post.grow {r:Rs α}{P:α->Store->Js->Hp->Prop}(g:Grow J H J1 H1) (h:Post K E J H r P):Post K E J1 H1 r P:=by
 cases r with
 | ok a S=>exact fun J' H' h1 h2=>h J' H' h1 (g.trans h2)
 | ex x S=>exact fun J' H' h1 h2=>h J' H' h1 (g.trans h2)
 | bad=>exact h
theorem Post.bind {r:Rs α}{k:α->Store->Rs β}{P:β->Store->Js->Hp->Prop}(h:Post K E J H (r.bind k) P):Post K E J H r (fun a S J' H'=>Post K E J' H' (k a S) P):=by
 cases r with
 | ok a S=>exact fun J' H' _ g=>Post.grow g h
 | ex x S=>exact h
 | bad=>exact h
theorem Post.imp {r:Rs α}{P P':α->Store->Js->Hp->Prop}(h:Post K E J H r P) (k:∀a S J' H',r=.ok a S->AbS K J' S H'->Grow J H J' H'->P a S J' H'->P' a S J' H'):Post K E J H r P':=by
 cases r with
 | ok a S=>exact fun J' H' h1 h2=>k a S J' H' rfl h1 h2 (h J' H' h1 h2)
 | ex x S=>exact h
 | bad=>exact h
theorem Post.map {r:Rs α}{P P':α->Store->Js->Hp->Prop}(h:Post K E J H r P) (k:∀a S J' H',r=.ok a S->AbS K J' S H'->Grow J H J' H'->(∀J2 H2,AbS K J2 S H2->Grow J H J2 H2->P a S J2 H2)->P' a S J' H'):Post K E J H r P':=by
 cases r with
 | ok a S=>exact fun J' H' h1 h2=>k a S J' H' rfl h1 h2 h
 | ex x S=>exact h
 | bad=>exact h
theorem Post.lift {o:Option α}{P:α->Store->Js->Hp->Prop}(h:Post K E J H (DS.lift o S) P):∃a,o=some a/\∀J' H',AbS K J' S H'->Grow J H J' H'->P a S J' H':=by
 cases o with
 | some a=>exact⟨a,rfl,h⟩
 | none=>exact False.elim h
theorem PostS.grow {r:SR}{D:Ends}(g:Grow J H J1 H1) (h:PostS K E J H r D):PostS K E J1 H1 r D:=by
 cases r with
 | nx e S=>exact fun J' H' σ h1 h2=>h J' H' σ h1 (g.trans h2)
 | bk e S=>exact fun J' H' σ h1 h2=>h J' H' σ h1 (g.trans h2)
 | ct e S=>exact fun J' H' σ h1 h2=>h J' H' σ h1 (g.trans h2)
 | rt e S=>exact fun J' H' σ h1 h2=>h J' H' σ h1 (g.trans h2)
 | ex x S=>exact fun J' H' h1 h2=>h J' H' h1 (g.trans h2)
 | bad=>exact h
theorem PostS.then {r:Rs α}{k:α->Store->SR}{D:Ends}(h:PostS K E J H (r.then k) D):Post K E J H r (fun a S J' H'=>PostS K E J' H' (k a S) D):=by
 cases r with
 | ok a S=>exact fun J' H' _ g=>PostS.grow g h
 | ex x S=>exact h
 | bad=>exact h
end
section
variable (K:PySem.W.Frag) (E:XE)
def tOf (m:DS.EM):TE:=fun σ H Q=>∃env S J,AbS K J S H/\RepE K J H env σ/\Post K E J H (m env S) (fun d _ J' H'=>∀v,Rep K J' H' d v->Q v H')
def tOfF (m:DS.EM):TE:=fun σ H Q=>∃env S J,AbS K J S H/\RepE K J H env σ/\Post K E J H (m env S) (fun d _ J' H'=>∀p o,H' p=none->ObD K J' H' d o->Q (.ref p) (upd H' p o))
def ttOf (m:DS.TM):TT:=fun σ H Q=>∃env S J,AbS K J S H/\RepE K J H env σ/\Post K E J H (m env S) (fun b _ _ H'=>Q b H')
def aOf (m:DS.AM):TA:=fun σ H Q=>∃env S J,AbS K J S H/\RepE K J H env σ/\Post K E J H (m env S) (fun ds _ J' H'=>∀vs,RepL K J' H' ds vs->Q vs H')
def tsOf (m:DS.SM):TS:=fun D σ H=>∃env S J,AbS K J S H/\RepE K J H env σ/\PostS K E J H (m env S) D
def gOf (m:DS.GM):TG:=fun v σ H Q=>∃env S J d env',AbS K J S H/\RepE K J H env σ/\Rep K J H d v/\m S d env=some env'/\∀σ',RepE K J H env' σ'->Q σ' H
def gsOf (m:Store->List D->DS.Env->Option DS.Env):TGs:=fun vs σ H Q=>∃env S J ds env',AbS K J S H/\RepE K J H env σ/\RepL K J H ds vs/\m S ds env=some env'/\∀σ',RepE K J H env' σ'->Q σ' H
structure ItOk (J0:Js) (H0:Hp) (w:DS.Walk) (I:It):Prop where
 go:∀(i:Nat) (H:Hp) (J:Js) (S:Store),AbS K J S H->Grow J0 H0 J H->DS.gOk S w.gd->i<w.its.length->I.go i H
 yld:∀(i:Nat) (H:Hp) (J:Js) (S:Store) (x:V) (H':Hp),AbS K J S H->Grow J0 H0 J H->DS.gOk S w.gd->I.yld i H x H'->∀d,w.its[i]?=some d->AbS K J S H'/\Grow J H J H'/\Rep K J H' d x
 stop:∀(i:Nat) (H:Hp) (J:Js) (S:Store),AbS K J S H->Grow J0 H0 J H->DS.gOk S w.gd->w.its.length<=i->I.stop i H
def iOf (m:DS.IM):TI:=fun σ H R=>∃env S J,AbS K J S H/\RepE K J H env σ/\Post K E J H (m env S) (fun w _ J' H'=>∀I,ItOk K J' H' w I->R I H')
def r2Of (g:Store->D->D->Option D):R2:=fun x y H Q=>∃J S d1 d2 d,AbS K J S H/\Rep K J H d1 x/\Rep K J H d2 y/\g S d1 d2=some d/\∀v H',AbS K J S H'->Grow J H J H'->Rep K J H' d v->Q v H'
def r1Of (g:Store->D->Option D):V->Hp->VK->Prop:=fun x H Q=>∃J S d1 d,AbS K J S H/\Rep K J H d1 x/\g S d1=some d/\∀v H',AbS K J S H'->Grow J H J H'->Rep K J H' d v->Q v H'
def cOf (g:Store->List D->Option D):List V->Hp->VK->Prop:=fun xs H Q=>∃J S ds d,AbS K J S H/\RepL K J H ds xs/\g S ds=some d/\∀v H',AbS K J S H'->Grow J H J H'->Rep K J H' d v->Q v H'
def zZg (g:Store->D->D->Option D):R2:=fun x y H Q=>∃J S d1 d2 d,AbS K J S H/\Rep K J H d1 x/\Rep K J H d2 y/\g S d1 d2=some d/\∀p o H',AbS K J S H'->Grow J H J H'->H' p=none->ObD K J H' d o->Q (.ref p) (upd H' p o)
def cOfF (g:Store->List D->Option D):List V->Hp->VK->Prop:=fun xs H Q=>∃J S ds d,AbS K J S H/\RepL K J H ds xs/\g S ds=some d/\∀p o H',AbS K J S H'->Grow J H J H'->H' p=none->ObD K J H' d o->Q (.ref p) (upd H' p o)
def mOf (g:Store->D->List D->Option (D × Store)):V->List V->Hp->VK->Prop:=fun x xs H Q=>∃J S d1 ds d S',AbS K J S H/\Rep K J H d1 x/\RepL K J H ds xs/\g S d1 ds=some (d,S')/\∀v H',AbS K J S' H'->Grow J H J H'->Rep K J H' d v->Q v H'
def spOf (F:DS.Fn):Sp:=fun vs H Q _=>∃J S ds,AbS K J S H/\RepL K J H ds vs/\Post K E J H (F ds S) (fun d _ J' H'=>∀v,Rep K J' H' d v->Q v H')
end
structure DE (X:Cx) (K:PySem.W.Frag) (E:XE) (e:Expr) (m:DS.EM):Prop where h:SE X e (tOf K E m)
structure DF (X:Cx) (K:PySem.W.Frag) (E:XE) (e:Expr) (m:DS.EM):Prop where h:SE X e (tOfF K E m)
structure DT (X:Cx) (K:PySem.W.Frag) (E:XE) (e:Expr) (m:DS.TM):Prop where h:ST X e (ttOf K E m)
structure DW (X:Cx) (K:PySem.W.Frag) (E:XE) (e:Expr) (m:DS.TM):Prop where h:SW X e (ttOf K E m)
structure DIf (X:Cx) (K:PySem.W.Frag) (E:XE) (es:List Expr) (m:DS.TM):Prop where h:SIfs X es (ttOf K E m)
structure DA (X:Cx) (K:PySem.W.Frag) (E:XE) (es:List Expr) (m:DS.AM):Prop where
 h:SA X es (aOf K E m)
 len:∀env S ds S',m env S=.ok ds S'->ds.length=es.length
structure DS1 (X:Cx) (K:PySem.W.Frag) (E:XE) (st:Stmt) (m:DS.SM):Prop where h:SS X st (tsOf K E m)
structure DSs (X:Cx) (K:PySem.W.Frag) (E:XE) (st:List Stmt) (m:DS.SM):Prop where h:SSs X st (tsOf K E m)
structure DG (X:Cx) (K:PySem.W.Frag) (e:Expr) (m:DS.GM):Prop where h:SG X e (gOf K m)
structure DGs (X:Cx) (K:PySem.W.Frag) (es:List Expr) (m:List DS.GM):Prop where h:SGs X es (gsOf K (DS.gAll m))
structure DI (X:Cx) (K:PySem.W.Frag) (E:XE) (tg e:Expr) (m:DS.IM):Prop where h:SI X tg e (iOf K E m)
section
variable {X:Cx}{K:PySem.W.Frag}{E:XE}{e a b c:Expr}{es:List Expr}{p pos:Pos}{m ma mb mc:DS.EM}{mt mu:DS.TM}
theorem SE.imp {t t':TE}(h:SE X e t) (k:∀σ H Q,t' σ H Q->t σ H Q):SE X e t':=⟨fun pins s σ H Q I q=>h.h pins s σ H Q I (k σ H Q q)⟩
theorem ST.imp {t t':TT}(h:ST X e t) (k:∀σ H Q,t' σ H Q->t σ H Q):ST X e t':=⟨fun pins s σ H Q I q=>h.h pins s σ H Q I (k σ H Q q)⟩
theorem SW.imp {t t':TT}(h:SW X e t) (k:∀σ H Q,t' σ H Q->t σ H Q):SW X e t':=⟨fun whole pins s σ H Q I q=>h.h whole pins s σ H Q I (k σ H Q q)⟩
theorem SIfs.imp {t t':TT}(h:SIfs X es t) (k:∀σ H Q,t' σ H Q->t σ H Q):SIfs X es t':=⟨fun pins s σ H Q I q=>h.h pins s σ H Q I (k σ H Q q)⟩
theorem SA.imp {t t':TA}(h:SA X es t) (k:∀σ H Q,t' σ H Q->t σ H Q):SA X es t':=⟨fun pos pins s σ H Q I q=>h.h pos pins s σ H Q I (k σ H Q q)⟩
theorem SS.imp {st:Stmt}{t t':TS}(h:SS X st t) (k:∀D σ H,t' D σ H->t D σ H):SS X st t':=⟨fun pins s σ H D I q=>h.h pins s σ H D I (k D σ H q)⟩
theorem SSs.imp {st:List Stmt}{t t':TS}(h:SSs X st t) (k:∀D σ H,t' D σ H->t D σ H):SSs X st t':=⟨fun pins s σ H D I q=>h.h pins s σ H D I (k D σ H q)⟩
theorem SG.imp {t t':TG}(h:SG X e t) (k:∀v σ H Q,t' v σ H Q->t v σ H Q):SG X e t':=⟨fun pins s σ H v u Q I r q=>h.h pins s σ H v u Q I r (k v σ H Q q)⟩
theorem SGs.imp {t t':TGs}(h:SGs X es t) (k:∀v σ H Q,t' v σ H Q->t v σ H Q):SGs X es t':=⟨fun pins s σ H v u Q I r q=>h.h pins s σ H v u Q I r (k v σ H Q q)⟩
theorem SI.imp {tg:Expr}{t t':TI}(h:SI X tg e t) (k:∀σ H R,t' σ H R->t σ H R):SI X tg e t':=⟨fun pins s σ H R I q=>h.h pins s σ H R I (k σ H R q)⟩
theorem ObD.rep {K:PySem.W.Frag}{J:Js}{S:Store}{H:Hp}{d:D}{o:HO}{p:Addr}(ha:AbS K J S H) (n:H p=none) (r:ObD K J H d o):Rep K J (upd H p o) d (.ref p):=by
 have r2:=r.grow (Grow.push (o:=o) n)
 have hp:=ha.out n
 cases d with
 | lst ds=>obtain⟨xs,rfl,rl⟩:=r2;exact⟨p,xs,rfl,⟨zAo,hp⟩,rl⟩
 | dct _ ks vs=>obtain⟨xs,t,rl⟩:=r2;exact⟨p,o,xs,rfl,hp,zAo,t,rl⟩
 | _=>exact False.elim r2
theorem zEd (h:DF X K E e m):DE X K E e m:=⟨h.h.imp fun σ H Q ⟨env,S,J,ha,he,q⟩=>⟨env,S,J,ha,he,q.map fun d S' J' H' _ h1 g k p o n r=>
 k J' (upd H' p o) (h1.push n) (g.trans (.push n)) (.ref p) (r.rep h1 n)⟩⟩
theorem zOw (h:DF X K E e m):DE X K E e (DS.eNew m):=⟨h.h.imp fun σ H Q ⟨env,S,J,ha,he,q⟩=>⟨env,S,J,ha,he,q.bind.map fun d S' J' H' _ h1 g k p o n r=>
 k J' H' h1 g (J'++[p]) (upd H' p o) (h1.name n r) (.name n) (.ref p) ⟨p,by rw[<- h1.len,List.getElem?_append_right (Nat.le_refl _)];simp,rfl⟩⟩⟩
theorem zA0 (i:Nat) {x:Str}(hN:X.N[i]?=some x:=by rfl) (hv:Vis X.env.scope x:=by first|exact Or.inl rfl|exact Or.inr (Or.inl rfl)|exact Or.inr (Or.inr rfl)) (hd:(x == ("__debug__":Str))=false:=by decide)
  (hcd:(x == ("__classdict__":Str))=false:=by decide):DE X K E (.Name x pos) (DS.eVar i):=⟨(pv' i hN hv hd hcd).imp fun σ H Q ⟨env,S,J,ha,he,q⟩=>by
 unfold DS.eVar at q
 cases e1:env[i]? with
 | none=>rw[e1]at q;exact False.elim q
 | some o=>
  cases o with
  | none=>rw[e1]at q;exact False.elim q
  | some d=>
   rw[e1]at q
   obtain⟨v,ev,r⟩:=he.get i d e1
   exact⟨v,ev,q J H ha .refl v r⟩⟩
theorem de_c {v:V}{d:D}(h:SE X e (tC v)) (r:∀J H,Rep K J H d v):DE X K E e (DS.eC d):=⟨h.imp fun σ H Q ⟨env,S,J,ha,he,q⟩=>q J H ha .refl v (r J H)⟩
theorem zA3 {i:Int}{j:_}:DE X K E (.Constant (.int i) j pos) (DS.eC (.int i)):=de_c zUq fun _ _=>rfl
theorem zJp {i:Bool}{j:_}:DE X K E (.Constant (.bool i) j pos) (DS.eC (.bl i)):=de_c zXy fun _ _=>rfl
theorem zDb {i:Str}{j:_}:DE X K E (.Constant (.str i) j pos) (DS.eC (.str i)):=de_c zNd fun _ _=>rfl
theorem zZz {x:Str}{T:String}{u:Value}(hg:Gl X x) (hm:X.mg x=none) (hv:bootBuiltins x=some u) (r:RelV (.ty T) u) (hn:x≠"__name__":=by decide) (hd:(x == ("__debug__":Str))=false:=by decide):DE X K E (.Name x pos) (DS.eC (.ty T)):=de_c (zQo hg hm hv r hn hd) fun _ _=>rfl
theorem zK1 {r:R2}{g:Store->D->D->Option D}(hr:∀x y H Q,r2Of K g x y H Q->r x y H Q):∀σ H Q,tOf K E (DS.eOp g ma mb) σ H Q->tOp r (tOf K E ma) (tOf K E mb) σ H Q:=fun σ H Q ⟨env,S,J,ha,he,q⟩=>
 ⟨env,S,J,ha,he,q.bind.imp fun d1 S1 J1 H1 _ a1 g1 q1 x rx=>⟨env,S1,J1,a1,he.grow g1,q1.bind.imp fun d2 S2 J2 H2 _ a2 g2 q2 y ry=>by
  obtain⟨d,e,k⟩:=q2.lift
  exact hr _ _ _ _ ⟨J2,S2,d1,d2,d,a2,Rep.grow g2 _ _ rx,ry,e,fun v H' h1 h2 h3=>k J2 H' h1 h2 v h3⟩⟩⟩
theorem zAb {op:Operator}{g:Store->D->D->Option D}(ho:OpR X (binaryOp op) (r2Of K g)) (ha:DE X K E a ma) (hb:DE X K E b mb):DE X K E (.BinOp a op b pos) (DS.eOp g ma mb):=⟨(zXq ho ha.h hb.h).imp (zK1 fun _ _ _ _ h=>h)⟩
theorem zOx {op:CmpOp}{g:Store->D->D->Option D}(ho:OpR X (compareOp op) (r2Of K g)) (ha:DE X K E a ma) (hb:DE X K E b mb) (hm:behindInMarks op b=false):DE X K E (.Compare a [op] [b] pos) (DS.eOp g ma mb):=⟨(zQm ho ha.h hb.h hm).imp (zK1 fun _ _ _ _ h=>h)⟩
theorem zAc {g:Store->D->D->Option D}(hr:IxR X (r2Of K g)) (ha:DE X K E a ma) (hb:DE X K E b mb) (h:nsl b=true:=by rfl):DE X K E (.Subscript a b pos) (DS.eOp g ma mb):=⟨(qix' hr ha.h hb.h h).imp (zK1 fun _ _ _ _ h=>h)⟩
theorem zJn {op:UnaryOp}{g:Store->D->Option D}(ho:UnR X (unaryOp op) (r1Of K g)) (ha:DE X K E a ma):DE X K E (.UnaryOp op a pos) (DS.eUn g ma):=⟨(zXn ho ha.h).imp fun σ H Q ⟨env,S,J,h,he,q⟩=>
 ⟨env,S,J,h,he,q.bind.imp fun d1 S1 J1 H1 _ a1 g1 q1 x rx=>by
  obtain⟨d,e,k⟩:=q1.lift
  exact⟨J1,S1,d1,d,a1,rx,e,fun v H' h1 h2 h3=>k J1 H' h1 h2 v h3⟩⟩⟩
theorem zA4:DA X K E [] DS.aNil:=⟨pa_nil'.imp fun σ H Q ⟨env,S,J,ha,he,q⟩=>q J H ha .refl [] rfl,fun _ _ _ _ e=>by cases e;rfl⟩
theorem zA2 {am:DS.AM}(ha:DE X K E e m) (hr:DA X K E es am) (h:nst e=true:=by rfl):DA X K E (e::es) (DS.zA1 m am):=by
 refine⟨(qa' ha.h hr.h h).imp fun σ H Q ⟨env,S,J,h,he,q⟩=>⟨env,S,J,h,he,q.bind.imp fun d1 S1 J1 H1 _ a1 g1 q1 x rx=>⟨env,S1,J1,a1,he.grow g1,q1.bind.imp fun d2 S2 J2 H2 _ a2 g2 q2 ys ry=>
  q2 J2 H2 a2 .refl (x::ys) ⟨x,ys,rfl,Rep.grow g2 _ _ rx,ry⟩⟩⟩,fun env S ds S' e1=>?_⟩
 unfold DS.zA1 at e1
 cases e2:m env S with
 | ok d S1=>
  rw[e2,Rs.bind_ok]at e1
  cases e3:am env S1 with
  | ok dr S2=>rw[e3,Rs.bind_ok]at e1;cases e1;simp[hr.len _ _ _ _ e3]
  | _=>rw[e3]at e1;cases e1
 | _=>rw[e2]at e1;cases e1
theorem z1000 {n:Nat}(h:n<=1000):n<=sizeLine:=Nat.le_trans h (by decide)
theorem zB1 {am:DS.AM}{k:Nat}(h:DA X K E es am) (hz:es.length<=1000:=by decide):DE X K E (.Tuple es k pos) (DS.eTup am):=⟨(zUm h.h).imp fun σ H Q ⟨env,S,J,ha,he,q⟩=>
 ⟨env,S,J,ha,he,q.bind.imp fun ds S1 J1 H1 e1 a1 g1 q1 xs rx=>⟨by rw[<- rx.length,h.len _ _ _ _ e1];exact z1000 hz,fun p n=>
  q1 J1 (upd H1 p (.tup xs)) (a1.push n) (.push n) (.ref p) ⟨p,xs,rfl,⟨zAo,a1.out n⟩,RepL.grow (.push n) _ _ rx⟩⟩⟩⟩
theorem zL2 {am:DS.AM}(h:DA X K E es am) (hz:es.length<=1000:=by decide):DF X K E (.List es pos) (DS.eLst am):=⟨(zUp h.h).imp fun σ H Q ⟨env,S,J,ha,he,q⟩=>
 ⟨env,S,J,ha,he,q.bind.imp fun ds S1 J1 H1 e1 a1 g1 q1 xs rx=>⟨by rw[<- rx.length,h.len _ _ _ _ e1];exact z1000 hz,fun p n=>
  q1 J1 H1 a1 .refl p (.lst xs) n ⟨xs,rfl,rx⟩⟩⟩⟩
theorem zZ6 {r:List V->Hp->VK->Prop}{am:DS.AM}{g:Store->List D->Option D}(hr:∀xs H Q,cOf K g xs H Q->r xs H Q):∀σ H Q,tOf K E (DS.eCB g am) σ H Q->tCB r (aOf K E am) σ H Q:=fun σ H Q ⟨env,S,J,ha,he,q⟩=>
 ⟨env,S,J,ha,he,q.bind.imp fun ds S1 J1 H1 _ a1 g1 q1 xs rx=>by
  obtain⟨d,e,k⟩:=q1.lift
  exact hr _ _ _ ⟨J1,S1,ds,d,a1,rx,e,fun v H' h1 h2 h3=>k J1 H' h1 h2 v h3⟩⟩
theorem zZ5 {r:List V->Hp->VK->Prop}{am:DS.AM}{g:Store->List D->Option D}(hr:∀xs H Q,cOfF K g xs H Q->r xs H Q):∀σ H Q,tOfF K E (DS.eCB g am) σ H Q->tCB r (aOf K E am) σ H Q:=fun σ H Q ⟨env,S,J,ha,he,q⟩=>
 ⟨env,S,J,ha,he,q.bind.imp fun ds S1 J1 H1 _ a1 g1 q1 xs rx=>by
  obtain⟨d,e,k⟩:=q1.lift
  exact hr _ _ _ ⟨J1,S1,ds,d,a1,rx,e,fun p o H' h1 h2 h3=>k J1 H' h1 h2 p o h3⟩⟩
theorem zE1 {x:Str}{id:String}{am:DS.AM}{g:Store->List D->Option D}(hc:zBk X (.builtin id) (cOf K g)) (hg:Gl X x) (hm:X.mg x=none) (hv:bootBuiltins x=some (.builtin id)) (ha:DA X K E (e::es) am) (hn:x≠"__name__":=by decide) (hdb:(x == ("__debug__":Str))=false:=by decide)
  (h:(e::es).all nst=true:=by rfl):DE X K E (.Call (.Name x p) (e::es) [] pos) (DS.eCB g am):=⟨(zU4 hc hg hm hv ha.h hn hdb h).imp (zZ6 fun _ _ _ h=>h)⟩
theorem zW6 {x:Str}{T:String}{am:DS.AM}{g:Store->List D->Option D}(hc:zBk X (.type T) (cOf K g)) (hg:Gl X x) (hm:X.mg x=none) (hv:bootBuiltins x=some (.type T)) (ha:DA X K E (e::es) am) (hn:x≠"__name__":=by decide) (hdb:(x == ("__debug__":Str))=false:=by decide)
  (h:(e::es).all nst=true:=by rfl):DE X K E (.Call (.Name x p) (e::es) [] pos) (DS.eCB g am):=⟨(zN2 hc hg hm hv ha.h hn hdb h).imp (zZ6 fun _ _ _ h=>h)⟩
theorem zZy {x:Str}{T:String}{am:DS.AM}{g:Store->List D->Option D}(hc:zBk X (.type T) (cOfF K g)) (hg:Gl X x) (hm:X.mg x=none) (hv:bootBuiltins x=some (.type T)) (ha:DA X K E (e::es) am) (hn:x≠"__name__":=by decide) (hdb:(x == ("__debug__":Str))=false:=by decide)
  (h:(e::es).all nst=true:=by rfl):DF X K E (.Call (.Name x p) (e::es) [] pos) (DS.eCB g am):=⟨(zN2 hc hg hm hv ha.h hn hdb h).imp (zZ5 fun _ _ _ h=>h)⟩
theorem zAa {x:Str}{k:Nat}{ps:List Str}{F:DS.Fn}{am:DS.AM}(C:Cal X.prog X.w X.K X.mg X.base x k ps (spOf K E F)) (hr:Room k X.A) (hg:Gl X x) (ha:DA X K E (e::es) am) (hdb:(x == ("__debug__":Str))=false:=by decide)
  (h:(e::es).all nst=true:=by rfl):DE X K E (.Call (.Name x p) (e::es) [] pos) (DS.zA9 F am):=⟨(qcal' C hr hg ha.h hdb h).imp fun σ H Q ⟨env,S,J,h,he,q⟩=>
 ⟨env,S,J,h,he,q.bind.imp fun ds S1 J1 H1 _ a1 g1 q1 xs rx=>by
  show spOf K E F (xs++[]) H1 Q E0
  rw[List.append_nil]
  exact⟨J1,S1,ds,a1,rx,q1⟩⟩⟩
theorem zWt {J:Js}{S:Store}{H:Hp}{d:D}{v:V}{T:String}(ha:AbS K J S H) (r:Rep K J H d v) (hT:T="str"\/T="list"\/T="dict") (h:DS.tyD S d=some T):tyV K T v H:=by
 cases d with
 | str x=>obtain rfl:=r;cases h;exact rfl
 | lst ds=>obtain⟨a,xs,rfl,t,_⟩:=r;cases h;exact .inl ⟨rfl,xs,t.sq⟩
 | klst ds=>obtain⟨a,xs,rfl,t,_⟩:=r;cases h;exact .inl ⟨rfl,xs,t.sq⟩
 | dct _ ks vs=>
  obtain⟨a,o,xs,rfl,_,e,t,_⟩:=r;cases h
  refine .inr (.inr (.inl ⟨rfl,?_⟩))
  rcases t with⟨_,kvs,rfl,_⟩|⟨_,kvs,rfl,_⟩
  ·exact .inl ⟨kvs,e⟩
  ·exact .inr ⟨kvs,e⟩
 | ref n=>
  obtain⟨a,ea,rfl⟩:=r
  obtain⟨c,ec,o,eo,rc⟩:=ha.at ea
  have el:DS.look S (.ref n)=some c:=ec
  unfold DS.tyD at h
  rw[el]at h
  cases c with
  | lst ds=>cases h;obtain⟨xs,rfl,_⟩:=rc;exact .inl ⟨rfl,xs,.inl (.inl eo)⟩
  | dct _ ks vs=>
   cases h
   obtain⟨xs,t,_⟩:=rc
   refine .inr (.inr (.inl ⟨rfl,?_⟩))
   rcases t with⟨_,kvs,rfl,_⟩|⟨_,kvs,rfl,_⟩
   ·exact .inl ⟨kvs,eo⟩
   ·exact .inr ⟨kvs,eo⟩
  | _=>exact False.elim rc
 | _=>first|(cases h;rcases hT with z|z|z <;> exact absurd z (by decide))|cases h
theorem zY9 {T:String}{r:V->List V->Hp->VK->Prop}{am:DS.AM}{g:Store->D->List D->Option (D × Store)}(hT:T="str"\/T="list"\/T="dict") (hr:∀x xs H Q,mOf K g x xs H Q->r x xs H Q):∀σ H Q,tOf K E (DS.eMt T g ma am) σ H Q->tBM K T r (tOf K E ma) (aOf K E am) σ H Q:=fun σ H Q ⟨env,S,J,ha,he,q⟩=>
 ⟨env,S,J,ha,he,q.bind.imp fun d1 S1 J1 H1 _ a1 g1 q1 x rx=>by
  by_cases hty:DS.tyD S1 d1=some T
  ·rw[if_pos hty]at q1
   refine⟨zWt a1 rx hT hty,env,S1,J1,a1,he.grow g1,q1.bind.imp fun ds S2 J2 H2 _ a2 g2 q2 xs rs=>?_⟩
   cases e:g S2 d1 ds with
   | none=>rw[e]at q2;exact False.elim q2
   | some w=>
    rw[e]at q2
    exact hr _ _ _ _ ⟨J2,S2,d1,ds,w.1,w.2,a2,Rep.grow g2 _ _ rx,rs,e,fun v H' h1 h2 h3=>q2 J2 H' h1 h2 v h3⟩
  ·rw[if_neg hty]at q1;exact False.elim q1⟩
theorem zZ2 {T name id:_}{o:Expr}{apos cpos:Pos}{g:Store->D->List D->Option (D × Store)}{mo:DS.EM}{am:DS.AM}(pa:PlainAttrs T) (slot:Slot T name id) (hty:typeOf (.builtin id)=pure (.type "method_descriptor")) (hm:MtR X id (mOf K g))
  (hT:T="str"\/T="list"\/T="dict") (ho:DE X K E o mo) (ha:DA X K E (e::es) am) (h:nba o=true:=by rfl) (hs:(e::es).all nst=true:=by rfl)
  (hlen:decide ((e::es).length+0+0<30)=true:=by rfl) (hline:(apos.endLine == cpos.line)=true:=by rfl) (hK:X.K=K:=by rfl):DE X K E (.Call (.Attribute o name apos) (e::es) [] cpos) (DS.eMt T g mo am):=by
 subst hK
 exact⟨(zXx pa slot hty hm ho.h ha.h h hs hlen hline).imp (zY9 hT fun _ _ _ _ h=>h)⟩
theorem zT9 {T name id:_}{o:Expr}{apos cpos:Pos}{g:Store->D->List D->Option (D × Store)}{mo:DS.EM}(pa:PlainAttrs T) (slot:Slot T name id) (hty:typeOf (.builtin id)=pure (.type "method_descriptor")) (hm:MtR X id (mOf K g))
  (hT:T="str"\/T="list"\/T="dict") (ho:DE X K E o mo) (h:nba o=true:=by rfl) (hline:(apos.endLine == cpos.line)=true:=by rfl) (hK:X.K=K:=by rfl):DE X K E (.Call (.Attribute o name apos) [] [] cpos) (DS.eMt T g mo DS.aNil):=by
 subst hK
 refine⟨(qbm0' pa slot hty hm ho.h h hline).imp fun σ H Q h=>?_⟩
 obtain⟨env,S,J,ha,he,q⟩:=zY9 hT (fun _ _ _ _ h=>h) σ H Q h
 refine⟨env,S,J,ha,he,q.imp fun d1 S1 J1 H1 _ a1 g1 q1 x rx=>?_⟩
 obtain⟨ht,env',S',J',ha',he',q'⟩:=q1 x rx
 exact⟨ht,q' J' H1 ha' .refl [] rfl⟩
def poOf (K:PySem.W.Frag) (E:XE) (m:DS.Env->Store->Rs (Option Int)):TO:=fun σ H Q=>∃env S J,AbS K J S H/\RepE K J H env σ/\Post K E J H (m env S) (fun oi _ _ H'=>Q oi H')
structure DO (X:Cx) (K:PySem.W.Frag) (E:XE) (e:Option Expr) (m:DS.Env->Store->Rs (Option Int)):Prop where h:SO X e (poOf K E m)
theorem SO.imp {o:Option Expr}{t t':TO}(h:SO X o t) (k:∀σ H Q,t' σ H Q->t σ H Q):SO X o t':=⟨fun pins s σ H Q I q=>h.h pins s σ H Q I (k σ H Q q)⟩
theorem zJl:DO X K E none DS.pNo:=⟨po_none'.imp fun σ H Q ⟨env,S,J,ha,he,q⟩=>q J H ha .refl⟩
theorem zFl (h:DE X K E e m):DO X K E (some e) (DS.pYes m):=⟨(zQa h.h).imp fun σ H Q ⟨env,S,J,ha,he,q⟩=>⟨env,S,J,ha,he,q.bind.imp fun d S1 J1 H1 _ a1 g1 q1 x rx=>by
 obtain⟨oi,e,k⟩:=q1.lift
 cases d with
 | int i=>cases e;obtain rfl:=rx;exact⟨i,rfl,k J1 H1 a1 .refl⟩
 | _=>cases e⟩⟩
def slOf (K:PySem.W.Frag) (g:Store->D->Option Int->Option Int->Option D):V->Option Int->Option Int->Hp->VK->Prop:=fun x lo hi H Q=>∃J S d1 d,AbS K J S H/\Rep K J H d1 x/\g S d1 lo hi=some d/\∀v H',AbS K J S H'->Grow J H J H'->Rep K J H' d v->Q v H'
theorem zJo {g:Store->D->Option Int->Option Int->Option D}{lo hi:Option Expr}{ml mh:DS.Env->Store->Rs (Option Int)}{p2:Pos}(hr:SlR X (slOf K g)) (he:DE X K E e m) (hl:DO X K E lo ml) (hu:DO X K E hi mh):DE X K E (.Subscript e (.Slice lo hi none p2) pos) (DS.eSl g m ml mh):=
 ⟨(zNe hr he.h hl.h hu.h).imp fun σ H Q ⟨env,S,J,ha,he,q⟩=>⟨env,S,J,ha,he,q.bind.imp fun d S1 J1 H1 _ a1 g1 q1 x rx=>⟨env,S1,J1,a1,he.grow g1,q1.bind.imp fun l S2 J2 H2 _ a2 g2 q2=>
  ⟨env,S2,J2,a2,he.grow (g1.trans g2),q2.bind.imp fun h S3 J3 H3 _ a3 g3 q3=>by
   obtain⟨r,er,k⟩:=q3.lift
   exact⟨J3,S3,d,r,a3,Rep.grow (g2.trans g3) _ _ rx,er,fun v H' h1 h2 h3=>k J3 H' h1 h2 v h3⟩⟩⟩⟩⟩
theorem zTc {J:Js}{H:Hp}{d:D}{x:V}{k:Bool}(e:DS.asB d=some k) (r:Rep K J H d x):x=.bl k:=by
 cases d with
 | bl i=>cases e;exact r
 | _=>cases e
theorem zZc:∀σ H Q,ttOf K E (DS.tB m) σ H Q->tOf K E m σ H (fun x H'=>∃k,x=.bl k/\Q k H'):=fun σ H Q ⟨env,S,J,ha,he,q⟩=>⟨env,S,J,ha,he,q.bind.imp fun d S1 J1 H1 _ a1 g1 q1 x rx=>by
 obtain⟨k,e,z⟩:=q1.lift
 exact⟨k,zTc e rx,z J1 H1 a1 .refl⟩⟩
theorem zBj {op:CmpOp}{g:Store->D->D->Option D}(ho:OpR X (compareOp op) (r2Of K g)) (ha:DE X K E a ma) (hb:DE X K E b mb) (hm:behindInMarks op b=false):DT X K E (.Compare a [op] [b] pos) (DS.tB (DS.eOp g ma mb)):=
 ⟨(zQ3 ho ha.h hb.h hm).imp fun σ H Q h=>zK1 (K:=K) (E:=E) (fun _ _ _ _ h=>h) σ H _ (zZc σ H Q h)⟩
theorem zGk (ha:DT X K E a mt):DT X K E (.UnaryOp .Not a pos) (DS.tNot mt):=⟨(zU9 ha.h).imp fun σ H Q ⟨env,S,J,ha,he,q⟩=>⟨env,S,J,ha,he,q.bind.imp fun k S1 J1 H1 _ a1 g1 q1=>q1 J1 H1 a1 .refl⟩⟩
theorem zOq (ha:DT X K E a mt):DW X K E (.BoolOp .And [a] pos) mt:=⟨zPz ha.h⟩
theorem zKy (ha:DT X K E a mt):DW X K E (.BoolOp .Or [a] pos) mt:=⟨zU5 ha.h⟩
theorem zT7 (ha:DT X K E a mt) (hb:DW X K E (.BoolOp .And (b::es) pos) mu):DW X K E (.BoolOp .And (a::b::es) pos) (DS.tAnd mt mu):=⟨(zU7 ha.h hb.h).imp fun σ H Q ⟨env,S,J,ha,he,q⟩=>⟨env,S,J,ha,he,q.bind.imp fun k S1 J1 H1 _ a1 g1 q1=>by
 cases k with
 | true=>exact⟨env,S1,J1,a1,he.grow g1,q1⟩
 | false=>exact q1 J1 H1 a1 .refl⟩⟩
theorem zRr (ha:DT X K E a mt) (hb:DW X K E (.BoolOp .Or (b::es) pos) mu):DW X K E (.BoolOp .Or (a::b::es) pos) (DS.tOr mt mu):=⟨(zXa ha.h hb.h).imp fun σ H Q ⟨env,S,J,ha,he,q⟩=>⟨env,S,J,ha,he,q.bind.imp fun k S1 J1 H1 _ a1 g1 q1=>by
 cases k with
 | true=>exact q1 J1 H1 a1 .refl
 | false=>exact⟨env,S1,J1,a1,he.grow g1,q1⟩⟩⟩
theorem dt_w (h:DW X K E e mt):DT X K E e mt:=⟨zX8 h.h⟩
theorem zZ0 {op:BoolOp}(ha:DE X K E a ma):DE X K E (.BoolOp op [a] pos) ma:=⟨zUn ha.h⟩
theorem zZ1 (ha:DE X K E a ma):DE X K E (.UnaryOp .Not a pos) (DS.eNot ma):=⟨(zUo ha.h).imp fun σ H Q ⟨env,S,J,ha,he,q⟩=>⟨env,S,J,ha,he,q.bind.imp fun d S1 J1 H1 _ a1 g1 q1 x rx=>by
 obtain⟨k,e,z⟩:=q1.bind.lift
 exact⟨k,zTc e rx,z J1 H1 a1 .refl J1 H1 a1 .refl _ rfl⟩⟩⟩
theorem yA0 (hc:DT X K E c mt) (ha:DE X K E a ma) (hb:DE X K E b mb):DE X K E (.IfExp c a b pos) (DS.eIf mt ma mb):=⟨(zNf hc.h ha.h hb.h).imp fun σ H Q ⟨env,S,J,ha,he,q⟩=>⟨env,S,J,ha,he,q.bind.imp fun k S1 J1 H1 _ a1 g1 q1=>by
 cases k with
 | true=>exact⟨env,S1,J1,a1,he.grow g1,q1⟩
 | false=>exact⟨env,S1,J1,a1,he.grow g1,q1⟩⟩⟩
theorem zCg:DIf X K E [] DS.tYes:=⟨pifs_nil'.imp fun σ H Q ⟨env,S,J,ha,he,q⟩=>q J H ha .refl⟩
theorem zW2 (h:DT X K E c mt):DIf X K E [c] mt:=⟨zN9 h.h⟩
theorem zBp {J:Js}{H:Hp}{ds:List D}{xs:List V}(r:RepL K J H ds xs):decide (ds≠[])=!xs.isEmpty:=by
 cases ds with
 | nil=>cases r;simp
 | cons d ds=>obtain⟨x,t,rfl,_⟩:=r;simp
theorem zMg {J:Js}{S:Store}{H:Hp}{d:D}{v:V}{k:Bool}(ha:AbS K J S H) (r:Rep K J H d v) (h:DS.truth S d=some k):TruV K v H k:=by
 cases d with
 | non=>obtain rfl:=r;cases h;exact rfl
 | bl b=>obtain rfl:=r;cases h;exact rfl
 | int i=>
  obtain rfl:=r
  have h:=Option.some.inj h
  subst h
  show decide (i≠0)=(i != 0)
  by_cases z:i=0 <;> simp[z]
 | str x=>
  obtain rfl:=r
  have h:(if x.length<=DS.most then some (decide (x.length≠0))else none)=some k:=h
  by_cases z:x.length<=DS.most
  ·rw[if_pos z]at h
   have h:=Option.some.inj h
   subst h
   refine⟨z,?_⟩
   by_cases z:x.length=0 <;> simp[z]
  ·rw[if_neg z]at h;cases h
 | tup ds=>obtain⟨a,xs,rfl,t,rl⟩:=r;cases h;exact .inr (.inl ⟨xs,t.sq,zBp rl⟩)
 | ktup ds=>obtain⟨a,xs,rfl,t,rl⟩:=r;cases h;exact .inr (.inl ⟨xs,t.sq,zBp rl⟩)
 | klst ds=>obtain⟨a,xs,rfl,t,rl⟩:=r;cases h;exact .inl ⟨xs,t.sq,zBp rl⟩
 | lst ds=>obtain⟨a,xs,rfl,t,rl⟩:=r;cases h;exact .inl ⟨xs,t.sq,zBp rl⟩
 | ref n=>
  obtain⟨a,ea,rfl⟩:=r
  obtain⟨c,ec,o,eo,rc⟩:=ha.at ea
  have el:DS.look S (.ref n)=some c:=ec
  unfold DS.truth at h
  rw[el]at h
  cases c with
  | lst ds=>cases h;obtain⟨xs,rfl,rl⟩:=rc;exact .inl ⟨xs,.inl (.inl eo),zBp rl⟩
  | dct _ ks vs=>cases h
  | _=>exact False.elim rc
 | _=>cases h
theorem zDa (ha:DE X K E e m) (h:ntt e=true:=by rfl) (hK:X.K=K:=by rfl):DT X K E e (DS.tTru m):=by
 subst hK
 exact⟨(qtruth' ha.h h).imp fun σ H Q ⟨env,S,J,ha,he,q⟩=>⟨env,S,J,ha,he,q.bind.imp fun d S1 J1 H1 _ a1 g1 q1 x rx=>by
  obtain⟨k,e,z⟩:=q1.lift
  exact⟨k,zMg a1 rx e,z J1 H1 a1 .refl⟩⟩⟩
theorem RepE.set {J:Js}{H:Hp}{env:DS.Env}{σ:St}{d:D}{v:V}{i:Nat}(h:RepE K J H env σ) (r:Rep K J H d v):RepE K J H (env.set i (some d)) (σ.set i (some v)):=by
 refine⟨by simp[h.len],fun j d' e=>?_⟩
 by_cases hj:i=j
 ·subst hj
  have hi:i<env.length:=by
   have:=(List.getElem?_eq_some_iff.mp e).1
   simpa using this
  rw[List.getElem?_set_self hi]at e
  cases e
  exact⟨v,List.getElem?_set_self (by rw[<- h.len];exact hi),r⟩
 ·rw[List.getElem?_set_ne hj]at e
  rw[List.getElem?_set_ne hj]
  exact h.get j d' e
theorem zAk {j:Nat}{x:Str}(hN:X.N.Nodup) (hi:X.N[j]?=some x) (hx:Loc X.env.scope x) (hf:X.fn x=true\/X.env.scope.names.lookup x=some .local:=by first|exact .inl rfl|exact .inr rfl|assumption):DG X K (.Name x pos) (DS.gName j):=
 ⟨(zQg hN hi hx hf).imp fun v σ H Q ⟨env,S,J,d,env',ha,he,r,e,k⟩=>by
  cases e
  exact k _ (he.set r)⟩
theorem zCh:DGs X K [] []:=⟨pgs_nil'.imp fun v σ H Q ⟨env,S,J,ds,env',ha,he,r,e,k⟩=>by
 cases ds with
 | nil=>cases e;cases r;exact⟨rfl,k _ he⟩
 | cons d ds=>cases e⟩
theorem zAp {tg:Expr}{ts:List Expr}{g:DS.GM}{gs:List DS.GM}(h1:DG X K tg g) (h2:DGs X K ts gs) (h:nst tg=true:=by rfl):DGs X K (tg::ts) (g::gs):=⟨(qgs' h1.h h2.h h).imp fun v σ H Q ⟨env,S,J,ds,env',ha,he,r,e,k⟩=>by
 cases ds with
 | nil=>cases e
 | cons d ds=>
  obtain⟨x,xs,rfl,rx,rl⟩:=r
  unfold DS.gAll at e
  cases e1:g S d env with
  | none=>rw[e1]at e;cases e
  | some env1=>
   rw[e1]at e
   exact⟨x,xs,rfl,env,S,J,d,env1,ha,he,rx,e1,fun σ' he'=>⟨env1,S,J,ds,env',ha,he',rl,e,k⟩⟩⟩
theorem zD3:∀{gs:List DS.GM}{S:Store}{ds:List D}{env env':DS.Env},DS.gAll gs S ds env=some env'->ds.length=gs.length
 | [],_,[],_,_,_=>rfl
 | [],_,_::_,_,_,e=>by cases e
 | _::_,_,[],_,_,e=>by cases e
 | g::gs,S,d::ds,env,env',e=>by
  unfold DS.gAll at e
  cases e1:g S d env with
  | none=>rw[e1]at e;cases e
  | some env1=>rw[e1]at e;simp[zD3 e]
theorem SG.or {t u:TG}(h:SG X e t) (h':SG X e u):SG X e (fun v σ H Q=>t v σ H Q\/u v σ H Q):=⟨fun pins s σ H v w Q I r q=>by
 rcases q with q|q
 ·exact h.h pins s σ H v w Q I r q
 ·exact h'.h pins s σ H v w Q I r q⟩
theorem zE0 {ts:List Expr}{k:Nat}{gs:List DS.GM}(hc:X.calm=true) (h:DGs X K ts gs) (hn:ts.length=gs.length:=by rfl) (h1:ts.all nst=true:=by rfl) (hK:X.K=K:=by rfl):DG X K (.Tuple ts k pos) (DS.gTup gs):=by
 subst hK
 refine⟨((qtup' (n:=gs.length) hc h.h hn h1).or (qunl' (n:=gs.length) hc h.h hn h1)).imp fun v σ H Q ⟨env,S,J,d,env',ha,he,r,e,k⟩=>?_⟩
 unfold DS.gTup DS.items DS.look at e
 cases d with
 | tup ds=>obtain⟨a,xs,rfl,t,rl⟩:=r;exact .inl ⟨a,xs,rfl,t.sq,by rw[<- rl.length];exact zD3 e,env,S,J,ds,env',ha,he,rl,e,k⟩
 | klst ds=>obtain⟨a,xs,rfl,t,rl⟩:=r;exact .inr ⟨a,xs,rfl,t.sq,by rw[<- rl.length];exact zD3 e,env,S,J,ds,env',ha,he,rl,e,k⟩
 | ktup ds=>obtain⟨a,xs,rfl,t,rl⟩:=r;exact .inl ⟨a,xs,rfl,t.sq,by rw[<- rl.length];exact zD3 e,env,S,J,ds,env',ha,he,rl,e,k⟩
 | lst ds=>obtain⟨a,xs,rfl,t,rl⟩:=r;exact .inr ⟨a,xs,rfl,t.sq,by rw[<- rl.length];exact zD3 e,env,S,J,ds,env',ha,he,rl,e,k⟩
 | ref n=>
  obtain⟨a,ea,rfl⟩:=r
  obtain⟨c,ec,o,eo,rc⟩:=ha.at ea
  simp only[ec]at e
  cases c with
  | lst ds=>obtain⟨xs,rfl,rl⟩:=rc;exact .inr ⟨a,xs,rfl,.inl (.inl eo),by rw[<- rl.length];exact zD3 e,env,S,J,ds,env',ha,he,rl,e,k⟩
  | dct _ ks vs=>cases e
  | _=>exact False.elim rc
 | _=>cases e
variable {st:Stmt}{sts:List Stmt}{ms mu' mv:DS.SM}
theorem zBe:DSs X K E [] DS.zAz:=⟨pss_nil'.imp fun D σ H ⟨env,S,J,ha,he,q⟩=>q J H σ ha .refl he⟩
theorem zA8 (h:DS1 X K E st ms):DSs X K E [st] ms:=⟨zQ4 h.h⟩
theorem zA5 (h:DS1 X K E st ms) (k:DSs X K E sts mv):DSs X K E (st::sts) (DS.sSeq ms mv):=⟨(zN4 h.h k.h).imp fun D σ H ⟨env,S,J,ha,he,q⟩=>⟨env,S,J,ha,he,by
 unfold DS.sSeq at q
 cases e:ms env S with
 | nx e1 S1=>rw[e]at q;exact fun J' H' σ' h1 g1 h2=>⟨e1,S1,J',h1,h2,PostS.grow g1 q⟩
 | _=>rw[e]at q;exact q⟩⟩
theorem zAj {j:Nat}{x:Str}{pos':Pos}(hN:X.N.Nodup) (hi:X.N[j]?=some x) (hx:Loc X.env.scope x) (he:DE X K E e m) (hf:X.fn x=true\/X.env.scope.names.lookup x=some .local:=by first|exact .inl rfl|exact .inr rfl|assumption) (h:nco e=true:=by rfl):
  DS1 X K E (.Assign [.Name x pos'] e pos) (DS.sSet j m):=⟨(qset' hN hi hx he.h hf h).imp fun D σ H ⟨env,S,J,ha,he,q⟩=>⟨env,S,J,ha,he,q.then.imp fun d S1 J1 H1 _ a1 g1 q1 v rv=>q1 J1 H1 _ a1 .refl ((he.grow g1).set rv)⟩⟩
theorem zWq {g:DS.GM}:∀D σ H,tsOf K E (DS.sUnp g m) D σ H->tAsg (tOf K E m) (gOf K g) D σ H:=fun D σ H ⟨env,S,J,ha,he,q⟩=>⟨env,S,J,ha,he,q.then.imp fun d S1 J1 H1 _ a1 g1 q1 v rv=>by
 cases e1:g S1 d env with
 | none=>rw[e1]at q1;exact False.elim q1
 | some env'=>rw[e1]at q1;exact⟨env,S1,J1,d,env',a1,he.grow g1,rv,e1,fun σ' he'=>q1 J1 H1 σ' a1 .refl he'⟩⟩
theorem zOs {ts:List Expr}{k:Nat}{tp:Pos}{g:DS.GM}(he:DE X K E e m) (hg:DG X K (.Tuple ts k tp) g) (h1:ntu e=true:=by rfl):DS1 X K E (.Assign [.Tuple ts k tp] e pos) (DS.sUnp g m):=⟨(qasgt' he.h hg.h h1).imp zWq⟩
theorem zHn (he:DE X K E e m) (h:nco e=true:=by rfl):DS1 X K E (.Expr e pos) (DS.zG3 m):=⟨(qexpr' he.h h).imp fun D σ H ⟨env,S,J,ha,he,q⟩=>⟨env,S,J,ha,he,q.then.imp fun d S1 J1 H1 _ a1 g1 q1 v rv=>q1 J1 H1 σ a1 .refl (he.grow g1)⟩⟩
theorem zAf (he:DE X K E e m):DS1 X K E (.Return (some e) pos) (DS.sRet m):=⟨(zUe he.h).imp fun D σ H ⟨env,S,J,ha,he,q⟩=>⟨env,S,J,ha,he,q.then.imp fun d S1 J1 H1 _ a1 g1 q1 v rv=>q1 J1 H1 v a1 .refl rv⟩⟩
theorem zBt {ba bb:List Stmt}(hc:DT X K E c mt) (ha:DSs X K E ba ms) (hb:DSs X K E bb mv):DS1 X K E (.If c ba bb pos) (DS.sIf mt ms mv):=⟨(zXh hc.h ha.h hb.h).imp fun D σ H ⟨env,S,J,ha,he,q⟩=>⟨env,S,J,ha,he,q.then.imp fun k S1 J1 H1 _ a1 g1 q1=>by
 cases k with
 | true=>exact⟨env,S1,J1,a1,he.grow g1,q1⟩
 | false=>exact⟨env,S1,J1,a1,he.grow g1,q1⟩⟩⟩
theorem zEy {x y:Str}{px py pt pt2:Pos}{kt k2 i j:Nat}{am:DS.AM}(hc:X.calm=true) (hN:X.N.Nodup) (hi:X.N[i]?=some x) (hj:X.N[j]?=some y) (hij:i≠j)
  (hx:X.env.scope.names.lookup x=some .local) (hy:X.env.scope.names.lookup y=some .local) (ha:DA X K E [a,b] am)
  (hw:swappedStores [.Tuple [.Name x px,.Name y py] kt pt] (.Tuple [a,b] k2 pt2) X.env=pure (some [x,y])):
  DS1 X K E (.Assign [.Tuple [.Name x px,.Name y py] kt pt] (.Tuple [a,b] k2 pt2) pos) (DS.sPar [i,j] am):=⟨(qpar' hc hN hi hj hij hx hy ha.h hw).imp fun D σ H ⟨env,S,J,h,he,q⟩=>⟨env,S,J,h,he,q.then.imp fun ds S1 J1 H1 e1 a1 g1 q1 vs rv=>by
 have hl:=ha.len _ _ _ _ e1
 match ds,hl with
 | [d1,d2],_=>
  obtain⟨v1,r1,rfl,rv1,v2,r2,rfl,rv2,rfl⟩:=rv
  exact⟨v1,v2,rfl,q1 J1 H1 _ a1 .refl (((he.grow g1).set rv1).set rv2)⟩⟩⟩
theorem zFk {body:List Stmt}(hp:PassesOwn (model X.prog X.w) X.A X.env X.xe) (hc:DT X K E c mt) (hb:DSs X K E body ms):DS1 X K E (.While c body [] pos) (DS.zC6 mt ms):=⟨(zN5 hp hc.h hb.h).imp fun D σ H ⟨env,S,J,ha,he,q⟩=>by
 unfold DS.zC6 at q
 by_cases hx:∃n,DS.zAu mt ms n env S≠.bad
 ·rw[dif_pos hx]at q
  generalize Classical.choose hx=n at q
  refine⟨fun n σ H=>∃env S J,AbS K J S H/\RepE K J H env σ/\PostS K E J H (DS.zAu mt ms n env S) D,⟨n,env,S,J,ha,he,q⟩,?_⟩
  rintro m σ H ⟨env,S,J,ha,he,q⟩
  cases m with
  | zero=>exact False.elim q
  | succ m=>
   refine⟨env,S,J,ha,he,(PostS.then (r:=mt env S) (by unfold DS.zAu at q;exact q)).imp fun k S1 J1 H1 _ a1 g1 q1=>?_⟩
   cases k with
   | false=>exact q1 J1 H1 σ a1 .refl (he.grow g1)
   | true=>
    rw[if_pos rfl]at q1 ⊢
    refine⟨fun σ H=>∃env S J,AbS K J S H/\RepE K J H env σ/\PostS K E J H (DS.zAu mt ms m env S) D,fun σ' H' w=>⟨m,Nat.lt_succ_self m,w⟩,env,S1,J1,a1,he.grow g1,?_⟩
    cases e:ms env S1 with
    | nx e1 S2=>rw[e]at q1;exact fun J' H' σ' h1 g2 h2=>⟨e1,S2,J',h1,h2,PostS.grow g2 q1⟩
    | ct e1 S2=>rw[e]at q1;exact fun J' H' σ' h1 g2 h2=>⟨e1,S2,J',h1,h2,PostS.grow g2 q1⟩
    | _=>rw[e]at q1;exact q1
 ·rw[dif_neg hx]at q;exact False.elim q⟩
theorem zKz {α:Type}{l:List α}{i:Nat}(h:i<l.length):l.drop i=l[i]::l.drop (i+1):=List.drop_eq_getElem_cons h
theorem zDg {tg iter:Expr}{body:List Stmt}{im:DS.IM}{g:DS.GM}(hp:PassesOwn (model X.prog X.w) X.A X.env X.xe) (hc:X.calm=true) (hi:DI X K E tg iter im) (hg:DG X K tg g) (hb:DSs X K E body ms) (h:nse iter=true:=by rfl):
  DS1 X K E (.For tg iter body [] pos) (DS.sFor im g ms):=⟨(qfor' hp hc hi.h hg.h hb.h h).imp fun D σ H ⟨env,S,J,ha,he,q⟩=>⟨env,S,J,ha,he,q.then.imp fun w S1 J1 H1 _ a1 g1 q1 I ok=>by
 refine⟨fun i m σ H=>m+i=w.its.length/\∃env S J,AbS K J S H/\Grow J1 H1 J H/\RepE K J H env σ/\PostS K E J H (DS.forL w.gd g ms (w.its.drop i) env S) D,⟨w.its.length,rfl,env,S1,J1,a1,.refl,he.grow g1,q1⟩,?_⟩
 rintro i m σ H ⟨hm,env,S,J,ha,gr,he,q⟩
 by_cases hi:i<w.its.length
 ·rw[zKz hi]at q
  unfold DS.forL at q
  by_cases gd:DS.gOk S w.gd
  ·rw[if_pos gd]at q
   refine .inr ⟨ok.go i H J S ha gr gd hi,fun σ H=>(m-1)+(i+1)=w.its.length/\∃env S J,AbS K J S H/\Grow J1 H1 J H/\RepE K J H env σ/\PostS K E J H (DS.forL w.gd g ms (w.its.drop (i+1)) env S) D,fun σ' H' wq=>⟨m-1,by first|assumption|lia,wq⟩,fun x H' y=>?_⟩
   obtain⟨a2,g2,rx⟩:=ok.yld i H J S x H' ha gr gd y _ (List.getElem?_eq_getElem hi)
   cases eg:g S w.its[i] env with
   | none=>rw[eg]at q;exact False.elim q
   | some env'=>
    rw[eg]at q
    refine⟨env,S,J,w.its[i],env',a2,he.grow g2,rx,eg,fun σ2 he2=>⟨env',S,J,a2,he2,?_⟩⟩
    simp only at q
    cases e:ms env' S with
    | nx e1 S2=>rw[e]at q;exact fun J' H' σ' h1 g3 h2=>⟨by first|assumption|lia,e1,S2,J',h1,gr.trans (g2.trans g3),h2,PostS.grow (g2.trans g3) q⟩
    | ct e1 S2=>rw[e]at q;exact fun J' H' σ' h1 g3 h2=>⟨by first|assumption|lia,e1,S2,J',h1,gr.trans (g2.trans g3),h2,PostS.grow (g2.trans g3) q⟩
    | bk e1 S2=>rw[e]at q;exact fun J' H' σ' h1 g3 h2=>q J' H' σ' h1 (g2.trans g3) h2
    | rt e1 S2=>rw[e]at q;exact fun J' H' σ' h1 g3 h2=>q J' H' σ' h1 (g2.trans g3) h2
    | ex e1 S2=>rw[e]at q;exact fun J' H' h1 g3=>q J' H' h1 (g2.trans g3)
    | bad=>rw[e]at q;exact q
  ·rw[if_neg gd]at q;exact False.elim q
 ·have e0:w.its.drop i=[]:=List.drop_eq_nil_of_le (by first|assumption|lia)
  rw[e0]at q
  unfold DS.forL at q
  by_cases gd:DS.gOk S w.gd
  ·rw[if_pos gd]at q
   exact .inl ⟨ok.stop i H J S ha gr gd (by first|assumption|lia),q J H σ ha .refl he⟩
  ·rw[if_neg gd]at q;exact False.elim q⟩⟩
theorem zM2 {J:Js}{H:Hp}{env:DS.Env}{σ:St}{own:List Str}{ix:List Nat}(he:RepE K J H env σ):RepE K J H (DS.compEnv own.length ix env) (zDc own ix σ):=by
 refine⟨by simp[DS.compEnv,zDc],fun i d e=>?_⟩
 unfold DS.compEnv at e
 unfold zDc
 by_cases hi:i<own.length
 ·rw[List.getElem?_append_left (by simpa using hi),List.getElem?_replicate,if_pos hi]at e
  cases e
 ·rw[List.getElem?_append_right (by simpa using hi),List.getElem?_map]at e
  rw[List.getElem?_append_right (by simpa using hi),List.getElem?_map]
  simp only[List.length_replicate,List.length_map]at e ⊢
  cases ej:ix[i-own.length]? with
  | none=>rw[ej]at e;cases e
  | some j=>
   rw[ej]at e
   simp only[Option.map_some,Option.some.injEq]at e ⊢
   cases en:env[j]? with
   | none=>rw[en]at e;cases e
   | some o=>
    rw[en]at e
    obtain⟨v,ev,r⟩:=he.get j d (by rw[en];exact congrArg some e)
    exact⟨v,by rw[ev];rfl,r⟩
theorem zL5 {own:List Str}{ix:List Nat}{im:DS.IM}{g:DS.GM}:∀σ H Q,tOfF K E (DS.zB0 own.length ix im g mt m) σ H Q->zJ1 own ix (iOf K E im) (gOf K g) (ttOf K E mt) (tOf K E m) σ H Q:=by
 refine fun σ H Q ⟨env,St,J,ha,hE,q⟩=>⟨env,St,J,ha,hE,q.bind.imp fun w S1 J1 H1 _ a1 g1 q1 I ok=>?_⟩
 refine⟨fun i k ys σ H=>k+i=w.its.length/\∃env S J ds,AbS K J S H/\Grow J1 H1 J H/\RepE K J H env σ/\RepL K J H ds ys/\Post K E J H (DS.zDi w.gd g mt m ys.length (w.its.drop i) env S) (fun vs S2 J2 H2=>∀p o,H2 p=none->ObD K J2 H2 (.lst (ds++vs)) o->Q (.ref p) (upd H2 p o)),
  ⟨w.its.length,rfl,_,S1,J1,[],a1,.refl,zM2 (hE.grow g1),rfl,q1.bind.imp fun vs S2 J2 H2 _ a2 g2 q2=>q2 J2 H2 a2 .refl⟩,?_⟩
 rintro i k ys σ H ⟨hk,env,S,J,ds,ha,gr,hE,rl,q⟩
 by_cases hi:i<w.its.length
 ·rw[zKz hi]at q
  unfold DS.zDi at q
  by_cases gd:DS.gOk S w.gd/\ys.length<DS.most
  ·rw[if_pos gd]at q
   refine .inr ⟨ok.go i H J S ha gr gd.1 hi,gd.2,fun ys σ H=>(k-1)+(i+1)=w.its.length/\∃env S J ds,AbS K J S H/\Grow J1 H1 J H/\RepE K J H env σ/\RepL K J H ds ys/\Post K E J H (DS.zDi w.gd g mt m ys.length (w.its.drop (i+1)) env S) (fun vs S2 J2 H2=>∀p o,H2 p=none->ObD K J2 H2 (.lst (ds++vs)) o->Q (.ref p) (upd H2 p o)),
    fun zs σ' H' wq=>⟨k-1,by first|assumption|lia,wq⟩,fun x H' y=>?_⟩
   obtain⟨a2,g2,rx⟩:=ok.yld i H J S x H' ha gr gd.1 y _ (List.getElem?_eq_getElem hi)
   cases eg:g S w.its[i] env with
   | none=>rw[eg]at q;exact False.elim q
   | some env'=>
    rw[eg]at q
    refine⟨env,S,J,w.its[i],env',a2,hE.grow g2,rx,eg,fun σ2 he2=>⟨env',S,J,a2,he2,(Post.grow g2 q).bind.imp fun b S3 J3 H3 _ a3 g3 q3=>?_⟩⟩
    cases b with
    | false=>exact⟨by first|assumption|lia,env',S3,J3,ds,a3,gr.trans (g2.trans g3),he2.grow g3,RepL.grow (g2.trans g3) _ _ rl,q3⟩
    | true=>
     rw[if_pos rfl]at q3 ⊢
     refine⟨env',S3,J3,a3,he2.grow g3,q3.bind.imp fun d4 S4 J4 H4 _ a4 g4 q4 v rv=>?_⟩
     have g24:=g2.trans (g3.trans g4)
     refine⟨by first|assumption|lia,env',S4,J4,ds++[d4],a4,gr.trans g24,he2.grow (g3.trans g4),(RepL.grow g24 _ _ rl).snoc rv,?_⟩
     rw[show(ys++[v]).length=ys.length+1 by simp]
     refine q4.bind.imp fun vs S5 J5 H5 _ a5 g5 q5=>?_
     have:=q5 J5 H5 a5 .refl
     rw[List.append_assoc]
     exact this
  ·rw[if_neg gd]at q;exact False.elim q
 ·have e0:w.its.drop i=[]:=List.drop_eq_nil_of_le (by first|assumption|lia)
  rw[e0]at q
  unfold DS.zDi at q
  by_cases gd:DS.gOk S w.gd
  ·rw[if_pos gd]at q
   have q2:∀(p:Addr) (o:HO),H p=none->ObD K J H (.lst (ds++[])) o->Q (.ref p) (upd H p o):=q J H ha .refl
   rw[List.append_nil]at q2
   exact .inl ⟨ok.stop i H J S ha gr gd (by first|assumption|lia),fun p n=>q2 p (.lst ys) n ⟨ys,rfl,rl⟩⟩
  ·rw[if_neg gd]at q;exact False.elim q
theorem of_imp:∀σ H Q,tOf K E m σ H Q->tOfF K E m σ H Q:=fun σ H Q ⟨env,S,J,ha,he,q⟩=>⟨env,S,J,ha,he,q.map fun d S' J' H' _ h1 g k p o n r=>k J' (upd H' p o) (h1.push n) (g.trans (.push n)) (.ref p) (r.rep h1 n)⟩
theorem zTz {j:Nat}:∀D σ H,tsOf K E (DS.sSet j m) D σ H->tOf K E m σ H (fun x H1=>gName j x σ H1 D.nx):=fun D σ H ⟨env,S,J,ha,he,q⟩=>⟨env,S,J,ha,he,q.then.imp fun d S1 J1 H1 _ a1 g1 q1 v rv=>q1 J1 H1 _ a1 .refl ((he.grow g1).set rv)⟩
theorem zDh {own fre:List Str}{ix:List Nat}{n:Nat}{scope:Scope}{tg elt iter:Expr}{ifs:List Expr}{im:DS.IM}{g:DS.GM}(hc:X.calm=true) (S:CompScope X own fre ix scope) (hi:DI X K E tg iter im)
  (hg:∀cl C s H fp,DG (zAm X (own++fre) scope cl C s H fp) K tg g) (ht:∀cl C s H fp,DIf (zAm X (own++fre) scope cl C s H fp) K E ifs mt) (he:∀cl C s H fp,DE (zAm X (own++fre) scope cl C s H fp) K E elt m)
  (hn:own.length=n:=by rfl) (h:nse iter=true:=by rfl):DF X K E (.ListComp elt [⟨tg,iter,ifs,0⟩] scope pos) (DS.zB0 n ix im g mt m):=by
 subst hn
 exact⟨(qlcomp' hc S hi.h (fun _ _ _ _ _=>(hg _ _ _ _ _).h) (fun _ _ _ _ _=>(ht _ _ _ _ _).h) (fun _ _ _ _ _=>(he _ _ _ _ _).h) h).imp zL5⟩
theorem zHm {own fre:List Str}{ix:List Nat}{n:Nat}{scope:Scope}{j:Nat}{x:Str}{cpos pos':Pos}{tg elt iter:Expr}{ifs:List Expr}{im:DS.IM}{g:DS.GM}(hN:X.N.Nodup) (hix:X.N[j]?=some x) (hx:Loc X.env.scope x)
  (hc:X.calm=true) (S:CompScope X own fre ix scope) (hi:DI X K E tg iter im)
  (hg:∀cl C s H fp,DG (zAm X (own++fre) scope cl C s H fp) K tg g) (ht:∀cl C s H fp,DIf (zAm X (own++fre) scope cl C s H fp) K E ifs mt) (he:∀cl C s H fp,DE (zAm X (own++fre) scope cl C s H fp) K E elt m)
  (hsw:swapsWith (.ListComp elt [⟨tg,iter,ifs,0⟩] scope cpos) (some (.Name x pos')) pos.line X.env=pure true:=by rfl) (h:nse iter=true:=by rfl) (hf:X.fn x=true\/X.env.scope.names.lookup x=some .local:=by first|exact .inl rfl|exact .inr rfl|assumption) (hn:own.length=n:=by rfl):
  DS1 X K E (.Assign [.Name x pos'] (.ListComp elt [⟨tg,iter,ifs,0⟩] scope cpos) pos) (DS.sSet j (DS.zB0 n ix im g mt m)):=by
 subst hn
 exact⟨(qsetc' hN hix hx hc S hi.h (fun _ _ _ _ _=>(hg _ _ _ _ _).h) (fun _ _ _ _ _=>(ht _ _ _ _ _).h) (fun _ _ _ _ _=>(he _ _ _ _ _).h) hsw h hf).imp fun D σ H h=>zL5 σ H _ (of_imp σ H _ (zTz D σ H h))⟩
end
section
variable {P:Program}{w:World}{K:PySem.W.Frag}{mg:Str->Option Value}{base:Heap}
theorem zIm {E:XE}{J:Js}{H:Hp}{np nl:Nat}{b:DS.SM}{ds:List D}{S:Store}{P:D->Store->Js->Hp->Prop}(h:Post K E J H (DS.zAx np nl b ds S) P):ds.length=np:=by
 unfold DS.zAx at h
 by_cases e:ds.length=np
 ·exact e
 ·rw[if_neg e]at h;exact False.elim h
theorem zK6 {J:Js}{H:Hp}{ds:List D}{vs:List V}{N:List Str}(r:RepL K J H ds vs):RepE K J H (ds.map some++List.replicate (N.length-ds.length) none) (start N vs):=by
 refine⟨by simp[start,r.length],fun i d e=>?_⟩
 unfold start
 by_cases hi:i<ds.length
 ·rw[List.getElem?_append_left (by simpa using hi),List.getElem?_map]at e
  rw[List.getElem?_append_left (by simpa[<- r.length]using hi),List.getElem?_map]
  cases ed:ds[i]? with
  | none=>rw[ed]at e;cases e
  | some d'=>
   rw[ed]at e;cases e
   obtain⟨x,ex,rx⟩:=r.get ed
   exact⟨x,by rw[ex];rfl,rx⟩
 ·rw[List.getElem?_append_right (by simpa using hi),List.getElem?_replicate]at e
  split at e <;> cases e
theorem zWc {J:Js}{H:Hp}{np:Nat}{N:List Str}{b:DS.SM}{ds:List D}{vs:List V}{S:Store}{Q:VK}(ha:AbS K J S H) (r:RepL K J H ds vs)
  (h:Post K XE0 J H (DS.zAx np N.length b ds S) (fun d _ J' H'=>∀v,Rep K J' H' d v->Q v H')):tsOf K XE0 b { nx:=fun _ H'=>Q .non H',rt:=Q } (start N vs) H:=by
 have hl:=zIm h
 unfold DS.zAx at h
 rw[if_pos hl,<- hl]at h
 refine⟨_,S,J,ha,zK6 r,?_⟩
 have fin:∀d S' J' H' v,AbS K J' S' H'->Grow J H J' H'->Rep K J' H' d v->Post K XE0 J H (DS.fin S d S') (fun d _ J' H'=>∀v,Rep K J' H' d v->Q v H')->Q v H':=fun d S' J' H' v a1 g1 r1 q=>by
  cases e:DS.fin S d S' with
  | ok d2 S2=>
   obtain⟨J2,a2,g2,r2⟩:=zYu ha g1 a1 r1 e
   rw[e]at q
   exact q J2 H' a2 g2 v r2
  | ex x S2=>rw[e]at q;exact False.elim (q J' H' (by
    exfalso
    unfold DS.fin at e
    split at e <;> try cases e
    split at e <;> try cases e
    split at e <;> try cases e
    split at e <;> try cases e
    split at e <;> cases e) g1)
  | bad=>rw[e]at q;exact False.elim q
 cases e:b (ds.map some++List.replicate (N.length-ds.length) none) S with
 | nx e1 S1=>rw[e]at h;exact fun J' H' σ h1 g1 _=>fin .non S1 J' H' .non h1 g1 rfl h
 | rt d S1=>rw[e]at h;exact fun J' H' v h1 g1 r1=>fin d S1 J' H' v h1 g1 r1 h
 | bk e1 S1=>rw[e]at h;exact False.elim h
 | ct e1 S1=>rw[e]at h;exact False.elim h
 | ex x S1=>rw[e]at h;exact h
 | bad=>rw[e]at h;exact False.elim h
theorem fn_d {k:Nat}{x qual:Str}{st:Stmt}{f:Addr}{fd:FuncData}{N ps:List Str}{np nl:Nat}{b:DS.SM}(F:Fun K x qual st f fd) (Sc:zAl N ps (zA6 st)) (hnp:ps.length=np) (hnl:N.length=nl)
  (hb:∀(cdv:Value) (A:Around) (outer:List PySem.Env) (s:Shared) (H:Hp) (E:XK),Room k (A.deeper (envOfC qual (zA6 st) s.heap.objs.size f cdv))->DSs (cxOf CX0 P w K mg base N qual (zA6 st) f cdv A outer s H E).nox K XE0 (zCi st) b):
  FnOk P w K mg base CX0 (k+1) f fd ps (spOf K XE0 (DS.zAx np nl b)):=by
 subst hnp hnl
 refine F.ok (k:=k) Sc (fun vs H Q E h=>?_) (fun cdv A outer s H vs Q E hr h=>?_)
 ·obtain⟨J,S,ds,ha,r,q⟩:=h
  rw[<- r.length];exact zIm q
 ·obtain⟨J,S,ds,ha,r,q⟩:=h
  exact⟨_,(hb cdv A outer s H E hr).h.h,zWc ha r q⟩
theorem zS4 {J:Js}{H:Hp}{np:Nat}{N:List Str}{b:DS.SM}{ds:List D}{vs:List V}{S:Store}{Q:VK}(hl:ds.length=np) (ha:AbS K J S H) (r:RepL K J H ds vs)
  (h:Post K XE0 J H (DS.zHt np N.length b ds S) (fun d _ J' H'=>∀v,Rep K J' H' d v->Q v H')):tsOf K XE0 b { nx:=fun _ H'=>Q .non H',rt:=Q } (start N vs) H:=by
 unfold DS.zHt at h
 rw[if_pos hl,<- hl]at h
 refine⟨_,S,J,ha,zK6 r,?_⟩
 cases e:b (ds.map some++List.replicate (N.length-ds.length) none) S with
 | nx e1 S1=>rw[e]at h;exact fun J' H' σ h1 g1 _=>h J' H' h1 g1 .non rfl
 | rt d S1=>rw[e]at h;exact fun J' H' v h1 g1 r1=>h J' H' h1 g1 v r1
 | bk e1 S1=>rw[e]at h;exact False.elim h
 | ct e1 S1=>rw[e]at h;exact False.elim h
 | ex x S1=>rw[e]at h;exact h
 | bad=>rw[e]at h;exact False.elim h
theorem fn_r {k:Nat}{x qual:Str}{st:Stmt}{f:Addr}{fd:FuncData}{N ps:List Str}{np nl:Nat}{b:DS.SM}(F:Fun K x qual st f fd) (Sc:zAl N ps (zA6 st)) (hnp:ps.length=np) (hnl:N.length=nl)
  (hb:∀(cdv:Value) (A:Around) (outer:List PySem.Env) (s:Shared) (H:Hp) (E:XK),Room k (A.deeper (envOfC qual (zA6 st) s.heap.objs.size f cdv))->DSs (cxOf CX0 P w K mg base N qual (zA6 st) f cdv A outer s H E).nox K XE0 (zCi st) b):
  FnOk P w K mg base CX0 (k+1) f fd ps (spOf K XE0 (DS.zHt np nl b)):=by
 subst hnp hnl
 have cl:∀{J:Js}{H:Hp}{ds:List D}{S:Store}{P:D->Store->Js->Hp->Prop},Post K XE0 J H (DS.zHt ps.length N.length b ds S) P->ds.length=ps.length:=fun {J H ds S P} h=>by
  unfold DS.zHt at h
  by_cases e:ds.length=ps.length
  ·exact e
  ·rw[if_neg e]at h;exact False.elim h
 refine F.ok (k:=k) Sc (fun vs H Q E h=>?_) (fun cdv A outer s H vs Q E hr h=>?_)
 ·obtain⟨J,S,ds,ha,r,q⟩:=h
  rw[<- r.length];exact cl q
 ·obtain⟨J,S,ds,ha,r,q⟩:=h
  exact⟨_,(hb cdv A outer s H E hr).h.h,zS4 (cl q) ha r q⟩
end
end L2
namespace DS
open PySem (Str)
noncomputable section
open Classical
def big:Nat:=2 ^ 5000
def sm (x:Int):Prop:=x.natAbs<big
theorem zX1 {x:Int}(h1:-(2 ^ 200)<x) (h2:x<2 ^ 200):sm x:=by
 have h:(2:Nat) ^ 200<=big:=Nat.pow_le_pow_right (by decide) (by decide)
 have e:((2 ^ 200:Nat):Int)=2 ^ 200:=by norm_cast
 unfold sm
 lia
def addD (S:Store) (x y:D):Option D:=match x,y with
 | .int a,.int b=>some (.int (a+b))
 | .str a,.str b=>if a.length+b.length<=most then some (.str (a++b))else none
 | .tup l,.tup m=>if l≠[]/\l.length+m.length<=most then some (.tup (l++m))else none
 | x,y=>match litems S x,litems S y with
  | some l,some m=>if l.length+m.length<=most then some (.lst (l++m))else none
  | _,_=>none
def catD (S:Store) (x y:D):Option D:=match litems S x,litems S y with
 | some l,some m=>if l.length+m.length<=most then some (.lst (l++m))else none
 | _,_=>none
def subD (_:Store) (x y:D):Option D:=match x,y with
 | .int a,.int b=>some (.int (a-b))
 | _,_=>none
def mulD (S:Store) (x y:D):Option D:=match x,y with
 | .int a,.int b=>if sm a/\sm b then some (.int (a*b))else none
 | _,_=>none
def zG5 (_:Store) (x y:D):Option D:=match x,y with
 | .int a,.int b=>if b≠0/\sm b then some (.int (a.fdiv b))else none
 | _,_=>none
def modD (_:Store) (x y:D):Option D:=match x,y with
 | .int a,.int b=>if 0<b then some (.int (a % b))else none
 | _,_=>none
def powD (_:Store) (x y:D):Option D:=match x,y with
 | .int a,.int b=>if 0<=b/\b<=1000000/\a.natAbs<2 ^ 64 then some (.int (a ^ b.toNat))else none
 | _,_=>none
def negD (_:Store) (x:D):Option D:=match x with
 | .int a=>some (.int (-a))
 | _=>none
def iLt (p:Int->Int->Bool) (q:List Nat->List Nat->Bool) (x y:D):Option D:=match x,y with
 | .int a,.int b=>some (.bl (p a b))
 | .str a,.str b=>some (.bl (q a.cps.toList b.cps.toList))
 | _,_=>none
def leD (_:Store) (x y:D):Option D:=iLt (fun a b=>decide (a<=b)) (fun a b=>!decide (b<a)) x y
def gtD (_:Store) (x y:D):Option D:=match x,y with
 | .int a,.int b=>some (.bl (decide (b<a)))
 | _,_=>none
def geD (_:Store) (x y:D):Option D:=match x,y with
 | .int a,.int b=>some (.bl (decide (b<=a)))
 | _,_=>none
def ixN (n:Nat) (i:Int):Option Nat:=if 0<=i then(if i<n then some i.toNat else none)else if -(n:Int)<=i then some (i+n).toNat else none
def atL {α:Type}(xs:List α) (i:Int):Option α:=(ixN xs.length i).bind fun j=>xs[j]?
def look2 (ks vs:List D) (k:D):Option D:=match ks,vs with
 | a::r,v::t=>if a=k then some v else look2 r t k
 | _,_=>none
def isKey:D->Bool
 | .int _=>true
 | .str _=>true
 | .tup l=>l.all fun d=>match d with
  | .int _=>true
  | .str _=>true
  | _=>false
 | _=>false
def zDv (t:Bool) (k:D):Bool:=isKey k && (match k with
 | .tup _=>t
 | _=>!t)
def ixD (S:Store) (x y:D):Option D:=match look S x,y with
 | some (.tup l),.int i=>atL l i
 | some (.lst l),.int i=>atL l i
 | some (.str z),.int i=>if z.length<=most then(atL z.cps.toList i).map fun c=>.str ⟨#[c]⟩else none
 | some (.dct t ks vs),k=>if zDv t k=true then look2 ks vs k else none
 | _,_=>none
def sIx (n d:Nat):Option Int->Nat
 | none=>d
 | some v=>if v<0 then(v+(n:Int)).toNat else min v.toNat n
def cutL {α:Type}(xs:List α) (lo hi:Option Int):List α:=(xs.drop (sIx xs.length 0 lo)).take (sIx xs.length xs.length hi-sIx xs.length 0 lo)
def slD (S:Store) (x:D) (lo hi:Option Int):Option D:=match x with
 | .tup l=>some (.tup (cutL l lo hi))
 | .ktup l=>if sIx l.length 0 lo=0/\sIx l.length l.length hi=l.length then some (.ktup l)else some (.tup (cutL l lo hi))
 | x=>match look S x with
  | some (.lst l)=>some (.lst (cutL l lo hi))
  | _=>none
def okIn (x:D) (l:List D):Prop:=x.flat=true/\zDf l=true/\depL l<=60/\∀d∈l,d.cmp x=true
def inO (S:Store) (x y:D):Option Bool:=match look S y with
 | some (.tup l)=>if okIn x l then some (decide (x∈l))else none
 | some (.lst l)=>if okIn x l then some (decide (x∈l))else none
 | some (.dct t ks _)=>if zDv t x=true then some (decide (x∈ks))else none
 | _=>none
def inD (S:Store) (x y:D):Option D:=(inO S x y).map D.bl
def revL (S:Store) (x:D):Option D:=match look S x with
 | some (.lst l)=>some (.lst l.reverse)
 | _=>none
def repl2:List D->List D->D->D->List D
 | a::r,w::t,k,v=>(if a=k then v else w)::repl2 r t k v
 | _,_,_,_=>[]
def put2 (ks vs:List D) (k v:D):List D × List D:=if k∈ks then(ks,repl2 ks vs k v)else(ks++[k],vs++[v])
def lenB (S:Store):List D->Option D
 | [d]=>match look S d with
  | some (.tup l)=>some (.int l.length)
  | some (.lst l)=>some (.int l.length)
  | some (.dct _ ks _)=>some (.int ks.length)
  | some (.str x)=>if x.length<=most then some (.int x.length)else none
  | _=>none
 | _=>none
def zR4 (S:Store):List D->Option D
 | [d]=>(items S d).map D.lst
 | _=>none
def zD9 (S:Store):List D->Option D
 | [d]=>match d with
  | .tup l=>some (.tup l)
  | .ktup l=>some (.ktup l)
  | d=>(litems S d).map D.tup
 | _=>none
def bools:List D->Option (List Bool)
 | []=>some []
 | .bl b::r=>(bools r).map (b::·)
 | _=>none
def allB (S:Store):List D->Option D
 | [d]=>((litems S d).bind bools).map fun bs=>.bl (bs.all id)
 | _=>none
def max2B (_:Store):List D->Option D
 | [.int i,.int j]=>some (.int (if j > i then j else i))
 | _=>none
def absB (_:Store):List D->Option D
 | [.int i]=>some (.int (if i<0 then -i else i))
 | _=>none
def kinds:List String:=["int","bool","str","tuple","list","NoneType"]
def zZu (U T:String):Bool:=U == T || (U == "bool" && T == "int")
def zC5 (S:Store) (o:D) (xs:List D):Option (D × Store):=match o,xs with
 | .ref n,[v]=>match S[n]? with
  | some (.lst l)=>if l.length<most then some (.non,S.set n (.lst (l++[v])))else none
  | _=>none
 | _,_=>none
def popM (S:Store) (o:D) (xs:List D):Option (D × Store):=match o,xs with
 | .ref n,[]=>match S[n]? with
  | some (.lst l)=>(l[l.length-1]?).map fun v=>(v,S.set n (.lst l.dropLast))
  | _=>none
 | _,_=>none
end
end DS
namespace L2
open PySem PySem.Spec PyProof.Rows
open DS (D Store Exn Rs SR)
section
variable {X:Cx}{K:PySem.W.Frag}{E:XE}{J:Js}{S:Store}{H:Hp}{d d1 d2:D}{v:V}
theorem Inv.lstR {pins:List (Addr × Obj)}{σ:St}{s:Shared}{l:Addr}{xs:List V}(I:Inv X pins σ H s) (hH:Rd H l (.lst xs)):xs.length<=sizeLine/\∃(its:List Value) (n:Nat),Vals xs its/\xs.length=its.length/\s.heap.get? l=some { cls:=.type "list",data:=.seq its.toArray n }:=by
 obtain⟨z,its,n,r,e⟩:=hH.ok I.hok
 exact⟨z,its,n,r,r.length,e⟩
theorem zDs {l:List D}(ha:AbS K J S H) (r:Rep K J H d v) (e:DS.litems S d=some l):∃a xs,v=.ref a/\Rd H a (.lst xs)/\RepL K J H l xs:=by
 cases d with
 | lst ds=>cases e;obtain⟨a,xs,rfl,t,rl⟩:=r;exact⟨a,xs,rfl,.inl t.1,rl⟩
 | ref n=>
  obtain⟨a,ea,rfl⟩:=r
  obtain⟨c,ec,o,eo,rc⟩:=ha.at ea
  unfold DS.litems DS.look at e
  simp only[ec]at e
  cases c with
  | lst ds=>cases e;obtain⟨xs,rfl,rl⟩:=rc;exact⟨a,xs,rfl,.inl eo,rl⟩
  | dct _ ks vs=>cases e
  | _=>exact False.elim rc
 | _=>cases e
theorem zDw {l:List D}(ha:AbS K J S H) (r:Rep K J H d v) (e:DS.items S d=some l):∃a xs,v=.ref a/\(SqL K H a xs\/SqT K H a xs)/\RepL K J H l xs:=by
 cases d with
 | tup ds=>cases e;obtain⟨a,xs,rfl,t,rl⟩:=r;exact⟨a,xs,rfl,.inr t.sq,rl⟩
 | ktup ds=>cases e;obtain⟨a,xs,rfl,t,rl⟩:=r;exact⟨a,xs,rfl,.inr t.sq,rl⟩
 | klst ds=>cases e;obtain⟨a,xs,rfl,t,rl⟩:=r;exact⟨a,xs,rfl,.inl t.sq,rl⟩
 | lst ds=>cases e;obtain⟨a,xs,rfl,t,rl⟩:=r;exact⟨a,xs,rfl,.inl t.sq,rl⟩
 | ref n=>
  obtain⟨a,ea,rfl⟩:=r
  obtain⟨c,ec,o,eo,rc⟩:=ha.at ea
  unfold DS.items DS.look at e
  simp only[ec]at e
  cases c with
  | lst ds=>cases e;obtain⟨xs,rfl,rl⟩:=rc;exact⟨a,xs,rfl,.inl (.inl (.inl eo)),rl⟩
  | dct _ ks vs=>cases e
  | _=>exact False.elim rc
 | _=>cases e
theorem zB7:OpR X (binaryOp .Sub) (r2Of K DS.subD):=by
 intro pins s σ H x y v u Q I rx ry ⟨J,S,d1,d2,d,ha,r1,r2,e,k⟩
 unfold DS.subD at e
 split at e
 ·cases e;obtain rfl:=r1;obtain rfl:=r2
  exact zY0 pins s σ H _ _ v u Q I rx ry ⟨_,_,rfl,rfl,k _ H ha .refl rfl⟩
 ·cases e
theorem zAi:OpR X (binaryOp .Mult) (r2Of K DS.mulD):=by
 intro pins s σ H x y v u Q I rx ry ⟨J,S,d1,d2,d,ha,r1,r2,e,k⟩
 unfold DS.mulD at e
 split at e
 ·split at e
  ·rename_i h
   cases e;obtain rfl:=r1;obtain rfl:=r2
   exact zUz pins s σ H _ _ v u Q I rx ry ⟨_,_,rfl,rfl,h,k _ H ha .refl rfl⟩
  ·cases e
 ·cases e
theorem zEv:OpR X (binaryOp .FloorDiv) (r2Of K DS.zG5):=by
 intro pins s σ H x y v u Q I rx ry ⟨J,S,d1,d2,d,ha,r1,r2,e,k⟩
 unfold DS.zG5 at e
 split at e
 ·split at e
  ·rename_i h
   cases e;obtain rfl:=r1;obtain rfl:=r2
   exact zQp pins s σ H _ _ v u Q I rx ry ⟨_,_,rfl,rfl,h,k _ H ha .refl rfl⟩
  ·cases e
 ·cases e
theorem zCe:OpR X (binaryOp .Mod) (r2Of K DS.modD):=by
 intro pins s σ H x y v u Q I rx ry ⟨J,S,d1,d2,d,ha,r1,r2,e,k⟩
 unfold DS.modD at e
 split at e
 ·split at e
  ·rename_i h
   cases e;obtain rfl:=r1;obtain rfl:=r2
   exact zY3 pins s σ H _ _ v u Q I rx ry ⟨_,_,rfl,rfl,h,k _ H ha .refl rfl⟩
  ·cases e
 ·cases e
theorem zNk:OpR X (binaryOp .Pow) (r2Of K DS.powD):=by
 intro pins s σ H x y v u Q I rx ry ⟨J,S,d1,d2,d,ha,r1,r2,e,k⟩
 unfold DS.powD at e
 split at e
 ·split at e
  ·rename_i h
   cases e;obtain rfl:=r1;obtain rfl:=r2
   exact zY1 pins s σ H _ _ v u Q I rx ry ⟨_,_,rfl,rfl,h,k _ H ha .refl rfl⟩
  ·cases e
 ·cases e
theorem zDd:UnR X (unaryOp .USub) (r1Of K DS.negD):=by
 intro pins s σ H x v Q I rx ⟨J,S,d1,d,ha,r1,e,k⟩
 unfold DS.negD at e
 split at e
 ·cases e;obtain rfl:=r1
  exact zWr pins s σ H _ v Q I rx ⟨_,rfl,k _ H ha .refl rfl⟩
 ·cases e
theorem zP9 {pins:List (Addr × Obj)}{σ:St}{s:Shared}{a b:Addr}{xs ys:List V}{Q:VK}(I:Inv X pins σ H s) (h1:Rd H a (.lst xs)) (h2:Rd H b (.lst ys)) (hz:xs.length+ys.length<=sizeLine) (q:∀p,H p=none->Q (.ref p) (upd H p (.lst (xs++ys)))):
  wpAny (model X.prog X.w) X.A (binaryOp .Add (.ref a) (.ref b)) (EP X pins σ Q) X.xe s:=by
 obtain⟨z,its,n,r,hl,e⟩:=I.lstR h1
 obtain⟨z2,its2,n2,r2,hl2,e2⟩:=I.lstR h2
 refine PySem.P.add_list e e2 ?_ (by rw[List.size_toArray,List.size_toArray,<- hl,<- hl2];exact hz)
 rw[show its.toArray++its2.toArray=(its++its2).toArray by simp]
 exact⟨.ref _,_,I.lnew (t':=s.toks) (r.append r2) (by rw[List.length_append];exact hz),rfl,q _ I.fresh⟩
theorem zQq:OpR X (binaryOp .Add) (zZg K DS.catD):=by
 intro pins s σ H x y v u Q I rx ry ⟨J,S,d1,d2,d,ha,r1,r2,e,k⟩
 unfold DS.catD at e
 split at e
 ·rename_i l m e1 e2
  split at e
  ·rename_i h
   cases e
   obtain⟨a,xs,rfl,h1,q1⟩:=zDs ha r1 e1
   obtain⟨b,ys,rfl,h2,q2⟩:=zDs ha r2 e2
   cases rx
   cases ry
   exact zP9 I h1 h2 (by rw[<- q1.length,<- q2.length];exact h) fun p n=>k p _ H ha .refl n ⟨_,rfl,q1.append q2⟩
  ·cases e
 ·cases e
theorem zB8 (hK:X.K=K:=by rfl):OpR X (binaryOp .Add) (r2Of K DS.addD):=by
 subst hK
 intro pins s σ H x y v u Q I rx ry ⟨J,S,d1,d2,d,ha,r1,r2,e,k⟩
 unfold DS.addD at e
 split at e
 ·cases e;obtain rfl:=r1;obtain rfl:=r2
  exact zY5 pins s σ H _ _ v u Q I rx ry ⟨_,_,rfl,rfl,k _ H ha .refl rfl⟩
 ·split at e
  ·rename_i h
   cases e;obtain rfl:=r1;obtain rfl:=r2
   exact zLi pins s σ H _ _ v u Q I rx ry ⟨_,_,rfl,rfl,h,k _ H ha .refl rfl⟩
  ·cases e
 ·split at e
  ·rename_i l m h
   cases e
   obtain⟨a,xs,rfl,t1,q1⟩:=r1
   obtain⟨b,ys,rfl,t2,q2⟩:=r2
   have e1:=q1.length
   have e2:=q2.length
   refine zV1 pins s σ H _ _ v u Q I rx ry ⟨a,b,xs,ys,rfl,rfl,t1.sq,t2.sq,fun z=>h.1 (by subst z;exact List.eq_nil_of_length_eq_zero e1),by rw[<- e1,<- e2];exact h.2,fun z=>?_,fun z p n=>?_⟩
   ·subst z
    obtain rfl:m=[]:=List.eq_nil_of_length_eq_zero e2
    rw[List.append_nil]at k
    exact k _ H ha .refl ⟨a,xs,rfl,t1,q1⟩
   ·exact k _ _ (ha.push n) (.push n) ⟨p,_,rfl,⟨zAo,ha.out n⟩,RepL.grow (.push n) _ _ (q1.append q2)⟩
  ·cases e
 ·exact zQq pins s σ H _ _ v u Q I rx ry ⟨J,S,d1,d2,d,ha,r1,r2,e,fun p o H' a1 g1 n r=>k _ _ (a1.push n) (g1.trans (.push n)) (r.rep a1 n)⟩
mutual
def toDv:D->Dv
 | .non=>.non
 | .bl b=>.bl b
 | .int i=>.int i
 | .str x=>.str x
 | .tup l=>.tup (zDl l)
 | .lst l=>.lst (zDl l)
 | .dct _ _ _=>.non
 | .ktup _=>.non
 | .klst _=>.non
 | .st _=>.non
 | .ty _=>.non
 | .ref _=>.non
def zDl:List D->List Dv
 | []=>[]
 | d::r=>toDv d::zDl r
end
mutual
theorem zDk:∀(d:D) (v:V),d.flat=true->Rep K J H d v->Den K H (toDv d) v
 | .non,_,_,r=>r
 | .bl _,_,_,r=>r
 | .int _,_,_,r=>r
 | .str _,_,_,r=>r
 | .tup l,v,f,⟨a,xs,e,t,rl⟩=>⟨a,xs,e,t.sq,zF4 l xs f rl⟩
 | .lst l,v,f,⟨a,xs,e,t,rl⟩=>⟨a,xs,e,t.sq,zF4 l xs f rl⟩
 | .dct _ _ _,_,f,_=>by cases f
 | .ktup _,_,f,_=>by cases f
 | .klst _,_,f,_=>by cases f
 | .st _,_,f,_=>by cases f
 | .ty _,_,f,_=>by cases f
 | .ref _,_,f,_=>by cases f
theorem zF4:∀(l:List D) (xs:List V),DS.zDf l=true->RepL K J H l xs->DenL K H (zDl l) xs
 | [],_,_,r=>r
 | d::l,xs,f,⟨x,r,e,h,t⟩=>by
  have f:(d.flat && DS.zDf l)=true:=f
  rw[Bool.and_eq_true]at f
  exact⟨x,r,e,zDk d x f.1 h,zF4 l r f.2 t⟩
end
mutual
theorem zGw:∀(d e:D),d.flat=true->e.flat=true->toDv d=toDv e->d=e
 | .non,e,_,f,h=>by cases e <;> first|rfl|(exact Bool.noConfusion (show false=true from f))|(cases h;done)
 | .bl _,e,_,f,h=>by cases e <;> first|(cases h;rfl)|exact nomatch h|exact nomatch f
 | .int _,e,_,f,h=>by cases e <;> first|(cases h;rfl)|exact nomatch h|exact nomatch f
 | .str _,e,_,f,h=>by cases e <;> first|(cases h;rfl)|exact nomatch h|exact nomatch f
 | .tup l,e,f,f',h=>by
  cases e with
  | tup m=>exact congrArg D.tup (zF2 l m f f' (Dv.tup.inj h))
  | _=>first|exact nomatch h|exact nomatch f'
 | .lst l,e,f,f',h=>by
  cases e with
  | lst m=>exact congrArg D.lst (zF2 l m f f' (Dv.lst.inj h))
  | _=>first|exact nomatch h|exact nomatch f'
 | .dct _ _ _,_,f,_,_=>by cases f
 | .ktup _,_,f,_,_=>by cases f
 | .klst _,_,f,_,_=>by cases f
 | .st _,_,f,_,_=>by cases f
 | .ty _,_,f,_,_=>by cases f
 | .ref _,_,f,_,_=>by cases f
theorem zF2:∀(l m:List D),DS.zDf l=true->DS.zDf m=true->zDl l=zDl m->l=m
 | [],[],_,_,_=>rfl
 | [],_::_,_,_,h=>by cases h
 | _::_,[],_,_,h=>by cases h
 | d::l,e::m,f,f',h=>by
  have f:(d.flat && DS.zDf l)=true:=f
  have f':(e.flat && DS.zDf m)=true:=f'
  rw[Bool.and_eq_true]at f f'
  have h:=List.cons.inj (show toDv d::zDl l=toDv e::zDl m from h)
  rw[zGw d e f.1 f'.1 h.1,zF2 l m f.2 f'.2 h.2]
end
mutual
theorem zGx:∀(d e:D),d.cmp e=true->(toDv d).cmp (toDv e)=true
 | .non,e,h=>by cases e <;> first|rfl|cases h
 | .bl _,e,h=>by cases e <;> first|rfl|cases h
 | .int _,e,h=>by cases e <;> first|rfl|cases h
 | .str _,e,h=>by cases e <;> first|rfl|cases h
 | .tup l,e,h=>by
  cases e with
  | tup m=>exact zF5 l m h
  | _=>cases h
 | .lst l,e,h=>by
  cases e with
  | lst m=>exact zF5 l m h
  | _=>cases h
 | .dct _ _ _,e,h=>by cases e <;> cases h
 | .ktup _,e,h=>by cases e <;> cases h
 | .klst _,e,h=>by cases e <;> cases h
 | .st _,e,h=>by cases e <;> cases h
 | .ty _,e,h=>by cases e <;> cases h
 | .ref _,e,h=>by cases e <;> cases h
theorem zF5:∀(l m:List D),DS.cmpL l m=true->L2.cmpL (zDl l) (zDl m)=true
 | [],[],_=>rfl
 | [],_::_,_=>rfl
 | _::_,[],_=>rfl
 | d::l,e::m,h=>by
  have h:(d.cmp e && DS.cmpL l m)=true:=h
  rw[Bool.and_eq_true]at h
  show((toDv d).cmp (toDv e) && L2.cmpL (zDl l) (zDl m))=true
  rw[zGx d e h.1,zF5 l m h.2];rfl
end
mutual
theorem zK2:∀(d:D),(toDv d).dep<=d.dep
 | .tup l=>Nat.succ_le_succ (zF3 l)
 | .lst l=>Nat.succ_le_succ (zF3 l)
 | .non=>Nat.le_refl _
 | .bl _=>Nat.le_refl _
 | .int _=>Nat.le_refl _
 | .str _=>Nat.le_refl _
 | .dct _ _ _=>Nat.le_refl _
 | .ktup _=>Nat.le_refl _
 | .klst _=>Nat.le_refl _
 | .st _=>Nat.le_refl _
 | .ty _=>Nat.le_refl _
 | .ref _=>Nat.le_refl _
theorem zF3:∀(l:List D),L2.depL (zDl l)<=DS.depL l
 | []=>Nat.le_refl _
 | d::l=>by
  show max (toDv d).dep (L2.depL (zDl l))<=max d.dep (DS.depL l)
  have:=zK2 d
  have:=zF3 l
  lia
end
end
end L2
namespace L2
open PySem PySem.Spec PyProof.Rows
open DS (D Store Exn Rs SR)
section
variable {X:Cx}{K:PySem.W.Frag}{E:XE}{J:Js}{S:Store}{H:Hp}{d d1 d2:D}{v:V}
theorem zY4:OpR X (compareOp .LtE) (r2Of K DS.leD):=by
 intro pins s σ H x y v u Q I rx ry ⟨J,S,d1,d2,d,ha,r1,r2,e,k⟩
 unfold DS.leD DS.iLt at e
 split at e
 ·cases e;obtain rfl:=r1;obtain rfl:=r2
  exact zZp pins s σ H _ _ v u Q I rx ry ⟨_,_,rfl,rfl,k _ H ha .refl (congrArg V.bl (by congr))⟩
 ·cases e;obtain rfl:=r1;obtain rfl:=r2
  exact zNm pins s σ H _ _ v u Q I rx ry ⟨_,_,rfl,rfl,k _ H ha .refl (congrArg V.bl (by congr))⟩
 ·cases e
theorem zKd:OpR X (compareOp .Gt) (r2Of K DS.gtD):=by
 intro pins s σ H x y v u Q I rx ry ⟨J,S,d1,d2,d,ha,r1,r2,e,k⟩
 unfold DS.gtD at e
 split at e
 ·cases e;obtain rfl:=r1;obtain rfl:=r2
  exact zZq pins s σ H _ _ v u Q I rx ry ⟨_,_,rfl,rfl,k _ H ha .refl (congrArg V.bl (by congr))⟩
 ·cases e
theorem zSs:OpR X (compareOp .GtE) (r2Of K DS.geD):=by
 intro pins s σ H x y v u Q I rx ry ⟨J,S,d1,d2,d,ha,r1,r2,e,k⟩
 unfold DS.geD at e
 split at e
 ·cases e;obtain rfl:=r1;obtain rfl:=r2
  exact zZr pins s σ H _ _ v u Q I rx ry ⟨_,_,rfl,rfl,k _ H ha .refl (congrArg V.bl (by congr))⟩
 ·cases e
theorem zZ9 {α β:Type}{l:List α}{xs:List β}{i:Int}{a:α}(hl:l.length=xs.length) (e:DS.atL l i=some a):∃j:Nat,l[j]?=some a/\∀b,xs[j]?=some b->atI xs i=some b:=by
 unfold DS.atL at e
 unfold atI
 rw[show DS.ixN l.length i=L2.ixN xs.length i by rw[hl];rfl]at e
 cases e1:L2.ixN xs.length i with
 | none=>rw[e1]at e;cases e
 | some j=>rw[e1]at e;exact⟨j,e,fun b eb=>eb⟩
theorem zHf {k k':Key}(h:keyD k=keyD k'):k=k':=by
 cases k <;> cases k' <;> first|(cases h;rfl)|cases h
theorem zHe {k:Key}(r:Rep K J H (keyD k) v):v=kV k:=by cases k <;> exact r
theorem zGe:∀{l m:List Key},l.map keyD=m.map keyD->l=m
 | [],[],_=>rfl
 | [],_::_,h=>by cases h
 | _::_,[],h=>by cases h
 | a::l,b::m,h=>by
  have h:=List.cons.inj h
  rw[zHf h.1,zGe h.2]
theorem zMh {k k':List Key}(h:zPp k=zPp k'):k=k':=zGe (D.tup.inj h)
theorem zKb (h:DS.isKey d=true) (n:∀l,d≠.tup l):∃k,d=keyD k:=by
 cases d with
 | int i=>exact⟨.inl i,rfl⟩
 | str x=>exact⟨.inr x,rfl⟩
 | tup l=>exact absurd rfl (n l)
 | _=>cases h
theorem zO8:∀{l:List D},(l.all fun d=>match d with
  | .int _=>true
  | .str _=>true
  | _=>false)=true->∃k:List Key,l=k.map keyD
 | [],_=>⟨[],rfl⟩
 | d::l,h=>by
  rw[List.all_cons,Bool.and_eq_true]at h
  obtain⟨k,rfl⟩:=zO8 h.2
  cases d with
  | int i=>exact⟨.inl i::k,rfl⟩
  | str x=>exact⟨.inr x::k,rfl⟩
  | _=>cases h.1
theorem zKl:∀{k:List Key}{xs:List V},RepL K J H (k.map keyD) xs->xs=k.map kV
 | [],_,h=>h
 | a::k,_,⟨x,r,e,h,t⟩=>by subst e;rw[zHe h,zKl t];rfl
open Classical in
theorem zJi {κ:Type}[DecidableEq κ] {f:κ->D}(fi:∀a b,f a=f b->a=b) (k:κ):∀{kvs:List (κ × V)}{vs:List D},RepL K J H vs (kvs.map (·.2))->
  (valV kvs k=none/\f k ∉ kvs.map (fun p=>f p.1)/\DS.look2 (kvs.map fun p=>f p.1) vs (f k)=none)\/∃w dv,valV kvs k=some w/\f k∈kvs.map (fun p=>f p.1)/\DS.look2 (kvs.map fun p=>f p.1) vs (f k)=some dv/\Rep K J H dv w
 | [],vs,r=>.inl ⟨rfl,by simp,by cases vs <;> rfl⟩
 | p::kvs,[],r=>by have h:p.2::kvs.map (·.2)=[]:=r;cases h
 | p::kvs,dv::vs,⟨x,t,e,h,rl⟩=>by
  have e:=List.cons.inj (show p.2::kvs.map (·.2)=x::t from e)
  obtain⟨rfl,rfl⟩:=e
  by_cases z:p.1=k
  ·refine .inr ⟨p.2,dv,zGt z,by simp[z],?_,h⟩
   unfold DS.look2
   rw[List.map_cons]
   exact if_pos (by rw[z])
  ·have zf:f p.1≠f k:=fun q=>z (fi _ _ q)
   have e1:DS.look2 ((p::kvs).map fun p=>f p.1) (dv::vs) (f k)=DS.look2 (kvs.map fun p=>f p.1) vs (f k):=by
    rw[List.map_cons]
    conv=>lhs;unfold DS.look2
    exact if_neg zf
   rw[zGu z,e1]
   rcases zJi fi k rl with⟨a1,a2,a3⟩|⟨w,dv',a1,a2,a3,a4⟩
   ·exact .inl ⟨a1,by simp[a2,Ne.symm zf] <;> simpa using a2,a3⟩
   ·exact .inr ⟨w,dv',a1,by rw[List.map_cons];exact List.mem_cons_of_mem _ a2,a3,a4⟩
theorem zOu {t:Bool}{ks vs:List D}{a:Addr}{o:HO}{xs:List V}{y:V}(he:H a=some o) (ht:DOb o t ks xs) (rl:RepL K J H vs xs) (ry:Rep K J H d y) (hk:DS.zDv t d=true):
  (DGet H a y none/\d ∉ ks/\DS.look2 ks vs d=none)\/∃w dv,DGet H a y (some w)/\d∈ks/\DS.look2 ks vs d=some dv/\Rep K J H dv w:=by
 unfold DS.zDv at hk
 rw[Bool.and_eq_true]at hk
 rcases ht with⟨rfl,kvs,rfl,rfl,rfl⟩|⟨rfl,kvs,rfl,rfl,rfl⟩
 ·obtain⟨k,rfl⟩:=zKb hk.1 fun l z=>by subst z;cases hk.2
  obtain rfl:=zHe ry
  rcases zJi (fun a b=>zHf) k rl with⟨a1,a2,a3⟩|⟨w,dv,a1,a2,a3,a4⟩
  ·exact .inl ⟨.inl ⟨kvs,k,.inl he,rfl,a1.symm⟩,a2,a3⟩
  ·exact .inr ⟨w,dv,.inl ⟨kvs,k,.inl he,rfl,a1.symm⟩,a2,a3,a4⟩
 ·cases d with
  | tup l=>
   obtain⟨k,rfl⟩:=zO8 (show _=true from hk.1)
   obtain⟨b,zs,rfl,tb,rz⟩:=ry
   obtain rfl:=zKl rz
   rcases zJi (f:=zPp) (fun a b=>zMh) k rl with⟨a1,a2,a3⟩|⟨w,dv,a1,a2,a3,a4⟩
   ·exact .inl ⟨.inr ⟨kvs,k,b,.inl he,rfl,tb.1,a1.symm⟩,a2,a3⟩
   ·exact .inr ⟨w,dv,.inr ⟨kvs,k,b,.inl he,rfl,tb.1,a1.symm⟩,a2,a3,a4⟩
  | _=>cases hk.2
theorem zOy {t:Bool}{ks vs:List D}(ha:AbS K J S H) (r:Rep K J H d v) (e:DS.look S d=some (.dct t ks vs)):∃a o xs,v=.ref a/\H a=some o/\DOb o t ks xs/\RepL K J H vs xs:=by
 cases d with
 | dct t ks vs=>cases e;obtain⟨a,o,xs,rfl,_,h,q,rl⟩:=r;exact⟨a,o,xs,rfl,h,q,rl⟩
 | ref n=>
  obtain⟨a,ea,rfl⟩:=r
  obtain⟨c,ec,o,eo,rc⟩:=ha.at ea
  have e:S[n]?=_:=e
  rw[ec]at e;cases e
  obtain⟨xs,q,rl⟩:=rc
  exact⟨a,o,xs,rfl,eo,q,rl⟩
 | _=>cases e
theorem zMk {x:Str}(ha:AbS K J S H) (r:Rep K J H d v) (e:DS.look S d=some (.str x)):v=.str x:=by
 cases d with
 | str x=>cases e;exact r
 | ref n=>
  obtain⟨a,ea,rfl⟩:=r
  obtain⟨c,ec,o,eo,rc⟩:=ha.at ea
  have e:S[n]?=_:=e
  rw[ec]at e;cases e
  exact False.elim rc
 | _=>cases e
theorem zBm {l:List D}(e:DS.look S d=some (.tup l)\/DS.look S d=some (.lst l)):DS.items S d=some l:=by
 unfold DS.items
 rcases e with e|e <;> rw[e]
theorem ix_D (hu:X.A.units+1<cLine) (hK:X.K=K:=by rfl):IxR X (r2Of K DS.ixD):=by
 subst hK
 intro value slice pins s σ H x y v u Q I rx ry ⟨J,S,d1,d2,d,ha,r1,r2,e,k⟩ hs
 have seq:∀(l:List D) (i:Int),DS.items S d1=some l->d2=.int i->DS.atL l i=some d->wpAny (model X.prog X.w) X.A (subscriptTail value slice v u) (EP X pins σ Q) X.xe s:=fun l i e1 e2 e3=>by
  subst e2
  obtain rfl:=r2
  obtain⟨a,xs,rfl,hq,rl⟩:=zDw ha r1 e1
  obtain⟨j,ej,h⟩:=zZ9 (xs:=xs) rl.length e3
  obtain⟨w,ew,rw'⟩:=rl.get ej
  rcases hq with hq|hq
  ·exact zVi value slice pins s σ H _ _ v u Q I rx ry ⟨a,xs,i,w,rfl,rfl,hq,h w ew,k w H ha .refl rw'⟩ hs
  ·exact zYk value slice pins s σ H _ _ v u Q I rx ry ⟨a,xs,i,w,rfl,rfl,hq,h w ew,k w H ha .refl rw'⟩ hs
 unfold DS.ixD at e
 split at e
 ·rename_i l i e1;exact seq l i (zBm (.inl e1)) rfl e
 ·rename_i l i e1;exact seq l i (zBm (.inr e1)) rfl e
 ·rename_i z i e1
  split at e
  ·rename_i hz
   cases e2:DS.atL z.cps.toList i with
   | none=>rw[e2]at e;cases e
   | some c=>
    rw[e2]at e;cases e
    obtain rfl:=zMk ha r1 e1
    obtain rfl:=r2
    exact zYl value slice pins s σ H _ _ v u Q I rx ry ⟨z,i,c,rfl,rfl,hz,by unfold DS.atL at e2;unfold atI;exact e2,k _ H ha .refl rfl⟩ hs
  ·cases e
 ·rename_i t ks vs kk e1
  split at e
  ·rename_i hk
   obtain⟨a,o,xs,rfl,he,q,rl⟩:=zOy ha r1 e1
   rcases zOu he q rl r2 hk with⟨_,_,h⟩|⟨w,dv,g,_,h,rw'⟩
   ·rw[h]at e;cases e
   ·rw[h]at e;cases e
    obtain rfl:v=Value.ref a:=rx
    exact tail_any (ops:=[.ref a,u]) (zJm I g) PySem.F.slot_dict_getitem.lookup (zP1 hu I g ry fun w' s3 I3 rw2=>⟨w,H,I3,rw2,k w H ha .refl rw'⟩) hs
  ·cases e
 ·cases e
theorem zBr {prog:Program}{w:World}{A:Around}{E:Value->Shared->Prop}{s:Shared}{t sl:Addr}{items:Array Value}{vl vu:Value}{lo hi:Option Int}{Q:Value->Shared->Prop}(ht:IsTup s.heap t items) (hs:s.heap.IsSliceOf sl vl vu .none) (pl:IsPart vl lo) (pu:IsPart vu hi)
  (hw:HT.sIx items.size 0 lo=0/\HT.sIx items.size items.size hi=items.size) (h:Q (.ref t) s):wpAny (model prog w) A (getItem (.ref t) (.ref sl)) Q E s:=by
 obtain⟨os,hos,hcs,hds⟩:=id hs
 have hTs:s.TypeIs (.ref sl) "slice":=⟨os,hos,hcs⟩
 unfold getItem
 try with_reducible refine wpAny_holding ?_
 first|refine wpAny_bind (wpAny_pure ?_)|skip
 refine wpAny_bind (wpAny_sequenceKey ht.typeIs (by decide) ?_)
 refine wpAny_bind (wpAny_callSpecial?_slot (name:=Str.ofString "__getitem__") ht.typeIs PyProof.Rows.slot_tuple_getitem (wpAny_call_entry PyProof.Rows.slot_tuple_getitem ht.typeIs entry_tuple_getitem ?_ (args_tuple_getitem _ _)))
 show wpAny _ _ (Builtin.Tuple.tupleItemsOf (.ref t) >>= _) _ _ s
 refine wpAny_bind (tupleItemsOf_ ht ?_)
 refine wpAny_bind (wpAny_typeOf hTs ?_)
 rw[if_pos (by decide)]
 refine wpAny_bind (HT.sliceApplied_gen hs pl pu ?_)
 show wpAny _ _ (if(((HT.sIx items.size 0 lo:Nat):Int) == 0 && (1:Int) == 1 && (HT.sIx items.size items.size hi-HT.sIx items.size 0 lo) == items.size)=true then _ else _) _ _ s
 rw[if_pos (by rw[hw.1,hw.2];simp)]
 have tex:∀{Q:Bool->Shared->Prop},Q true s->wpAny (model prog w) A.in1 (Builtin.Tuple.tupleIsExact (.ref t)) Q E s:=fun {Q} q=>by
  unfold Builtin.Tuple.tupleIsExact
  refine wpAny_bind (wpAny_typeOf ht.typeIs (wpAny_pure ?_))
  exact q
 refine wpAny_bind (tex ?_)
 rw[if_pos rfl]
 refine wpAny_bind (wpAny_rule ?_)
 exact wpAny_pure ⟨_,rfl,wpAny_pure h⟩
theorem zJq {l:List D}{xs:List V}(rl:RepL K J H l xs) (lo hi:Option Int):RepL K J H (DS.cutL l lo hi) (cutV xs lo hi):=by
 unfold DS.cutL cutV
 rw[show DS.sIx l.length 0 lo=HT.sIx xs.length 0 lo by rw[rl.length];rfl,show DS.sIx l.length l.length hi=HT.sIx xs.length xs.length hi by rw[rl.length];rfl]
 exact(rl.drop _).take _
theorem zP2 {l:List D}{xs:List V}{lo hi:Option Int}(rl:RepL K J H l xs) (hw:HT.sIx xs.length 0 lo=0/\HT.sIx xs.length xs.length hi=xs.length):DS.cutL l lo hi=l:=by
 unfold DS.cutL
 rw[show DS.sIx l.length 0 lo=HT.sIx xs.length 0 lo by rw[rl.length];rfl,show DS.sIx l.length l.length hi=HT.sIx xs.length xs.length hi by rw[rl.length];rfl,hw.1,hw.2,<- rl.length]
 simp
theorem zO3 {l:List D}(ha:AbS K J S H) (r:Rep K J H d v) (e:DS.look S d=some (.lst l)):∃a xs,v=.ref a/\SqL K H a xs/\RepL K J H l xs:=by
 cases d with
 | lst l=>cases e;obtain⟨a,xs,rfl,t,rl⟩:=r;exact⟨a,xs,rfl,t.sq,rl⟩
 | klst l=>cases e;obtain⟨a,xs,rfl,t,rl⟩:=r;exact⟨a,xs,rfl,t.sq,rl⟩
 | ref n=>
  obtain⟨a,ea,rfl⟩:=r
  obtain⟨c,ec,o,eo,rc⟩:=ha.at ea
  have e:S[n]?=_:=e
  rw[ec]at e;cases e
  obtain⟨xs,rfl,rl⟩:=rc
  exact⟨a,xs,rfl,.inl (.inl eo),rl⟩
 | _=>cases e
theorem sl_D (hK:X.K=K:=by rfl):SlR X (slOf K DS.slD):=by
 subst hK
 intro pins s σ H x v vl vu lo hi sl Q I rx hs pl pu ⟨J,S,d1,d,ha,r1,e,k⟩
 unfold DS.slD at e
 split at e
 ·rename_i l
  cases e
  have r0:=r1
  obtain⟨a,xs,rfl,t,rl⟩:=r1
  by_cases hw:HT.sIx xs.length 0 lo=0/\HT.sIx xs.length xs.length hi=xs.length
  ·cases rx
   obtain⟨its,r,ht,hz⟩:=I.tuple t.sq
   have hlen:its.toArray.size=xs.length:=by rw[List.size_toArray];exact r.length.symm
   refine⟨"tuple",_,PyProof.Rows.slot_tuple_getitem.lookup,ht.typeIs,zBr ht hs pl pu (by rw[hlen];exact hw) ⟨.ref a,H,I,rfl,k _ H ha .refl ?_⟩⟩
   rw[zP2 rl hw];exact r0
  ·exact zSj pins s σ H _ v vl vu lo hi sl Q I rx hs pl pu ⟨a,xs,rfl,t.sq,hw,fun p n=>k _ _ (ha.push n) (.push n) ⟨p,_,rfl,⟨zAo,ha.out n⟩,RepL.grow (.push n) _ _ (zJq rl lo hi)⟩⟩
 ·rename_i l
  have r0:=r1
  obtain⟨a,xs,rfl,t,rl⟩:=r1
  split at e
  ·rename_i hw
   cases e
   have hw:HT.sIx xs.length 0 lo=0/\HT.sIx xs.length xs.length hi=xs.length:=by rw[<- rl.length];exact hw
   cases rx
   obtain⟨its,r,ht,hz⟩:=I.tuple (t.sq (H:=H))
   have hlen:its.toArray.size=xs.length:=by rw[List.size_toArray];exact r.length.symm
   exact⟨"tuple",_,PyProof.Rows.slot_tuple_getitem.lookup,ht.typeIs,zBr ht hs pl pu (by rw[hlen];exact hw) ⟨.ref a,H,I,rfl,k _ H ha .refl r0⟩⟩
  ·rename_i hw
   cases e
   have hw:¬ (HT.sIx xs.length 0 lo=0/\HT.sIx xs.length xs.length hi=xs.length):=by rw[<- rl.length];exact hw
   exact zSj pins s σ H _ v vl vu lo hi sl Q I rx hs pl pu ⟨a,xs,rfl,t.sq,hw,fun p n=>k _ _ (ha.push n) (.push n) ⟨p,_,rfl,⟨zAo,ha.out n⟩,RepL.grow (.push n) _ _ (zJq rl lo hi)⟩⟩
 ·split at e
  ·rename_i l e1
   cases e
   obtain⟨a,xs,rfl,t,rl⟩:=zO3 ha r1 e1
   exact zTt pins s σ H _ v vl vu lo hi sl Q I rx hs pl pu ⟨a,xs,rfl,t,fun p n=>k _ _ (ha.push n) (.push n) ⟨p,_,rfl,⟨zAo,ha.out n⟩,RepL.grow (.push n) _ _ (zJq rl lo hi)⟩⟩
  ·cases e
theorem RelV.one {x y:V}{u:Value}(h:RelV x u) (h':RelV y u):x=y:=by
 have inv:∀{z:V},RelV z u->absV u=some z:=fun {z} q=>by
  cases z with
  | non=>obtain rfl:u=Value.none:=q;rfl
  | bl b=>obtain rfl:u=Value.bool b:=q;rfl
  | int i=>obtain⟨t,rfl⟩:=q;rfl
  | str i=>obtain⟨t,rfl⟩:=q;rfl
  | byt i=>obtain⟨t,rfl⟩:=q;rfl
  | flt i=>obtain⟨t,rfl⟩:=q;rfl
  | ref a=>obtain rfl:u=Value.ref a:=q;rfl
  | ty n=>obtain rfl:u=Value.type n:=q;rfl
 exact Option.some.inj ((inv h).symm.trans (inv h'))
theorem zIf:∀{l:List D}{i:Nat}{d:D},DS.zDf l=true->l[i]?=some d->d.flat=true
 | [],_,_,_,e=>by simp at e
 | a::l,0,_,f,e=>by
  have f:(a.flat && DS.zDf l)=true:=f
  rw[Bool.and_eq_true]at f
  simp at e;subst e;exact f.1
 | a::l,i+1,d,f,e=>by
  have f:(a.flat && DS.zDf l)=true:=f
  rw[Bool.and_eq_true]at f
  exact zIf (i:=i) f.2 (by simpa using e)
theorem zOv:∀{l:List D}{i:Nat}{d:D},l[i]?=some d->d.dep<=DS.depL l
 | [],_,_,e=>by simp at e
 | a::l,0,_,e=>by
  simp at e;subst e
  show a.dep<=max a.dep (DS.depL l)
  lia
 | a::l,i+1,d,e=>by
  have:=zOv (l:=l) (i:=i) (d:=d) (by simpa using e)
  show d.dep<=max a.dep (DS.depL l)
  lia
open Classical in
theorem zV8 (hu:X.A.units+64<cLine) {pins:List (Addr × Obj)}{σ:St}{s:Shared}{x:V}{u:Value}{l:List D}{xs:List V}(I:Inv X pins σ H s) (rx:RelV x u) (r1:Rep X.K J H d1 x) (rl:RepL X.K J H l xs) (h:DS.okIn d1 l) (us:List Value) (rv:Vals xs us):
  ∃g:Value->Bool,(∀z∈us,SeqAt.EqAt X.A.in1 s z u (g z))/\us.any g=decide (d1∈l):=by
 obtain⟨f1,f2,hd,hc⟩:=h
 have hxl:=rv.length
 have hl:=rl.length
 refine⟨fun z=>decide (∃i:Nat,us[i]?=some z/\l[i]?=some d1),fun z hz=>?_,?_⟩
 ·obtain⟨i,ei⟩:=List.mem_iff_getElem?.mp hz
  have hi:i<us.length:=(List.getElem?_eq_some_iff.mp ei).1
  have hx:xs[i]?=some xs[i]:=List.getElem?_eq_getElem (by first|assumption|lia)
  obtain⟨d,ed,rd⟩:=rl.get' hx
  obtain⟨z',ez,rz⟩:=rv.get hx
  rw[ei]at ez;cases ez
  have fd:=zIf f2 ed
  have cd:=hc d (List.mem_of_getElem? ed)
  have e:=zYw I 60 (toDv d) (toDv d1) (Nat.le_trans (zK2 d) (Nat.le_trans (zOv ed) hd)) X.A.in1 xs[i] x z u (by show X.A.units+1+60<cLine;lia) (zDk _ _ fd rd) (zDk _ _ f1 r1) rz rx (zGx _ _ cd)
  have eb:(toDv d).eqv (toDv d1)=decide (∃i:Nat,us[i]?=some z/\l[i]?=some d1):=by
   by_cases q:d=d1
   ·subst q
    rw[decide_eq_true ⟨i,ei,ed⟩]
    exact(Dv.eqv_iff _ _).mpr rfl
   ·have n1:¬ ∃i:Nat,us[i]?=some z/\l[i]?=some d1:=by
     rintro⟨j,ej,dj⟩
     obtain⟨x',ex,rj⟩:=rl.get dj
     obtain⟨z'',ez,rz'⟩:=rv.get ex
     rw[ej]at ez;cases ez
     have:=RelV.one rz rz'
     subst this
     exact q (zGw _ _ fd f1 (Den.inj I _ _ _ (zDk _ _ fd rd) (zDk _ _ f1 rj) (zGx _ _ cd)))
    rw[decide_eq_false n1]
    cases qq:(toDv d).eqv (toDv d1)with
    | false=>rfl
    | true=>exact absurd (zGw _ _ fd f1 ((Dv.eqv_iff _ _).mp qq)) q
  show SeqAt.EqAt X.A.in1 s z u (decide (∃i:Nat,us[i]?=some z/\l[i]?=some d1))
  rw[<- eb]
  exact e
 ·rw[Bool.eq_iff_iff]
  simp only[List.any_eq_true,decide_eq_true_eq]
  constructor
  ·rintro⟨z,_,i,_,e⟩
   exact List.mem_of_getElem? e
  ·intro hm
   obtain⟨i,e⟩:=List.mem_iff_getElem?.mp hm
   have hi:i<us.length:=by rw[<- hxl,<- hl];exact(List.getElem?_eq_some_iff.mp e).1
   exact⟨us[i],List.getElem_mem hi,i,List.getElem?_eq_getElem hi,e⟩
open Classical in
theorem zYo {pins:List (Addr × Obj)}{σ:St}{s:Shared}{x y:V}{u w:Value}{Q:VK}{b:Bool}(neg:Bool) (hu:X.A.units+64<cLine) (I:Inv X pins σ H s) (rx:RelV x u) (ry:RelV y w) (ha:AbS X.K J S H) (r1:Rep X.K J H d1 x) (r2:Rep X.K J H d2 y) (e:DS.inO S d1 d2=some b)
  (k:Q (.bl (if neg then !b else b)) H):wpAny (model X.prog X.w) X.A (compareOp (if neg then .NotIn else .In) u w) (EP X pins σ Q) X.xe s:=by
 have hu1:X.A.units+1<cLine:=by first|assumption|lia
 have seq:∀(l:List D),DS.items S d2=some l->DS.okIn d1 l->b=decide (d1∈l)->wpAny (model X.prog X.w) X.A (compareOp (if neg then .NotIn else .In) u w) (EP X pins σ Q) X.xe s:=fun l e1 ⟨f1,f2,hd,hc⟩ eb=>by
  obtain⟨a,xs,rfl,hq,rl⟩:=zDw ha r2 e1
  cases ry
  have all:=zV8 hu I rx r1 rl ⟨f1,f2,hd,hc⟩
  rcases hq with hq|hq
  ·obtain⟨its,r,pl,hz⟩:=I.list hq
   obtain⟨g,hg,ea⟩:=all its r
   have ea2:its.toArray.any g=b:=by rw[eb,<- ea];simp
   cases neg with
   | true=>exact SeqAt.notIn_listAt g pl.isList (fun z hz=>hg z (by simpa using hz)) ⟨.bl _,H,I,rfl,by rw[ea2];exact k⟩
   | false=>exact SeqAt.in_listAt g pl.isList (fun z hz=>hg z (by simpa using hz)) ⟨.bl _,H,I,rfl,by rw[ea2];exact k⟩
  ·obtain⟨its,r,pl,hz⟩:=I.tuple hq
   obtain⟨g,hg,ea⟩:=all its r
   have ea2:its.toArray.any g=b:=by rw[eb,<- ea];simp
   cases neg with
   | true=>exact SeqAt.notIn_tupleAt g pl (fun z hz=>hg z (by simpa using hz)) ⟨.bl _,H,I,rfl,by rw[ea2];exact k⟩
   | false=>exact SeqAt.in_tupleAt g pl (fun z hz=>hg z (by simpa using hz)) ⟨.bl _,H,I,rfl,by rw[ea2];exact k⟩
 unfold DS.inO at e
 split at e
 ·rename_i l e1
  split at e
  ·rename_i h;cases e;exact seq l (zBm (.inl e1)) h rfl
  ·cases e
 ·rename_i l e1
  split at e
  ·rename_i h;cases e;exact seq l (zBm (.inr e1)) h rfl
  ·cases e
 ·rename_i t ks vs e1
  split at e
  ·rename_i hk
   cases e
   obtain⟨a,o,xs,rfl,he,q,rl⟩:=zOy ha r2 e1
   cases ry
   rcases zOu he q rl r1 hk with⟨g,h,_⟩|⟨w,dv,g,h,_⟩
   ·rw[decide_eq_false h]at k
    cases neg with
    | true=>exact zP0 hu1 I g rx fun s' I'=>⟨.bl _,H,I',rfl,k⟩
    | false=>exact d_in hu1 I g rx fun s' I'=>⟨.bl _,H,I',rfl,k⟩
   ·rw[decide_eq_true h]at k
    cases neg with
    | true=>exact zP0 hu1 I g rx fun s' I'=>⟨.bl _,H,I',rfl,k⟩
    | false=>exact d_in hu1 I g rx fun s' I'=>⟨.bl _,H,I',rfl,k⟩
  ·cases e
 ·cases e
theorem zV0 (hu:X.A.units+64<cLine) (hK:X.K=K:=by rfl):OpR X (compareOp .In) (r2Of K DS.inD):=by
 subst hK
 intro pins s σ H x y v u Q I rx ry ⟨J,S,d1,d2,d,ha,r1,r2,e,k⟩
 unfold DS.inD at e
 cases e1:DS.inO S d1 d2 with
 | none=>rw[e1]at e;cases e
 | some b=>rw[e1]at e;cases e;exact zYo false hu I rx ry ha r1 r2 e1 (k _ H ha .refl rfl)
end
end L2
namespace L2
open PySem PySem.Spec PyProof.Rows
open DS (D Store Exn Rs SR)
section
variable {X:Cx}{K:PySem.W.Frag}{E:XE}{J:Js}{S:Store}{H:Hp}{d d1 d2:D}{v:V}
def pOf (K:PySem.W.Frag) (g:Store->D->D->D->Option Store):TSet:=fun o i v H Q=>∃J S d1 d2 d3 S',AbS K J S H/\Rep K J H d1 o/\Rep K J H d2 i/\Rep K J H d3 v/\g S d1 d2 d3=some S'/\∀H',AbS K J S' H'->Grow J H J H'->Q H'
open Classical in
theorem zXc {κ:Type}[DecidableEq κ] {f:κ->D}(fi:∀a b,f a=f b->a=b) {k:κ}{dv:D}{w:V}{kvs:List (κ × V)}{vs:List D}(r:RepL K J H vs (kvs.map (·.2))) (rv:Rep K J H dv w):
  (DS.put2 (kvs.map fun p=>f p.1) vs (f k) dv).1=(putK kvs k w).map (fun p=>f p.1)/\RepL K J H (DS.put2 (kvs.map fun p=>f p.1) vs (f k) dv).2 ((putK kvs k w).map (·.2)):=by
 have any_iff:(kvs.any fun kv=>decide (kv.1=k))=true <-> f k∈kvs.map fun p=>f p.1:=by
  simp only[List.any_eq_true,decide_eq_true_eq,List.mem_map]
  constructor
  ·rintro⟨p,hp,e⟩;exact⟨p,hp,by rw[e]⟩
  ·rintro⟨p,hp,e⟩;exact⟨p,hp,fi _ _ e⟩
 unfold DS.put2 putK
 by_cases hm:f k∈kvs.map fun p=>f p.1
 ·rw[if_pos hm,if_pos (any_iff.mpr hm)]
  refine⟨?_,?_⟩
  ·rw[List.map_map]
   refine List.map_congr_left fun p _=>?_
   show f p.1=f (if p.1=k then(p.1,w)else p).1
   split <;> rfl
  ·clear hm any_iff
   induction kvs generalizing vs with
   | nil=>cases vs <;> rfl
   | cons p kvs ih=>
    cases vs with
    | nil=>cases r
    | cons dw vs=>
     obtain⟨x,t,e,h,rl⟩:=r
     have e:=List.cons.inj (show p.2::kvs.map (·.2)=x::t from e)
     obtain⟨rfl,rfl⟩:=e
     refine⟨(if p.1=k then(p.1,w)else p).2,_,rfl,?_,ih rl⟩
     by_cases z:p.1=k
     ·rw[if_pos z,if_pos (show f p.1=f k by rw[z])];exact rv
     ·rw[if_neg z,if_neg fun q=>z (fi _ _ q)];exact h
 ·rw[if_neg hm,if_neg (fun z=>hm (any_iff.mp z))]
  refine⟨by simp,?_⟩
  rw[List.map_append]
  exact r.snoc rv
theorem zJk {o i e:Expr}{mo mi m:DS.EM}{sp2 pos:Pos}{g:Store->D->D->D->Option Store}(hs:PSet X (pOf K g)) (ho:DE X K E o mo) (hi:DE X K E i mi) (he:DE X K E e m) (h:nsl i=true:=by rfl) (h2:nco e=true:=by rfl):DS1 X K E (.Assign [.Subscript o i sp2] e pos) (DS.sPut g mo mi m):=
 ⟨(qasgs' he.h (zUk ho.h hi.h hs h) h2).imp fun D σ H ⟨env,S,J,ha,he,q⟩=>⟨env,S,J,ha,he,q.then.imp fun dv S1 J1 H1 _ a1 g1 q1 v rv=>⟨env,S1,J1,a1,he.grow g1,q1.then.imp fun dx S2 J2 H2 _ a2 g2 q2 x rx=>
  ⟨env,S2,J2,a2,he.grow (g1.trans g2),q2.then.imp fun di S3 J3 H3 _ a3 g3 q3 y ry=>by
   cases e1:g S3 dx di dv with
   | none=>rw[e1]at q3;exact False.elim q3
   | some S4=>
    rw[e1]at q3
    exact⟨J3,S3,dx,di,dv,S4,a3,Rep.grow g3 _ _ rx,ry,Rep.grow (g2.trans g3) _ _ rv,e1,fun H' h1 h2=>q3 J3 H' σ h1 h2 (he.grow (g1.trans (g2.trans (g3.trans h2))))⟩⟩⟩⟩⟩
theorem zEj {ds:List D}{xs:List V}{d:D}(r:RepL K J H [d] xs):∃x,xs=[x]/\Rep K J H d x:=by
 obtain⟨x,t,rfl,h,rfl⟩:=r
 exact⟨x,rfl,h⟩
theorem zZ4 {pins:List (Addr × Obj)}{σ:St}{s:Shared}{a:Addr}{kvs:List (List Key × V)}{Q:Value->Shared->Prop}{A:Around}{E:Value->Shared->Prop}(I:Inv X pins σ H s) (e:H a=some (.dT kvs)) (h:∀t s',Inv X pins σ H s'->Q (.int kvs.length t) s'):wpAny (model X.prog X.w) A (call (.builtin "len") [.ref a]) Q E s:=by
 obtain⟨z,hd,xs,rel,dd⟩:=zOr I.hok (.inl e)
 have hT:s.TypeIs (.ref a) "dict":=dd.typeIs
 obtain⟨o,es,ep,ho,hx,hdat,hes,hall,hn⟩:=dd
 have hsz:es.size=kvs.length:=by rw[<- Array.length_toList,hes,List.length_map,<- Paired.length rel]
 rw[sizeLine_eq]at z
 have mt:MeetsIn X.prog X.w (Builtin.«dict.__len__» ⟨[.ref a],[]⟩) (fun _ R s'=>s'=s/\R (.ok (.ret (.int kvs.length s'.toks))) { s' with toks:=s'.toks+1 }):=.of_wp fun A R s' ⟨e,h⟩=>by
  subst e
  show wpAny _ _ (dictSize a >>= _) _ _ s'
  unfold dictSize
  refine wpAny_bind (wpAny_bind (wpAny_dictEntries ho hdat (wpAny_pure ?_)))
  show wpAny _ _ (Builtin.Dict.pendingCount a >>= _) _ _ s'
  refine wpAny_bind (wpAny_pendingCount_other hd ?_)
  refine wpAny_ret_mkInt ?_
  rw[Nat.add_zero,hsz];exact h
 refine Calls.call_function_entry kind_len plain_len entry_len (args_len1 _) ?_
 unfold Builtin.«len»
 refine wpAny_bind (m:=oneArg "len" _) (wpAny_pure ?_)
 refine wpAny_bind (m:=callSpecial? (.ref a) (Str.ofString "__len__")) (wpAny_callSpecial?_slot (name:=Str.ofString "__len__") hT PySem.F.slot_dict_len (call_meetsIn PySem.F.slot_dict_len hT PySem.F.entry_dict_len (PySem.F.args_dict_len_1 _) mt ⟨rfl,?_⟩))
 show wpAny _ _ _ _ _ { s with toks:=s.toks+1 }
 refine wpAny_bind (wpAny_holding (wpAny_pure ?_))
 refine wpAny_bind (wpAny_letGo ?_)
 show wpAny _ _ (if((kvs.length:Nat):Int)<0 then _ else _) _ _ _
 rw[if_neg (by first|assumption|lia)]
 show wpAny _ _ (if((kvs.length:Nat):Int) >= 2 ^ 63 then _ else _) _ _ _
 rw[if_neg (by first|assumption|lia)]
 exact wpAny_bind (wpAny_mkInt (wpAny_pure ⟨_,rfl,h _ _ (I.tok _)⟩))
theorem zCa (hK:X.K=K:=by rfl):zBk X (.builtin "len") (cOf K DS.lenB):=by
 subst hK
 intro pins s σ H xs us Q I r ⟨J,S,ds,d,ha,rl,e,k⟩
 unfold DS.lenB at e
 split at e
 ·rename_i d0
  obtain⟨x,rfl,rx⟩:=zEj (ds:=[]) rl
  have seq:∀l,DS.items S d0=some l->d=.int l.length->wpAny (model X.prog X.w) X.A (call (.builtin "len") us) (EP X pins σ Q) X.xe s:=fun l e1 e2=>by
   subst e2
   obtain⟨a,ys,rfl,hq,q⟩:=zDw ha rx e1
   exact zIk pins s σ H _ us Q I r ⟨a,ys,rfl,hq,k _ H ha .refl (by rw[q.length];rfl)⟩
  split at e
  ·rename_i l e1;cases e;exact seq l (zBm (.inl e1)) rfl
  ·rename_i l e1;cases e;exact seq l (zBm (.inr e1)) rfl
  ·rename_i t ks vs e1
   cases e
   obtain⟨a,o,ys,rfl,he,q,_⟩:=zOy ha rx e1
   obtain⟨u,rfl,ru⟩:=vals1 r
   cases ru
   rcases q with⟨rfl,kvs,rfl,rfl,rfl⟩|⟨rfl,kvs,rfl,rfl,rfl⟩
   ·exact yA1 I (.inl he) fun t s' I'=>⟨.int kvs.length,H,I',⟨t,rfl⟩,k _ H ha .refl (by rw[List.length_map];rfl)⟩
   ·exact zZ4 I he fun t s' I'=>⟨.int kvs.length,H,I',⟨t,rfl⟩,k _ H ha .refl (by rw[List.length_map];rfl)⟩
  ·rename_i z e1
   split at e
   ·rename_i hz
    cases e
    obtain rfl:=zMk ha rx e1
    exact zIj pins s σ H _ us Q I r ⟨z,rfl,hz,k _ H ha .refl rfl⟩
   ·cases e
  ·cases e
 ·cases e
theorem zJs (hK:X.K=K:=by rfl):zBk X (.type "list") (cOfF K DS.zR4):=by
 subst hK
 intro pins s σ H xs us Q I r ⟨J,S,ds,d,ha,rl,e,k⟩
 unfold DS.zR4 at e
 split at e
 ·rename_i d0
  obtain⟨x,rfl,rx⟩:=zEj (ds:=[]) rl
  cases e1:DS.items S d0 with
  | none=>rw[e1]at e;cases e
  | some l=>
   rw[e1]at e;cases e
   obtain⟨a,ys,rfl,hq,q⟩:=zDw ha rx e1
   exact zIi pins s σ H _ us Q I r ⟨a,ys,rfl,hq,fun p n=>k p _ H ha .refl n ⟨ys,rfl,q⟩⟩
 ·cases e
theorem zCu (hK:X.K=K:=by rfl):zBk X (.type "tuple") (cOf K DS.zD9):=by
 subst hK
 intro pins s σ H xs us Q I r ⟨J,S,ds,d,ha,rl,e,k⟩
 unfold DS.zD9 at e
 split at e
 ·rename_i d0
  obtain⟨x,rfl,rx⟩:=zEj (ds:=[]) rl
  split at e
  ·rename_i l
   cases e
   have r0:=rx
   obtain⟨a,ys,rfl,t,q⟩:=rx
   exact zCj pins s σ H _ us Q I r ⟨a,ys,rfl,.inr ⟨t.sq,k _ H ha .refl r0⟩⟩
  ·rename_i l
   cases e
   have r0:=rx
   obtain⟨a,ys,rfl,t,q⟩:=rx
   exact zCj pins s σ H _ us Q I r ⟨a,ys,rfl,.inr ⟨t.sq,k _ H ha .refl r0⟩⟩
  ·cases e1:DS.litems S d0 with
   | none=>rw[e1]at e;cases e
   | some l=>
    rw[e1]at e;cases e
    obtain⟨a,ys,rfl,hq,q⟩:=zDs ha rx e1
    exact zCj pins s σ H _ us Q I r ⟨a,ys,rfl,.inl ⟨.inl hq,fun p n=>k _ _ (ha.push n) (.push n) ⟨p,ys,rfl,⟨zAo,ha.out n⟩,RepL.grow (.push n) _ _ q⟩⟩⟩
 ·cases e
theorem zL7:∀{l:List D}{xs:List V}{bs:List Bool},RepL K J H l xs->DS.bools l=some bs->xs=bs.map V.bl
 | [],_,_,r,e=>by cases e;exact r
 | d::l,_,bs,⟨x,t,e0,h,rl⟩,e=>by
  subst e0
  cases d with
  | bl b=>
   unfold DS.bools at e
   cases e1:DS.bools l with
   | none=>rw[e1]at e;cases e
   | some cs=>rw[e1]at e;cases e;rw[zL7 rl e1,show x=.bl b from h];rfl
  | _=>cases e
theorem zEe (hc:X.calm=true) (hK:X.K=K:=by rfl):zBk X (.builtin "all") (cOf K DS.allB):=by
 subst hK
 intro pins s σ H xs us Q I r ⟨J,S,ds,d,ha,rl,e,k⟩
 unfold DS.allB at e
 split at e
 ·rename_i d0
  obtain⟨x,rfl,rx⟩:=zEj (ds:=[]) rl
  cases e1:DS.litems S d0 with
  | none=>rw[e1]at e;cases e
  | some l=>
   rw[e1]at e
   cases e2:DS.bools l with
   | none=>simp[e2]at e
   | some bs=>
    simp only[Option.bind_some,e2,Option.map_some,Option.some.injEq]at e
    subst e
    obtain⟨a,ys,rfl,hq,q⟩:=zDs ha rx e1
    obtain rfl:=zL7 q e2
    exact zPb hc pins s σ H _ us Q I r ⟨a,bs,rfl,.inl hq,k _ H ha .refl rfl⟩
 ·cases e
theorem zJ0 {d1 d2:D}{xs:List V}(r:RepL K J H [d1,d2] xs):∃x y,xs=[x,y]/\Rep K J H d1 x/\Rep K J H d2 y:=by
 obtain⟨x,t,rfl,h,y,t',rfl,h',rfl⟩:=r
 exact⟨x,y,rfl,h,h'⟩
theorem zM4 (hc:X.calm=true):zBk X (.builtin "max") (cOf K DS.max2B):=by
 intro pins s σ H xs us Q I r ⟨J,S,ds,d,ha,rl,e,k⟩
 unfold DS.max2B at e
 split at e
 ·obtain⟨x,y,rfl,rx,ry⟩:=zJ0 rl
  obtain rfl:=rx;obtain rfl:=ry
  cases e
  exact zPa hc pins s σ H _ us Q I r ⟨_,_,rfl,k _ H ha .refl (congrArg V.int (by congr))⟩
 ·cases e
theorem zIl:zBk X (.builtin "abs") (cOf K DS.absB):=by
 intro pins s σ H xs us Q I r ⟨J,S,ds,d,ha,rl,e,k⟩
 unfold DS.absB at e
 split at e
 ·obtain⟨x,rfl,rx⟩:=zEj (ds:=[]) rl
  obtain rfl:=rx
  cases e
  exact zS3 pins s σ H _ us Q I r ⟨_,rfl,k _ H ha .refl (congrArg V.int (by congr))⟩
 ·cases e
theorem zGc:MtR X "list.append" (mOf K DS.zC5):=by
 intro pins s σ H x xs v us Q I rx rs ⟨J,S,d1,ds,d,S',ha,r1,rl,e,k⟩
 unfold DS.zC5 at e
 split at e
 ·rename_i n dv
  obtain⟨a,ea,rfl⟩:=r1
  obtain⟨c,ec,ob,eo,rc⟩:=ha.at ea
  obtain⟨y,rfl,ry⟩:=zEj (ds:=[]) rl
  split at e
  ·rename_i l es
   rw[ec]at es;cases es
   obtain⟨ys,rfl,rl⟩:=rc
   split at e
   ·rename_i hz
    cases e
    exact zNx pins s σ H _ _ v us Q I rx rs ⟨a,ys,y,rfl,rfl,eo,by rw[<- rl.length];exact hz,k _ _ (ha.write ea ⟨_,rfl,rl.snoc ry⟩) (.write ea) rfl⟩
   ·cases e
  ·cases e
 ·cases e
theorem zNw:MtR X "list.pop" (mOf K DS.popM):=by
 intro pins s σ H x xs v us Q I rx rs ⟨J,S,d1,ds,d,S',ha,r1,rl,e,k⟩
 unfold DS.popM at e
 split at e
 ·rename_i n
  obtain⟨a,ea,rfl⟩:=r1
  obtain⟨c,ec,ob,eo,rc⟩:=ha.at ea
  obtain rfl:=rl
  split at e
  ·rename_i l es
   rw[ec]at es;cases es
   obtain⟨ys,rfl,rl⟩:=rc
   cases e1:l[l.length-1]? with
   | none=>rw[e1]at e;cases e
   | some w=>
    rw[e1]at e
    simp only[Option.map_some,Option.some.injEq,Prod.mk.injEq]at e
    obtain⟨rfl,rfl⟩:=e
    obtain⟨y,ey,ry⟩:=rl.get e1
    have g:Grow J H J (upd H a (.lst ys.dropLast)):=.write ea
    exact zY8 pins s σ H _ _ v us Q I rx rs ⟨a,ys,y,rfl,rfl,eo,by rw[<- rl.length];exact ey,k _ _ (ha.write ea ⟨_,rfl,rl.dropLast⟩) g (Rep.grow g _ _ ry)⟩
  ·cases e
 ·cases e
end
end L2
namespace L2
open PySem PySem.Spec PyProof.Rows
open DS (D Store Exn Rs SR)
section
variable {X:Cx}{K:PySem.W.Frag}{E:XE}{J:Js}{S:Store}{H:Hp}{d d1 d2:D}{v:V}
theorem zOd {tg:Expr}{pins:List (Addr × Obj)}{s1:Shared}{σ:St}{H1:Hp}{R:It->Hp->Prop}{a:Addr}{xs:List V}(I1:Inv X pins σ H1 s1) (hq:SqL X.K H1 a xs) (q:R (Itl X.K a) H1):wpAny (model X.prog X.w) X.A (pyIter (.ref a)) (PIE X pins σ tg R) X.xe s1:=by
 obtain⟨its,rv,p,hz⟩:=I1.list hq
 refine wpAny_pyIter_list p.isList ?_
 refine⟨s1.heap.objs.size,[s1.heap.objs.size],_,_,H1,rfl,I1.kept (t':=s1.toks) fun b o e=>Heap.get?_push_of_some _ e,zMf a _,⟨_,Heap.get?_push_size _ rfl,rfl,rfl⟩,fun b hb=>?_,q⟩
 have e:b=s1.heap.objs.size:=by simpa using hb
 subst e
 exact I1.fpOk (Nat.le_refl _) (I1.hok.fresh (Nat.le_refl _))
theorem zR6 {tg:Expr}{pins:List (Addr × Obj)}{s1:Shared}{σ:St}{H1:Hp}{R:It->Hp->Prop}{a:Addr}{xs:List V}(I1:Inv X pins σ H1 s1) (hq:SqT X.K H1 a xs) (q:R (Itt X.K a) H1):wpAny (model X.prog X.w) X.A (pyIter (.ref a)) (PIE X pins σ tg R) X.xe s1:=by
 obtain⟨its,rv,p,hz⟩:=I1.tuple hq
 refine wpAny_pyIter_tuple (show s1.heap.IsTuple a its.toArray from p) ?_
 refine⟨s1.heap.objs.size,[s1.heap.objs.size],_,_,H1,rfl,I1.kept (t':=s1.toks) fun b o e=>Heap.get?_push_of_some _ e,zLd a _,⟨_,Heap.get?_push_size _ rfl,rfl,rfl⟩,fun b hb=>?_,q⟩
 have e:b=s1.heap.objs.size:=by simpa using hb
 subst e
 exact I1.fpOk (Nat.le_refl _) (I1.hok.fresh (Nat.le_refl _))
theorem zR7 {tg:Expr}{pins:List (Addr × Obj)}{s1:Shared}{σ:St}{H1:Hp}{R:It->Hp->Prop}{z:Str}{t:Tok}(I1:Inv X pins σ H1 s1) (ha:z.cps.all (·<128)=true) (q:R (Its z) H1):wpAny (model X.prog X.w) X.A (pyIter (.str z t)) (PIE X pins σ tg R) X.xe s1:=by
 refine wpAny_pyIter_ascii ha ?_
 refine⟨s1.heap.objs.size,[s1.heap.objs.size],_,Its z,H1,rfl,I1.kept (t':=s1.toks) fun b o e=>Heap.get?_push_of_some _ e,zPo s1.heap.objs.size z t,⟨Nat.zero_le _,_,Heap.get?_push_size _ rfl,rfl,rfl⟩,fun b hb=>?_,q⟩
 have e:b=s1.heap.objs.size:=by simpa using hb
 subst e
 exact I1.fpOk (Nat.le_refl _) (I1.hok.fresh (Nat.le_refl _))
theorem stays_list {l:List D}(ha:AbS K J S H) (r:Rep K J H d v) (e:DS.look S d=some (.lst l)):∃a xs,v=.ref a/\SqL K H a xs/\∀J' H' S',Grow J H J' H'->AbS K J' S' H'->DS.gOk S' (DS.gdOf S d)->∃ys,SqL K H' a ys/\RepL K J' H' l ys:=by
 cases d with
 | lst l=>cases e;obtain⟨a,xs,rfl,t,rl⟩:=r;exact⟨a,xs,rfl,t.sq,fun J' H' S' g _ _=>⟨xs,(t.grow g).sq,RepL.grow g _ _ rl⟩⟩
 | klst l=>cases e;obtain⟨a,xs,rfl,t,rl⟩:=r;exact⟨a,xs,rfl,t.sq,fun J' H' S' g _ _=>⟨xs,(t.grow g).sq,RepL.grow g _ _ rl⟩⟩
 | ref n=>
  obtain⟨a,ea,rfl⟩:=r
  obtain⟨c,ec,o,eo,rc⟩:=ha.at ea
  have e:S[n]?=_:=e
  rw[ec]at e;cases e
  obtain⟨xs,rfl,rl⟩:=rc
  refine⟨a,xs,rfl,.inl (.inl eo),fun J' H' S' g ha' gd=>?_⟩
  have e':S'[n]?=some (.lst l):=gd (n,.lst l) (by simp[DS.gdOf,ec])
  obtain⟨o',eo',rc'⟩:=ha'.ob n a _ (g.pre n a ea) e'
  obtain⟨ys,rfl,rl'⟩:=rc'
  exact⟨ys,.inl (.inl eo'),rl'⟩
 | _=>cases e
theorem stays_tup {l:List D}(ha:AbS K J S H) (r:Rep K J H d v) (e:DS.look S d=some (.tup l)):∃a xs,v=.ref a/\SqT K H a xs/\∀J' H',Grow J H J' H'->SqT K H' a xs/\RepL K J' H' l xs:=by
 cases d with
 | tup l=>cases e;obtain⟨a,xs,rfl,t,rl⟩:=r;exact⟨a,xs,rfl,t.sq,fun J' H' g=>⟨(t.grow g).sq,RepL.grow g _ _ rl⟩⟩
 | ktup l=>cases e;obtain⟨a,xs,rfl,t,rl⟩:=r;exact⟨a,xs,rfl,t.sq,fun J' H' g=>⟨t.sq,RepL.grow g _ _ rl⟩⟩
 | ref n=>
  obtain⟨a,ea,rfl⟩:=r
  obtain⟨c,ec,o,eo,rc⟩:=ha.at ea
  have e:S[n]?=_:=e
  rw[ec]at e;cases e
  exact False.elim rc
 | _=>cases e
theorem zVk {a:Addr}{l:List D}{gd:List (Nat × D)}(h:∀J' H' S',Grow J H J' H'->AbS K J' S' H'->DS.gOk S' gd->∃ys,SqL K H' a ys/\RepL K J' H' l ys):ItOk K J H ⟨l,gd⟩ (Itl K a) where
 go:=fun i H' J' S' ha g gd hi=>by
  obtain⟨ys,q,rl⟩:=h J' H' S' g ha gd
  exact⟨ys,ys[i]'(by rw[<- rl.length];exact hi),q,List.getElem?_eq_getElem _⟩
 yld:=fun i H' J' S' x H'' ha g gd y d ed=>by
  obtain⟨rfl,y⟩:=y
  obtain⟨ys,q,rl⟩:=h J' H'' S' g ha gd
  obtain⟨x',ex,rx⟩:=rl.get ed
  rw[y ys q]at ex;cases ex
  exact⟨ha,.refl,rx⟩
 stop:=fun i H' J' S' ha g gd hi=>by
  obtain⟨ys,q,rl⟩:=h J' H' S' g ha gd
  exact⟨ys,q,by rw[<- rl.length];exact hi⟩
theorem zYm {a:Addr}{xs:List V}{l:List D}{gd:List (Nat × D)}(h:∀J' H',Grow J H J' H'->SqT K H' a xs/\RepL K J' H' l xs):ItOk K J H ⟨l,gd⟩ (Itt K a) where
 go:=fun i H' J' S' ha g gd hi=>by
  obtain⟨q,rl⟩:=h J' H' g
  exact⟨xs,xs[i]'(by rw[<- rl.length];exact hi),q,List.getElem?_eq_getElem _⟩
 yld:=fun i H' J' S' x H'' ha g gd y d ed=>by
  obtain⟨rfl,y⟩:=y
  obtain⟨q,rl⟩:=h J' H'' g
  obtain⟨x',ex,rx⟩:=rl.get ed
  rw[y xs q]at ex;cases ex
  exact⟨ha,.refl,rx⟩
 stop:=fun i H' J' S' ha g gd hi=>by
  obtain⟨q,rl⟩:=h J' H' g
  exact⟨xs,q,by rw[<- rl.length];exact hi⟩
theorem zYn {x:Str}:ItOk K J H ⟨DS.chars x,[]⟩ (Its x) where
 go:=fun i H' J' S' ha g gd hi=>by
  have:(DS.chars x).length=x.cps.size:=by simp[DS.chars]
  show i<x.cps.size
  rw[<- this];exact hi
 yld:=fun i H' J' S' y H'' ha g gd yl d ed=>by
  obtain⟨rfl,c,ec,rfl⟩:=yl
  have e:(DS.chars x)[i]?=some (D.str ⟨#[c]⟩):=by
   unfold DS.chars
   rw[List.getElem?_map,Array.getElem?_toList,ec];rfl
  rw[e]at ed;cases ed
  exact⟨ha,.refl,rfl⟩
 stop:=fun i H' J' S' ha g gd hi=>by
  have:(DS.chars x).length=x.cps.size:=by simp[DS.chars]
  show x.cps.size<=i
  rw[<- this];exact hi
theorem zBu {tg e:Expr}{m:DS.EM}(he:DE X K E e m) (hK:X.K=K:=by rfl):DI X K E tg e (DS.iVal m):=by
 subst hK
 refine⟨⟨fun pins s σ H R I ⟨env,S,J,ha,hE,q⟩=>?_⟩⟩
 refine thn (he.h.h pins s σ H (fun x H1=>∃J1 S1 d w,AbS X.K J1 S1 H1/\Rep X.K J1 H1 d x/\DS.zDj S1 d=some w/\∀It,ItOk X.K J1 H1 w It->R It H1) I ⟨env,S,J,ha,hE,q.bind.imp fun d S1 J1 H1 _ a1 g1 q1 x rx=>?_⟩) fun v s1 ⟨x,H1,I1,r1,J1,S1,d,w,a1,rx,ew,k⟩=>?_
 ·obtain⟨w,ew,k⟩:=q1.lift
  exact⟨J1,S1,d,w,a1,rx,ew,k J1 H1 a1 .refl⟩
 ·unfold DS.zDj at ew
  split at ew
  ·rename_i l el
   cases ew
   obtain⟨a,xs,rfl,hq,st⟩:=stays_tup a1 rx el
   cases r1
   exact zR6 I1 hq (k _ (zYm st))
  ·rename_i l el
   cases ew
   obtain⟨a,xs,rfl,hq,st⟩:=stays_list a1 rx el
   cases r1
   exact zOd I1 hq (k _ (zVk st))
  ·rename_i z ez
   split at ew
   ·rename_i hz
    cases ew
    obtain rfl:=zMk a1 rx ez
    obtain⟨t,rfl⟩:=r1
    exact zR7 I1 hz (k _ zYn)
   ·cases ew
  ·cases ew
theorem zR9 {lo:Int}{n:Nat}:ItOk K J H ⟨(List.range n).map fun(k:Nat)=>D.int (lo+k),[]⟩ (Itr lo n) where
 go:=fun i H' J' S' ha g gd hi=>by show i<n;simpa using hi
 yld:=fun i H' J' S' y H'' ha g gd yl d ed=>by
  obtain⟨rfl,rfl⟩:=yl
  rw[List.getElem?_map]at ed
  by_cases hi:i<n
  ·rw[List.getElem?_range hi]at ed
   cases ed
   exact⟨ha,.refl,rfl⟩
  ·rw[List.getElem?_eq_none (by simpa using hi)]at ed
   cases ed
 stop:=fun i H' J' S' ha g gd hi=>by show n<=i;simpa using hi
theorem fits_of {i:Int}(h:DS.fits62 i=true):-(2 ^ 62)<=i/\i<2 ^ 62:=of_decide_eq_true h
theorem zOt {tg a:Expr}{p pos:Pos}{am:DS.AM}(hg:Gl X "range") (hm:X.mg "range"=none) (ha:DA X K E [a] am) (h:nst a=true:=by rfl):DI X K E tg (.Call (.Name "range" p) [a] [] pos) (DS.zIc am):=
 ⟨(qrange1' hg hm ha.h h).imp fun σ H R ⟨env,S,J,h,hE,q⟩=>⟨env,S,J,h,hE,q.bind.imp fun ds S1 J1 H1 e1 a1 g1 q1 xs rx=>by
  obtain⟨w,ew,k⟩:=q1.lift
  have hl:=ha.len _ _ _ _ e1
  match ds,hl with
  | [d],_=>
   obtain⟨x,rfl,r⟩:=zEj (ds:=[]) rx
   cases d with
   | int j=>
    unfold DS.zJ3 at ew
    simp only at ew
    by_cases hf:DS.fits62 j=true
    ·rw[if_pos hf]at ew;cases ew
     obtain rfl:=r
     refine⟨j,rfl,(fits_of hf).1,(fits_of hf).2,k J1 H1 a1 .refl _ ?_⟩
     have e:DS.zGa 0 j=(List.range j.toNat).map fun(k:Nat)=>D.int (0+k):=by unfold DS.zGa;rw[Int.sub_zero]
     rw[e]
     exact zR9
    ·rw[if_neg hf]at ew;cases ew
   | _=>cases ew⟩⟩
theorem zGm {e:Expr}{m:DS.EM}{p p2 pos pos2:Pos}(hc:X.calm=true) (he:DE X K E e m) (hgl:Gl X "list") (hml:X.mg "list"=none) (hgr:Gl X "reversed") (hmr:X.mg "reversed"=none) (h:nst e=true:=by rfl) (hK:X.K=K:=by rfl):
  DF X K E (.Call (.Name "list" p) [.Call (.Name "reversed" p2) [e] [] pos2] [] pos) (DS.eUn DS.revL m):=by
 subst hK
 refine⟨(qlistrev' hc he.h hgl hml hgr hmr h).imp fun σ H Q ⟨env,S,J,ha,hE,q⟩=>⟨env,S,J,ha,hE,q.bind.imp fun d S1 J1 H1 _ a1 g1 q1 x rx=>?_⟩⟩
 obtain⟨c,ec,k⟩:=q1.lift
 unfold DS.revL at ec
 split at ec
 ·rename_i l el
  cases ec
  obtain⟨a,xs,rfl,hq,rl⟩:=zO3 a1 rx el
  exact⟨a,xs,rfl,hq,fun p n=>k J1 H1 a1 .refl p _ n ⟨_,rfl,rl.reverse⟩⟩
 ·cases ec
structure DPs (X:Cx) (K:PySem.W.Frag) (E:XE) (pos:Pos) (keys:List (Option Expr)) (values:List Expr) (ks:List Key) (am:DS.AM):Prop where
 ex:∃trs,SPs X pos keys values trs/\∀σ H Q,(∃env S J,AbS K J S H/\RepE K J H env σ/\Post K E J H (am env S) (fun vs _ J' H'=>∀xs,RepL K J' H' vs xs->Q ((ks.map kV).zip xs) H'))->zK4 trs σ H Q
 len:∀env S ds S',am env S=.ok ds S'->ds.length=ks.length
theorem zW1 {pos:Pos}:DPs X K E pos [] [] [] DS.aNil:=⟨⟨[],zQ7,fun σ H Q ⟨env,S,J,ha,he,q⟩=>q J H ha .refl [] rfl⟩,fun _ _ _ _ e=>by cases e;rfl⟩
theorem zHo {pos kp:Pos}{x:Str}{j:_}{v:Expr}{ks:List (Option Expr)}{vs:List Expr}{kl:List Key}{m:DS.EM}{am:DS.AM}(hv:DE X K E v m) (hr:DPs X K E pos ks vs kl am):DPs X K E pos (some (.Constant (.str x) j kp)::ks) (v::vs) (.inr x::kl) (DS.zA1 m am):=by
 obtain⟨trs,hp,hq⟩:=hr.ex
 refine⟨⟨_,zN6 (zNd (x:=x)) hv.h hp,fun σ H Q ⟨env,S,J,ha,he,q⟩=>⟨env,S,J,ha,he,q.bind.imp fun d S1 J1 H1 _ a1 g1 q1 y ry=>hq σ H1 _ ⟨env,S1,J1,a1,he.grow g1,q1.bind.imp fun ds S2 J2 H2 _ a2 g2 q2 xs rx=>
  q2 J2 H2 a2 .refl (y::xs) ⟨y,xs,rfl,Rep.grow g2 _ _ ry,rx⟩⟩⟩⟩,fun env S ds S' e1=>?_⟩
 unfold DS.zA1 at e1
 cases e2:m env S with
 | ok d S1=>
  rw[e2,Rs.bind_ok]at e1
  cases e3:am env S1 with
  | ok dr S2=>rw[e3,Rs.bind_ok]at e1;cases e1;simp[hr.len _ _ _ _ e3]
  | _=>rw[e3]at e1;cases e1
 | _=>rw[e2]at e1;cases e1
theorem zGd:∀{kvs acc:List (Key × V)},((acc++kvs).map (·.1)).Nodup->zEk acc kvs=acc++kvs
 | [],acc,_=>by simp[zEk]
 | p::kvs,acc,h=>by
  have hn:(acc.any fun kv=>decide (kv.1=p.1))=false:=by
   rw[Bool.eq_false_iff]
   intro z
   obtain⟨q,hq,e⟩:=List.any_eq_true.mp z
   rw[List.map_append,List.map_cons]at h
   exact(List.nodup_append.mp h).2.2 q.1 (List.mem_map.mpr ⟨q,hq,rfl⟩) p.1 (List.mem_cons_self ..) (of_decide_eq_true e)
  have e:putK acc p.1 p.2=acc++[p]:=by unfold putK;rw[hn];rfl
  show zEk (putK acc p.1 p.2) kvs=_
  rw[e,zGd (by simpa using h)]
  simp
theorem zW5 {pos:Pos}{keys:List (Option Expr)}{values:List Expr}{kl:List Key}{ks:List D}{am:DS.AM}(h:DPs X K E pos keys values kl am) (hk:ks=kl.map keyD) (nd:kl.Nodup) (hall:keys.all (·.isSome)=true:=by rfl) (hl:keys.length=values.length:=by rfl) (h0:keys≠[]:=by intro z;cases z) (h15:keys.length<=15:=by decide) (hz:kl.length<=15:=by decide):
  DE X K E (.Dict keys values pos) (DS.zRq ks am):=by
 subst hk
 obtain⟨trs,hp,hq⟩:=h.ex
 refine⟨(zQl hp hall hl h0 h15).imp fun σ H Q ⟨env,S,J,ha,he,q⟩ p n=>hq σ _ _ ⟨env,S++[.dct false [] []],J++[p],ha.name (o:=.dK []) (d:=.dct false [] []) n ⟨[],.inl ⟨rfl,[],rfl,rfl,rfl⟩,rfl⟩,he.grow (.name n),(Post.grow (Grow.name n) q).bind.imp fun vs S1 J1 H1 e1 a1 g1 q1 xs rx=>?_⟩⟩
 have ep:(J++[p])[S.length]?=some p:=by rw[<- ha.len,List.getElem?_append_right (Nat.le_refl _)];simp
 have ep1:=g1.pre _ _ ep
 have hlen:=h.len _ _ _ _ e1
 by_cases hc:S1[S.length]?=some (.dct false [] [])
 ·rw[if_pos hc]at q1
  obtain⟨o,eo,rc⟩:=a1.ob _ _ _ ep1 hc
  obtain⟨zs,t,_⟩:=rc
  have ho:o=.dK []:=by
   rcases t with⟨_,kvs,rfl,e,_⟩|⟨z,_⟩
   ·cases kvs with
    | nil=>rfl
    | cons a r=>cases e
   ·cases z
  subst ho
  have lx:kl.length=xs.length:=by rw[<- hlen];exact rx.length
  have m1:(kl.zip xs).map (·.1)=kl:=by rw[List.map_fst_zip (by first|assumption|lia)]
  have m2:(kl.zip xs).map (·.2)=xs:=by rw[List.map_snd_zip (by first|assumption|lia)]
  refine⟨eo,kl.zip xs,?_,?_,?_⟩
  ·rw[List.zip_map_left]
   rfl
  ·rw[List.length_zip];lia
  ·rw[zGd (acc:=[]) (by rw[List.nil_append,m1];exact nd),List.nil_append]
   refine q1 J1 _ (a1.write ep1 ⟨xs,.inl ⟨rfl,_,rfl,?_,m2.symm⟩,rx⟩) (.write ep1) (.ref p) ⟨p,ep1,rfl⟩
   rw[show kl.map keyD=((kl.zip xs).map (·.1)).map keyD by rw[m1],List.map_map]
   rfl
 ·rw[if_neg hc]at q1;exact False.elim q1
theorem zVg (K:PySem.W.Frag) {U T:String}(hU:U∈DS.kinds) (hT:T∈DS.kinds):PySem.W.kitOne K (.type U) (.type T)=some (DS.zZu U T):=by
 unfold DS.kinds at hU hT
 simp only[List.mem_cons,List.not_mem_nil,or_false]at hU hT
 rcases hU with rfl|rfl|rfl|rfl|rfl|rfl <;> rcases hT with rfl|rfl|rfl|rfl|rfl|rfl <;> first
  | rfl
  | (unfold PySem.W.kitOne;rfl)
  | (unfold PySem.W.kitOne;simp;rfl)
end
end L2
namespace L2
open PySem PySem.Spec PyProof.Rows
open DS (D Store Exn Rs SR)
theorem zMx {K:PySem.W.Frag}{F:DS.Fn}{H:Hp}{a:Addr}{ns:List Int}{XX:XK}(h:∃S,F [.klst (ns.map D.int)] []=.ok (.bl true) S) (hS:SqL K H a (ns.map V.int)):spOf K XE0 F [.ref a] H (fun v _=>v=.bl true) XX:=by
 obtain⟨S,e⟩:=h
 refine⟨[],[],[.klst (ns.map D.int)],⟨rfl,List.nodup_nil,fun i a d e _=>by simp at e⟩,⟨.ref a,[],rfl,⟨a,ns.map V.int,rfl,?_,.ints⟩,rfl⟩,?_⟩
 ·rcases hS with h|h
  ·exact .inl ⟨h,by simp⟩
  ·exact .inr h
 ·rw[e]
  exact fun J' H' _ _ v r=>r
end L2
namespace TM
open PySem PyProof.Rows
def dk:Keyed:=(Value.none,Value.none)
def Cm (prog:Program) (w:World) (A:Around) (s:Shared) (κ:SortKind) (rk:Keyed->Nat) (Gd:Keyed->Prop):Prop:=
 ∀x y,Gd x->Gd y->∀(Q:Bool->Shared->Prop) (E':Value->Shared->Prop),Q (decide (rk x<rk y)) s->wpAny (model prog w) A (keyLt' κ x.1 y.1) Q E' s
structure SB (κ:SortKind) (a₀:Array Keyed) (st:SortSt):Prop where
 perm:(arrOf st).Perm a₀
 kind:kindOf st=κ
 failed:failedOf st=none
section
variable {κ:SortKind}{a₀:Array Keyed}{st:SortSt}{rk:Keyed->Nat}
theorem SB.size (h:SB κ a₀ st):(arrOf st).size=a₀.size:=h.perm.size_eq
theorem SB.set (h:SB κ a₀ st) {xs:Array Keyed}(hp:xs.Perm (arrOf st)):SB κ a₀ (setArr st xs):=⟨hp.trans h.perm,h.kind,h.failed⟩
def ky (rk:Keyed->Nat) (xs:Array Keyed) (i:Nat):Nat:=rk (xs.getD i dk)
def So (rk:Keyed->Nat) (xs:Array Keyed) (a b:Nat):Prop:=∀i j,a<=i->i<=j->j<b->ky rk xs i<=ky rk xs j
def Fa (rk:Keyed->Nat) (xs:Array Keyed) (a b:Nat):Prop:=∀i j,a<=i->i<=j->j<b->ky rk xs j<=ky rk xs i
def Out (a b:Nat) (xs ys:Array Keyed):Prop:=∀k,k<a\/b<=k->ys[k]?=xs[k]?
theorem Out.refl {a b:Nat}{xs:Array Keyed}:Out a b xs xs:=fun _ _=>rfl
theorem Out.trans {a b:Nat}{xs ys zs:Array Keyed}(h:Out a b xs ys) (h':Out a b ys zs):Out a b xs zs:=fun k hk=>(h' k hk).trans (h k hk)
theorem Out.mono {a b a' b':Nat}{xs ys:Array Keyed}(h:Out a b xs ys) (h1:a'<=a) (h2:b<=b'):Out a' b' xs ys:=fun k hk=>h k (by first|assumption|lia)
theorem zVt {xs ys:Array Keyed}{i j:Nat}(h:xs[i]?=ys[j]?):xs.getD i dk=ys.getD j dk:=by
 rw[Array.getD_eq_getD_getElem?,Array.getD_eq_getD_getElem?,h]
theorem zLr {xs ys:Array Keyed}{i j:Nat}(h:xs[i]?=ys[j]?):ky rk xs i=ky rk ys j:=by unfold ky;rw[zVt h]
theorem Out.ky {a b k:Nat}{xs ys:Array Keyed}(h:Out a b xs ys) (hk:k<a\/b<=k):TM.ky rk ys k=TM.ky rk xs k:=zLr (h k hk)
theorem So.out {a b c d:Nat}{xs ys:Array Keyed}(h:So rk xs c d) (o:Out a b xs ys) (hd:d<=a\/b<=c):So rk ys c d:=fun i j h1 h2 h3=>by
 rw[o.ky (by first|assumption|lia),o.ky (by first|assumption|lia)];exact h i j h1 h2 h3
theorem zO7 {xs:Array Keyed}{i j:Nat}(hj:j<=xs.size) (k:Nat):ky rk (mirror xs i j ((j-i) / 2)) k=if i<=k/\k<j then ky rk xs (i+j-1-k)else ky rk xs k:=by
 have e:=getElem?_mirror_all (i:=i) hj k
 split at e <;> rename_i h1
 ·rw[if_pos h1];exact zLr e
 ·rw[if_neg h1];exact zLr e
theorem zCr {xs:Array Keyed}{i j:Nat}(hj:j<=xs.size) (he:∀k,i<=k->k<j->ky rk xs k=ky rk xs (j-1)) (k:Nat):ky rk (mirror xs i j ((j-i) / 2)) k=ky rk xs k:=by
 rw[zO7 hj]
 split
 ·rw[he _ (by first|assumption|lia) (by first|assumption|lia),he k (by first|assumption|lia) (by first|assumption|lia)]
 ·rfl
theorem zUx {xs:Array Keyed}{i j:Nat}(hj:j<=xs.size):Out i j xs (mirror xs i j ((j-i) / 2)):=fun k hk=>by
 rw[getElem?_mirror_all hj,if_neg (by first|assumption|lia)]
theorem zT2 {xs:Array Keyed}{src d:Nat}(hs:src<xs.size) (hd:d<=src) (k:Nat):ky rk (bubble xs src d) k=if k=src-d then ky rk xs src else if src-d<k/\k<=src then ky rk xs (k-1)else ky rk xs k:=by
 have e:=getElem?_bubble hs d hd k
 split at e <;> rename_i h1
 ·rw[if_pos h1];exact zLr e
 ·rw[if_neg h1]
  split at e <;> rename_i h2
  ·rw[if_pos h2];exact zLr e
  ·rw[if_neg h2];exact zLr e
theorem zUy {xs:Array Keyed}{src d:Nat}(hs:src<xs.size) (hd:d<=src):Out (src-d) (src+1) xs (bubble xs src d):=fun k hk=>by
 rw[getElem?_bubble hs d hd,if_neg (by first|assumption|lia),if_neg (by first|assumption|lia)]
end
section
variable {prog:Program}{w:World}{A:Around}{E:Value->Shared->Prop}{s:Shared}{κ:SortKind}{a₀:Array Keyed}{rk:Keyed->Nat}{Gd:Keyed->Prop}
theorem at_ok {xs:Array Keyed}(hp:xs.Perm a₀) (hg:∀x∈a₀,Gd x) {i:Nat}(hi:i<a₀.size):xs[i]?=some (xs.getD i dk)/\Gd (xs.getD i dk):=by
 have hi':i<xs.size:=by rw[hp.size_eq];exact hi
 have e:xs.getD i dk=xs[i]:=by simp[Array.getD,hi']
 refine⟨by rw[e];exact getElem?_pos _ i hi',?_⟩
 rw[e]
 exact hg _ (hp.mem_iff.mp (Array.getElem_mem hi'))
theorem w_lt (C:Cm prog w A s κ rk Gd) {st:SortSt}{x y:Keyed}{Q:Option Bool->SortSt->Prop}(hk:kindOf st=κ) (hx:Gd x) (hy:Gd y) (h:Q (some (decide (rk x<rk y))) st):wpS (model prog w) A E s (lt' x y) Q st:=by
 rw[lt'_eq]
 refine wpS_bind (wpS_get ?_)
 rw[hk]
 exact wpS_bind (wpS_lift (wpAny_attempt (C x y hx hy _ _ ⟨rfl,wpS_pure h⟩)))
theorem zSd {st:SortSt}{xs:Array Keyed}{i:Nat}{x:Keyed}{Q:Keyed->SortSt->Prop}(e:xs[i]?=some x) (h:Q x st):wpS (model prog w) A E s (elem' xs i) Q st:=by
 rw[elem'_eq,e];exact wpS_pure h
theorem w_at (C:Cm prog w A s κ rk Gd) (hg:∀x∈a₀,Gd x) {st:SortSt}{i j:Nat}{Q:Option Bool->SortSt->Prop}(B:SB κ a₀ st) (hi:i<a₀.size) (hj:j<a₀.size)
  (h:Q (some (decide (ky rk (arrOf st) i<ky rk (arrOf st) j))) st):wpS (model prog w) A E s (ltAt' i j) Q st:=by
 obtain⟨e1,g1⟩:=at_ok B.perm hg hi
 obtain⟨e2,g2⟩:=at_ok B.perm hg hj
 rw[ltAt'_eq]
 refine wpS_bind (wpS_get ?_)
 exact wpS_bind (zSd e1 (wpS_bind (zSd e2 (w_lt C B.kind g1 g2 h))))
def ascL (lo a nrem:Nat):StateT SortSt Sem AscSt:=forIn [a:nrem] ((none,a):AscSt) fun _ z=>do
 let x <- ltAt' (lo+z.snd) (lo+z.snd-1)
 match x with
 | some smaller=>if smaller=true then pure (ForInStep.done (none,z.snd))else pure (ForInStep.yield (none,z.snd+1))
 | _=>pure (ForInStep.done (some none,z.snd))
def zMi (lo n nrem:Nat):StateT SortSt Sem (Option Nat):=do
 reverseSlice' lo (lo+n)
 let z <- ascL lo n nrem
 match z.fst with
 | some r=>pure r
 | none=>pure (some z.snd)
def zRv (lo n nrem:Nat):StateT SortSt Sem DescSt:=forIn [n:nrem] ((none,n,0):DescSt) fun _ z=>do
 let x <- ltAt' (lo+z.snd.fst) (lo+z.snd.fst-1)
 match x with
 | some smaller=>
  if smaller=true then
   if z.snd.snd > 0 then do
    reverseSlice' (lo+z.snd.fst-(z.snd.snd+1)) (lo+z.snd.fst)
    pure (ForInStep.yield (none,z.snd.fst+1,0))
   else pure (ForInStep.yield (none,z.snd.fst+1,0))
  else do
   let x <- ltAt' (lo+z.snd.fst-1) (lo+z.snd.fst)
   match x with
   | some larger=>if larger=true then pure (ForInStep.done (none,z.snd.fst,z.snd.snd))else pure (ForInStep.yield (none,z.snd.fst+1,z.snd.snd+1))
   | _=>pure (ForInStep.done (some none,z.snd.fst,z.snd.snd))
 | _=>pure (ForInStep.done (some none,z.snd.fst,z.snd.snd))
def zNh (lo n nrem:Nat):StateT SortSt Sem (Option Nat):=do
 liftM (rule "list.sort.descending-run")
 let z <- zRv lo (n+1) nrem
 match z.fst with
 | some r=>pure r
 | none=>
  if z.snd.snd > 0 then do
   reverseSlice' (lo+z.snd.fst-(z.snd.snd+1)) (lo+z.snd.fst)
   zMi lo z.snd.fst nrem
  else zMi lo z.snd.fst nrem
theorem count_eq (lo nrem:Nat):countRun' lo nrem=(do
  let z <- ascL lo 1 nrem
  match z.fst with
  | some r=>pure r
  | none=>
   if(z.snd == nrem)=true then pure (some z.snd)
   else if z.snd > 1 then do
    let x <- ltAt' lo (lo+z.snd-1)
    match x with
    | some rose=>if rose=true then pure (some z.snd)else do
      reverseSlice' lo (lo+z.snd)
      zNh lo z.snd nrem
    | _=>pure none
   else zNh lo z.snd nrem):=by
 rw[countRun'_eq]
 unfold zNh zMi zRv ascL
 refine congrArg (Bind.bind _) ?_
 funext z
 obtain⟨r,n⟩:=z
 cases r with
 | some r=>rfl
 | none=>
  dsimp only
  split
  ·rfl
  ·split
   ·congr 1;funext x
    cases x with
    | none=>rfl
    | some rose=>
     dsimp only
     split
     ·rfl
     ·congr 1;funext _r
      congr 1;funext _u;congr 1;congr 1;funext s2;obtain⟨r2,n2,q2⟩:=s2
      cases r2 with
      | some r2=>rfl
      | none=>
       dsimp only
       split
       ·congr 1;funext _v;congr 1;funext _w;congr 1;funext s3;obtain⟨r3,n3⟩:=s3;cases r3 <;> rfl
       ·congr 1;funext _w;congr 1;funext s3;obtain⟨r3,n3⟩:=s3;cases r3 <;> rfl
   ·congr 1;funext _u;congr 1;congr 1;funext s2;obtain⟨r2,n2,q2⟩:=s2
    cases r2 with
    | some r2=>rfl
    | none=>
     dsimp only
     split
     ·congr 1;funext _v;congr 1;funext _w;congr 1;funext s3;obtain⟨r3,n3⟩:=s3;cases r3 <;> rfl
     ·congr 1;funext _w;congr 1;funext s3;obtain⟨r3,n3⟩:=s3;cases r3 <;> rfl
structure Ran (κ:SortKind) (a₀:Array Keyed) (lo hi:Nat) (st st':SortSt):Prop where
 b:SB κ a₀ st'
 pend:pendingOf st'=pendingOf st
 out:Out lo hi (arrOf st) (arrOf st')
theorem Ran.refl {lo hi:Nat}{st:SortSt}(B:SB κ a₀ st):Ran κ a₀ lo hi st st:=⟨B,rfl,.refl⟩
theorem Ran.trans {lo hi:Nat}{st st1 st2:SortSt}(a:Ran κ a₀ lo hi st st1) (b:Ran κ a₀ lo hi st1 st2):Ran κ a₀ lo hi st st2:=⟨b.b,b.pend.trans a.pend,a.out.trans b.out⟩
theorem Ran.mono {lo hi lo' hi':Nat}{st st1:SortSt}(a:Ran κ a₀ lo hi st st1) (h1:lo'<=lo) (h2:hi<=hi'):Ran κ a₀ lo' hi' st st1:=⟨a.b,a.pend,a.out.mono h1 h2⟩
theorem w_rev {st:SortSt}{i j:Nat}{Q:Unit->SortSt->Prop}(h:Q () (setArr st (mirror (arrOf st) i j ((j-i) / 2)))):wpS (model prog w) A E s (reverseSlice' i j) Q st:=by
 rw[reverseSlice'_eq];exact wpS_modify h
theorem zH7 {st:SortSt}{i j:Nat}(B:SB κ a₀ st) (hj:j<=a₀.size):Ran κ a₀ i j st (setArr st (mirror (arrOf st) i j ((j-i) / 2))):=⟨B.set (mirror_perm _ _ _ _),rfl,zUx (by rw[B.size];exact hj)⟩
theorem zWm (C:Cm prog w A s κ rk Gd) (hg:∀x∈a₀,Gd x) {st:SortSt}{lo a nrem:Nat}{Q:AscSt->SortSt->Prop}(hn:lo+nrem<=a₀.size) (ha:1<=a) (han:a<=nrem) (B:SB κ a₀ st) (hs:So rk (arrOf st) lo (lo+a))
  (h:∀n,a<=n->n<=nrem->So rk (arrOf st) lo (lo+n)->(n=nrem\/ky rk (arrOf st) (lo+n)<ky rk (arrOf st) (lo+n-1))->Q (none,n) st):wpS (model prog w) A E s (ascL lo a nrem) Q st:=by
 unfold ascL
 refine wpS_forRange (I:=fun x c st'=>st'=st/\c=(none,x)/\So rk (arrOf st) lo (lo+x)) ?step ?fin ⟨rfl,rfl,hs⟩
 case fin=>
  rintro c st' ⟨rfl,rfl,hs'⟩
  rw[show max a nrem=nrem by first|assumption|lia]at hs' ⊢
  exact h nrem han (Nat.le_refl _) hs' (.inl rfl)
 case step=>
  rintro x c st' hax hxn ⟨rfl,rfl,hs'⟩
  dsimp only
  refine wpS_bind (w_at C hg B (by first|assumption|lia) (by first|assumption|lia) ?_)
  by_cases q:ky rk (arrOf st') (lo+x)<ky rk (arrOf st') (lo+x-1)
  ·rw[decide_eq_true q]
   exact wpS_pure (h x hax (by first|assumption|lia) hs' (.inr q))
  ·rw[decide_eq_false q]
   refine wpS_pure ⟨rfl,rfl,fun i j h1 hij hj=>?_⟩
   by_cases hjx:j<lo+x
   ·exact hs' i j h1 hij hjx
   ·obtain rfl:j=lo+x:=by first|assumption|lia
    by_cases hi':i=lo+x
    ·rw[hi'];exact Nat.le_refl _
    ·exact Nat.le_trans (hs' i (lo+x-1) h1 (by first|assumption|lia) (by first|assumption|lia)) (Nat.not_lt.mp q)
theorem zSb (C:Cm prog w A s κ rk Gd) (hg:∀x∈a₀,Gd x) {st:SortSt}{lo n nrem:Nat}{Q:Option Nat->SortSt->Prop}(hn:lo+nrem<=a₀.size) (h1:1<=n) (hnn:n<=nrem) (B:SB κ a₀ st) (hs:Fa rk (arrOf st) lo (lo+n))
  (h:∀m st',Ran κ a₀ lo (lo+nrem) st st'->1<=m->m<=nrem->So rk (arrOf st') lo (lo+m)->Q (some m) st'):wpS (model prog w) A E s (zMi lo n nrem) Q st:=by
 unfold zMi
 have R:=zH7 (i:=lo) (j:=lo+n) B (by first|assumption|lia)
 have hsz:lo+n<=(arrOf st).size:=by rw[B.size];lia
 refine wpS_bind (w_rev (wpS_bind (zWm C hg hn h1 hnn R.b ?_ fun m hm1 hm2 hsm _=>wpS_pure (h m _ (R.mono (Nat.le_refl _) (by first|assumption|lia)) (by first|assumption|lia) hm2 hsm))))
 intro i j h0 hij hj
 show ky rk (mirror (arrOf st) lo (lo+n) ((lo+n-lo) / 2)) i<=ky rk (mirror (arrOf st) lo (lo+n) ((lo+n-lo) / 2)) j
 rw[zO7 hsz,zO7 hsz,if_pos (by first|assumption|lia),if_pos (by first|assumption|lia)]
 exact hs _ _ (by first|assumption|lia) (by first|assumption|lia) (by first|assumption|lia)
theorem zWl (C:Cm prog w A s κ rk Gd) (hg:∀x∈a₀,Gd x) {st:SortSt}{lo n nrem:Nat}{Q:DescSt->SortSt->Prop}(hn:lo+nrem<=a₀.size) (h1:1<=n) (hnn:n<=nrem) (B:SB κ a₀ st) (hs:Fa rk (arrOf st) lo (lo+n))
  (h:∀m neq st',Ran κ a₀ lo (lo+nrem) st st'->n<=m->m<=nrem->Fa rk (arrOf st') lo (lo+m)->neq+1<=m->(∀i,lo+m-(neq+1)<=i->i<lo+m->ky rk (arrOf st') i=ky rk (arrOf st') (lo+m-1))->Q (none,m,neq) st'):
  wpS (model prog w) A E s (zRv lo n nrem) Q st:=by
 unfold zRv
 refine wpS_forRange (I:=fun x c st'=>∃neq,c=(none,x,neq)/\Ran κ a₀ lo (lo+nrem) st st'/\Fa rk (arrOf st') lo (lo+x)/\neq+1<=x/\(∀i,lo+x-(neq+1)<=i->i<lo+x->ky rk (arrOf st') i=ky rk (arrOf st') (lo+x-1))) ?step ?fin
  ⟨0,rfl,.refl B,hs,by first|assumption|lia,fun i h1 h2=>by congr 1;lia⟩
 case fin=>
  rintro c st' ⟨neq,rfl,R,hs',hq,he⟩
  rw[show max n nrem=nrem by first|assumption|lia]at hs' hq he ⊢
  exact h nrem neq st' R hnn (Nat.le_refl _) hs' hq he
 case step=>
  rintro x c st' hax hxn ⟨neq,rfl,R,hs',hq,he⟩
  dsimp only
  have hsz:lo+x<=(arrOf st').size:=by rw[R.b.size];lia
  refine wpS_bind (w_at C hg R.b (by first|assumption|lia) (by first|assumption|lia) ?_)
  by_cases q:ky rk (arrOf st') (lo+x)<ky rk (arrOf st') (lo+x-1)
  ·rw[decide_eq_true q]
   simp only[if_true]
   have st1:∀xs:Array Keyed,(∀k,ky rk xs k=ky rk (arrOf st') k)->Fa rk xs lo (lo+(x+1)):=fun xs hk i j h0 hij hj=>by
    rw[hk,hk]
    by_cases hjx:j<lo+x
    ·exact hs' i j h0 hij hjx
    ·obtain rfl:j=lo+x:=by first|assumption|lia
     by_cases hi':i=lo+x
     ·rw[hi'];exact Nat.le_refl _
     ·exact Nat.le_trans (Nat.le_of_lt q) (hs' i (lo+x-1) h0 (by first|assumption|lia) (by first|assumption|lia))
   by_cases hneq:neq > 0
   ·rw[if_pos hneq]
    have R2:=zH7 (i:=lo+x-(neq+1)) (j:=lo+x) R.b (by first|assumption|lia)
    exact wpS_bind (w_rev (wpS_pure ⟨0,rfl,R.trans (R2.mono (by first|assumption|lia) (by first|assumption|lia)),st1 _ (zCr hsz he),by first|assumption|lia,fun i h1 h2=>by congr 1;lia⟩))
   ·rw[if_neg hneq]
    exact wpS_pure ⟨0,rfl,R,st1 _ (fun _=>rfl),by first|assumption|lia,fun i h1 h2=>by congr 1;lia⟩
  ·rw[decide_eq_false q]
   simp only[Bool.false_eq_true,if_false]
   refine wpS_bind (w_at C hg R.b (by first|assumption|lia) (by first|assumption|lia) ?_)
   by_cases ql:ky rk (arrOf st') (lo+x-1)<ky rk (arrOf st') (lo+x)
   ·rw[decide_eq_true ql]
    exact wpS_pure (h x neq st' R hax (by first|assumption|lia) hs' hq he)
   ·rw[decide_eq_false ql]
    have ex:ky rk (arrOf st') (lo+x)=ky rk (arrOf st') (lo+x-1):=by first|assumption|lia
    refine wpS_pure ⟨neq+1,rfl,R,fun i j h0 hij hj=>?_,by first|assumption|lia,fun i h1 h2=>?_⟩
    ·by_cases hjx:j<lo+x
     ·exact hs' i j h0 hij hjx
     ·obtain rfl:j=lo+x:=by first|assumption|lia
      by_cases hi':i=lo+x
      ·rw[hi'];exact Nat.le_refl _
      ·rw[ex];exact hs' i (lo+x-1) h0 (by first|assumption|lia) (by first|assumption|lia)
    ·rw[show lo+(x+1)-1=lo+x by first|assumption|lia]
     by_cases hix:i=lo+x
     ·rw[hix]
     ·rw[ex];exact he i (by first|assumption|lia) (by first|assumption|lia)
theorem zSc (C:Cm prog w A s κ rk Gd) (hg:∀x∈a₀,Gd x) {st:SortSt}{lo n nrem:Nat}{Q:Option Nat->SortSt->Prop}(hn:lo+nrem<=a₀.size) (hnn:n+1<=nrem) (B:SB κ a₀ st) (hs:Fa rk (arrOf st) lo (lo+(n+1)))
  (h:∀m st',Ran κ a₀ lo (lo+nrem) st st'->1<=m->m<=nrem->So rk (arrOf st') lo (lo+m)->Q (some m) st'):wpS (model prog w) A E s (zNh lo n nrem) Q st:=by
 unfold zNh
 refine wpS_bind (wpS_lift (wpAny_rule ⟨rfl,wpS_bind (zWl C hg hn (by first|assumption|lia) hnn B hs fun m neq st' R hm1 hm2 hs' hq he=>?_)⟩))
 dsimp only
 have hsz:lo+m<=(arrOf st').size:=by rw[R.b.size];lia
 by_cases hneq:neq > 0
 ·rw[if_pos hneq]
  have R2:=zH7 (i:=lo+m-(neq+1)) (j:=lo+m) R.b (by first|assumption|lia)
  refine wpS_bind (w_rev (zSb C hg hn (by first|assumption|lia) hm2 R2.b (fun i j h0 hij hj=>?_) fun m' st'' R3 a1 a2 a3=>h m' st'' ((R.trans (R2.mono (by first|assumption|lia) (by first|assumption|lia))).trans R3) a1 a2 a3))
  show ky rk (mirror (arrOf st') _ _ _) j<=ky rk (mirror (arrOf st') _ _ _) i
  rw[zCr hsz he,zCr hsz he]
  exact hs' i j h0 hij hj
 ·rw[if_neg hneq]
  exact zSb C hg hn (by first|assumption|lia) hm2 R.b hs' fun m' st'' R3 a1 a2 a3=>h m' st'' (R.trans R3) a1 a2 a3
theorem w_count (C:Cm prog w A s κ rk Gd) (hg:∀x∈a₀,Gd x) {st:SortSt}{lo nrem:Nat}{Q:Option Nat->SortSt->Prop}(hn:lo+nrem<=a₀.size) (h1:1<=nrem) (B:SB κ a₀ st)
  (h:∀m st',Ran κ a₀ lo (lo+nrem) st st'->1<=m->m<=nrem->So rk (arrOf st') lo (lo+m)->Q (some m) st'):wpS (model prog w) A E s (countRun' lo nrem) Q st:=by
 rw[count_eq]
 refine wpS_bind (zWm C hg hn (Nat.le_refl 1) h1 B (fun i j h0 hij hj=>Nat.le_of_eq (congrArg _ (show i=j by first|assumption|lia))) fun n hn1 hn2 hsn hor=>?_)
 dsimp only
 by_cases hnn:n=nrem
 ·rw[if_pos (by simpa using hnn)]
  exact wpS_pure (h n st (.refl B) hn1 hn2 hsn)
 ·rw[if_neg (by simpa using hnn)]
  have hlt:=hor.resolve_left hnn
  by_cases hgt:n > 1
  ·rw[if_pos hgt]
   refine wpS_bind (w_at C hg B (by first|assumption|lia) (by first|assumption|lia) ?_)
   by_cases hr:ky rk (arrOf st) lo<ky rk (arrOf st) (lo+n-1)
   ·rw[decide_eq_true hr]
    exact wpS_pure (h n st (.refl B) hn1 hn2 hsn)
   ·rw[decide_eq_false hr]
    have hsz:lo+n<=(arrOf st).size:=by rw[B.size];lia
    have hall:∀k,lo<=k->k<lo+n->ky rk (arrOf st) k=ky rk (arrOf st) (lo+n-1):=fun k hk0 hk=>by
     have a1:=hsn lo k (Nat.le_refl _) hk0 hk
     have a2:=hsn k (lo+n-1) hk0 (by first|assumption|lia) (by first|assumption|lia)
     lia
    have R2:=zH7 (i:=lo) (j:=lo+n) B (by first|assumption|lia)
    refine wpS_bind (w_rev (zSc C hg hn (by first|assumption|lia) R2.b (fun i j h0 hij hj=>?_) fun m' st'' R3 a1 a2 a3=>h m' st'' ((R2.mono (Nat.le_refl _) (by first|assumption|lia)).trans R3) a1 a2 a3))
    show ky rk (mirror (arrOf st) _ _ _) j<=ky rk (mirror (arrOf st) _ _ _) i
    rw[zCr hsz hall,zCr hsz hall]
    by_cases hjn:j<lo+n
    ·rw[hall i (by first|assumption|lia) (by first|assumption|lia),hall j (by first|assumption|lia) hjn];exact Nat.le_refl _
    ·obtain rfl:j=lo+n:=by first|assumption|lia
     by_cases hi':i=lo+n
     ·rw[hi'];exact Nat.le_refl _
     ·rw[hall i (by first|assumption|lia) (by first|assumption|lia)];exact Nat.le_of_lt hlt
  ·rw[if_neg hgt]
   obtain rfl:n=1:=by first|assumption|lia
   refine zSc C hg hn (by first|assumption|lia) B (fun i j h0 hij hj=>?_) h
   by_cases hi':i=j
   ·rw[hi'];exact Nat.le_refl _
   ·obtain rfl:i=lo:=by first|assumption|lia
    obtain rfl:j=i+1:=by first|assumption|lia
    exact Nat.le_of_lt hlt
end
end TM
namespace TM
open PySem PyProof.Rows
section
variable {prog:Program}{w:World}{A:Around}{E:Value->Shared->Prop}{s:Shared}{κ:SortKind}{a₀:Array Keyed}{rk:Keyed->Nat}{Gd:Keyed->Prop}
theorem zZb (C:Cm prog w A s κ rk Gd) (hg:∀x∈a₀,Gd x) {st:SortSt}{lo n ok:Nat}{Q:Bool->SortSt->Prop}(hn:lo+n<=a₀.size) (hok:ok<=n) (B:SB κ a₀ st) (hs:So rk (arrOf st) lo (lo+ok))
  (h:∀st',Ran κ a₀ lo (lo+n) st st'->So rk (arrOf st') lo (lo+n)->Q true st'):wpS (model prog w) A E s (binarySort' lo n ok) Q st:=by
 rw[binarySort'_eq]
 refine wpS_bind (wpS_mono (wpS_forRange (I:=fun k c st'=>c=(none,())/\Ran κ a₀ lo (lo+n) st st'/\So rk (arrOf st') lo (lo+min k n)) (Q:=fun c st'=>c=(none,())/\Ran κ a₀ lo (lo+n) st st'/\So rk (arrOf st') lo (lo+n)) ?step ?fin ?init) ?post)
 case post=>
  rintro c st' ⟨rfl,R,hs'⟩
  exact wpS_pure (h st' R hs')
 case init=>
  refine⟨rfl,.refl B,fun i j h0 hij hj=>?_⟩
  by_cases h1:ok=0
  ·exact Nat.le_of_eq (congrArg _ (show i=j by first|assumption|lia))
  ·exact hs i j h0 hij (by first|assumption|lia)
 case fin=>
  rintro c st' ⟨hc,R,hs'⟩
  rw[show min (max (max ok 1) n) n=n by first|assumption|lia]at hs'
  exact⟨hc,R,hs'⟩
 case step=>
  rintro k c st' hak hkn ⟨rfl,R,hs'⟩
  rw[show min k n=k by first|assumption|lia]at hs'
  have hk:lo+k<a₀.size:=by first|assumption|lia
  refine wpS_bind (wpS_mono (wpS_forRange (I:=fun x c st''=>st''=st'/\∃l r,c=(none,l,r)/\l<=r/\r<=k/\r-l<=k-x/\(∀i,i<l->ky rk (arrOf st') (lo+i)<=ky rk (arrOf st') (lo+k))/\(∀i,r<=i->i<k->ky rk (arrOf st') (lo+k)<ky rk (arrOf st') (lo+i)))
   (Q:=fun c st''=>st''=st'/\∃l r,c=(none,l,r)/\l<=k/\(∀i,i<l->ky rk (arrOf st') (lo+i)<=ky rk (arrOf st') (lo+k))/\(∀i,l<=i->i<k->ky rk (arrOf st') (lo+k)<ky rk (arrOf st') (lo+i))) ?istep ?ifin ?iinit) ?ipost)
  case iinit=>exact⟨rfl,0,k,rfl,by first|assumption|lia,by first|assumption|lia,by first|assumption|lia,fun i hi=>by first|assumption|lia,fun i h1 h2=>by first|assumption|lia⟩
  case ifin=>
   rintro c st'' ⟨rfl,l,r,rfl,hlr,hrk,hm,hlo,hhi⟩
   obtain rfl:l=r:=by first|assumption|lia
   exact⟨rfl,l,l,rfl,hrk,hlo,hhi⟩
  case istep=>
   rintro x c st'' _ hxk ⟨rfl,l,r,rfl,hlr,hrk,hm,hlo,hhi⟩
   dsimp only
   by_cases hge:l >= r
   ·rw[if_pos hge]
    obtain rfl:l=r:=by first|assumption|lia
    exact wpS_pure ⟨rfl,l,l,rfl,hrk,hlo,hhi⟩
   ·rw[if_neg hge]
    refine wpS_bind (w_at C hg R.b hk (by first|assumption|lia) ?_)
    by_cases q:ky rk (arrOf st'') (lo+k)<ky rk (arrOf st'') (lo+(l+r) / 2)
    ·rw[decide_eq_true q]
     exact wpS_pure ⟨rfl,l,(l+r) / 2,rfl,by first|assumption|lia,by first|assumption|lia,by first|assumption|lia,hlo,fun i h1 h2=>Nat.lt_of_lt_of_le q (hs' _ _ (by first|assumption|lia) (by first|assumption|lia) (by first|assumption|lia))⟩
    ·rw[decide_eq_false q]
     exact wpS_pure ⟨rfl,(l+r) / 2+1,r,rfl,by first|assumption|lia,by first|assumption|lia,by first|assumption|lia,fun i h1=>Nat.le_trans (hs' (lo+i) (lo+(l+r) / 2) (by first|assumption|lia) (by first|assumption|lia) (by first|assumption|lia)) (Nat.not_lt.mp q),hhi⟩
  case ipost=>
   rintro c st'' ⟨rfl,l,r,rfl,hlk,hlo,hhi⟩
   show wpS _ _ _ _ (do moveDown' (lo+k) (lo+l);pure (ForInStep.yield (none,()))) _ _
   rw[moveDown'_eq]
   have hks:lo+k<(arrOf st'').size:=by rw[R.b.size];exact hk
   have ob:=zUy (d:=lo+k-(lo+l)) hks (by first|assumption|lia)
   refine wpS_bind (wpS_modify (wpS_pure ⟨rfl,R.trans ⟨R.b.set (bubble_perm _ _ _),rfl,ob.mono (by first|assumption|lia) (by first|assumption|lia)⟩,?_⟩))
   rw[show min (k+1) n=k+1 by first|assumption|lia]
   intro i j h0 hij hj
   show ky rk (bubble (arrOf st'') (lo+k) (lo+k-(lo+l))) i<=ky rk (bubble (arrOf st'') (lo+k) (lo+k-(lo+l))) j
   rw[zT2 hks (by first|assumption|lia),zT2 hks (by first|assumption|lia),show lo+k-(lo+k-(lo+l))=lo+l by first|assumption|lia]
   have lo':∀i,lo<=i->i<lo+l->ky rk (arrOf st'') i<=ky rk (arrOf st'') (lo+k):=fun i h1 h2=>by
    have:=hlo (i-lo) (by first|assumption|lia)
    rwa[show lo+(i-lo)=i by first|assumption|lia]at this
   have hi':∀i,lo+l<=i->i<lo+k->ky rk (arrOf st'') (lo+k)<=ky rk (arrOf st'') i:=fun i h1 h2=>by
    have:=hhi (i-lo) (by first|assumption|lia) (by first|assumption|lia)
    rw[show lo+(i-lo)=i by first|assumption|lia]at this
    exact Nat.le_of_lt this
   repeat' split
   all_goals first
    | (exfalso;lia)
    | exact Nat.le_refl _
    | exact lo' _ (by first|assumption|lia) (by first|assumption|lia)
    | exact hi' _ (by first|assumption|lia) (by first|assumption|lia)
    | exact hs' _ _ (by first|assumption|lia) (by first|assumption|lia) (by first|assumption|lia)
end
end TM
namespace TM
open PySem PyProof.Rows
section
variable {rk:Keyed->Nat}
abbrev Pw (rk:Keyed->Nat) (l:List Keyed):Prop:=l.Pairwise fun x y=>rk x<=rk y
theorem getD_list (a:Array Keyed) (i:Nat) (h:i<a.size):a.getD i dk=a.toList[i]'(by simpa using h):=by simp[Array.getD,h]
theorem So.pw {a:Array Keyed}(h:So rk a 0 a.size):Pw rk a.toList:=by
 rw[Pw,List.pairwise_iff_getElem]
 intro i j hi hj hij
 have:=h i j (by first|assumption|lia) (by first|assumption|lia) (by simpa using hj)
 unfold ky at this
 rwa[getD_list a i (by simpa using hi),getD_list a j (by simpa using hj)]at this
variable {a b out:Array Keyed}{ia ib k:Nat}
variable {na nb:Nat}
end
end TM
namespace TM
open PySem PyProof.Rows
section
variable {prog:Program}{w:World}{A:Around}{E:Value->Shared->Prop}{s:Shared}{κ:SortKind}{a₀:Array Keyed}{rk:Keyed->Nat}{Gd:Keyed->Prop}
theorem zQy (n:Nat) (h:n<64):minRun' n n 0=n:=by
 match n,h with
 | 0,_=>rfl
 | n+1,h=>
  show(if n+1<64 then n+1+0 else minRun' n ((n+1) / 2) (max 0 ((n+1) % 2)))=n+1
  rw[if_pos h]
theorem zTi {γ:Type}{c:Prop}[Decidable c] {st:SortSt}{m n:StateT SortSt Sem γ}{Q:γ->SortSt->Prop}(h1:c->wpS (model prog w) A E s m Q st) (h2:¬ c->wpS (model prog w) A E s n Q st):wpS (model prog w) A E s (if c then m else n) Q st:=by
 split
 ·exact h1 ‹_›
 ·exact h2 ‹_›
theorem w_sr (C:Cm prog w A s κ rk Gd) (hz:a₀.size<=63) (hg:∀x∈a₀,Gd x) {st:SortSt}{Q:Unit->SortSt->Prop}(B:SB κ a₀ st) (hp:pendingOf st=#[])
  (h:∀st',SB κ a₀ st'->So rk (arrOf st') 0 a₀.size->Q () st'):wpS (model prog w) A E s sortRuns' Q st:=by
 rw[sortRuns'_eq]
 refine wpS_bind (wpS_get ?_)
 dsimp only
 rw[B.size,zQy _ (by first|assumption|lia)]
 refine wpS_bind (wpS_mono (wpS_forRange (I:=fun x c st'=>∃lo p,c=(none,lo)/\SB κ a₀ st'/\pendingOf st'=List.toArray p/\((lo=0/\p=[]/\x<=lo)\/(lo=a₀.size/\p.length<=1/\So rk (arrOf st') 0 a₀.size)))
  (Q:=fun c st'=>∃p lo,c=(none,lo)/\SB κ a₀ st'/\pendingOf st'=List.toArray p/\p.length<=1/\So rk (arrOf st') 0 a₀.size) ?step ?fin ?init) ?post)
 case init=>exact⟨0,[],rfl,B,hp,.inl ⟨rfl,rfl,by first|assumption|lia⟩⟩
 case fin=>
  rintro c st' ⟨lo,p,rfl,B',hp',q⟩
  rcases q with⟨rfl,rfl,q⟩|⟨rfl,q1,q2⟩
  ·exact⟨[],_,rfl,B',hp',by simp,fun i j h1 h2 h3=>by first|assumption|lia⟩
  ·exact⟨p,_,rfl,B',hp',q1,q2⟩
 case post=>
  rintro c st' ⟨p,lo,rfl,B',hp',hl,hs⟩
  dsimp only
  refine wpS_bind (wpS_mono (wpS_forRange (I:=fun x c st2=>c=(none,())/\SB κ a₀ st2/\pendingOf st2=List.toArray p/\So rk (arrOf st2) 0 a₀.size)
   (Q:=fun c st2=>c=(none,())/\SB κ a₀ st2/\So rk (arrOf st2) 0 a₀.size) ?s2 ?f2 ?i2) ?p2)
  case i2=>exact⟨rfl,B',hp',hs⟩
  case f2=>
   rintro c st2 ⟨rfl,B2,hp2,hs2⟩
   exact⟨rfl,B2,hs2⟩
  case p2=>
   rintro c st2 ⟨rfl,B2,hs2⟩
   exact wpS_pure (h st2 B2 hs2)
  case s2=>
   rintro x c st2 _ hx ⟨rfl,B2,hp2,hs2⟩
   refine wpS_bind (wpS_get ?_)
   rw[hp2]
   refine zTi (fun q=>?_) fun q=>?_
   ·exact wpS_pure ⟨rfl,B2,hs2⟩
   ·exact absurd hl (by simpa using q)
 case step=>
  rintro x c st' _ hx ⟨lo,p,rfl,B',hp',q⟩
  dsimp only
  refine zTi (fun q1=>?_) fun q1=>?_
  ·rcases q with⟨rfl,rfl,q⟩|⟨rfl,q3,q4⟩
   ·exact wpS_pure ⟨[],_,rfl,B',hp',by simp,fun i j h1 h2 h3=>by first|assumption|lia⟩
   ·exact wpS_pure ⟨p,_,rfl,B',hp',q3,q4⟩
  obtain⟨rfl,rfl,q⟩:lo=0/\p=[]/\x<=lo:=by
   rcases q with q|⟨rfl,_⟩
   ·exact q
   ·lia
  refine wpS_bind (w_count C hg (by first|assumption|lia) (by first|assumption|lia) B' fun m st2 R2 hm1 hm2 hs2=>?_)
  dsimp only
  have B2:=R2.b
  have hp2:pendingOf st2=#[]:=R2.pend.trans hp'
  refine zTi (fun q2=>?_) fun q2=>?_
  ·refine wpS_bind (wpS_lift (wpAny_rule ⟨rfl,?_⟩))
   refine wpS_bind (zZb C hg (by first|assumption|lia) (by first|assumption|lia) B2 hs2 fun st3 R3 hs3=>?_)
   have B3:=R3.b
   have hp3:pendingOf st3=#[]:=R3.pend.trans hp2
   rw[if_neg (by decide)]
   refine wpS_bind (wpS_get ?_)
   rw[hp3]
   refine wpS_bind (wpS_modify (wpS_pure ⟨_,[(0,min (a₀.size-0) a₀.size,0)],rfl,⟨B3.perm,B3.kind,B3.failed⟩,?_,.inr ⟨by first|assumption|lia,by simp,?_⟩⟩))
   ·show(pendingOf st3).push _=_
    rw[hp3];rfl
   ·have:0+min (a₀.size-0) a₀.size=a₀.size:=by first|assumption|lia
    rw[this]at hs3
    exact hs3
  ·refine wpS_bind (wpS_get ?_)
   rw[hp2]
   refine wpS_bind (wpS_modify (wpS_pure ⟨_,[(0,m,0)],rfl,⟨B2.perm,B2.kind,B2.failed⟩,?_,.inr ⟨by first|assumption|lia,by simp,?_⟩⟩))
   ·show(pendingOf st2).push _=_
    rw[hp2];rfl
   ·have:0+m=a₀.size:=by first|assumption|lia
    rw[this]at hs2
    exact hs2
end
end TM
namespace EK
open PySem
open DS (D)
inductive A2 {α β:Type}(R:α->β->Prop):List α->List β->Prop where
 | nil:A2 R [] []
 | cons {a:α}{b:β}{l:List α}{m:List β}:R a b->A2 R l m->A2 R (a::l) (b::m)
theorem A2.length {α β:Type}{R:α->β->Prop}{l:List α}{m:List β}(h:A2 R l m):l.length=m.length:=by
 induction h with
 | nil=>rfl
 | cons _ _ ih=>simp[ih]
theorem A2.imp {α β:Type}{R R':α->β->Prop}{l:List α}{m:List β}(h:A2 R l m) (k:∀a b,R a b->R' a b):A2 R' l m:=by
 induction h with
 | nil=>exact .nil
 | cons h _ ih=>exact .cons (k _ _ h) ih
def Ek (h:Heap):Nat->D->Value->Prop
 | 0,d,v=>∃i t,d=.int i/\v=.int i t
 | n+1,d,v=>∃ds a o items k,d=.tup ds/\v=.ref a/\h.get? a=some o/\o.cls=.type "tuple"/\o.data=.seq items k/\A2 (Ek h n) ds items.toList
theorem Ek.kept {h h':Heap}:∀{n:Nat}{d:D}{v:Value},Ek h n d v->(∀a o,h.get? a=some o->o.cls=.type "tuple"->h'.get? a=some o)->Ek h' n d v
 | 0,_,_,x,_=>x
 | n+1,_,_,⟨ds,a,o,items,k,e1,e2,h1,h2,h3,r⟩,kp=>⟨ds,a,o,items,k,e1,e2,kp a o h1 h2,h2,h3,r.imp fun _ _ q=>Ek.kept q kp⟩
theorem A2.inj {α β:Type}{R R':α->β->Prop}{l l':List α}{m:List β}(h:A2 R l m) (h':A2 R' l' m) (k:∀a a' b,R a b->R' a' b->a=a'):l=l':=by
 induction h generalizing l' with
 | nil=>cases h';rfl
 | cons h _ ih=>
  cases h' with
  | cons q r=>rw[k _ _ _ h q,ih r]
theorem Ek.inj {h:Heap}:∀{n:Nat}{d d':D}{v:Value},Ek h n d v->Ek h n d' v->d=d'
 | 0,_,_,_,⟨i,t,e1,e2⟩,⟨j,u,e3,e4⟩=>by subst e1 e2 e3;cases e4;rfl
 | n+1,_,_,_,⟨ds,a,o,items,k,e1,e2,h1,h2,h3,r⟩,⟨ds',a',o',items',k',e1',e2',h1',h2',h3',r'⟩=>by
  subst e1 e2 e1'
  cases e2'
  obtain rfl:o=o':=Option.some.inj (h1.symm.trans h1')
  rw[h3]at h3'
  injection h3' with q _
  subst q
  rw[r.inj r' fun _ _ _ x y=>Ek.inj x y]
mutual
def hD:D->Int
 | .int i=>hashInt i
 | .tup l=>reduceHash (Builtin.Tuple.tupleHashOf (hL l))
 | _=>0
def hL:List D->List Int
 | []=>[]
 | d::r=>hD d::hL r
end
theorem zT3:∀(l m:List D),hL (l++m)=hL l++hL m
 | [],_=>rfl
 | d::l,m=>by simp[hL,zT3 l m]
section
variable {prog:Program}{w:World}{s:Shared}
theorem Ek.typeIs {n:Nat}{d:D}{a:Addr}(h:Ek s.heap (n+1) d (.ref a)):s.TypeIs (.ref a) "tuple":=by
 obtain⟨ds,a',o,items,k,e1,e2,h1,h2,h3,r⟩:=h
 cases e2
 exact⟨o,h1,h2⟩
theorem zOp:∀(n:Nat) {d:D}{v:Value}{A:Around}{E:Value->Shared->Prop}{s:Shared}{Q:Int->Shared->Prop},Ek s.heap n d v->A.units+n<cLine->(∀tk,s.toks<=tk->Q (hD d) { s with toks:=tk })->wpAny (model prog w) A (pyHash v) Q E s
 | 0,_,_,A,E,s,Q,⟨i,t,e1,e2⟩,_,h=>by subst e1 e2;exact wpAny_pyHash_int (h _ (Nat.le_add_right _ _))
 | n+1,_,_,A,E,s,Q,hk,hu,h=>by
  have hk0:=hk
  obtain⟨ds,a,o,items,k,rfl,rfl,ho,hc,hd,r⟩:=hk
  have hT:=hk0.typeIs
  unfold pyHash
  first|unfold pyHashByItsType|skip
  first|refine wpAny_bind (wpAny_cRoomFor_or (.inr (by first|assumption|lia)) ?_)|skip
  refine wpAny_bind (wpAny_specialOf hT F.slot_tuple_hash.lookup ?_)
  show wpAny _ _ (if(some (Value.builtin "tuple.__hash__") == some Value.none)=true then _ else _) Q E s
  rw[if_neg (by rw[beq_builtin_none];exact Bool.false_ne_true)]
  refine wpAny_bind (wpAny_specialOf hT F.slot_tuple_hash.lookup ?_)
  show wpAny _ _ (callSpecialIfBoundUnlessNone? (.ref a) "__hash__" _ >>= _) Q E s
  refine wpAny_bind (wpAny_callSpecialIfBoundUnlessNone?_slot hT F.slot_tuple_hash (wpAny_call_entry F.slot_tuple_hash hT F.entry_tuple_hash ?_ (F.args_tuple_hash_1 _)))
  show wpAny _ _ (Builtin.Tuple.tupleItemsOf (.ref a) >>= _) _ _ s
  refine wpAny_bind (wpAny_tupleItemsOf ho hd (wpAny_bind ?_))
  rw[<- Array.forIn_toList]
  refine wpAny_forIn_list _ (fun rest (b:Array Int) s'=>∃fst left tk,ds=fst++left/\s.toks<=tk/\A2 (Ek s.heap n) left rest/\b.toList=hL fst/\s'={ s with toks:=tk }) _ ?_ ?_ _ _ ⟨[],ds,s.toks,rfl,Nat.le_refl _,r,rfl,rfl⟩
  ·rintro x rest b s' ⟨fst,left,tk,rfl,ht,hl,hb,rfl⟩
   cases hl with
   | @cons k' _ ks' _ h1 hl'=>
    refine wpAny_bind (zOp n (s:={ s with toks:=tk }) h1 (by show A.units+1+n<cLine;lia) fun tk2 ht2=>?_)
    exact wpAny_pure ⟨fst++[k'],ks',tk2,by simp,Nat.le_trans ht ht2,hl',by rw[zT3];simp[hb,hL],rfl⟩
  ·rintro b s' ⟨fst,left,tk,rfl,ht,hl,hb,rfl⟩
   cases hl
   rw[List.append_nil]at h
   show wpAny _ _ (retInt (Builtin.Tuple.tupleHashOf b.toList)) _ _ _
   rw[hb]
   refine wpAny_ret_mkInt ?_
   show wpAny _ _ (if(decide (-(2:Int) ^ 63<=Builtin.Tuple.tupleHashOf (hL fst)) && decide (Builtin.Tuple.tupleHashOf (hL fst)<2 ^ 63))=true then _ else _) Q E _
   have h':=h (tk+1) (Nat.le_succ_of_le ht)
   unfold hD reduceHash at h'
   by_cases hr:(decide (-(2:Int) ^ 63<=Builtin.Tuple.tupleHashOf (hL fst)) && decide (Builtin.Tuple.tupleHashOf (hL fst)<2 ^ 63))=true
   ·rw[if_pos hr]
    rw[if_pos hr]at h'
    exact wpAny_pure h'
   ·rw[if_neg hr]
    rw[if_neg hr]at h'
    exact wpAny_bind (wpAny_rule (wpAny_pure h'))
theorem zHl:∀(n f:Nat) {d:D}{v:Value}{A:Around}{E:Value->Shared->Prop}{s:Shared}{Q:Bool->Shared->Prop},Ek s.heap n d v->n<=f->Q false s->wpAny (model prog w) A (ofAClassStatement f v) Q E s
 | 0,f,_,_,A,E,s,Q,⟨i,t,e1,e2⟩,_,h=>by subst e1 e2;exact wpAny_of_eq (show ofAClassStatement f (.int i t)=pure false by cases f <;> rfl) h
 | n+1,0,_,_,A,E,s,Q,hk,hf,h=>by first|assumption|lia
 | n+1,f+1,_,_,A,E,s,Q,hk,hf,h=>by
  have hk0:=hk
  obtain⟨ds,a,o,items,k,rfl,rfl,ho,hc,hd,r⟩:=hk
  have hT:=hk0.typeIs
  unfold ofAClassStatement
  refine wpAny_bind (wpAny_typeOf hT ?_)
  dsimp only
  rw[if_pos (by decide)]
  refine wpAny_bind (wpAny_pure ?_)
  rw[if_neg (by decide)]
  refine wpAny_bind (wpAny_seqItems ho hd (wpAny_bind ?_))
  show wpAny _ _ (forIn items _ _) _ _ s
  rw[<- Array.forIn_toList]
  refine wpAny_forIn_list _ (fun rest r s'=>r.1=none/\s'=s/\∃l,A2 (Ek s.heap n) l rest) _ ?_ ?_ _ _ ⟨rfl,rfl,_,r⟩
  ·rintro v rest r s' ⟨hr,rfl,l,al⟩
   cases al with
   | cons q al=>
    refine wpAny_bind (zHl n f q (by first|assumption|lia) ?_)
    rw[if_neg (by decide)]
    exact wpAny_pure ⟨rfl,rfl,_,al⟩
  ·rintro⟨r1,r2⟩ s' ⟨hr,rfl,_⟩
   simp only at hr
   subst hr
   exact wpAny_pure h
theorem zKx:∀(n f:Nat) {d:D}{v:Value}{A:Around}{E:Value->Shared->Prop}{s:Shared}{Q:Bool->Shared->Prop},Ek s.heap n d v->n<=f->Q true s->wpAny (model prog w) A (hashByValue f v) Q E s
 | 0,f,_,_,A,E,s,Q,⟨i,t,e1,e2⟩,_,h=>by subst e1 e2;exact wpAny_of_eq (show hashByValue f (.int i t)=pure true by cases f <;> rfl) h
 | n+1,0,_,_,A,E,s,Q,hk,hf,h=>by first|assumption|lia
 | n+1,f+1,_,_,A,E,s,Q,hk,hf,h=>by
  have hk0:=hk
  obtain⟨ds,a,o,items,k,rfl,rfl,ho,hc,hd,r⟩:=hk
  have hT:=hk0.typeIs
  unfold hashByValue
  refine wpAny_bind (wpAny_specialOf hT F.slot_tuple_hash.lookup ?_)
  dsimp only
  refine wpAny_bind (wpAny_seqItems ho hd (wpAny_bind ?_))
  show wpAny _ _ (forIn items _ _) _ _ s
  rw[<- Array.forIn_toList]
  refine wpAny_forIn_list _ (fun rest r s'=>r.1=none/\s'=s/\∃l,A2 (Ek s.heap n) l rest) _ ?_ ?_ _ _ ⟨rfl,rfl,_,r⟩
  ·rintro v rest r s' ⟨hr,rfl,l,al⟩
   cases al with
   | cons q al=>
    refine wpAny_bind (zKx n f q (by first|assumption|lia) ?_)
    rw[if_neg (by decide)]
    exact wpAny_pure ⟨rfl,rfl,_,al⟩
  ·rintro⟨r1,r2⟩ s' ⟨hr,rfl,_⟩
   simp only at hr
   subst hr
   exact wpAny_pure h
theorem zHk:∀(n f:Nat) {d:D}{v:Value}{A:Around}{E:Value->Shared->Prop}{s:Shared}{Q:Bool->Shared->Prop},Ek s.heap n d v->n<=f->Q true s->wpAny (model prog w) A (eqIsQuiet f v) Q E s
 | 0,f,_,_,A,E,s,Q,⟨i,t,e1,e2⟩,_,h=>by subst e1 e2;rw[eqIsQuiet_byValue _ (by rfl)];exact wpAny_pure h
 | n+1,0,_,_,A,E,s,Q,hk,hf,h=>by first|assumption|lia
 | n+1,f+1,_,_,A,E,s,Q,hk,hf,h=>by
  have hk0:=hk
  obtain⟨ds,a,o,items,k,rfl,rfl,ho,hc,hd,r⟩:=hk
  have hT:=hk0.typeIs
  unfold eqIsQuiet
  refine wpAny_bind (wpAny_specialOf hT F.slot_tuple_eq.lookup ?_)
  show wpAny _ _ (isInstance (.ref a) (.type "tuple") >>= _) _ _ s
  refine wpAny_bind (wpAny_isInstance hT isSubtype_tuple_tuple ?_)
  simp only[Bool.not_true,Bool.false_eq_true,if_false]
  refine wpAny_bind (wpAny_seqItems ho hd (wpAny_bind ?_))
  show wpAny _ _ (forIn items _ _) _ _ s
  rw[<- Array.forIn_toList]
  refine wpAny_forIn_list _ (fun rest r s'=>r.1=none/\s'=s/\∃l,A2 (Ek s.heap n) l rest) _ ?_ ?_ _ _ ⟨rfl,rfl,_,r⟩
  ·rintro v rest r s' ⟨hr,rfl,l,al⟩
   cases al with
   | cons q al=>
    refine wpAny_bind (zHk n f q (by first|assumption|lia) ?_)
    simp only[Bool.not_true,Bool.false_eq_true,if_false]
    exact wpAny_pure ⟨rfl,rfl,_,al⟩
  ·rintro⟨r1,r2⟩ s' ⟨hr,rfl,_⟩
   simp only at hr
   subst hr
   exact wpAny_pure h
open Classical in
theorem zRp:∀(n:Nat) {d d':D}{v v':Value}{A:Around}{E:Value->Shared->Prop}{s:Shared}{Q:Bool->Shared->Prop},Ek s.heap n d v->Ek s.heap n d' v'->A.units+n<cLine->Q (decide (d=d')) s->wpAny (model prog w) A (eqBool v v') Q E s
 | 0,_,_,_,_,A,E,s,Q,⟨i,t,e1,e2⟩,⟨j,u,e3,e4⟩,_,h=>by
  subst e1 e2 e3 e4
  refine wpAny_eqBool_int ?_
  have:(i == j)=decide (D.int i=D.int j):=by
   by_cases q:i=j
   ·subst q;simp
   ·rw[decide_eq_false (fun z=>q (by cases z;rfl))];simpa using q
  rw[this];exact h
 | n+1,_,_,_,_,A,E,s,Q,hx,hy,hu,h=>by
  have hx0:=hx
  have hy0:=hy
  obtain⟨ds,a,oa,xs,ka,rfl,rfl,hoa,hca,hda,ra⟩:=hx
  obtain⟨es,b,ob,ys,kb,rfl,rfl,hob,hcb,hdb,rb⟩:=hy
  unfold eqBool
  try with_reducible refine wpAny_holding ?_
  show wpAny _ _ (if(Value.ref a == Value.ref b)=true then _ else _) Q E s
  by_cases hab:(Value.ref a == Value.ref b)=true
  ·rw[if_pos hab]
   have e:a=b:=by have:=eq_of_beq hab;injection this
   subst e
   have e2:=hx0.inj hy0
   rw[decide_eq_true e2]at h
   exact wpAny_bind (wpAny_rule (wpAny_pure h))
  ·rw[if_neg hab]
   suffices hc:wpAny (model prog w) A (call (.builtin "tuple.__eq__") [.ref a,.ref b]) (fun v s'=>v=.bool (decide (D.tup ds=D.tup es))/\s'=s) E s from
    wpAny_bind (wpAny_richCompare_same_room (op:=.Eq) hx0.typeIs hy0.typeIs F.slot_tuple_eq (wpAny_mono hc (fun v s' q=>by
     obtain⟨rfl,rfl⟩:=q
     exact⟨(fun e=>nomatch e),wpAny_truthy_bool h⟩) fun _ _ x=>x) (by first|assumption|lia))
   refine wpAny_call_entry F.slot_tuple_eq hx0.typeIs F.entry_tuple_eq ?_ (F.args_tuple_eq_2 _ _)
   have fin:∀c:Bool,c=decide (D.tup ds=D.tup es)->∃v,(PySem.Fin.done (.ret (.bool c)):PySem.Fin)=.done (.ret v)/\v=.bool (decide (D.tup ds=D.tup es))/\s=s:=fun c hc=>⟨_,rfl,by rw[hc],rfl⟩
   show wpAny _ _ (isInstance (.ref b) (.type "tuple") >>= _) _ _ s
   refine wpAny_bind (wpAny_isInstance hy0.typeIs isSubtype_tuple_tuple ?_)
   simp only[Bool.not_true,Bool.false_eq_true,if_false]
   refine wpAny_bind (wpAny_tupleItemsOf hoa hda (wpAny_bind (wpAny_tupleItemsOf hob hdb (wpAny_bind ?_))))
   refine wpAny_forIn_list _ (fun rest r s'=>r.1=none/\s'=s/\∃(x' y':List D) (xs' ys':List Value),rest=List.zip xs' ys'/\A2 (Ek s.heap n) x' xs'/\A2 (Ek s.heap n) y' ys'/\(x'=y' <-> ds=es)/\(xs'.length == ys'.length)=(xs.size == ys.size)) _ ?_ ?_ _ _ ⟨rfl,rfl,ds,es,xs.toList,ys.toList,rfl,ra,rb,Iff.rfl,by simp⟩
   ·rintro⟨u,v⟩ rest r s' ⟨hr,rfl,x',y',xs',ys',hz,hx',hy',hdec,hlen⟩
    cases hx' with
    | nil=>simp at hz
    | @cons k1 u' x'' xs'' h1 hx''=>
     cases hy' with
     | nil=>simp at hz
     | @cons k2 v' y'' ys'' h2 hy''=>
      simp only[List.zip_cons_cons,List.cons.injEq,Prod.mk.injEq]at hz
      obtain⟨⟨rfl,rfl⟩,rfl⟩:=hz
      refine wpAny_bind (zRp n h1 h2 (by show A.units+1+n<cLine;lia) ?_)
      by_cases hk:k1=k2
      ·subst hk
       rw[decide_eq_true rfl]
       simp only[Bool.not_true,Bool.false_eq_true,if_false]
       refine wpAny_pure ⟨rfl,rfl,x'',y'',xs'',ys'',rfl,hx'',hy'',?_,by simpa using hlen⟩
       rw[<- hdec];simp
      ·rw[decide_eq_false hk]
       simp only[Bool.not_false,if_true]
       have hf:¬ ds=es:=fun z=>hk (by have:=hdec.mpr z;cases this;rfl)
       exact wpAny_bind (wpAny_pure (wpAny_pure (wpAny_pure (fin false (by rw[decide_eq_false];intro z;cases z;exact hf rfl)))))
   ·rintro⟨r1,r2⟩ s' ⟨hr,rfl,x',y',xs',ys',hz,hx',hy',hdec,hlen⟩
    simp only at hr
    subst hr
    refine wpAny_pure ?_
    have hfin:(xs.size == ys.size)=decide (D.tup ds=D.tup es):=by
     have e3:decide (D.tup ds=D.tup es)=decide (x'=y'):=decide_eq_decide.mpr (by rw[D.tup.injEq];exact hdec.symm)
     rw[e3,<- hlen]
     cases hx' with
     | nil=>
      cases hy' with
      | nil=>simp
      | cons _ _=>simp
     | cons _ _=>
      cases hy' with
      | nil=>simp
      | cons _ _=>simp at hz
    exact fin _ hfin
end
end EK
namespace DS
open PySem (Str)
noncomputable section
open Classical
mutual
def blt:D->D->Bool
 | .int a,.int b=>decide (a<b)
 | .tup l,.tup m=>bltL l m
 | _,_=>false
def bltL:List D->List D->Bool
 | [],[]=>false
 | [],_::_=>true
 | _::_,[]=>false
 | a::r,b::t=>if a=b then bltL r t else blt a b
end
def lv:Nat->D->Prop
 | 0,d=>∃i,d=.int i
 | n+1,d=>∃l,d=.tup l/\∀x∈l,lv n x
theorem zB2 (a b:D) (r t:List D):bltL (a::r) (b::t)=if a=b then bltL r t else blt a b:=by rw[bltL]
theorem zL9:∀(l:List D),bltL l l=false
 | []=>by rw[bltL]
 | a::r=>by rw[zB2,if_pos rfl];exact zL9 r
theorem zHv {n:Nat}{d:D}(h:lv n d):blt d d=false:=by
 cases n with
 | zero=>obtain⟨i,rfl⟩:=h;rw[blt];simp
 | succ n=>obtain⟨l,rfl,_⟩:=h;rw[blt];exact zL9 l
theorem zJt:∀(n:Nat) {a b:D},lv n a->lv n b->a≠b->blt a b=true\/blt b a=true
 | 0,_,_,⟨i,e⟩,⟨j,e'⟩,h=>by
  subst e e'
  rw[blt,blt]
  have:i≠j:=fun z=>h (by rw[z])
  simp only[decide_eq_true_eq]
  lia
 | n+1,_,_,⟨l,e,hl⟩,⟨m,e',hm⟩,h=>by
  subst e e'
  rw[blt,blt]
  have hlm:l≠m:=fun z=>h (by rw[z])
  clear h
  induction l generalizing m with
  | nil=>
   cases m with
   | nil=>exact absurd rfl hlm
   | cons b t=>left;rw[bltL]
  | cons a r ih=>
   cases m with
   | nil=>right;rw[bltL]
   | cons b t=>
    rw[zB2,zB2]
    by_cases q:a=b
    ·subst q
     rw[if_pos rfl,if_pos rfl]
     exact ih (fun x hx=>hl x (.tail _ hx)) t (fun x hx=>hm x (.tail _ hx)) fun z=>hlm (by rw[z])
    ·rw[if_neg q,if_neg (Ne.symm q)]
     exact zJt n (hl a (.head _)) (hm b (.head _)) q
theorem zL8:∀(n:Nat) {a b c:D},lv n a->lv n b->lv n c->blt a b=true->blt b c=true->blt a c=true
 | 0,_,_,_,⟨i,e⟩,⟨j,e'⟩,⟨k,e''⟩,h,h'=>by
  subst e e' e''
  rw[blt]at h h' ⊢
  simp only[decide_eq_true_eq]at *
  lia
 | n+1,_,_,_,⟨l,e,hl⟩,⟨m,e',hm⟩,⟨k,e'',hk⟩,h,h'=>by
  subst e e' e''
  rw[blt]at h h' ⊢
  induction l generalizing m k with
  | nil=>
   cases k with
   | nil=>cases m with
    | nil=>exact h
    | cons b t=>rw[bltL]at h';cases h'
   | cons c u=>rw[bltL]
  | cons a r ih=>
   cases m with
   | nil=>rw[bltL]at h;cases h
   | cons b t=>
    cases k with
    | nil=>rw[bltL]at h';cases h'
    | cons c u=>
     rw[zB2]at h h' ⊢
     by_cases q:a=b
     ·subst q
      rw[if_pos rfl]at h
      by_cases q2:a=c
      ·subst q2
       rw[if_pos rfl]at h' ⊢
       exact ih (fun x hx=>hl x (.tail _ hx)) t (fun x hx=>hm x (.tail _ hx)) u (fun x hx=>hk x (.tail _ hx)) h h'
      ·rw[if_neg q2]at h' ⊢;exact h'
     ·rw[if_neg q]at h
      by_cases q2:b=c
      ·subst q2;rw[if_neg q];exact h
      ·rw[if_neg q2]at h'
       have t1:=zL8 n (hl a (.head _)) (hm b (.head _)) (hk c (.head _)) h h'
       rw[if_neg (fun z=>by subst z;rw[zHv (hl _ (.head _))]at t1;cases t1)]
       exact t1
theorem zPc {n:Nat}{a b:D}(ha:lv n a) (hb:lv n b) (h:blt a b=true):blt b a=false:=by
 cases e:blt b a with
 | false=>rfl
 | true=>have:=zL8 n ha hb ha h e;rw[zHv ha]at this;cases this
def dle (a b:D):Prop:=blt b a=false
theorem zL1 {n:Nat}{a b c:D}(ha:lv n a) (hb:lv n b) (hc:lv n c) (h:dle a b) (h':dle b c):dle a c:=by
 unfold dle at *
 cases e:blt c a with
 | false=>rfl
 | true=>
  by_cases q:a=b
  ·subst q;rw[h']at e;cases e
  ·rcases zJt n ha hb q with z|z
   ·have:=zL8 n hc ha hb e z;rw[h']at this;cases this
   ·rw[h]at z;cases z
theorem zRt {n:Nat}{a b:D}(ha:lv n a) (hb:lv n b) (h:dle a b) (h':dle b a):a=b:=by
 apply Classical.byContradiction
 intro q
 rcases zJt n ha hb q with z|z
 ·rw[show blt a b=false from h']at z;cases z
 ·rw[show blt b a=false from h]at z;cases z
def ins (x:D):List D->List D
 | []=>[x]
 | y::l=>if blt y x=true then y::ins x l else x::y::l
def srt:List D->List D
 | []=>[]
 | x::l=>ins x (srt l)
theorem ins_perm (x:D):∀l,(ins x l).Perm (x::l)
 | []=>.refl _
 | y::l=>by
  unfold ins
  split
  ·exact((ins_perm x l).cons y).trans (List.Perm.swap ..)
  ·exact .refl _
theorem zBx:∀l,(srt l).Perm l
 | []=>.refl _
 | x::l=>(ins_perm x _).trans ((zBx l).cons x)
abbrev Up (l:List D):Prop:=l.Pairwise dle
theorem ins_up {n:Nat}{x:D}:∀{l:List D},lv n x->(∀y∈l,lv n y)->Up l->Up (ins x l)
 | [],_,_,_=>List.pairwise_singleton _ _
 | y::l,hx,hl,h=>by
  have h':=List.pairwise_cons.mp h
  unfold ins
  split
  ·rename_i q
   refine List.pairwise_cons.mpr ⟨fun z hz=>?_,ins_up hx (fun z hz=>hl z (.tail _ hz)) h'.2⟩
   rcases List.mem_cons.mp ((ins_perm x l).mem_iff.mp hz)with rfl|hz
   ·exact zPc (hl y (.head _)) hx q
   ·exact h'.1 z hz
  ·rename_i q
   refine List.pairwise_cons.mpr ⟨fun z hz=>?_,h⟩
   rcases List.mem_cons.mp hz with rfl|hz
   ·exact Bool.eq_false_iff.mpr q
   ·exact zL1 hx (hl y (.head _)) (hl z (.tail _ hz)) (Bool.eq_false_iff.mpr q) (h'.1 z hz)
theorem zK7 {n:Nat}:∀{l:List D},(∀y∈l,lv n y)->Up (srt l)
 | [],_=>.nil
 | x::l,h=>ins_up (h x (.head _)) (fun y hy=>h y (.tail _ ((zBx l).mem_iff.mp hy))) (zK7 fun y hy=>h y (.tail _ hy))
theorem up_eq {n:Nat}:∀{l m:List D},(∀y∈l,lv n y)->l.Perm m->Up l->Up m->l=m
 | [],m,_,p,_,_=>by rw[List.nil_perm.mp p]
 | a::l,[],_,p,_,_=>by have:=p.length_eq;simp at this
 | a::l,b::m,hv,p,h,h'=>by
  have ha:=List.pairwise_cons.mp h
  have hb:=List.pairwise_cons.mp h'
  have e:a=b:=by
   by_cases z:a=b
   ·exact z
   ·have m1:b∈l:=by
     rcases List.mem_cons.mp (p.mem_iff.mpr (List.mem_cons_self (a:=b) (l:=m)))with q|q
     ·exact absurd q.symm z
     ·exact q
    have m2:a∈m:=by
     rcases List.mem_cons.mp (p.mem_iff.mp (List.mem_cons_self (a:=a) (l:=l)))with q|q
     ·exact absurd q z
     ·exact q
    exact zRt (hv a (.head _)) (hv b (.tail _ m1)) (ha.1 b m1) (hb.1 a m2)
  subst e
  rw[up_eq (fun y hy=>hv y (.tail _ hy)) (List.Perm.cons_inv p) ha.2 hb.2]
theorem zMe {n:Nat}{l m:List D}(hv:∀y∈l,lv n y) (p:l.Perm m) (h:Up l):l=srt m:=up_eq hv (p.trans (zBx m).symm) h (zK7 fun y hy=>hv y (p.mem_iff.mpr hy))
def rkD (l:List D) (d:D):Nat:=(l.filter fun e=>blt e d).length
theorem zVv {p q:D->Bool}:∀(l:List D),(∀x∈l,p x=true->q x=true)->(l.filter p).length<=(l.filter q).length
 | [],_=>Nat.le_refl _
 | x::l,h=>by
  have ih:=zVv l fun y hy=>h y (.tail _ hy)
  by_cases c:p x=true
  ·rw[List.filter_cons_of_pos c,List.filter_cons_of_pos (h x (.head _) c)];simpa using ih
  ·rw[List.filter_cons_of_neg c]
   by_cases c2:q x=true
   ·rw[List.filter_cons_of_pos c2,List.length_cons];lia
   ·rw[List.filter_cons_of_neg c2];exact ih
theorem zYt {p q:D->Bool}{y:D}(hy:p y=false) (hy':q y=true):∀(l:List D),y∈l->(∀x∈l,p x=true->q x=true)->(l.filter p).length<(l.filter q).length
 | x::l,hm,h=>by
  rcases List.mem_cons.mp hm with e|hm
  ·subst e
   rw[List.filter_cons_of_neg (by rw[hy];decide),List.filter_cons_of_pos hy',List.length_cons]
   have:=zVv l fun z hz=>h z (.tail _ hz)
   lia
  ·have ih:=zYt hy hy' l hm fun z hz=>h z (.tail _ hz)
   by_cases c:p x=true
   ·rw[List.filter_cons_of_pos c,List.filter_cons_of_pos (h x (.head _) c)];simpa using ih
   ·rw[List.filter_cons_of_neg c]
    by_cases c2:q x=true
    ·rw[List.filter_cons_of_pos c2,List.length_cons];lia
    ·rw[List.filter_cons_of_neg c2];exact ih
theorem zU1 {n:Nat}{l:List D}{a b:D}(hl:∀x∈l,lv n x) (ha:a∈l) (hb:b∈l):decide (rkD l a<rkD l b)=blt a b:=by
 cases e:blt a b with
 | true=>exact decide_eq_true (zYt (p:=fun e=>blt e a) (q:=fun e=>blt e b) (zHv (hl a ha)) e l ha fun x hx q=>zL8 n (hl x hx) (hl a ha) (hl b hb) q e)
 | false=>
  refine decide_eq_false (Nat.not_lt.mpr (zVv l fun x hx q=>?_))
  cases e2:blt x a with
  | true=>rfl
  | false=>exact absurd q (by rw[show blt x b=false from zL1 (hl b hb) (hl a ha) (hl x hx) e e2];decide)
def dedup:List D->List D
 | []=>[]
 | x::l=>if x∈l then dedup l else x::dedup l
theorem mem_dedup {x:D}:∀{l:List D},x∈dedup l <-> x∈l
 | []=>Iff.rfl
 | y::l=>by
  unfold dedup
  split
  ·rename_i h
   rw[mem_dedup]
   constructor
   ·exact fun q=>.tail _ q
   ·intro q
    rcases List.mem_cons.mp q with rfl|q
    ·exact h
    ·exact q
  ·rw[List.mem_cons,List.mem_cons,mem_dedup]
theorem zEz:∀{l:List D},(dedup l).Nodup
 | []=>.nil
 | y::l=>by
  unfold dedup
  split
  ·exact zEz
  ·rename_i h
   exact List.nodup_cons.mpr ⟨fun q=>h (mem_dedup.mp q),zEz⟩
theorem zV5 {l m:List D}(h:l.Nodup) (h':m.Nodup) (e:∀x,x∈l <-> x∈m):l.Perm m:=by
 induction l generalizing m with
 | nil=>
  cases m with
  | nil=>exact .refl _
  | cons b t=>exact absurd ((e b).mpr (.head _)) (by simp)
 | cons a l ih=>
  have ha:a∈m:=(e a).mp (.head _)
  obtain⟨u,v,rfl⟩:=List.append_of_mem ha
  have hn:=List.nodup_cons.mp h
  have h2:(a::(u++v)).Nodup:=(List.perm_middle.nodup_iff).mp h'
  have hm:=List.nodup_cons.mp h2
  refine(List.Perm.cons a (ih hn.2 hm.2 fun x=>?_)).trans List.perm_middle.symm
  constructor
  ·intro hx
   have:=(e x).mp (.tail _ hx)
   rcases List.mem_cons.mp ((List.perm_middle (a:=a) (l₁:=u) (l₂:=v)).mem_iff.mp this)with rfl|q
   ·exact absurd hx hn.1
   ·exact q
  ·intro hx
   have:x∈a::l:=(e x).mpr ((List.perm_middle (a:=a) (l₁:=u) (l₂:=v)).mem_iff.mpr (.tail _ hx))
   rcases List.mem_cons.mp this with rfl|q
   ·exact absurd hx hm.1
   ·exact q
end
end DS
namespace EK
open PySem PyProof.Rows PySem.W
open DS (D blt bltL zB2)
open Classical
section
variable {prog:Program}{w:World}
theorem zGj {n:Nat}(ih:∀{d d':D}{v v':Value}{A:Around}{E:Value->Shared->Prop}{s:Shared}{Q:Value->Shared->Prop},Ek s.heap n d v->Ek s.heap n d' v'->A.units+n<cLine->Q (.bool (blt d d')) s->wpAny (model prog w) A (richCompare .Lt v v') Q E s)
  {d d':D}{a b:Addr}{A:Around}{E:Value->Shared->Prop}{s:Shared}{Q:Value->Shared->Prop}(hx:Ek s.heap (n+1) d (.ref a)) (hy:Ek s.heap (n+1) d' (.ref b)) (hu:A.units+(n+1)<cLine) (h:Q (.bool (blt d d')) s):wpAny (model prog w) A (call (.builtin "tuple.__lt__") [.ref a,.ref b]) Q E s:=by
 have hx0:=hx
 have hy0:=hy
 obtain⟨ds,a',oa,xs,ka,rfl,ea,hoa,hca,hda,ra⟩:=hx
 cases ea
 obtain⟨es,b',ob,ys,kb,rfl,eb,hob,hcb,hdb,rb⟩:=hy
 cases eb
 refine wpAny_call_entry PySem.F.slot_tuple_lt hx0.typeIs PySem.F.entry_tuple_lt ?_ (PySem.F.args_tuple_lt_2 _ _)
 rw[blt]at h
 show wpAny _ _ (isInstance (.ref b) (.type "tuple") >>= _) _ _ s
 refine wpAny_bind (wpAny_isInstance hy0.typeIs isSubtype_tuple_tuple ?_)
 simp only[Bool.not_true,Bool.false_eq_true,if_false]
 refine wpAny_bind (wpAny_tupleItemsOf hoa hda (wpAny_bind (wpAny_tupleItemsOf hob hdb (wpAny_bind ?_))))
 refine wpAny_forIn_list _ (fun rest r s'=>r.1=none/\s'=s/\∃(x' y':List D) (xs' ys':List Value),rest=List.zip xs' ys'/\A2 (Ek s.heap n) x' xs'/\A2 (Ek s.heap n) y' ys'/\bltL x' y'=bltL ds es/\decide (xs'.length<ys'.length)=decide (xs.size<ys.size)) _ ?_ ?_ _ _ ⟨rfl,rfl,ds,es,xs.toList,ys.toList,rfl,ra,rb,rfl,by simp⟩
 ·rintro⟨u,v⟩ rest r s' ⟨hr,rfl,x',y',xs',ys',hz,hx',hy',hdec,hlen⟩
  cases hx' with
  | nil=>simp at hz
  | @cons k1 u' x'' xs'' h1 hx''=>
   cases hy' with
   | nil=>simp at hz
   | @cons k2 v' y'' ys'' h2 hy''=>
    simp only[List.zip_cons_cons,List.cons.injEq,Prod.mk.injEq]at hz
    obtain⟨⟨rfl,rfl⟩,rfl⟩:=hz
    refine wpAny_bind (zRp n h1 h2 (by show A.units+1+n<cLine;lia) ?_)
    rw[zB2]at hdec
    by_cases hk:k1=k2
    ·subst hk
     rw[if_pos rfl]at hdec
     rw[decide_eq_true rfl]
     simp only[Bool.not_true,Bool.false_eq_true,if_false]
     exact wpAny_pure ⟨rfl,rfl,x'',y'',xs'',ys'',rfl,hx'',hy'',hdec,by simpa using hlen⟩
    ·rw[if_neg hk]at hdec
     rw[decide_eq_false hk]
     simp only[Bool.not_false,if_true]
     refine wpAny_bind (wpAny_rule (wpAny_bind (ih h1 h2 (by show A.units+1+n<cLine;lia) ?_)))
     refine wpAny_bind (wpAny_pure (wpAny_pure (wpAny_pure ⟨_,rfl,?_⟩)))
     rw[hdec];exact h
 ·rintro⟨r1,r2⟩ s' ⟨hr,rfl,x',y',xs',ys',hz,hx',hy',hdec,hlen⟩
  simp only at hr
  subst hr
  have hfin:bltL ds es=decide (xs.size<ys.size):=by
   rw[<- hdec,<- hlen]
   cases hx' with
   | nil=>
    cases hy' with
    | nil=>rw[bltL];rfl
    | cons _ _=>rw[bltL];simp
   | cons _ _=>
    cases hy' with
    | nil=>rw[bltL];simp
    | cons _ _=>simp at hz
  rw[hfin]at h
  exact wpAny_pure ⟨_,rfl,h⟩
theorem zRo:∀(n:Nat) {d d':D}{v v':Value}{A:Around}{E:Value->Shared->Prop}{s:Shared}{Q:Value->Shared->Prop},Ek s.heap n d v->Ek s.heap n d' v'->A.units+n<cLine->Q (.bool (blt d d')) s->wpAny (model prog w) A (richCompare .Lt v v') Q E s
 | 0,_,_,_,_,A,E,s,Q,⟨i,t,e1,e2⟩,⟨j,u,e3,e4⟩,_,h=>by
  subst e1 e2 e3 e4
  rw[blt]at h
  exact(lt_int h:wpAny (model prog w) A (compareOp .Lt (.int i t) (.int j u)) Q E s)
 | n+1,_,_,_,_,A,E,s,Q,hx,hy,hu,h=>by
  have hx0:=hx
  have hy0:=hy
  obtain⟨ds,a,oa,xs,ka,rfl,rfl,hoa,hca,hda,ra⟩:=hx
  obtain⟨es,b,ob,ys,kb,rfl,rfl,hob,hcb,hdb,rb⟩:=hy
  exact wpAny_richCompare_same_room (op:=.Lt) hx0.typeIs hy0.typeIs PySem.F.slot_tuple_lt (zGj (fun {d d' v v' A E s Q}=>zRo n) hx0 hy0 hu ⟨(fun e=>nomatch e),h⟩) (by first|assumption|lia)
theorem zNn (n:Nat) {d d':D}{v v':Value}{A:Around}{E:Value->Shared->Prop}{s:Shared}{Q:Bool->Shared->Prop}(hx:Ek s.heap n d v) (hy:Ek s.heap n d' v') (hu:A.units+n<cLine) (h:Q (blt d d') s) (b:Bool):wpAny (model prog w) A (oneLt' b v v') Q E s:=by
 rw[oneLt'_eq]
 cases b with
 | false=>
  simp only[Bool.false_eq_true,if_false]
  exact wpAny_bind (zRo n hx hy hu (wpAny_truthy_bool h))
 | true=>
  simp only[if_true]
  refine wpAny_bind (wpAny_cRoomFor_or (.inr (by first|assumption|lia)) ?_)
  cases n with
  | zero=>
   obtain⟨i,t,rfl,rfl⟩:=hx
   obtain⟨j,u,rfl,rfl⟩:=hy
   rw[blt]at h
   exact wpAny_bind (wpAny_callSpecialIfBound?_slot (typeIs_int s i t) slot_int_lt (call_int_lt (wpAny_truthy_bool h)))
  | succ n=>
   have hx0:=hx
   have hy0:=hy
   obtain⟨ds,a,oa,xs,ka,rfl,rfl,hoa,hca,hda,ra⟩:=hx
   obtain⟨es,b,ob,ys,kb,rfl,rfl,hob,hcb,hdb,rb⟩:=hy
   exact wpAny_bind (wpAny_callSpecialIfBound?_slot hx0.typeIs PySem.F.slot_tuple_lt (zGj (fun {d d' v v' A E s Q}=>zRo n) hx0 hy0 hu (wpAny_truthy_bool h)))
theorem zT1 {n:Nat}{A:Around}{b:Bool}{s:Shared}{Q:Bool->Shared->Prop}(hu:A.units+n<cLine) {fin:Bool}:∀{ds es:List D}{xs ys:List Value}(i:Nat),A2 (Ek s.heap n) ds xs->A2 (Ek s.heap n) es ys->fin=decide (ds.length<es.length)->Q (bltL ds es) s->KatLex prog w A b fin Q (xs.zip ys) i s
 | _,_,_,_,i,.nil,.nil,hf,h=>by rw[bltL]at h;rw[hf];exact h
 | _,_,_,_,i,.nil,.cons _ _,hf,h=>by rw[bltL]at h;rw[List.zip_nil_left,hf];exact kat_nil (by simpa using h)
 | _,_,_,_,i,.cons _ _,.nil,hf,h=>by rw[bltL]at h;rw[List.zip_nil_right,hf];exact kat_nil (by simpa using h)
 | _,_,_,_,i,.cons (a:=d) h1 r1,.cons (a:=e) h2 r2,hf,h=>by
  rw[zB2]at h
  rw[List.zip_cons_cons]
  refine kat_cons (zRp n h1 h2 hu ?_)
  by_cases q:d=e
  ·rw[if_pos q]at h
   rw[decide_eq_true q]
   exact kat_yes (zT1 hu (i+1) r1 r2 (by rw[hf];simp) h)
  ·rw[if_neg q]at h
   rw[decide_eq_false q]
   exact kat_no (zNn n h1 h2 hu h _)
inductive Kd:SortKind->Nat->Prop where
 | gen {n:Nat}:Kd general' n
 | one {n:Nat}:Kd oneType' n
 | tup {n:Nat}{b:Bool}:Kd (tuples' b) (n+1)
theorem zYi {κ:SortKind}{n:Nat}(hκ:Kd κ n) {d d':D}{v v':Value}{A:Around}{E:Value->Shared->Prop}{s:Shared}{Q:Bool->Shared->Prop}(hx:Ek s.heap n d v) (hy:Ek s.heap n d' v') (hu:A.units+n<cLine) (h:Q (blt d d') s):wpAny (model prog w) A (keyLt' κ v v') Q E s:=by
 cases hκ with
 | gen=>exact(zNn n hx hy hu h false:wpAny (model prog w) A (oneLt' false v v') Q E s)
 | one=>rw[keyLt'_oneType];exact zNn n hx hy hu h true
 | @tup n b=>
  obtain⟨ds,a,oa,xs,ka,rfl,rfl,hoa,hca,hda,ra⟩:=hx
  obtain⟨es,c,ob,ys,kb,rfl,rfl,hob,hcb,hdb,rb⟩:=hy
  rw[blt]at h
  exact kat_lt hoa hda hob hdb (zT1 (by first|assumption|lia) 0 ra rb (by rw[ra.length,rb.length];simp) h)
end
end EK
namespace EK
open PySem PyProof.Rows PySem.W TM
open DS (D blt bltL lv srt rkD zU1 zMe Up dle)
open Classical
theorem Ek.lv {h:Heap}:∀{n:Nat}{d:D}{v:Value},Ek h n d v->lv n d
 | 0,_,_,⟨i,t,e1,e2⟩=>⟨i,e1⟩
 | n+1,_,_,⟨ds,a,o,items,k,e1,e2,h1,h2,h3,r⟩=>⟨ds,e1,by
  clear e1 h3
  generalize items.toList=vs at r
  induction r with
  | nil=>intro x hx;cases hx
  | cons q _ ih=>
   intro x hx
   rcases List.mem_cons.mp hx with rfl|hx
   ·exact Ek.lv q
   ·exact ih x hx⟩
section
variable {prog:Program}{w:World}{A:Around}{E:Value->Shared->Prop}{s:Shared}{n:Nat}{ds:List D}{vs:List Value}
def ekTy:Nat->Value
 | 0=>.type "int"
 | _+1=>.type "tuple"
theorem zHd {M:Model}{d:D}{v:Value}(h:Ek s.heap n d v):Looks M s.heap (typeOf v) (ekTy n):=by
 cases n with
 | zero=>obtain⟨i,t,rfl,rfl⟩:=h;exact .now
 | succ n=>
  obtain⟨ds,a,o,items,k,rfl,rfl,ho,hc,hd,r⟩:=h
  have:Looks M s.heap (typeOf (.ref a)) o.cls:=(Looks.ld ho).andThen .now
  rw[hc]at this;exact this
theorem A2.mem_r {α β:Type}{R:α->β->Prop}{l:List α}{m:List β}(h:A2 R l m):∀b∈m,∃a∈l,R a b:=by
 induction h with
 | nil=>intro b hb;cases hb
 | cons q _ ih=>
  intro b hb
  rcases List.mem_cons.mp hb with rfl|hb
  ·exact⟨_,.head _,q⟩
  ·obtain⟨a,ha,r⟩:=ih b hb;exact⟨a,.tail _ ha,r⟩
theorem A2.mem_l {α β:Type}{R:α->β->Prop}{l:List α}{m:List β}(h:A2 R l m):∀a∈l,∃b∈m,R a b:=by
 induction h with
 | nil=>intro b hb;cases hb
 | cons q _ ih=>
  intro b hb
  rcases List.mem_cons.mp hb with rfl|hb
  ·exact⟨_,.head _,q⟩
  ·obtain⟨a,ha,r⟩:=ih b hb;exact⟨a,.tail _ ha,r⟩
theorem zSt {M:Model}{vs:List Value}{T:Value}{Q:Option Value->Shared->Prop}(hT:∀v∈vs,Looks M s.heap (typeOf v) T) (h:∀r,Q r s):wpAny M A (oneTypeOnly' vs.toArray) Q E s:=by
 rw[oneTypeOnly'_eq,List.mapM_toArray,map_eq_pure_bind]
 refine wpAny_bind (wpAny_bind (kas_mapM (r:=T) _ (fun v hv Q' hq=>(hT v hv).here hq) (wpAny_pure ?_)))
 split
 ·exact wpAny_pure (h _)
 ·exact wpAny_pure (h _)
theorem firsts {M:Model}:∀{ds:List D}{vs:List Value}{Q:List (Option Value)->Shared->Prop},A2 (Ek s.heap n) ds vs->(∀fs:List (Option Value),fs.length=vs.length->(n=0->∀f∈fs,f=none)->(∀f∈fs,∀v,f=some v->∃m d,n=m+1/\Ek s.heap m d v)->Q fs s)->wpAny M A (vs.mapM firstOfTuple') Q E s
 | _,_,Q,.nil,h=>by rw[List.mapM_nil];exact wpAny_pure (h [] rfl (fun _ f hf=>nomatch hf) fun f hf=>nomatch hf)
 | _,_,Q,.cons (b:=v) (m:=vs) q r,h=>by
  rw[List.mapM_cons]
  refine wpAny_bind ?_
  have go:∀f:Option Value,(n=0->f=none)->(∀v,f=some v->∃m d,n=m+1/\Ek s.heap m d v)->wpAny M A (vs.mapM firstOfTuple' >>= fun bs=>pure (f::bs)) Q E s:=fun f h0 h1=>
   wpAny_bind (firsts (Q:=fun bs s'=>wpAny M A (pure (f::bs)) Q E s') r fun fs hl hz hs=>wpAny_pure (h (f::fs) (by simp[hl]) (fun z g hg=>by
    rcases List.mem_cons.mp hg with rfl|hg
    ·exact h0 z
    ·exact hz z g hg) fun g hg=>by
    rcases List.mem_cons.mp hg with rfl|hg
    ·exact h1
    ·exact hs g hg))
  have lk:=zHd (M:=M) q
  rw[kas_first_eq]
  cases n with
  | zero=>
   obtain⟨i,t,rfl,rfl⟩:=q
   refine wpAny_bind (Looks.here (show Looks M s.heap (typeOf (.int i t)) (.type "int")from .now) ?_)
   rw[if_pos (by decide)]
   exact wpAny_pure (go none (fun _=>rfl) fun v e=>nomatch e)
  | succ n=>
   obtain⟨ds,a,o,items,k,rfl,rfl,ho,hc,hd,r'⟩:=q
   refine wpAny_bind (lk.here ?_)
   rw[show ekTy (n+1)=.type "tuple" from rfl,if_neg (by decide)]
   refine wpAny_bind (listItems_at ho hd (wpAny_pure (go _ (fun z=>nomatch z) fun v e=>?_)))
   obtain⟨d,hd',rr⟩:=r'.mem_r v (by obtain⟨z,e⟩:=Array.getElem?_eq_some_iff.mp e;rw[<- e];simp)
   exact⟨n,d,rfl,rr⟩
theorem zVh {Q:SortKind->Shared->Prop}(h:A2 (Ek s.heap n) ds vs) (hne:vs≠[]) (hQ:∀κ,Kd κ n->Q κ s):wpAny (model prog w) A (keyKind' vs.toArray) Q E s:=by
 rw[kat_kind_eq,List.mapM_toArray,map_eq_pure_bind]
 refine wpAny_bind (wpAny_bind (firsts h fun fs hl hz hs=>wpAny_pure ?_))
 by_cases q:(fs.toArray.all fun x=>x.isSome)=true
 ·rw[if_pos q]
  have hn:∃m,n=m+1:=by
   cases n with
   | succ m=>exact⟨m,rfl⟩
   | zero=>
    exfalso
    match fs,hl with
    | [],hl=>exact hne (List.length_eq_zero_iff.mp hl.symm)
    | f::fs,hl=>
     have:f=none:=hz rfl f (.head _)
     subst this
     simp at q
  obtain⟨m,rfl⟩:=hn
  refine wpAny_bind (wpAny_rule ?_)
  have e:fs.toArray.filterMap id=(fs.filterMap id).toArray:=by simp
  rw[e]
  refine wpAny_bind (zSt (T:=ekTy m) (fun v hv=>?_) fun r=>wpAny_pure (hQ _ .tup))
  obtain⟨f,hf,e2⟩:=List.mem_filterMap.mp hv
  obtain⟨m',d,e3,hk⟩:=hs f hf v e2
  cases e3
  exact zHd hk
 ·rw[if_neg q]
  split
  ·exact wpAny_pure (hQ _ .gen)
  ·refine wpAny_bind (zSt (T:=ekTy n) (fun v hv=>?_) fun r=>?_)
   ·obtain⟨d,_,hk⟩:=h.mem_r v hv
    exact zHd hk
   ·split
    ·exact wpAny_pure (hQ _ .one)
    ·exact wpAny_pure (hQ _ .gen)
noncomputable def kd (h:Heap) (n:Nat) (v:Value):D:=if z:∃d,Ek h n d v then choose z else .non
theorem zJf {h:Heap}{d:D}{v:Value}(q:Ek h n d v):kd h n v=d:=by
 have z:∃d,Ek h n d v:=⟨d,q⟩
 unfold kd
 rw[dif_pos z]
 exact(choose_spec z).inj q
theorem zYj {h:Heap}(r:A2 (Ek h n) ds vs):vs.map (kd h n)=ds:=by
 induction r with
 | nil=>rfl
 | cons q _ ih=>rw[List.map_cons,zJf q,ih]
theorem yA6 {h:Heap}{vs:List Value}(al:∀v∈vs,∃d,Ek h n d v):A2 (Ek h n) (vs.map (kd h n)) vs:=by
 induction vs with
 | nil=>exact .nil
 | cons v vs ih=>
  obtain⟨d,q⟩:=al v (.head _)
  exact .cons (by rw[zJf q];exact q) (ih fun u hu=>al u (.tail _ hu))
theorem zJy:∀(l:List Value),l.zip l=l.map fun v=>(v,v)
 | []=>rfl
 | x::l=>by rw[List.zip_cons_cons,zJy l];rfl
theorem zPs {κ:SortKind}(hκ:Kd κ n) (hz:vs.length<=63) (h:A2 (Ek s.heap n) ds vs) (hu:A.units+n<cLine) {Q:SortSt->Shared->Prop}
  (hQ:∀(st:SortSt) (vs':List Value),vs'.Perm vs->A2 (Ek s.heap n) (srt ds) vs'->failedOf st=none->(arrOf st).map (·.2)=vs'.toArray->Q st s):
  wpAny (model prog w) A ((sortRuns').run (SortSt.mk' κ (vs.toArray.zip vs.toArray) #[] 7 none)) (fun r s'=>Q r.2 s') E s:=by
 have za:(vs.toArray.zip vs.toArray).toList=vs.map fun v=>(v,v):=by
  rw[Array.toList_zip]
  exact zJy vs
 have mem:∀x∈vs.toArray.zip vs.toArray,∃v∈vs,x=(v,v):=fun x hx=>by
  have:x∈vs.map fun v=>(v,v):=by rw[<- za];exact Array.mem_toList_iff.mpr hx
  obtain⟨v,hv,e⟩:=List.mem_map.mp this
  exact⟨v,hv,e.symm⟩
 have C:Cm prog w A s κ (fun x=>rkD ds (kd s.heap n x.1)) (fun x=>x∈vs.toArray.zip vs.toArray):=fun x y hx hy Q E' q=>by
  obtain⟨v,hv,rfl⟩:=mem x hx
  obtain⟨u,hu',rfl⟩:=mem y hy
  obtain⟨d,hd,k1⟩:=h.mem_r v hv
  obtain⟨e,he,k2⟩:=h.mem_r u hu'
  refine zYi hκ k1 k2 hu ?_
  have hl:∀x∈ds,lv n x:=fun x hx=>by obtain⟨b,_,r⟩:=h.mem_l x hx;exact r.lv
  have q2:Q (decide (rkD ds (kd s.heap n v)<rkD ds (kd s.heap n u))) s:=q
  rw[zJf k1,zJf k2,zU1 hl hd he]at q2
  exact q2
 refine wpAny_mono (w_sr (E:=E) (Q:=fun _ st=>∃vs':List Value,vs'.Perm vs/\A2 (Ek s.heap n) (srt ds) vs'/\failedOf st=none/\(arrOf st).map (·.2)=vs'.toArray) C (a₀:=vs.toArray.zip vs.toArray) (by simpa using hz) (fun x hx=>hx) (st:=SortSt.mk' κ (vs.toArray.zip vs.toArray) #[] 7 none) ⟨.refl _,rfl,rfl⟩ rfl fun st' B so=>?_) (fun r s' q=>?_) fun _ _ e=>e
 ·have pm:(arrOf st').toList.Perm (vs.map fun v=>(v,v)):=by rw[<- za];exact Array.perm_iff_toList_perm.mp B.perm
  have p2:((arrOf st').toList.map (·.2)).Perm vs:=by
   have:=pm.map (·.2)
   rw[List.map_map]at this
   rwa[show vs.map ((fun x:Value × Value=>x.2) ∘ fun v=>(v,v))=vs from List.map_id' vs]at this
  have al:∀v∈(arrOf st').toList.map (·.2),∃d,Ek s.heap n d v:=fun v hv=>by
   obtain⟨d,_,q⟩:=h.mem_r v (p2.mem_iff.mp hv)
   exact⟨d,q⟩
  have a2:=yA6 al
  refine⟨_,p2,?_,B.failed,by apply Array.toList_inj.mp;rw[Array.toList_map]⟩
  have pd:(((arrOf st').toList.map (·.2)).map (kd s.heap n)).Perm ds:=by
   have:=p2.map (kd s.heap n)
   rwa[zYj h]at this
  have up:Up (((arrOf st').toList.map (·.2)).map (kd s.heap n)):=by
   have hl:∀x∈ds,lv n x:=fun x hx=>by obtain⟨b,_,r⟩:=h.mem_l x hx;exact r.lv
   have sz:(arrOf st').size=(vs.toArray.zip vs.toArray).size:=B.size
   rw[<- sz]at so
   have pw:=so.pw
   rw[List.map_map]
   refine List.pairwise_map.mpr (pw.imp_of_mem fun {x y} hx hy q=>?_)
   have ex:∀x∈(arrOf st').toList,x.1=x.2/\kd s.heap n x.2∈ds:=fun x hx=>by
    obtain⟨v,hv,rfl⟩:=List.mem_map.mp (pm.mem_iff.mp hx)
    obtain⟨d,hd,k⟩:=h.mem_r v hv
    exact⟨rfl,by show kd s.heap n v∈ds;rw[zJf k];exact hd⟩
   obtain⟨e1,m1⟩:=ex x hx
   obtain⟨e2,m2⟩:=ex y hy
   dsimp only at q
   rw[e1,e2]at q
   show blt (kd s.heap n y.2) (kd s.heap n x.2)=false
   rw[<- zU1 hl m2 m1]
   exact decide_eq_false (by first|assumption|lia)
  rw[<- zMe (fun y hy=>by obtain⟨b,_,r⟩:=a2.mem_l y hy;exact r.lv) pd up]
  exact a2
 ·obtain⟨rfl,vs',a,b,c,d⟩:=q
  exact hQ _ vs' a b c d
theorem Ek.kept' {h h':Heap}{a:Addr}{o₀:Obj}(ho:h.get? a=some o₀) (hc:o₀.cls≠.type "tuple") (k:∀b o,b≠a->h.get? b=some o->h'.get? b=some o) {d:D}{v:Value}(x:Ek h n d v):Ek h' n d v:=
 x.kept fun b o e ec=>k b o (fun z=>by subst z;rw[ho]at e;cases e;exact hc ec) e
theorem zMq {a:Addr}{c₀:Nat}{P:PySem.Fin->Shared->Prop}(ho:s.heap.get? a=some (seqObj "list" vs.toArray c₀)) (hk:A2 (Ek s.heap n) ds vs) (hz:vs.length<=63) (hu:A.units+n<cLine)
  (h:∀(vs':List Value) (c:Nat) (h':Heap),vs'.Perm vs->A2 (Ek h' n) (srt ds) vs'->(∀b o,b≠a->s.heap.get? b=some o->h'.get? b=some o)->h'.get? a=some (seqObj "list" vs'.toArray c)->P (.done (.ret .none)) { s with heap:=h' }):
  wpAny (model prog w) A (Builtin.«list.sort» ⟨[.ref a],[]⟩) P E s:=by
 have lz:vs.length<=sizeLine:=by rw[sizeLine_eq];lia
 rw[list_sort_plain]
 refine wpAny_bind (listItems_at ho rfl (wpAny_bind (listUpdate_at ho rfl ?_ (by simpa using lz) (Nat.zero_le _))))
 obtain⟨e1,ho1⟩:∃e1,(s.heap.update a (Obj.mapSeq fun _=>(#[]:Array Value))).get? a=some (seqObj "list" #[] e1):=⟨_,get?_update_seq ho fun _=>#[]⟩
 have k1:∀b o,b≠a->s.heap.get? b=some o->(s.heap.update a (Obj.mapSeq fun _=>(#[]:Array Value))).get? b=some o:=fun b o hb e=>(Heap.get?_update_other _ _ (Ne.symm hb)).trans e
 generalize s.heap.update a (Obj.mapSeq fun _=>(#[]:Array Value))=g1 at ho1 k1 ⊢
 refine wpAny_bind (seqEpoch_at ho1 rfl (wpAny_bind (wpAny_newTuple (wpAny_bind (wpAny_newList (wpAny_holding ?_) (Nat.zero_le _))) (by simpa using lz))))
 have ho2:=Heap.get?_push_of_some (seqObj "list" #[] 0) (Heap.get?_push_of_some (seqObj "tuple" vs.toArray 0) ho1)
 have k2:∀b o,b≠a->s.heap.get? b=some o->((g1.push (seqObj "tuple" vs.toArray 0)).push (seqObj "list" #[] 0)).get? b=some o:=fun b o hb e=>Heap.get?_push_of_some _ (Heap.get?_push_of_some _ (k1 b o hb e))
 show wpAny (model prog w) A _ P E { s with heap:=(g1.push (seqObj "tuple" vs.toArray 0)).push (seqObj "list" #[] 0) }
 generalize (g1.push (seqObj "tuple" vs.toArray 0)).push (seqObj "list" #[] 0)=g2 at ho2 k2 ⊢
 dsimp only
 have hk2:A2 (Ek g2 n) ds vs:=hk.imp fun _ _ q=>q.kept' ho (show Value.type "list"≠Value.type "tuple" by decide) k2
 have fin:∀(st:SortSt) (vs':List Value),vs'.Perm vs->A2 (Ek g2 n) (srt ds) vs'->failedOf st=none->(arrOf st).map (·.2)=vs'.toArray->
   wpAny (model prog w) A (do
    let touched:=(<- seqEpoch a) != e1
    Builtin.List.listUpdate (.ref a) fun _=>(arrOf st).map (·.2)
    if let some e:=failedOf st then rule "list.sort.comparison-raised";throw e
    if touched then rule "list.sort.modified";raiseError "ValueError" "list modified during sort"
    ret .none) P E { s with heap:=g2 }:=fun st vs' pm a2 hf ha=>by
  refine wpAny_bind (seqEpoch_at ho2 rfl ?_)
  rw[ha]
  refine wpAny_bind (listUpdate_at ho2 rfl ?_ (Nat.zero_le _) (by simp;rw[pm.length_eq];exact Nat.le_succ_of_le lz))
  rw[hf]
  simp only[bne_self_eq_false,Bool.false_eq_true,if_false]
  obtain⟨c,hc⟩:∃c,(g2.update a (Obj.mapSeq fun _=>vs'.toArray)).get? a=some (seqObj "list" vs'.toArray c):=⟨_,get?_update_seq ho2 fun _=>vs'.toArray⟩
  have k3:∀b o,b≠a->g2.get? b=some o->(g2.update a (Obj.mapSeq fun _=>vs'.toArray)).get? b=some o:=fun b o hb e=>(Heap.get?_update_other _ _ (Ne.symm hb)).trans e
  exact wpAny_pure (h vs' c _ pm (a2.imp fun _ _ q=>q.kept' ho2 (show Value.type "list"≠Value.type "tuple" by decide) k3) (fun b o hb e=>k3 b o hb (k2 b o hb e)) hc)
 by_cases c2:vs.toArray.size<2
 ·rw[if_pos c2,if_pos c2]
  refine wpAny_bind (wpAny_pure ?_)
  rw[StateT.run_pure]
  refine wpAny_bind (wpAny_pure ?_)
  refine fin (SortSt.mk' general' (vs.toArray.zip vs.toArray) #[] 7 none) vs (.refl _) ?_ rfl ?_
  ·have:srt ds=ds:=by
    have hl:ds.length<2:=by rw[hk.length];simpa using c2
    match ds,hl with
    | [],_=>rfl
    | [d],_=>rfl
   rw[this];exact hk2
  ·show((vs.toArray.zip vs.toArray)).map (·.2)=_
   apply Array.toList_inj.mp
   simp[List.map_snd_zip]
 ·rw[if_neg c2,if_neg c2]
  refine wpAny_bind (zVh (s:={ s with heap:=g2 }) hk2 (fun z=>by subst z;simp at c2) fun κ hκ=>?_)
  refine wpAny_bind (wpAny_mono (zPs (s:={ s with heap:=g2 }) (Q:=fun st s'=>s'={ s with heap:=g2 }/\∃vs',vs'.Perm vs/\A2 (Ek g2 n) (srt ds) vs'/\failedOf st=none/\(arrOf st).map (·.2)=vs'.toArray) hκ hz hk2 hu fun st vs' a b c d=>⟨rfl,vs',a,b,c,d⟩) ?_ fun _ _ e=>e)
  rintro⟨⟨⟩,st⟩ s' ⟨rfl,vs',a1,a2,a3,a4⟩
  exact fin st vs' a1 a2 a3 a4
theorem zJ2 {r:Value}{m:Nat}{G:List D->List Value->Prop}{Q:Value->Shared->Prop}(hu:A.units+2+n<cLine)
  (hcol:∀R:List Value->Shared->Prop,(∀(h':Heap) (tk:Nat) (ds:List D) (vs:List Value),m<=h'.objs.size->(∀b o,s.heap.get? b=some o->h'.get? b=some o)->A2 (Ek h' n) ds vs->vs.length<=63->G ds vs->R vs { s with heap:=h',toks:=tk })->wpAny (model prog w) A.in1 (collect r) R E s)
  (h:∀(ds:List D) (vs vs':List Value) (c tk:Nat) (h':Heap) (L:Addr),G ds vs->vs.length<=63->vs'.Perm vs->A2 (Ek h' n) (srt ds) vs'->m<=L->(∀b o,s.heap.get? b=some o->h'.get? b=some o)->h'.get? L=some (seqObj "list" vs'.toArray c)->Q (.ref L) { s with heap:=h',toks:=tk }):
  wpAny (model prog w) A (call (.builtin "sorted") [r]) Q E s:=by
 refine Calls.call_function_entry kind_sorted plain_sorted entry_sorted (args_sorted1 _) ?_
 unfold Builtin.«sorted»
 refine wpAny_bind (m:=checkCount "sorted" 1 1 _) (wpAny_pure (wpAny_bind (hcol _ fun h' tk ds vs sz kp hk hz hg=>?_)))
 have lz:vs.length<=sizeLine:=by rw[sizeLine_eq];lia
 refine wpAny_bind (wpAny_newList ?_ (by simpa using lz))
 have hoL:(h'.push (seqObj "list" vs.toArray 0)).get? h'.objs.size=some (seqObj "list" vs.toArray 0):=Heap.get?_push_size _ rfl
 have k0:∀b o,h'.get? b=some o->(h'.push (seqObj "list" vs.toArray 0)).get? b=some o:=fun b o e=>Heap.get?_push_of_some _ e
 refine wpAny_bind (wpAny_holding (wpAny_call_entry slot_list_sort ⟨_,hoL,rfl⟩ entry_list_sort (zMq (s:={ s with heap:=h'.push (seqObj "list" vs.toArray 0),toks:=tk }) hoL (hk.imp fun _ _ q=>q.kept fun b o e _=>k0 b o e) hz (by show A.units+1+1+n<cLine;lia) fun vs' c h2 pm a2 k2 hD=>⟨_,rfl,?_⟩) (args_list_sort _)))
 exact wpAny_pure ⟨_,rfl,h ds vs vs' c tk h2 _ hg hz pm a2 sz (fun b o e=>k2 b o (Nat.ne_of_lt (Heap.lt_size (kp b o e))) (k0 b o (kp b o e))) hD⟩
end
end EK
namespace EK
open PySem PyProof.Rows PySem.W
open DS (D blt bltL zB2)
open Classical
section
variable {prog:Program}{w:World}
theorem A2.at {α β:Type}{R:α->β->Prop}{l:List α}{m:List β}(h:A2 R l m) {i:Nat}{b:β}(e:m[i]?=some b):∃a,l[i]?=some a/\R a b:=by
 induction h generalizing i with
 | nil=>simp at e
 | cons q _ ih=>
  cases i with
  | zero=>simp at e;subst e;exact⟨_,rfl,q⟩
  | succ i=>simpa using ih (by simpa using e)
end
noncomputable def minF (d:D) (l:List D):D:=l.foldl (fun a y=>if blt y a=true then y else a) d
section
variable {prog:Program}{w:World}{A:Around}{R:Result->Shared->Prop}{I:Addr}{fp wr:List Addr}{St:Nat->Heap->Prop}{n:Nat}
theorem zQz {items:Array Value}{ds:List D}(W:Walks prog w A.in1 I fp wr items.size (fun i v=>items[i]?=some v) St) (S:Addr) (hSf:S ∉ fp) (hu:A.in1.units+n<cLine):
  ∀(k j:Nat) (s:Shared) (d:D) (v:Value) (c:Nat) (h0:Heap),items.size-(j+1)=k->j+1<=items.size->St (j+1) s.heap->A2 (Ek h0 n) ds items.toList->(∀b o,h0.get? b=some o->o.cls=.type "tuple"->s.heap.get? b=some o/\b ∉ wr/\b≠S)->Ek h0 n d v->v∈items.toList->
   s.heap.get? S=some { cls:=.type "list",dict:=none,data:=.seq #[v,v] c,slots:=#[] }->
   (∀v h' tk,v∈items.toList->Ek h0 n (minF d (ds.drop (j+1))) v->(∀b o,b ∉ wr->b≠S->s.heap.get? b=some o->h'.get? b=some o)->R (.ok (.ret v)) { s with heap:=h',toks:=tk })->
   codeAny (model prog w) A (.builtin "min.loop" ⟨[.ref I,.none,.ref S],[]⟩) R s:=by
 have hSw:S ∉ wr:=fun h=>hSf (W.sub _ h)
 have nm:(toString "min"++toString ".loop":String)="min.loop":=by decide
 intro k
 induction k with
 | zero=>
  intro j s d v c h0 hk hj hst al hkp hv hmv hS hR
  have hin:j+1=items.size:=by first|assumption|lia
  refine codeAny_builtin PySem.F.entry_min_loop ?_
  rw[Around.under_plainId PySem.F.plain_min_loop _]
  refine(show wpAny _ A.in1 (seqItems? (.ref S) >>= _) _ _ s from wpAny_bind (wpAny_seqItems hS rfl (show wpAny _ A.in1 (tryCatch (pyNext (.ref I)) _ >>= _) _ _ s from wpAny_bind (wpAny_tryCatch (W.done s _ _ (hin ▸ hst) fun h' tk hk'=>?_)))))
  have hS':=hk' S _ hSw hS
  refine(show wpAny _ A.in1 (updateSeq S (fun _=>#[]) >>= _) _ _ _ from wpAny_bind (wpAny_updateSeq hS' rfl (wpAny_bind (wpAny_letGo (wpAny_pure ?_)))))
  have e0:ds.drop (j+1)=[]:=List.drop_eq_nil_of_le (by rw[al.length];simp;lia)
  rw[e0]at hR
  exact hR v _ tk hmv hv fun b o hbw hbS e=>(Heap.get?_update_other _ _ (Ne.symm hbS)).trans (hk' b o hbw e)
 | succ k ih=>
  intro j s d v c h0 hk hj hst al hkp hv hmv hS hR
  refine codeAny_builtin PySem.F.entry_min_loop ?_
  rw[Around.under_plainId PySem.F.plain_min_loop _]
  refine(show wpAny _ A.in1 (seqItems? (.ref S) >>= _) _ _ s from wpAny_bind (wpAny_seqItems hS rfl (show wpAny _ A.in1 (tryCatch (pyNext (.ref I)) _ >>= _) _ _ s from wpAny_bind (wpAny_tryCatch (W.item (j+1) s _ _ (by first|assumption|lia) hst fun u h' tk hp hst' hk'=>?_)))))
  have hS':=hk' S _ hSw hS
  obtain⟨hj1,eu⟩:=Array.getElem?_eq_some_iff.mp hp
  obtain⟨e,he,hq⟩:=al.at (i:=j+1) (b:=u) (by rw[Array.getElem?_toList];exact hp)
  have kp':∀b o,h0.get? b=some o->o.cls=.type "tuple"->h'.get? b=some o:=fun b o q qt=>hk' b o (hkp b o q qt).2.1 (hkp b o q qt).1
  refine(show wpAny _ A.in1 (tryCatch (holding [_,_] (richCompare .Lt u v >>= _)) _ >>= _) _ _ _ from wpAny_bind (wpAny_tryCatch (wpAny_holding (wpAny_bind (zRo n (hq.kept kp') (hv.kept kp') hu (wpAny_bind (wpAny_holding (wpAny_truthy_bool (wpAny_bind (wpAny_letGo (wpAny_pure ?_)))))))))))
  have dr:ds.drop (j+1)=e::ds.drop (j+1+1):=by
   obtain⟨z,ez⟩:=List.getElem?_eq_some_iff.mp he
   rw[List.drop_eq_getElem_cons z,ez]
  rw[dr]at hR
  have st:minF d (e::ds.drop (j+1+1))=minF (if blt e d=true then e else d) (ds.drop (j+1+1)):=rfl
  rw[st]at hR
  by_cases c1:blt e d=true
  ·rw[if_pos c1]at hR
   rw[c1]
   simp only[if_true]
   refine wpAny_bind (wpAny_updateSeq hS' rfl (wpAny_bind (wpAny_letGo ?_)))
   rw[nm]
   refine wpAny_pure ⟨plainId_quiet PySem.F.plain_min_loop _,ih (j+1) _ e u _ h0 (by first|assumption|lia) (by first|assumption|lia) (W.frame _ _ _ hst' fun b hb o q=>?_) al (fun b o q qt=>⟨(Heap.get?_update_other _ _ (Ne.symm (hkp b o q qt).2.2)).trans (kp' b o q qt),(hkp b o q qt).2⟩) hq (by rw[<- eu];simp) (Heap.get?_update_self _ hS' rfl) fun v' h2 tk2 a b kp=>?_⟩
   ·exact(Heap.get?_update_other _ _ (fun h:S=b=>hSf (by rw[h];exact hb))).trans q
   ·exact hR v' h2 tk2 a b fun b o hbw hbS e=>kp b o hbw hbS ((Heap.get?_update_other _ _ (Ne.symm hbS)).trans (hk' b o hbw e))
  ·rw[if_neg c1]at hR
   rw[Bool.eq_false_iff.mpr c1]
   simp only[Bool.false_eq_true,if_false]
   refine wpAny_bind (wpAny_letGo ?_)
   rw[nm]
   exact wpAny_pure ⟨plainId_quiet PySem.F.plain_min_loop _,ih (j+1) _ d v _ h0 (by first|assumption|lia) (by first|assumption|lia) hst' al (fun b o q qt=>⟨kp' b o q qt,(hkp b o q qt).2⟩) hv hmv hS' fun v' h2 tk2 a b kp=>hR v' h2 tk2 a b fun b o hbw hbS e=>kp b o hbw hbS (hk' b o hbw e)⟩
end
end EK
namespace EK
open PySem PyProof.Rows PySem.W
open DS (D blt)
section
variable {prog:Program}{w:World}{A:Around}{E:Value->Shared->Prop}{s:Shared}{n:Nat}
theorem zNz {l:Addr}{items:Array Value}{d:D}{ds:List D}{Q:Value->Shared->Prop}(hh:A.handled=none) (hl:s.heap.IsList l items) (al:A2 (Ek s.heap n) (d::ds) items.toList) (hu:A.units+1+n<cLine)
  (h1:∀v h' tk,v∈items.toList->Ek s.heap n (minF d ds) v->(∀b o,s.heap.get? b=some o->h'.get? b=some o)->Q v { s with heap:=h',toks:=tk }):
  wpAny (model prog w) A (call (.builtin "min") [.ref l]) Q E s:=by
 have nm:(toString "min"++toString ".loop":String)="min.loop":=by decide
 have hlt:l<s.heap.objs.size:=by obtain⟨o,ho,_⟩:=hl;exact Heap.lt_size ho
 refine wpAny_call (codeAny_call_builtin PySem.F.plain_min PySem.F.entry_min ?_)
 have body:wpAny (model prog w) A.in1 (Builtin.«min» ⟨[.ref l],[]⟩) (fun fin s'=>match fin with
   | .done f=>(match(Except.ok f:Result)with|.ok (.ret v)=>Q v s'|.ok _=>False|.error e=>E e s')
   | .again c'=>c'.quiet=true/\codeAny (model prog w) A c' (fun r s'=>match r with|.ok (.ret v)=>Q v s'|.ok _=>False|.error e=>E e s') s') E s:=by
  refine(show wpAny _ A.in1 (Builtin.Builtins.bindParams "min" ["key","default"] 0 ⟨[],[]⟩ >>= _) _ _ s from wpAny_bind (wpAny_of_eq (show Builtin.Builtins.bindParams "min" ["key","default"] 0 ⟨[],[]⟩=pure [none,none]from rfl) (wpAny_bind (wpAny_pure ?_))))
  refine wpAny_bind (wpAny_pyIter_list hl (wpAny_bind (wpAny_newObj_type ?_)))
  rw[nm]
  generalize hg:(s.heap.push { cls:=.type "list_iterator",data:=.fields #[.ref l,.int 0 0] })=g
  have gz:g.objs.size=s.heap.objs.size+1:=by rw[<- hg,Heap.size_push]
  have gi:g.get? s.heap.objs.size=some { cls:=.type "list_iterator",data:=.fields #[.ref l,.int 0 0] }:=by rw[<- hg];exact Heap.get?_push_size _ rfl
  have gk:∀b o,s.heap.get? b=some o->g.get? b=some o:=fun b o e=>by rw[<- hg];exact Heap.get?_push_of_some _ e
  have hne:l≠s.heap.objs.size:=Nat.ne_of_lt hlt
  have hS:(g.push { cls:=.type "list",data:=.seq ([]:List Value).toArray }).get? g.objs.size=some { cls:=.type "list",data:=.seq ([]:List Value).toArray }:=Heap.get?_push_size _ rfl
  have W:=Walks.list (prog:=prog) (w:=w) (A:=A.in1) hh s.heap.objs.size l hne items
  have st:(g.push { cls:=.type "list",data:=.seq ([]:List Value).toArray }).IsListIter s.heap.objs.size l 0/\(g.push { cls:=.type "list",data:=.seq ([]:List Value).toArray }).IsList l items:=
   ⟨⟨_,Heap.get?_push_of_some _ gi,rfl,rfl⟩,hl.at fun o e=>Heap.get?_push_of_some _ (gk _ _ e)⟩
  have hSf:g.objs.size ∉ [s.heap.objs.size,l]:=fun hm=>by
   rw[gz]at hm
   rcases List.mem_cons.mp hm with z|z
   ·exact absurd z (Nat.ne_of_gt (Nat.lt_succ_self _))
   ·exact absurd (List.mem_singleton.mp z) (Nat.ne_of_gt (Nat.lt_succ_of_lt hlt))
  have hSw:g.objs.size ∉ [s.heap.objs.size]:=by rw[gz];simp
  have kk:∀b o,s.heap.get? b=some o->(g.push { cls:=.type "list",data:=.seq ([]:List Value).toArray }).get? b=some o:=fun b o e=>Heap.get?_push_of_some _ (gk b o e)
  have nn:∀b o,s.heap.get? b=some o->b ∉ [s.heap.objs.size]/\b≠g.objs.size:=fun b o e=>⟨fun hm=>Nat.ne_of_lt (Heap.lt_size e) (List.mem_singleton.mp hm),by rw[gz];exact Nat.ne_of_lt (Nat.lt_succ_of_lt (Heap.lt_size e))⟩
  refine wpAny_pure ⟨plainId_quiet PySem.F.plain_min_loop _,codeAny_builtin PySem.F.entry_min_loop ?_⟩
  rw[Around.under_plainId PySem.F.plain_min_loop _]
  have hz:0<items.size:=by have:=al.length;simp at this;lia
  refine(show wpAny _ A.in1 (seqItems? (.ref g.objs.size) >>= _) _ _ _ from wpAny_bind (wpAny_seqItems hS rfl (show wpAny _ A.in1 (tryCatch (pyNext (.ref s.heap.objs.size)) _ >>= _) _ _ _ from wpAny_bind (wpAny_tryCatch (W.item 0 _ _ _ hz st fun v h' tk hp hst' hk'=>?_)))))
  obtain⟨d',hd',hq⟩:=al.at (i:=0) (b:=v) (by rw[Array.getElem?_toList];exact hp)
  obtain rfl:d=d':=by simpa using hd'
  have hS':=hk' g.objs.size _ hSw hS
  refine(show wpAny _ A.in1 (updateSeq g.objs.size (fun _=>#[_,_]) >>= _) _ _ _ from wpAny_bind (wpAny_updateSeq hS' rfl ?_))
  rw[nm]
  obtain⟨z0,ez⟩:=Array.getElem?_eq_some_iff.mp hp
  refine wpAny_pure ⟨plainId_quiet PySem.F.plain_min_loop _,zQz (n:=n) (ds:=d::ds) W g.objs.size hSf (by show A.units+1+n<cLine;lia) _ 0 _ d v _ s.heap rfl hz (W.frame _ _ _ hst' fun b hb o e=>?_) al (fun b o e _=>⟨(Heap.get?_update_other _ _ (Ne.symm (nn b o e).2)).trans (hk' b o (nn b o e).1 (kk b o e)),nn b o e⟩) hq (by rw[<- ez];simp) (Heap.get?_update_self _ hS' rfl) fun v' h2 tk2 a b kp=>?_⟩
  ·exact(Heap.get?_update_other _ _ (fun h:g.objs.size=b=>hSf (by rw[h];exact hb))).trans e
  ·exact h1 v' h2 tk2 a b fun b o e=>kp b o (nn b o e).1 (nn b o e).2 ((Heap.get?_update_other _ _ (Ne.symm (nn b o e).2)).trans (hk' b o (nn b o e).1 (kk b o e)))
 have ha:argsOk "min" ⟨[.ref l],[]⟩:=by unfold argsOk;kernel_rfl
 simp only[checkBuiltinCall,PySem.F.kind_min]
 cases hsig:Manifest.signature? "min" with
 | none=>exact wpAny_pure body
 | some sig=>
  have h2:Bind.checkArgs "min" sig ⟨[.ref l],[]⟩=pure ():=by simpa only[argsOk,hsig]using ha
  refine(show wpAny _ A.in1 (Bind.checkArgs "min" sig ⟨[.ref l],[]⟩) _ _ s from ?_)
  rw[h2];exact wpAny_pure body
end
end EK
namespace TU
open PySem TB EK TS
open TS (sObj Tab.ft TabP.ft gate adr)
open DS (D)
open Classical
section
variable {prog:Program}{w:World}{A:Around}{E:Value->Shared->Prop}{s:Shared}{dp:Nat}
abbrev EA (h:Heap) (dp:Nat) (k:D) (a:Addr):Prop:=Ek h (dp+1) k (.ref a)
theorem unseen (hdp:dp+1<=8) {a:Addr}{ks:D}{l:List Value}{Q:Bool->Shared->Prop}(hk:EA s.heap dp ks a) (hl:∀v∈l,∃b ls,v=.ref b/\EA s.heap dp ls b) (h:Q false s):
  wpAny (model prog w) A (searchCouldBeSeen (.ref a) l) Q E s:=by
 unfold searchCouldBeSeen
 refine wpAny_bind (wpAny_forIn_list _ (fun rest r s'=>r.1=none/\s'=s/\∀v∈rest,∃b ls,v=.ref b/\EA s.heap dp ls b) _ ?_ ?_ _ _ ⟨rfl,rfl,hl⟩)
 ·rintro v rest r s' ⟨hr,rfl,al⟩
  obtain⟨b,ls,rfl,hb⟩:=al v List.mem_cons_self
  have rest':∀v∈rest,∃b ls,v=.ref b/\EA s'.heap dp ls b:=fun u hu=>al u (List.mem_cons_of_mem _ hu)
  dsimp only
  split
  ·exact wpAny_pure ⟨rfl,rfl,rest'⟩
  ·refine wpAny_bind (zHk (dp+1) 8 hk hdp ?_)
   rw[if_neg (by decide)]
   refine wpAny_bind (zHk (dp+1) 8 hb hdp ?_)
   rw[if_neg (by decide)]
   refine wpAny_bind (zHl (dp+1) 8 hk hdp ?_)
   rw[if_neg (by decide)]
   refine wpAny_bind (zHl (dp+1) 8 hb hdp ?_)
   rw[if_neg (by decide)]
   exact wpAny_pure ⟨rfl,rfl,rest'⟩
 ·rintro⟨r1,r2⟩ s' ⟨hr,rfl,_⟩
  simp only at hr
  subst hr
  exact wpAny_pure h
def kv (κ:Addr->D) (e:Int × Value):D:=κ (adr e.2)
def Els (dp:Nat) (κ:Addr->D) (h:Heap) (es:Array (Int × Value)):Prop:=∀e∈es.toList,∃b,e.2=.ref b/\EA h dp (κ b) b/\e.1=hD (κ b)
theorem search {κ:Addr->D}{S x:Addr}{es:Array (Int × Value)}{ep:Nat}{t:SetTable}{b:Bool}{Q:SetFound->Shared->Prop}(hdp:dp+1<=8) (hu:A.units+(dp+1)<cLine) (ho:s.heap.get? S=some (sObj es ep t)) (T:Tab t es.size b)
  (hk:EA s.heap dp (κ x) x) (he:Els dp κ s.heap es) (h1:(∃e∈es.toList,kv κ e=κ x)->Q (.there none) s)
  (h2:∀M,t.slot (adv t M (t.probeStart (hD (κ x)))).j=.empty->(∀m',m'<M->∃i,∃hi:i<es.size,t.slot (adv t m' (t.probeStart (hD (κ x)))).j=.live i/\(es[i].1≠hD (κ x)\/kv κ es[i]≠κ x))->Q (.free (adv t M (t.probeStart (hD (κ x)))).j false) s):
  ∀(f m c:Nat) (st:Option SetTable.Probe),m<f->m<10*SetTable.turns t.mask->st.getD (t.probeStart (hD (κ x)))=adv t c (t.probeStart (hD (κ x)))->
   (∀m',m'<c->∃i,∃hi:i<es.size,t.slot (adv t m' (t.probeStart (hD (κ x)))).j=.live i/\(es[i].1≠hD (κ x)\/kv κ es[i]≠κ x))->
   Far t (adv t c (t.probeStart (hD (κ x)))) m->wpAny (model prog w) A (setSearchFrom S (.ref x) (hD (κ x)) true f st) Q E s:=by
 generalize ehx:hD (κ x)=hx at h2 ⊢
 have lv:∀{j i:Nat},t.slot j=.live i->i<es.size:=fun {j i} hj=>by
  obtain⟨z,_⟩:=Array.getElem?_eq_some_iff.mp (zJe T hj)
  rw[T.size]at z;exact z
 intro f
 induction f with
 | zero=>intro m c st hm;lia
 | succ f ih=>
  intro m c st hm hm2 est seen fr
  unfold setSearchFrom
  refine wpAny_bind (wpAny_setState_of ho rfl (Tab.ft T) ?_)
  dsimp only
  rw[T.way]
  rw[if_neg (by decide)]
  unfold SetTable.probe
  rw[est]
  have more:∀d,(∀d',d'<d->∃i,t.slot (adv t d' (adv t c (t.probeStart hx))).j=.live i/\(((es[i]?.map (·.1)).getD 0 == hx)=false))->∀m',m'<c+d->∃i,∃hi:i<es.size,t.slot (adv t m' (t.probeStart hx)).j=.live i/\(es[i].1≠hx\/kv κ es[i]≠κ x):=fun d hd m' hm'=>by
   rcases Nat.lt_or_ge m' c with z|z
   ·exact seen m' z
   ·obtain⟨d',rfl⟩:∃d',m'=c+d':=⟨m' - c,by first|assumption|lia⟩
    obtain⟨i,e1,e2⟩:=hd d' (by first|assumption|lia)
    rw[<- zCl]at e1
    have hi:=lv e1
    refine⟨i,hi,e1,.inl fun z=>?_⟩
    rw[Array.getElem?_eq_getElem hi]at e2
    have:(es[i].1 == hx)=false:=e2
    rw[z]at this;simp at this
  rcases zGb (hashAt:=_) (h:=hx) T.nod _ m _ hm2 fr with⟨d,_,e,hj,hd⟩|⟨d,i,hlt,e,hj,hd,fr'⟩
  ·rw[e]
   dsimp only
   rw[<- zCl]at hj ⊢
   exact wpAny_pure (h2 (c+d) hj (more d hd))
  ·rw[e]
   dsimp only
   have hi:i<es.size:=lv hj
   have ei:es[i]?=some es[i]:=Array.getElem?_eq_getElem hi
   obtain⟨y,ey,hy,eyh⟩:=he es[i] (by simp)
   have e2:es[i]?=some (es[i].1,.ref y):=by rw[ei,<- ey]
   have ky:kv κ es[i]=κ y:=by unfold kv;rw[ey];rfl
   rw[e2]
   dsimp only
   refine gate (fun Q' hq=>unseen hdp hk (fun v hv=>?_) hq) ?_
   ·obtain⟨e',he',rfl⟩:=List.mem_map.mp hv
    obtain⟨b',q1,q2,_⟩:=he e' (by
     have:=Array.mem_filter.mp (Array.mem_toList_iff.mp he')
     exact Array.mem_toList_iff.mpr this.1)
    exact⟨b',_,q1,q2⟩
   refine wpAny_bind (wpAny_holding (zRp (dp+1) hy hk hu ?_))
   refine wpAny_bind (wpAny_setState_of ho rfl (Tab.ft T) ?_)
   dsimp only
   by_cases cc:κ y=κ x
   ·rw[decide_eq_true cc]
    exact wpAny_pure (h1 ⟨es[i],by simp,ky.trans cc⟩)
   ·rw[decide_eq_false cc]
    rw[if_neg (by decide)]
    have em:t.sameMemory t.moves t.mask=some true:=by unfold SetTable.sameMemory;simp
    rw[em]
    dsimp only
    rw[if_pos rfl,hj]
    dsimp only
    rw[e2]
    dsimp only
    refine wpAny_bind (wpAny_isSame_ref_self ?_)
    rw[if_pos rfl]
    refine wpAny_bind (wpAny_pure ?_)
    dsimp only
    rw[if_neg (by decide)]
    refine ih (m-(d+1)) (c+(d+1)) _ (by first|assumption|lia) (by first|assumption|lia) (zCl t c (d+1) _).symm ?_ (by rw[zCl];exact fr')
    intro m' hm'
    rcases Nat.lt_or_ge m' (c+d)with z|z
    ·exact more d hd m' z
    ·have:m'=c+d:=by first|assumption|lia
     subst this
     rw[<- zCl]at hj
     exact⟨i,hi,hj,.inr (by rw[ky];exact cc)⟩
def IsS (dp:Nat) (κ:Addr->D) (h:Heap) (S:Addr) (es:Array (Int × Value)) (b:Bool):Prop:=∃ep t,h.get? S=some (sObj es ep t)/\Tab t es.size b/\Els dp κ h es/\Chs t (es.toList.map (·.1))/\(es.toList.map (kv κ)).Nodup
theorem Els.keeps {κ:Addr->D}{h h':Heap}{S:Addr}{es es':Array (Int × Value)}{ep:Nat}{t:SetTable}(he:Els dp κ h es) (ho:h.get? S=some (sObj es' ep t)) (hs:Heap.SameBut S h h'):Els dp κ h' es:=fun e hm=>by
 obtain⟨b,e1,q,e2⟩:=he e hm
 refine⟨b,e1,q.kept fun c o ec et=>(hs.2 c fun z=>?_).trans ec,e2⟩
 subst z
 rw[ho]at ec
 cases ec
 exact absurd (show Value.type "set"=Value.type "tuple" from et) (by decide)
theorem zOk {κ:Addr->D}{x:Addr}{es:Array (Int × Value)}{t:SetTable}{b:Bool}{h:Heap}{M:Nat}(T:Tab t es.size b) (he:Els dp κ h es) (C:Chs t (es.toList.map (·.1))) (hM:t.slot (adv t M (t.probeStart (hD (κ x)))).j=.empty)
  (seen:∀m',m'<M->∃i,∃hi:i<es.size,t.slot (adv t m' (t.probeStart (hD (κ x)))).j=.live i/\(es[i].1≠hD (κ x)\/kv κ es[i]≠κ x)):κ x ∉ es.toList.map (kv κ):=by
 intro hm
 obtain⟨e,hem,ek⟩:=List.mem_map.mp hm
 obtain⟨i,hi,rfl⟩:=List.mem_iff_getElem.mp hem
 have hi':i<es.size:=by simpa using hi
 obtain⟨y,ey,_,eh⟩:=he _ hem
 have ky:κ y=κ x:=by
  have:kv κ es.toList[i]=κ y:=by unfold kv;rw[ey];rfl
  rw[<- this,ek]
 rw[ky]at eh
 have hp:i<t.place.size:=by rw[T.size];exact hi'
 obtain⟨m,em,al⟩:=C (t.place[i],es.toList[i].1) (List.mem_iff_getElem.mpr ⟨i,by have:i<min t.place.size es.size:=Nat.lt_min.mpr ⟨hp,hi'⟩;simpa using this,by simp⟩)
 dsimp only at em al
 rw[eh]at em al
 rcases Nat.lt_trichotomy m M with z|z|z
 ·obtain⟨i',hi2,q1,q2⟩:=seen m z
  rw[em]at q1
  have q3:=zJe T q1
  obtain⟨z3,e3⟩:=Array.getElem?_eq_some_iff.mp q3
  have:i'=i:=zWo T.up (by simpa using z3) (by simpa using hp) (by simpa using e3)
  subst this
  rcases q2 with q2|q2
  ·exact q2 (by simpa using eh)
  ·exact q2 (by simpa using ek)
 ·subst z
  rw[em]at hM
  exact(zIg T _).mp hM (by simp)
 ·exact(zIg T _).mp hM (al M z)
theorem zPh {κ:Addr->D}{S x:Addr}{es:Array (Int × Value)}{b:Bool}{Q:Bool->Shared->Prop}(hdp:dp+1<=8) (hu:A.units+(dp+1)<cLine) (hS:IsS dp κ s.heap S es b) (hk:EA s.heap dp (κ x) x) (hn:es.size<300)
  (h1:(∃e∈es.toList,kv κ e=κ x)->Q false s) (h2:∀h' es',Heap.SameBut S s.heap h'->IsS dp κ h' S es' b->es'.toList.Perm ((hD (κ x),.ref x)::es.toList)->Q true { s with heap:=h' }):
  ∀f,wpAny (model prog w) A (setAddHashedIn S (.ref x) (hD (κ x)) (f+1)) Q E s:=by
 intro f
 obtain⟨ep,t,ho,T,he,C,nd⟩:=hS
 unfold setAddHashedIn
 refine wpAny_bind (wpAny_setState_of ho rfl (Tab.ft T) ?_)
 dsimp only
 have eb:byScan (.ref x) es=false:=by unfold byScan;rfl
 rw[eb]
 rw[if_neg (by decide)]
 obtain⟨m,hm,fr⟩:=T.start (hD (κ x))
 refine wpAny_bind (search hdp hu ho T hk he (fun q=>?_) (fun M hM seen=>?_) 100000 m 0 none (Nat.lt_trans hm T.turns) hm rfl (fun m' h=>by first|assumption|lia) fr)
 ·exact wpAny_pure (h1 q)
 ·have fk:=zOk T he C hM seen
  have alM:∀m',m'<M->(adv t m' (t.probeStart (hD (κ x)))).j∈t.place.toList:=fun m' h=>by
   obtain⟨i,_,q,_⟩:=seen m' h
   exact zVa T q
  obtain⟨C1,ep2⟩:=zU8 T (hs:=es.toList.map (·.1)) (by simp) C hM rfl alM
  have TP:=T.put hM
  generalize (adv t M (t.probeStart (hD (κ x)))).j=j at TP C1 ep2 ⊢
  dsimp only
  refine wpAny_bind (wpAny_setState_of ho rfl (Tab.ft T) ?_)
  dsimp only
  generalize ePT:t.put j=PT at TP C1 ep2
  obtain⟨t1,p⟩:=PT
  dsimp only at TP C1 ep2 ⊢
  rw[TP.plain]
  rw[if_pos rfl]
  refine wpAny_bind (zKx (dp+1) 8 hk hdp ?_)
  rw[if_pos rfl]
  generalize ehx:hD (κ x)=hx at C1 h2 ⊢
  have pm:=ins_perm es p (hx,Value.ref x)
  have sz:=zKs es p (hx,Value.ref x)
  have C2:Chs t1 ((SetTable.insertAt es p (hx,Value.ref x)).toList.map (·.1)):=by
   rw[zEx,List.map_append,List.map_cons,List.map_take,List.map_drop]
   exact C1
  generalize SetTable.insertAt es p (hx,Value.ref x)=es1 at pm sz C2 ⊢
  have nd1:(es1.toList.map (kv κ)).Nodup:=by
   refine(pm.map (kv κ)).nodup_iff.mpr ?_
   rw[List.map_cons]
   exact List.nodup_cons.mpr ⟨fk,nd⟩
  refine wpAny_bind (wpAny_storeSet_of ho rfl ?_ (by rw[sz,sizeLine_eq];lia))
  have hg:(s.heap.update S (Obj.putSet es1 t1)).get? S=some (sObj es1 (ep+1) t1):=Heap.get?_update_self (Obj.putSet es1 t1) ho rfl
  have sb:=Heap.SameBut.update s.heap S (Obj.putSet es1 t1)
  have he1:Els dp κ (s.heap.update S (Obj.putSet es1 t1)) es1:=fun e hm=>by
   rcases List.mem_cons.mp (pm.mem_iff.mp hm)with rfl|hm
   ·exact Els.keeps (es:=#[(hx,Value.ref x)]) (fun e hm=>by
     have:e=(hx,Value.ref x):=by simpa using hm
     subst this;exact⟨x,rfl,hk,ehx.symm⟩) ho sb _ (by simp)
   ·exact Els.keeps he ho sb e hm
  rw[<- sz]at TP
  by_cases c:t1.tooFull=true
  ·rw[if_pos (by rw[c];rfl)]
   unfold setRelay
   refine wpAny_bind (wpAny_bind (wpAny_setState_of (s:={ s with heap:=s.heap.update S (Obj.putSet es1 t1) }) hg rfl (TabP.ft TP) ?_))
   dsimp only
   obtain⟨hl,t2,order,er,T2,po,C3⟩:=zN1 TP c (by first|assumption|lia) (es1.map (·.1)) (by simp)
   rw[<- sz]
   rw[if_neg (by simpa using hl)]
   rw[er]
   have pe:(order.filterMap (es1[·]?)).toList.Perm es1.toList:=by
    rw[Array.toList_filterMap]
    refine(po.filterMap _).trans ?_
    have:=filterMap_getElem?_range es1
    rw[this]
   have zz:(order.filterMap (es1[·]?)).size=es1.size:=by rw[<- Array.length_toList,pe.length_eq,Array.length_toList]
   have C4:Chs t2 ((order.filterMap (es1[·]?)).toList.map (·.1)):=by
    have e5:(order.filterMap (es1[·]?)).toList.map (·.1)=order.toList.map fun k=>(es1.map (·.1)).toList.getD k 0:=by
     rw[Array.toList_filterMap]
     have al:∀k∈order.toList,k<es1.size:=fun k hk=>List.mem_range.mp (po.mem_iff.mp hk)
     clear C3 po er pe zz
     generalize order.toList=l at al
     induction l with
     | nil=>rfl
     | cons k l ih=>
      have hk:=al k (.head _)
      rw[List.filterMap_cons,Array.getElem?_eq_getElem hk]
      simp only[List.map_cons]
      rw[ih fun k hk=>al k (.tail _ hk)]
      congr 1
      simp[hk]
    rw[e5];exact C3
   refine wpAny_bind ?_
   show wpAny _ _ (if((order.filterMap (es1[·]?)).size != es1.size)=true then _ else pure (order.filterMap (es1[·]?),t2)) _ _ _
   rw[if_neg (by simp[zz])]
   refine wpAny_pure ?_
   dsimp only
   generalize order.filterMap (es1[·]?)=es2 at pe zz C4 ⊢
   refine wpAny_storeSet_of hg rfl ?_ (by rw[zz,sz,sizeLine_eq];lia)
   have hg2:((s.heap.update S (Obj.putSet es1 t1)).update S (Obj.putSet es2 t2)).get? S=some (sObj es2 (ep+1+1) t2):=Heap.get?_update_self (Obj.putSet es2 t2) hg rfl
   have sb2:=Heap.SameBut.update (s.heap.update S (Obj.putSet es1 t1)) S (Obj.putSet es2 t2)
   refine wpAny_pure (h2 _ es2 (sb.trans sb2) ⟨_,_,hg2,by rw[zz];exact T2,?_,C4,(pe.map (kv κ)).nodup_iff.mpr nd1⟩ (pe.trans pm))
   exact Els.keeps (fun e hm=>he1 e (pe.mem_iff.mp hm)) hg sb2
  ·rw[if_neg (by simpa using c)]
   exact wpAny_pure (h2 _ es1 sb ⟨_,_,hg,TP.tab (by simpa using c),he1,C2,nd1⟩ pm)
theorem add {κ:Addr->D}{S x:Addr}{es:Array (Int × Value)}{b:Bool}{Q:Bool->Shared->Prop}(hdp:dp+1<=8) (hu:A.units+(dp+1)<cLine) (hS:IsS dp κ s.heap S es b) (hk:EA s.heap dp (κ x) x) (hn:es.size<300)
  (h1:∀tk,s.toks<=tk->(∃e∈es.toList,kv κ e=κ x)->Q false { s with toks:=tk }) (h2:∀h' es' tk hx,s.toks<=tk->Heap.SameBut S s.heap h'->IsS dp κ h' S es' b->es'.toList.Perm ((hx,.ref x)::es.toList)->Q true { s with heap:=h',toks:=tk }):wpAny (model prog w) A (setAdd S (.ref x)) Q E s:=by
 unfold setAdd
 refine wpAny_holding (wpAny_bind (zOp (dp+1) hk hu fun tk htk=>?_))
 unfold setAddHashed
 refine wpAny_holding ?_
 exact zPh (s:={ s with toks:=tk }) hdp hu hS hk hn (fun q=>h1 _ htk q) (fun h' es' sb i p=>h2 h' es' _ _ htk sb i p) 99999
end
end TU
namespace TU
open PySem TB EK TS
open TS (sObj Tab.ft TabP.ft gate adr nObj zDe zEt)
open DS (D)
open Classical
section
variable {prog:Program}{w:World}{A:Around}{R:Result->Shared->Prop}{I:Addr}{fp wr:List Addr}{G:Array GenState->Array GenState->Prop}{n:Nat}{P:Nat->Value->Prop}{St:Nat->Shared->Prop}{dp:Nat}
def Met (n:Nat) (P:Nat->Value->Prop) (es:Array (Int × Value)):Prop:=∀e∈es.toList,∃j,j<n/\P j e.2
theorem IsS.moved {κ:Addr->D}{h h':Heap}{S:Addr}{es:Array (Int × Value)}{b:Bool}{bad:List Addr}(i:IsS dp κ h S es b) (hS:S ∉ bad) (k:∀c o,c ∉ bad->h.get? c=some o->h'.get? c=some o) (hb:∀c∈bad,∀o,h.get? c=some o->o.cls≠.type "tuple"):IsS dp κ h' S es b:=by
 obtain⟨ep,t,ho,T,he,C,nd⟩:=i
 refine⟨ep,t,k _ _ hS ho,T,fun e hm=>?_,C,nd⟩
 obtain⟨c,e1,q,e2⟩:=he e hm
 exact⟨c,e1,q.kept fun b o eb et=>k _ _ (fun z=>hb b z o eb et) eb,e2⟩
def Cov (κ:Addr->D) (n:Nat) (P:Nat->Value->Prop) (es:Array (Int × Value)):Prop:=∀j v,j<n->P j v->∃e∈es.toList,kv κ e=κ (adr v)
theorem loop {κ:Addr->D}(W:WalksS prog w A.in1 I fp wr G n P St) (S:Addr) (hSf:S ∉ fp) (hdp:dp+1<=8) (hu:A.in1.units+(dp+1)<cLine) (h0:Heap) (hP:∀i v,P i v->∃a,v=.ref a/\EA h0 dp (κ a) a) (hbad:∀c∈S::wr,∀o,h0.get? c=some o->o.cls≠.type "tuple") (hPf:∀i v v',P i v->P i v'->v=v') (hn:n<=299) {led:Bool}
  (hwr:∀i s,St i s->∀c∈wr,∀o,s.heap.get? c=some o->o.cls≠.type "tuple"):
  ∀(k i:Nat) (s:Shared) (es:Array (Int × Value)),n-i=k->i<=n->St i s->IsS dp κ s.heap S es led->es.size<=i->Met n P es->Cov κ i P es->(∀c o,c ∉ S::wr->h0.get? c=some o->s.heap.get? c=some o)->
   (∀s' es',Moved (S::wr) G s s'->IsS dp κ s'.heap S es' led->es'.size<=n->Met n P es'->Cov κ n P es'->R (.ok (.ret .none)) s')->
   codeAny (model prog w) A (.builtin "set.update.loop" ⟨[.ref S,.ref I],[]⟩) R s:=by
 have hSw:S ∉ wr:=fun h=>hSf (W.sub _ h)
 have sub:∀b∈wr,b∈S::wr:=fun b hb=>.tail _ hb
 intro k
 induction k with
 | zero=>
  intro i s es hk hi hst hS hz hM hC hkp hR
  obtain rfl:i=n:=by first|assumption|lia
  refine codeAny_builtin PyProof.Rows.F.entry_set_update_loop ?_
  rw[Around.under_plainId PyProof.Rows.F.plain_set_update_loop _]
  show wpAny _ A.in1 (pyNext (.ref I) >>= _) _ _ s
  refine wpAny_bind (W.done s _ _ hst fun s' hm=>?_)
  show wpAny _ A.in1 (ret Value.none) _ _ s'
  exact wpAny_pure (hR s' es (hm.mono sub) (IsS.moved hS hSw hm.heap (hwr _ _ hst)) hz hM hC)
 | succ k ih=>
  intro i s es hk hi hst hS hz hM hC hkp hR
  have hlt:i<n:=by first|assumption|lia
  refine codeAny_builtin PyProof.Rows.F.entry_set_update_loop ?_
  rw[Around.under_plainId PyProof.Rows.F.plain_set_update_loop _]
  show wpAny _ A.in1 (pyNext (.ref I) >>= _) _ _ s
  refine wpAny_bind (W.item i s _ _ hlt hst fun v s' hp hst' hm=>?_)
  obtain⟨a,rfl,hq⟩:=hP i v hp
  have hk':EA s'.heap dp (κ a) a:=hq.kept fun b o eb et=>by
   have hb:b ∉ S::wr:=fun z=>hbad b z o eb et
   exact hm.heap b o (fun z=>hb (sub b z)) (hkp b o hb eb)
  have hS':=IsS.moved hS hSw hm.heap (hwr _ _ hst)
  show wpAny _ A.in1 (holding [Value.ref a] (setAdd S (.ref a)) >>= _) _ _ s'
  refine wpAny_bind (wpAny_holding (add hdp hu hS' hk' (by first|assumption|lia) (fun tk htk there=>?_) (fun h' es' tk hx htk sb i' pm=>?_)))
  ·refine wpAny_pure ⟨plainId_quiet PyProof.Rows.F.plain_set_update_loop _,ih (i+1) { s' with toks:=tk } es (by first|assumption|lia) hlt (W.frame _ s' s'.heap tk hst' htk fun _ _ _ e=>e) hS' (by first|assumption|lia) hM (fun j v' hj hv'=>?_) (fun c o hc e=>hm.heap c o (fun z=>hc (sub c z)) (hkp c o hc e)) fun s2 es2 m2 i2 z2 w2 c2=>?_⟩
   ·rcases Nat.lt_or_ge j i with z|z
    ·exact hC j v' z hv'
    ·have:j=i:=by first|assumption|lia
     subst this
     rw[hPf _ _ _ hv' hp]
     exact there
   ·exact hR s2 es2 (Moved.trans W.gtrans ((hm.mono sub).then_heap (h':=s'.heap) htk fun _ _ _ e=>e) m2) i2 z2 w2 c2
  ·have hsz:es'.size=es.size+1:=by have:=pm.length_eq;simpa using this
   refine wpAny_pure ⟨plainId_quiet PyProof.Rows.F.plain_set_update_loop _,ih (i+1) { s' with heap:=h',toks:=tk } es' (by first|assumption|lia) hlt (W.frame _ s' h' tk hst' htk fun c hc o e=>?_) i' (by first|assumption|lia) (fun e he=>?_) (fun j v' hj hv'=>?_) (fun c o hc e=>?_) fun s2 es2 m2 i2 z2 w2 c2=>?_⟩
   ·rw[sb.2 c fun z=>hSf (z ▸ hc)];exact e
   ·rcases List.mem_cons.mp (pm.mem_iff.mp he)with rfl|he
    ·exact⟨i,hlt,hp⟩
    ·exact hM e he
   ·rcases Nat.lt_or_ge j i with z|z
    ·obtain⟨e,he,ek⟩:=hC j v' z hv'
     exact⟨e,pm.mem_iff.mpr (List.mem_cons_of_mem _ he),ek⟩
    ·have:j=i:=by first|assumption|lia
     subst this
     rw[hPf _ _ _ hv' hp]
     exact⟨(hx,.ref a),pm.mem_iff.mpr List.mem_cons_self,rfl⟩
   ·rw[sb.2 c fun z=>hc (z ▸ List.mem_cons_self)]
    exact hm.heap c o (fun z=>hc (sub c z)) (hkp c o hc e)
   ·refine hR s2 es2 (Moved.trans W.gtrans ((hm.mono sub).then_heap (h':=h') htk fun c o hc e=>?_) m2) i2 z2 w2 c2
    rw[sb.2 c fun z=>hc (z ▸ List.mem_cons_self)];exact e
end
section
variable {prog:Program}{w:World}{A:Around}{E:Value->Shared->Prop}{s:Shared}{dp:Nat}
theorem zPu {κ:Addr->D}{l:Addr}{items:Array Value}{Q:Value->Shared->Prop}(hh:A.handled=none) (hl:s.heap.IsList l items) (hdp:dp+1<=8) (hu:A.units+20<cLine) (hn:items.size<=299)
  (hk:∀v∈items.toList,∃a,v=.ref a/\EA s.heap dp (κ a) a)
  (h:∀(h':Heap) (tk:Nat) (es:Array (Int × Value)),IsS dp κ h' s.heap.objs.size es (zDe w)->es.size<=items.size->(∀e∈es.toList,e.2∈items.toList)->(∀v∈items.toList,∃e∈es.toList,kv κ e=κ (adr v))->
   (∀b o,b<s.heap.objs.size->s.heap.get? b=some o->h'.get? b=some o)->Q (.ref s.heap.objs.size) { s with heap:=h',toks:=tk }):
  wpAny (model prog w) A (call (.type "set") [.ref l]) Q E s:=by
 obtain⟨cc,tl,hmro⟩:=F.called_set.mro;have hmade:=F.called_set.made;have hsub:=F.called_set.sub
 refine wpAny_call (codeAny_of_tree (show wpAny _ _ (callAny (.type "set") _) _ _ _ from ?_))
 refine wpAny_pure ⟨Code.quiet_builtin _ (by decide +kernel),codeAny_builtin F.entry_type_call ?_⟩;rw[Around.under_plain (weight_type_call_type "set" [.ref l] []) rfl]
 have h1:=F.called_set.notType;have h2:=F.called_set.canCreate;have hct:=F.typeCall_set_1 (.ref l)
 repeat (any_goals (first|assumption|wp_step))
 refine codeAny_mono (zEt (.ref l) (E:=E) (Q₁:=fun obj s₁=>obj=.ref s.heap.objs.size/\s₁={ s with heap:=s.heap.push (nObj w) }) ⟨rfl,rfl⟩) fun r s₁ hr=>?_
 cases r with
 | error e=>exact hr
 | ok fl=>
  cases fl with
  | ret obj=>
   obtain⟨rfl,rfl⟩:=hr
   have hS:(s.heap.push (nObj w)).get? s.heap.objs.size=some (nObj w):=Heap.get?_push_size _ rfl
   have hT:Shared.TypeIs { s with heap:=s.heap.push (nObj w) } (.ref s.heap.objs.size) "set":=⟨_,hS,rfl⟩
   have hli:=F.called_set.init.lookup;have hbi:=F.called_set.init.bind (.ref s.heap.objs.size)
   repeat (any_goals (first|assumption|wp_step))
   refine codeAny_mono (codeAny_call_builtin (R:=wants (fun r s₂=>r=.none/\∃h' tk es,s₂={ s with heap:=h',toks:=tk }/\IsS dp κ h' s.heap.objs.size es (zDe w)/\es.size<=items.size/\(∀e∈es.toList,e.2∈items.toList)/\(∀v∈items.toList,∃e∈es.toList,kv κ e=κ (adr v)) /\
     (∀b o,b<s.heap.objs.size->s.heap.get? b=some o->h'.get? b=some o)) E) F.called_set.init.plain F.entry_set_init (check_set_init_1 hT ?_)) fun r₂ s₂ hr₂=>?_
   ·have hlt:l<s.heap.objs.size:=by obtain⟨o,ho,_⟩:=hl;exact Heap.lt_size ho
    have hl1:(s.heap.push (nObj w)).IsList l items:=hl.push _
    have hTl:Shared.TypeIs { s with heap:=s.heap.push (nObj w) } (.ref l) "list":=by obtain⟨o,ho,hc,_⟩:=hl1;exact⟨o,ho,hc⟩
    have q1:=F.sub_list_set;have q2:=F.sub_list_frozenset;have q3:(Value.type "list" == Value.type "dict")=false:=by decide
    unfold Builtin.«set.__init__» noKeywords Builtin.Frozenset.updateFrom
    generalize hPI:pyIter=PI
    wp_walk
    subst hPI
    refine wpAny_pyIter_list hl1 (wpAny_bind (wpAny_runValue ?_))
    have hs2:(s.heap.push (nObj w)).objs.size=s.heap.objs.size+1:=by rw[Heap.size_push]
    have hneI:l≠(s.heap.push (nObj w)).objs.size:=by rw[hs2];exact Nat.ne_of_lt (Nat.lt_succ_of_lt hlt)
    have hh3:A.in1.in1.in1.handled=none:=by simp[hh]
    have key:∀(i:Nat) (v:Value),items[i]?=some v->∃a,v=.ref a/\EA s.heap dp (κ a) a:=fun i v hv=>hk v (by obtain⟨z,e⟩:=Array.getElem?_eq_some_iff.mp hv;rw[<- e];simp)
    have bad:∀c∈s.heap.objs.size::[(s.heap.push (nObj w)).objs.size],∀o,s.heap.get? c=some o->o.cls≠.type "tuple":=fun c hc o e=>by
     have:=Heap.lt_size e
     rw[hs2]at hc
     rcases List.mem_cons.mp hc with rfl|hc
     ·exact absurd this (Nat.lt_irrefl _)
     ·rw[List.mem_singleton.mp hc]at this
      exact absurd this (Nat.not_lt.mpr (Nat.le_succ _))
    have kp:∀c o,s.heap.get? c=some o->((s.heap.push (nObj w)).push { cls:=.type "list_iterator",data:=.fields #[.ref l,.int 0 0] }).get? c=some o:=fun c o e=>Heap.get?_push_of_some _ (Heap.get?_push_of_some _ e)
    refine loop (h0:=s.heap) (led:=zDe w) ((Walks.list hh3 _ l hneI items).toS) s.heap.objs.size ?nA hdp (by show A.units+1+1+1+(dp+1)<cLine;lia) key bad (fun i v v' q q'=>Option.some.inj (q.symm.trans q')) hn ?nB (items.size-0) 0 _ #[] (by first|assumption|lia) (Nat.zero_le _) ⟨⟨_,Heap.get?_push_size _ rfl,rfl,rfl⟩,hl1.push _⟩
     ⟨0,_,Heap.get?_push_of_some _ hS,zId _,(fun e he=>by cases he),(fun q hq=>by cases hq),List.nodup_nil⟩ (Nat.zero_le _) (fun e he=>by cases he) (fun j v hj=>by first|assumption|lia) (fun c o _ e=>kp c o e) ?nD
    case nA=>
     rw[hs2];simp;exact Nat.ne_of_gt hlt
    case nB=>
     rintro i s' ⟨⟨o,ho,hc,_⟩,_⟩ c hcm o' ho'
     have:c=(s.heap.push (nObj w)).objs.size:=by simpa using hcm
     subst this
     rw[ho]at ho';cases ho';rw[hc];decide
    case nD=>
     intro s' es' mv i' z' m' c'
     obtain⟨h',g',d',tk',os'⟩:=s'
     have eg:g'=s.gens:=mv.gens
     have ed:d'=s.drawn:=mv.drawn
     have eo:os'=s.os:=mv.os
     subst eg ed eo
     refine wpAny_pure (show wpAny _ _ (ret Value.none) _ _ _ from wpAny_pure ⟨rfl,h',tk',es',rfl,i',z',fun e he=>?_,fun v hv=>?_,fun b o hb e=>?_⟩)
     ·obtain⟨j,hj,hp⟩:=m' e he
      obtain⟨z,e2⟩:=Array.getElem?_eq_some_iff.mp hp
      rw[<- e2];simp
     ·obtain⟨j,hj,e2⟩:=List.mem_iff_getElem.mp hv
      exact c' j v (by simpa using hj) (by rw[<- e2];simp)
     ·refine mv.heap b o ?_ (kp b o e)
      rw[hs2];simp only[List.mem_cons,List.not_mem_nil,or_false,not_or]
      exact⟨Nat.ne_of_lt hb,Nat.ne_of_lt (Nat.lt_succ_of_lt hb)⟩
   ·cases r₂ with
    | error e=>exact hr₂
    | ok fl₂=>
     cases fl₂ with
     | ret r=>
      obtain⟨rfl,h',tk,es,rfl,i1,i2,i3,i4,i5⟩:=hr₂
      repeat (any_goals (first|assumption|wp_step))
      exact h _ _ _ i1 i2 i3 i4 i5
     | _=>exact hr₂.elim
  | _=>exact hr.elim
end
end TU
namespace TU
open PySem TB EK TS
open TS (sObj Tab.ft TabP.ft gate adr nObj zDe zEt)
open DS (D)
open Classical
section
variable {prog:Program}{w:World}{A:Around}{E:Value->Shared->Prop}{s:Shared}{dp:Nat}
theorem zG2:isSubtype (.type "tuple") (.type "set")=pure false:=by rw[isSubtype_type];kernel_rfl
theorem zD8:isSubtype (.type "tuple") (.type "frozenset")=pure false:=by rw[isSubtype_type];kernel_rfl
theorem zMv {κ:Addr->D}{l:Addr}{items:Array Value}{Q:Value->Shared->Prop}(hh:A.handled=none) (hl:s.heap.IsTuple l items) (hdp:dp+1<=8) (hu:A.units+20<cLine) (hn:items.size<=299)
  (hk:∀v∈items.toList,∃a,v=.ref a/\EA s.heap dp (κ a) a)
  (h:∀(h':Heap) (tk:Nat) (es:Array (Int × Value)),IsS dp κ h' s.heap.objs.size es (zDe w)->es.size<=items.size->(∀e∈es.toList,e.2∈items.toList)->(∀v∈items.toList,∃e∈es.toList,kv κ e=κ (adr v))->
   (∀b o,b<s.heap.objs.size->s.heap.get? b=some o->h'.get? b=some o)->Q (.ref s.heap.objs.size) { s with heap:=h',toks:=tk }):
  wpAny (model prog w) A (call (.type "set") [.ref l]) Q E s:=by
 obtain⟨cc,tl,hmro⟩:=F.called_set.mro;have hmade:=F.called_set.made;have hsub:=F.called_set.sub
 refine wpAny_call (codeAny_of_tree (show wpAny _ _ (callAny (.type "set") _) _ _ _ from ?_))
 refine wpAny_pure ⟨Code.quiet_builtin _ (by decide +kernel),codeAny_builtin F.entry_type_call ?_⟩;rw[Around.under_plain (weight_type_call_type "set" [.ref l] []) rfl]
 have h1:=F.called_set.notType;have h2:=F.called_set.canCreate;have hct:=F.typeCall_set_1 (.ref l)
 repeat (any_goals (first|assumption|wp_step))
 refine codeAny_mono (zEt (.ref l) (E:=E) (Q₁:=fun obj s₁=>obj=.ref s.heap.objs.size/\s₁={ s with heap:=s.heap.push (nObj w) }) ⟨rfl,rfl⟩) fun r s₁ hr=>?_
 cases r with
 | error e=>exact hr
 | ok fl=>
  cases fl with
  | ret obj=>
   obtain⟨rfl,rfl⟩:=hr
   have hS:(s.heap.push (nObj w)).get? s.heap.objs.size=some (nObj w):=Heap.get?_push_size _ rfl
   have hT:Shared.TypeIs { s with heap:=s.heap.push (nObj w) } (.ref s.heap.objs.size) "set":=⟨_,hS,rfl⟩
   have hli:=F.called_set.init.lookup;have hbi:=F.called_set.init.bind (.ref s.heap.objs.size)
   repeat (any_goals (first|assumption|wp_step))
   refine codeAny_mono (codeAny_call_builtin (R:=wants (fun r s₂=>r=.none/\∃h' tk es,s₂={ s with heap:=h',toks:=tk }/\IsS dp κ h' s.heap.objs.size es (zDe w)/\es.size<=items.size/\(∀e∈es.toList,e.2∈items.toList)/\(∀v∈items.toList,∃e∈es.toList,kv κ e=κ (adr v)) /\
     (∀b o,b<s.heap.objs.size->s.heap.get? b=some o->h'.get? b=some o)) E) F.called_set.init.plain F.entry_set_init (check_set_init_1 hT ?_)) fun r₂ s₂ hr₂=>?_
   ·have hlt:l<s.heap.objs.size:=by obtain⟨o,ho,_⟩:=hl;exact Heap.lt_size ho
    have hl1:(s.heap.push (nObj w)).IsTuple l items:=hl.push _
    have hTl:Shared.TypeIs { s with heap:=s.heap.push (nObj w) } (.ref l) "tuple":=by obtain⟨o,ho,hc,_⟩:=hl1;exact⟨o,ho,hc⟩
    have q1:=zG2;have q2:=zD8;have q3:(Value.type "tuple" == Value.type "dict")=false:=by decide
    unfold Builtin.«set.__init__» noKeywords Builtin.Frozenset.updateFrom
    generalize hPI:pyIter=PI
    wp_walk
    subst hPI
    refine wpAny_pyIter_tuple hl1 (wpAny_bind (wpAny_runValue ?_))
    have hs2:(s.heap.push (nObj w)).objs.size=s.heap.objs.size+1:=by rw[Heap.size_push]
    have hneI:l≠(s.heap.push (nObj w)).objs.size:=by rw[hs2];exact Nat.ne_of_lt (Nat.lt_succ_of_lt hlt)
    have hh3:A.in1.in1.in1.handled=none:=by simp[hh]
    have key:∀(i:Nat) (v:Value),items[i]?=some v->∃a,v=.ref a/\EA s.heap dp (κ a) a:=fun i v hv=>hk v (by obtain⟨z,e⟩:=Array.getElem?_eq_some_iff.mp hv;rw[<- e];simp)
    have bad:∀c∈s.heap.objs.size::[(s.heap.push (nObj w)).objs.size],∀o,s.heap.get? c=some o->o.cls≠.type "tuple":=fun c hc o e=>by
     have:=Heap.lt_size e
     rw[hs2]at hc
     rcases List.mem_cons.mp hc with rfl|hc
     ·exact absurd this (Nat.lt_irrefl _)
     ·rw[List.mem_singleton.mp hc]at this
      exact absurd this (Nat.not_lt.mpr (Nat.le_succ _))
    have kp:∀c o,s.heap.get? c=some o->((s.heap.push (nObj w)).push { cls:=.type "tuple_iterator",data:=.fields #[.ref l,.int 0 0] }).get? c=some o:=fun c o e=>Heap.get?_push_of_some _ (Heap.get?_push_of_some _ e)
    refine loop (h0:=s.heap) (led:=zDe w) ((Walks.tuple hh3 _ l hneI items).toS) s.heap.objs.size ?nA hdp (by show A.units+1+1+1+(dp+1)<cLine;lia) key bad (fun i v v' q q'=>Option.some.inj (q.symm.trans q')) hn ?nB (items.size-0) 0 _ #[] (by first|assumption|lia) (Nat.zero_le _) ⟨⟨_,Heap.get?_push_size _ rfl,rfl,rfl⟩,hl1.push _⟩
     ⟨0,_,Heap.get?_push_of_some _ hS,zId _,(fun e he=>by cases he),(fun q hq=>by cases hq),List.nodup_nil⟩ (Nat.zero_le _) (fun e he=>by cases he) (fun j v hj=>by first|assumption|lia) (fun c o _ e=>kp c o e) ?nD
    case nA=>
     rw[hs2];simp;exact Nat.ne_of_gt hlt
    case nB=>
     rintro i s' ⟨⟨o,ho,hc,_⟩,_⟩ c hcm o' ho'
     have:c=(s.heap.push (nObj w)).objs.size:=by simpa using hcm
     subst this
     rw[ho]at ho';cases ho';rw[hc];decide
    case nD=>
     intro s' es' mv i' z' m' c'
     obtain⟨h',g',d',tk',os'⟩:=s'
     have eg:g'=s.gens:=mv.gens
     have ed:d'=s.drawn:=mv.drawn
     have eo:os'=s.os:=mv.os
     subst eg ed eo
     refine wpAny_pure (show wpAny _ _ (ret Value.none) _ _ _ from wpAny_pure ⟨rfl,h',tk',es',rfl,i',z',fun e he=>?_,fun v hv=>?_,fun b o hb e=>?_⟩)
     ·obtain⟨j,hj,hp⟩:=m' e he
      obtain⟨z,e2⟩:=Array.getElem?_eq_some_iff.mp hp
      rw[<- e2];simp
     ·obtain⟨j,hj,e2⟩:=List.mem_iff_getElem.mp hv
      exact c' j v (by simpa using hj) (by rw[<- e2];simp)
     ·refine mv.heap b o ?_ (kp b o e)
      rw[hs2];simp only[List.mem_cons,List.not_mem_nil,or_false,not_or]
      exact⟨Nat.ne_of_lt hb,Nat.ne_of_lt (Nat.lt_succ_of_lt hb)⟩
   ·cases r₂ with
    | error e=>exact hr₂
    | ok fl₂=>
     cases fl₂ with
     | ret r=>
      obtain⟨rfl,h',tk,es,rfl,i1,i2,i3,i4,i5⟩:=hr₂
      repeat (any_goals (first|assumption|wp_step))
      exact h _ _ _ i1 i2 i3 i4 i5
     | _=>exact hr₂.elim
  | _=>exact hr.elim
end
end TU
namespace DS
open PySem (Str)
noncomputable section
open Classical
def sortable (l:List D):Prop:=l.length<=63/\∃n,n<=6/\∀x∈l,lv n x
def setable (l:List D):Prop:=l.length<=63/\∃n,n+1<=6/\∀x∈l,lv (n+1) x
def ssL (S:Store) (d:D):Option D:=match items S d with
 | some l=>if setable l then some (.lst (srt (dedup l)))else none
 | none=>none
def minF (d:D) (l:List D):D:=l.foldl (fun a y=>if blt y a=true then y else a) d
def minB (S:Store):List D->Option D
 | [d]=>match items S d with
  | some (x::l)=>if sortable (x::l)then some (minF x l)else none
  | _=>none
 | _=>none
end
end DS
namespace L2
open PySem PySem.Spec PyProof.Rows EK
open DS (D Store Exn Rs SR lv srt)
section
variable {X:Cx}{K:PySem.W.Frag}{E:XE}{J:Js}{S:Store}{H:Hp}{d d1 d2:D}{v:V}{pins:List (Addr × Obj)}{σ:St}{s:Shared}
theorem zRn (I:Inv X pins σ H s):∀(n:Nat) {d:D}{v:V}{u:Value},lv n d->Rep K J H d v->RelV v u->Ek s.heap n d u
 | 0,_,v,u,⟨i,e⟩,r,q=>by
  subst e
  obtain rfl:v=.int i:=r
  obtain⟨t,rfl⟩:=q
  exact⟨i,t,rfl,rfl⟩
 | n+1,_,v,u,⟨l,e,hl⟩,r,q=>by
  subst e
  obtain⟨a,xs,rfl,t,rl⟩:=r
  cases q
  obtain⟨_,its,rv,o,ho,hc,k,hd⟩:=(show ObjOk X.prog X.w H s.heap a (.tup xs)from I.hok _ _ t.1)
  refine⟨l,a,o,_,k,rfl,rfl,ho,hc,hd,?_⟩
  have go:∀(l:List D) (xs:List V) (its:List Value),(∀x∈l,lv n x)->RepL K J H l xs->Vals xs its->A2 (Ek s.heap n) l its:=by
   intro l
   induction l with
   | nil=>intro xs its _ rl rv;obtain rfl:xs=[]:=rl;cases rv;exact .nil
   | cons d l ih=>
    intro xs its hl rl rv
    obtain⟨x,r,rfl,h,rl⟩:=rl
    cases rv with
    | cons q rv=>exact .cons (zRn I n (hl d (.head _)) h q) (ih _ _ (fun y hy=>hl y (.tail _ hy)) rl rv)
  simpa using go l xs its hl rl rv
theorem zOo (I:Inv X pins σ H s) {n:Nat}:∀{l:List D}{xs:List V}{us:List Value},(∀x∈l,lv n x)->RepL K J H l xs->Vals xs us->A2 (Ek s.heap n) l us
 | [],xs,us,_,rl,rv=>by obtain rfl:xs=[]:=rl;cases rv;exact .nil
 | d::l,_,_,hl,⟨x,r,e,h,rl⟩,rv=>by
  subst e
  cases rv with
  | cons q rv=>exact .cons (zRn I n (hl d (.head _)) h q) (zOo I (fun y hy=>hl y (.tail _ hy)) rl rv)
theorem zN0 {l:List D}{xs:List V}{us:List Value}(rl:RepL K J H l xs) (rv:Vals xs us):∀u∈us,∃d x,d∈l/\Rep K J H d x/\RelV x u:=by
 induction l generalizing xs us with
 | nil=>obtain rfl:xs=[]:=rl;cases rv;intro u hu;cases hu
 | cons d l ih=>
  obtain⟨x,r,rfl,h,rl⟩:=rl
  cases rv with
  | cons q rv=>
   intro u hu
   rcases List.mem_cons.mp hu with rfl|hu
   ·exact⟨d,x,.head _,h,q⟩
   ·obtain⟨d',x',m,r1,r2⟩:=ih rl rv u hu
    exact⟨d',x',.tail _ m,r1,r2⟩
end
end L2
namespace L2
open PySem PySem.Spec PyProof.Rows EK TU
open TS (sObj zDe adr ordW zF9 zCp zMp Tab.ft)
open DS (D Store Exn Rs SR lv srt dedup)
section
variable {X:Cx}{K:PySem.W.Frag}{E:XE}{J:Js}{S:Store}{H:Hp}{d d1 d2:D}{v:V}{pins:List (Addr × Obj)}{σ:St}{s:Shared}
theorem zX0 (I:Inv X pins σ H s) {a:Addr}{ys:List V}(hq:SqL X.K H a ys\/SqT X.K H a ys):∃(o:Obj) (its:List Value) (c:Nat) (T:String),s.heap.get? a=some o/\o.cls=.type T/\(T="list"\/T="tuple")/\o.data=.seq its.toArray c/\Vals ys its/\its.length<=sizeLine:=by
 rcases hq with hq|hq
 ·obtain⟨its,rv',pl,hz'⟩:=I.list hq
  obtain⟨o,ho,hc,c,hd⟩:=pl.isList
  exact⟨o,its,c,"list",ho,hc,.inl rfl,hd,rv',by rw[<- Vals.length rv'];exact hz'⟩
 ·obtain⟨its,rv',pl,hz'⟩:=I.tuple hq
  obtain⟨o,ho,hc,c,hd⟩:=pl
  exact⟨o,its,c,"tuple",ho,hc,.inr rfl,hd,rv',by rw[<- Vals.length rv'];exact hz'⟩
structure SGood (K:PySem.W.Frag) (J:Js) (H:Hp) (κ:Addr->D) (es:Array (Int × Value)) (l:List D):Prop where
 mem:∀d,d∈es.toList.map (kv κ) <-> d∈l
 rep:∀e∈es.toList,∃x,Rep K J H (kv κ e) x/\RelV x e.2
theorem zYb {A:Around}{EE:Value->Shared->Prop}{dp:Nat}{l:List D}{a:Addr}{ys:List V}{Q:Value->Shared->Prop}(I:Inv X pins σ H s) (hh:A.handled=none) (hu:A.units+20<cLine) (hq:SqL X.K H a ys\/SqT X.K H a ys) (rl:RepL K J H l ys) (hdp:dp+1<=6) (hl:∀x∈l,lv (dp+1) x) (hz:l.length<=299)
  (h:∀(h':Heap) (tk:Nat) (es:Array (Int × Value)) (κ:Addr->D),IsS dp κ h' s.heap.objs.size es (zDe X.w)->es.size<=l.length->SGood K J H κ es l->(∀b o,s.heap.get? b=some o->h'.get? b=some o)->Q (.ref s.heap.objs.size) { s with heap:=h',toks:=tk }):
  wpAny (model X.prog X.w) A (call (.type "set") [.ref a]) Q EE s:=by
 obtain⟨o,its,c,T,ho,hc,hT,hd,rv,_⟩:=zX0 I hq
 have hk:=zOo (J:=J) (K:=K) I hl rl rv
 have key:∀u∈its,∃b d x,u=.ref b/\d∈l/\kd s.heap (dp+1) (.ref b)=d/\Ek s.heap (dp+1) d (.ref b)/\Rep K J H d x/\RelV x u:=fun u hm=>by
  obtain⟨d,x,md,rx,rq⟩:=zN0 rl rv u hm
  have q:=zRn (K:=K) (J:=J) I (dp+1) (hl d md) rx rq
  have q0:=q
  obtain⟨ds,b,ob,items,k,rfl,rfl,_⟩:=q
  exact⟨b,_,x,rfl,md,zJf q0,q0,rx,rq⟩
 have post:∀(h':Heap) (tk:Nat) (es:Array (Int × Value)),IsS dp (fun b=>kd s.heap (dp+1) (.ref b)) h' s.heap.objs.size es (zDe X.w)->es.size<=its.toArray.size->(∀e∈es.toList,e.2∈its.toArray.toList)->(∀v∈its.toArray.toList,∃e∈es.toList,kv (fun b=>kd s.heap (dp+1) (.ref b)) e=(fun b=>kd s.heap (dp+1) (.ref b)) (adr v))->
   (∀b o,b<s.heap.objs.size->s.heap.get? b=some o->h'.get? b=some o)->Q (.ref s.heap.objs.size) { s with heap:=h',toks:=tk }:=fun h' tk es i1 z1 m1 cv k1=>by
  refine h h' tk es _ i1 (by rw[hk.length];simpa using z1) ⟨fun d=>?_,fun e he=>?_⟩ fun b o e=>k1 b o (Heap.lt_size e) e
  ·constructor
   ·intro hm
    obtain⟨e,he,rfl⟩:=List.mem_map.mp hm
    obtain⟨b,d,x,eb,md,ek,_,_,_⟩:=key e.2 (by simpa using m1 e he)
    unfold kv
    rw[eb]
    show kd s.heap (dp+1) (.ref b)∈l
    rw[ek];exact md
   ·intro hm
    obtain⟨u,hu',q⟩:=hk.mem_l d hm
    obtain⟨e,he,ek⟩:=cv u (by simpa using hu')
    refine List.mem_map.mpr ⟨e,he,ek.trans ?_⟩
    have q0:=q
    obtain⟨ds,b,ob,items,k,rfl,rfl,_⟩:=q
    exact zJf q0
  ·obtain⟨b,d,x,eb,md,ek,_,rx,rq⟩:=key e.2 (by simpa using m1 e he)
   refine⟨x,?_,rq⟩
   unfold kv
   rw[eb]
   show Rep K J H (kd s.heap (dp+1) (.ref b)) x
   rw[ek];exact rx
 have kk:∀v∈its.toArray.toList,∃b,v=.ref b/\EA s.heap dp (kd s.heap (dp+1) (.ref b)) b:=fun v hv=>by
  obtain⟨b,d,x,eb,md,ek,q,_,_⟩:=key v (by simpa using hv)
  exact⟨b,eb,by rw[ek];exact q⟩
 have sz:its.toArray.size<=299:=by simpa[<- hk.length]using hz
 rcases hT with rfl|rfl
 ·exact zPu (κ:=fun b=>kd s.heap (dp+1) (.ref b)) (items:=its.toArray) hh ⟨o,ho,hc,c,hd⟩ (by first|assumption|lia) hu sz kk post
 ·exact zMv (κ:=fun b=>kd s.heap (dp+1) (.ref b)) (items:=its.toArray) hh ⟨o,ho,hc,c,hd⟩ (by first|assumption|lia) hu sz kk post
theorem zWb {prog:Program}{w:World}{A:Around}{EE:Value->Shared->Prop}{dp:Nat}{κ:Addr->D}{T:Addr}{es:Array (Int × Value)}{R:List Value->Shared->Prop}(hh:A.handled=none) (hS:IsS dp κ s.heap T es (zDe w)) (hz:es.size<=sizeLine)
  (h:∀(h':Heap) (tk:Nat) (vs:List Value),(∀b o,s.heap.get? b=some o->h'.get? b=some o)->vs.Perm (es.toList.map (·.2))->A2 (Ek h' (dp+1)) (vs.map fun v=>κ (adr v)) vs->R vs { s with heap:=h',toks:=tk }):wpAny (model prog w) A (collect (.ref T)) R EE s:=by
 obtain⟨ep,t,ho,Tb,he,_,nd⟩:=hS
 refine PySem.W.kdu_collect (zMp Tb) hh ho hz fun h' tk acc kp it=>?_
 have ea:acc.toList=((ordW w T ep es).map (·.2)).toList:=by
  refine List.ext_getElem? fun i=>?_
  rcases Nat.lt_or_ge i acc.size with z|z
  ·have e1:=it.2 i acc[i] (Array.getElem?_eq_getElem z)
   rw[Array.getElem?_toList,Array.getElem?_eq_getElem z,Array.getElem?_toList,e1]
  ·rw[List.getElem?_eq_none (by simpa using z),List.getElem?_eq_none (by simp[zCp];rw[<- it.1];exact z)]
 have pm:acc.toList.Perm (es.toList.map (·.2)):=by rw[ea,Array.toList_map];exact(zF9 w T ep es).map _
 refine h h' tk acc.toList kp pm ?_
 have al:∀v∈acc.toList,∃b,v=.ref b/\EA s.heap dp (κ b) b:=fun v hv=>by
  obtain⟨e,hm,rfl⟩:=List.mem_map.mp (pm.mem_iff.mp hv)
  obtain⟨b,e1,q,_⟩:=he e hm
  exact⟨b,e1,q⟩
 generalize acc.toList=vs at al
 clear pm ea
 induction vs with
 | nil=>exact .nil
 | cons v vs ih=>
  obtain⟨b,rfl,q⟩:=al v (.head _)
  exact .cons (Ek.kept q fun b o e _=>kp b o e) (ih fun u hu=>al u (.tail _ hu))
theorem zTq {A:Around}{EE:Value->Shared->Prop}{dp:Nat}{κ:Addr->D}{T:Addr}{es:Array (Int × Value)}{l:List D}{Q:VK}{s1:Shared}(I:Inv X pins σ H s1) (hh:A.handled=none) (hu:A.units+20<cLine) (hS:IsS dp κ s.heap T es (zDe X.w)) (hdp:dp+1<=6)
  (k1:∀b o,s1.heap.get? b=some o->s.heap.get? b=some o) (e1:s={ s1 with heap:=s.heap,toks:=s.toks }) (hT:s1.heap.objs.size<=T) (hz:es.size<=63) (g:SGood K J H κ es l) (hl:∀x∈l,lv (dp+1) x)
  (h:∀(L:Addr) (zs:List V),H L=none->RepL K J H (srt (dedup l)) zs->Q (.ref L) (upd H L (.lst zs))):wpAny (model X.prog X.w) A (call (.builtin "sorted") [.ref T]) (EP X pins σ Q) EE s:=by
 have nd:=hS
 obtain⟨_,_,hoT,_,he,_,nd⟩:=nd
 refine EK.zJ2 (n:=dp+1) (m:=T+1) (G:=fun ds vs=>vs.Perm (es.toList.map (·.2))/\ds=vs.map fun v=>κ (adr v)) (by first|assumption|lia) (fun R hR=>zWb (A:=A.in1) hh hS (by rw[sizeLine_eq];lia) fun h' tk vs kp pm a2=>hR h' tk _ vs (Heap.lt_size (kp T _ hoT)) kp a2 (by rw[pm.length_eq];simpa using hz) ⟨pm,rfl⟩) fun ds vs vs' c tk h' L hg hz2 pm a2 hL kp hD=>?_
 obtain⟨pv,rfl⟩:=hg
 have pd:(vs.map fun v=>κ (adr v)).Perm (dedup l):=by
  have p1:(vs.map fun v=>κ (adr v)).Perm (es.toList.map (kv κ)):=by
   have:=pv.map fun v=>κ (adr v)
   rw[List.map_map]at this
   exact this
  refine p1.trans (DS.zV5 nd DS.zEz fun x=>?_)
  rw[g.mem,DS.mem_dedup]
 have es1:srt (vs.map fun v=>κ (adr v))=srt (dedup l):=by
  have lv1:∀y∈vs.map (fun v=>κ (adr v)),lv (dp+1) y:=fun y hy=>hl y (DS.mem_dedup.mp (pd.mem_iff.mp hy))
  exact DS.zMe (fun y hy=>lv1 y ((DS.zBx _).mem_iff.mp hy)) ((DS.zBx _).trans pd) (DS.zK7 lv1)
 rw[es1]at a2
 have src:∀u∈vs',∃d x,Rep K J H d x/\RelV x u/\Ek h' (dp+1) d u:=fun u hm=>by
  obtain⟨e,he',rfl⟩:=List.mem_map.mp (pv.mem_iff.mp (pm.mem_iff.mp hm))
  obtain⟨x,rx,rq⟩:=g.rep e he'
  obtain⟨b,eb,q,_⟩:=he e he'
  refine⟨kv κ e,x,rx,rq,?_⟩
  unfold kv
  rw[eb]
  exact q.kept fun b o e _=>kp b o e
 have bk:∀{m:List D}{vs:List Value},A2 (Ek h' (dp+1)) m vs->(∀u∈vs,u∈vs')->∃ys,RepL K J H m ys/\Vals ys vs:=by
  intro m vs a2
  induction a2 with
  | nil=>exact fun _=>⟨[],rfl,.nil⟩
  | @cons d u m vs q _ ih=>
   intro hm
   obtain⟨ys,r1,r2⟩:=ih fun u hu=>hm u (.tail _ hu)
   obtain⟨d',x,rx,rq,q'⟩:=src u (hm u (.head _))
   have e:=q'.inj q
   subst e
   exact⟨x::ys,⟨x,ys,rfl,rx,r1⟩,.cons rq r2⟩
 obtain⟨zs,r1,r2⟩:=bk a2 fun u hu=>hu
 have len:zs.length<=sizeLine:=by rw[Vals.length r2,pm.length_eq,pv.length_eq,sizeLine_eq];simp;lia
 have hL':s1.heap.objs.size<=L:=Nat.le_trans hT (Nat.le_of_succ_le hL)
 have I':Inv X pins σ (upd H L (.lst zs)) { s1 with heap:=h',toks:=tk }:=I.laid (t':=tk) (fun b o e=>kp b o (k1 b o e)) hL' (show ObjOk X.prog X.w _ h' _ (.lst zs)from⟨len,_,c,r2,hD⟩)
 rw[e1]
 exact⟨.ref L,_,I',rfl,h L zs (I.hok.fresh hL') r1⟩
end
section
variable {X:Cx}{K:PySem.W.Frag}{E:XE}
theorem zZx {e:Expr}{m:DS.EM}{p p2 pos pos2:Pos}(hc:X.calm=true) (hu:X.A.units+64<cLine) (he:DE X K E e m) (hgs:Gl X "sorted") (hms:X.mg "sorted"=none) (hgt:Gl X "set") (hmt:X.mg "set"=none) (h:nst e=true:=by rfl) (hK:X.K=K:=by rfl):
  DF X K E (.Call (.Name "sorted" p) [.Call (.Name "set" p2) [e] [] pos2] [] pos) (DS.eUn DS.ssL m):=by
 subst hK
 refine⟨⟨fun pins s σ H Q I ⟨env,S,J,ha,hE,q⟩=>?_⟩⟩
 have hs:starEach [e] X.env=[(false,eval e X.env)]:=zBd h
 have hs2:starEach [Expr.Call (.Name "set" p2) [e] [] pos2] X.env=[(false,eval (.Call (.Name "set" p2) [e] [] pos2) X.env)]:=rfl
 refine wpAny_Call_Name_kw (zCq I hgs hms PyProof.Rows.boot_sorted (PyProof.Rows.callWith_builtin1 ?_ hs2 rfl))
 rw[hs2]
 refine(show wpAny _ _ (spliced ((false,eval (.Call (.Name "set" p2) [e] [] pos2) X.env)::backTo pos [])) _ _ s from Calls.spliced_cons ?_)
 refine wpAny_Call_Name_kw (zCq I hgt hmt PyProof.Rows.boot_set (PyProof.Rows.callWith_type1 ?_ hs rfl))
 rw[hs]
 refine(show wpAny _ _ (spliced ((false,eval e X.env)::backTo pos2 [])) _ _ s from Calls.spliced_cons ?_)
 refine thn (he.h.h pins s σ H (fun x H1=>∃J1 S1 d0 d,AbS X.K J1 S1 H1/\Rep X.K J1 H1 d0 x/\DS.ssL S1 d0=some d/\∀p o,H1 p=none->ObD X.K J1 H1 d o->Q (.ref p) (upd H1 p o)) I ⟨env,S,J,ha,hE,q.bind.imp fun d0 S1 J1 H1 _ a1 g1 q1 x rx=>?_⟩) fun v s1 ⟨x,H1,I1,r1,J1,S1,d0,d,a1,rx,ed,k⟩=>?_
 ·obtain⟨c,ec,k⟩:=q1.lift
  exact⟨J1,S1,d0,c,a1,rx,ec,k J1 H1 a1 .refl⟩
 ·refine Calls.spliced_nil ?_
  unfold DS.ssL at ed
  cases e1:DS.items S1 d0 with
  | none=>rw[e1]at ed;cases ed
  | some l=>
   rw[e1]at ed
   dsimp only at ed
   split at ed
   ·rename_i hs
    cases ed
    obtain⟨hz,n,hn,hl⟩:=hs
    obtain⟨a,ys,rfl,hq,q⟩:=zDw a1 rx e1
    cases r1
    refine zYb (K:=X.K) (J:=J1) I1 (I.ok.hd hc) (by first|assumption|lia) hq q hn hl (by first|assumption|lia) fun h1 tk1 es κ i1 z1 g1 k1=>Calls.spliced_nil ?_
    refine zTq (K:=X.K) (J:=J1) (s:={ s1 with heap:=h1,toks:=tk1 }) (s1:=s1) I1 (I.ok.hd hc) (by first|assumption|lia) i1 hn k1 rfl (Nat.le_refl _) (by first|assumption|lia) g1 hl fun L zs hL r=>k L _ hL ⟨zs,rfl,r⟩
   ·cases ed
end
end L2
namespace L2
open PySem PySem.Spec PyProof.Rows EK
open DS (D Store Exn Rs SR lv srt dedup)
section
variable {X:Cx}{K:PySem.W.Frag}{E:XE}{J:Js}{S:Store}{H:Hp}{d d1 d2:D}{v:V}{pins:List (Addr × Obj)}{σ:St}{s:Shared}
theorem zV7 {l:List D}{a:Addr}{ys:List V}{its:List Value}{n:Nat}{m:D}{Q:VK}{u:Value}{h':Heap}{tk:Nat}(I:Inv X pins σ H s) (hl:∀x∈l,lv n x) (rl:RepL K J H l ys) (rv:Vals ys its) (hm:u∈its.toArray.toList) (hq:Ek s.heap n m u) (kp:∀b o,s.heap.get? b=some o->h'.get? b=some o)
  (k:∀x,Rep K J H m x->Q x H):EP X pins σ Q u { s with heap:=h',toks:=tk }:=by
 obtain⟨d,x,md,rx,rq⟩:=zN0 rl rv u (by simpa using hm)
 have e:=(zRn (K:=K) (J:=J) I n (hl d md) rx rq).inj hq
 subst e
 exact⟨x,H,I.kept (t':=tk) kp,rq,k x rx⟩
end
end L2
namespace DS
noncomputable section
open Classical
def trk (S:Store):D->Option (Bool × List D)
 | .tup l=>some (true,l)
 | .lst l=>some (false,l)
 | .ref n=>match S[n]? with
  | some (.lst l)=>some (false,l)
  | _=>none
 | _=>none
end
end DS
namespace DS
noncomputable section
open Classical
def enW (b:Bool) (S:Store) (d:D):Option Walk:=match trk S d with
 | some (c,l)=>if c=b/\l.length<2 ^ 60 then some ⟨zEq l 0,gdOf S d⟩else none
 | none=>none
def iEn (b:Bool) (a:EM):IM:=fun env S=>(a env S).bind fun x S1=>lift (enW b S1 x) S1
theorem zKw:∀(l:List D) (n i:Nat),(zEq l n)[i]?=(l[i]?).map fun d=>.tup [.int ((n+i:Nat):Int),d]
 | [],n,i=>by simp[zEq]
 | d::r,n,0=>by simp[zEq]
 | d::r,n,i+1=>by
  rw[zEq,List.getElem?_cons_succ,zKw r (n+1) i,List.getElem?_cons_succ,show n+1+i=n+(i+1) by first|assumption|lia]
theorem zFj:∀(l:List D) (n:Nat),(zEq l n).length=l.length
 | [],_=>rfl
 | d::r,n=>by rw[zEq,List.length_cons,zFj r,List.length_cons]
end
end DS
namespace DS
noncomputable section
open Classical
def eOrV (a b:EM):EM:=fun env S=>(a env S).bind fun x S1=>(lift (truth S1 x) S1).bind fun c S1=>if c=true then .ok x S1 else b env S1
end
end DS
namespace DS
noncomputable section
open Classical
def zipT (S:Store):List D->Option D
 | [a,b]=>match trk S a,trk S b with
  | some (_,l),some (_,m)=>some (.lst ((l.zip m).map fun p=>.tup [p.1,p.2]))
  | _,_=>none
 | _=>none
end
end DS
namespace L2
open PySem PySem.Spec PyProof.Rows EK TU
open TS (sObj zDe adr Tab.ft)
open DS (D Store Exn Rs SR lv srt dedup)
section
variable {X:Cx}{K:PySem.W.Frag}{E:XE}
variable {J:Js}{S:Store}{H:Hp}
theorem zYz {a b:Expr}{es:List Expr}{pos:Pos}{ma mb:DS.EM}(ha:DE X K E a ma) (hb:DE X K E (.BoolOp .Or (b::es) pos) mb) (hK:X.K=K:=by rfl):DE X K E (.BoolOp .Or (a::b::es) pos) (DS.eOrV ma mb):=by
 subst hK
 refine⟨⟨fun pins s σ H Q I ⟨env,S,J,hA,hE,q⟩=>?_⟩⟩
 refine BoolOp_or (thn (ha.h.h pins s σ H (fun x H1=>∃J1 S1 d k,AbS X.K J1 S1 H1/\RepE X.K J1 H1 env σ/\Rep X.K J1 H1 d x/\TruV X.K x H1 k/\Post X.K E J1 H1 (if k=true then .ok d S1 else mb env S1) (fun d _ J' H'=>∀v,Rep X.K J' H' d v->Q v H')) I ⟨env,S,J,hA,hE,q.bind.imp fun d S1 J1 H1 _ a1 g1 q1 x rx=>?_⟩) fun v s1 ⟨x,H1,I1,r1,J1,S1,d,k,a1,hE1,rx,tv,z⟩=>?_)
 ·obtain⟨k,e,z⟩:=q1.bind.lift
  exact⟨J1,S1,d,k,a1,hE.grow g1,rx,zMg a1 rx e,z J1 H1 a1 .refl⟩
 ·refine thn (zSf pins s1 σ H1 x v (fun k' H2=>k'=k/\H2=H1) I1 r1 ⟨k,tv,rfl,rfl⟩) fun c s2 ⟨H2,I2,ek,eH⟩=>?_
  subst ek eH
  cases c with
  | false=>exact hb.h.h pins s2 σ H2 Q I2 ⟨env,S1,J1,a1,hE1,z⟩
  | true=>exact⟨x,H2,I2,r1,z J1 H2 a1 .refl x rx⟩
end
end L2
namespace L2
open PySem PySem.Spec PyProof.Rows
open DS (D Store Exn Rs SR)
section
variable {X:Cx}{K:PySem.W.Frag}{E:XE}{J:Js}{S:Store}{H:Hp}{d d1 d2:D}{v:V}
theorem zMn {l:List D}{c:Bool}(ha:AbS K J S H) (r:Rep K J H d v) (e:DS.trk S d=some (c,l)):∃a,v=.ref a/\∀J' H' S' gd,Grow J H J' H'->AbS K J' S' H'->(∀p∈DS.gdOf S d,p∈gd)->DS.gOk S' gd->∃ys,H' a=some (hoK c ys)/\RepL K J' H' l ys:=by
 cases d with
 | tup l=>cases e;obtain⟨a,xs,rfl,t,rl⟩:=r;exact⟨a,rfl,fun J' H' S' gd g _ _ _=>⟨xs,(t.grow g).1,RepL.grow g _ _ rl⟩⟩
 | lst l=>cases e;obtain⟨a,xs,rfl,t,rl⟩:=r;exact⟨a,rfl,fun J' H' S' gd g _ _ _=>⟨xs,(t.grow g).1,RepL.grow g _ _ rl⟩⟩
 | ref n=>
  obtain⟨a,ea,rfl⟩:=r
  obtain⟨c',ec,o,eo,rc⟩:=ha.at ea
  have e:(match S[n]? with|some (.lst l)=>some (false,l)|_=>none)=some (c,l):=e
  rw[ec]at e
  cases c' with
  | lst l'=>
   cases e
   refine⟨a,rfl,fun J' H' S' gd g ha' sub ok=>?_⟩
   have e':S'[n]?=some (.lst l):=ok (n,.lst l) (sub _ (by simp[DS.gdOf,ec]))
   obtain⟨o',eo',rc'⟩:=ha'.ob n a _ (g.pre n a ea) e'
   obtain⟨ys,rfl,rl'⟩:=rc'
   exact⟨ys,eo',rl'⟩
  | _=>cases e
 | _=>cases e
end
end L2
namespace TS
open PySem
theorem zVz {prog:Program}{w:World}{A:Around}(hh:A.handled=none) (b:Bool) (it l:Addr) (hne:l≠it) (items:Array Value):Draws prog w A it [it,l] items.size (fun i v=>items[i]?=some v) (fun i h=>KIt b h it l i/\KSq b h l items) where
 live:=fun _ _ st=>let ⟨o,ho,_⟩:=st.1;⟨o,ho⟩
 frame:=fun _ _ _ st hk=>⟨st.1.at fun o e=>hk it (by simp) o e,st.2.at fun o e=>hk l (by simp) o e⟩
 item:=fun i s Q E hi st hQ=>next_item st.1 st.2 (x:=items[i]) (by simp[hi]) fun h' hit' hs'=>hQ _ h' s.toks (by simp[hi]) ⟨hit',st.2.xb hs'.extBut hne⟩ hs'
 done:=fun s Q E st hE=>next_end hh st.1 st.2 (by simp) hE
abbrev enO (it:Addr):Obj:={ cls:=.type "enumerate",data:=.fields #[.none,.bool false,.ref it,rawInt 0,.none,.none] }
theorem zYx (b:Bool) (l:Addr) (xs:Array Value):Meets (Builtin.«enumerate.__new__» ⟨[.type "enumerate",.ref l],[]⟩) (fun _ R s=>KSq b s.heap l xs/\R (.ok (.ret (.ref (s.heap.push (itO b l)).objs.size))) { s with heap:=(s.heap.push (itO b l)).push (enO s.heap.objs.size) }):=
 .of_wp fun prog w A R s h=>by
  obtain⟨hp,g,d,tk,os⟩:=s;obtain⟨q1,h⟩:=h
  have hsub:=sub_enumerate
  have L1:KSq b (Shared.heap ⟨hp,g,d,tk,os⟩) l xs:=q1
  wp_walk using zGg L1
  refine wpAny_stack_any fun st=>wpAny_pure ?_
  split
  ·rename_i c _ _ _ _ _
   cases(c == Value.type "enumerate")
   ·wp_walk using zGg L1
    exact⟨_,rfl,h⟩
   ·wp_walk using zGg L1
    exact⟨_,rfl,h⟩
  ·wp_walk using zGg L1
   exact⟨_,rfl,h⟩
section
variable {prog:Program}{w:World}{A:Around}{E:Value->Shared->Prop}{s:Shared}
theorem zVx {b:Bool}{l:Addr}{xs:Array Value}{Q:Value->Shared->Prop}(q1:KSq b s.heap l xs)
  (h:∀h',IsEnum h' (s.heap.objs.size+1) s.heap.objs.size 0 .none->KIt b h' s.heap.objs.size l 0->(∀c o,s.heap.get? c=some o->h'.get? c=some o)->Q (.ref (s.heap.objs.size+1)) { s with heap:=h' }):
  wpAny (model prog w) A (call (.type "enumerate") [.ref l]) Q E s:=by
 refine callType_new F.called_enumerate (by decide) (F.typeCall_enumerate_1 _) (F.newCall_enumerate_1 _) (fun obj=>F.args_object_init_2 obj _) F.entry_enumerate_new (zYx b l xs) ⟨q1,?_⟩
 have z0:(s.heap.push (itO b l)).objs.size=s.heap.objs.size+1:=Heap.size_push ..
 have g2:((s.heap.push (itO b l)).push (enO s.heap.objs.size)).get? (s.heap.push (itO b l)).objs.size=some (enO s.heap.objs.size):=Heap.get?_push_size _ rfl
 have g1:((s.heap.push (itO b l)).push (enO s.heap.objs.size)).get? s.heap.objs.size=some (itO b l):=Heap.get?_push_of_some _ (Heap.get?_push_size _ (by cases b <;> rfl))
 have gk:∀c o,s.heap.get? c=some o->((s.heap.push (itO b l)).push (enO s.heap.objs.size)).get? c=some o:=fun c o x=>Heap.get?_push_of_some _ (Heap.get?_push_of_some _ x)
 show _/\_
 rw[z0]at g2 ⊢
 exact⟨⟨_,g2,rfl⟩,h _ g2 ⟨_,g1,rfl,rfl⟩ gk⟩
end
end TS
namespace L2
open PySem PySem.Spec PyProof.Rows TS
open DS (D Store Exn Rs SR)
def Ite (b:Bool) (a:Addr):It:=
  ⟨fun i H=>∃xs x,H a=some (hoK b xs)/\xs[i]?=some x,
   fun i H v H'=>∃T xs x,v=.ref T/\H T=none/\H a=some (hoK b xs)/\xs[i]?=some x/\H'=upd H T (.tup [.int i,x]),
   fun i H=>∃xs,H a=some (hoK b xs)/\xs.length<=i⟩
theorem zTl {P:Program}{w:World}{K:PySem.W.Frag}{es:List Expr}{k:Nat}{pos:Pos}(b:Bool) (a e it:Addr) (hei:e≠it):
  Turn P w K (.Tuple es k pos) (Ite b a) [e,it] e (fun i h=>(∃old,IsEnum h e it i old)/\KIt b h it a i) where
 mem:=by simp
 obj:=fun i h st c hc=>by
  obtain⟨⟨old,he⟩,o1,e1,c1,d1⟩:=st
  simp only[List.mem_cons,List.not_mem_nil,or_false]at hc
  rcases hc with rfl|rfl
  ·exact⟨_,he,fun v z=>by cases z⟩
  ·exact⟨_,e1,fun v z=>by rw[d1]at z;cases z⟩
 keep:=fun i h h' st kk=>by
  obtain⟨⟨old,he⟩,h1⟩:=st
  exact⟨⟨old,kk e (by simp) _ he⟩,h1.at fun o x=>kk it (by simp) o x⟩
 item:=by
  intro X hP hw hK hc i pins s σ H E I hf st hg
  subst hP hw hK
  obtain⟨xs,x,ha,hx⟩:=hg
  obtain⟨⟨old,he⟩,h1⟩:=st
  obtain⟨its,rv,p1,z1⟩:=I.kSq ha
  obtain⟨u,hu,ru⟩:=rv.get hx
  have na:a ∉ [e,it]:=fun m=>by rw[(hf a m).1]at ha;cases ha
  have nae:a≠e:=fun z=>na (by simp[z])
  have nai:a≠it:=fun z=>na (by simp[z])
  have hfr:H s.heap.objs.size=none:=I.hok.fresh (Nat.le_refl _)
  have elt:e<s.heap.objs.size:=Heap.lt_size he
  have ilt:it<s.heap.objs.size:=by obtain⟨o,ho,_⟩:=h1;exact Heap.lt_size ho
  have hi:i<its.toArray.size:=by obtain⟨z,_⟩:=List.getElem?_eq_some_iff.mp hu;simpa using z
  refine wpAny_pyNext_enum_itemD (zVz (A:=X.A.in1) (I.ok.hd hc) b it a nai its.toArray) he ⟨h1,p1⟩ hi hei (fun m=>by rcases List.mem_cons.mp m with z|z;exact hei z;exact nae (List.mem_singleton.mp z).symm) fun v h' tk pv ho st' hT hsz hk=>?_
  have ev:v=u:=by
   have:its.toArray[i]?=some u:=by simpa using hu
   rw[this]at pv;exact(Option.some.inj pv).symm
  subst ev
  refine⟨_,rfl,wpAny_letOwnedTupleGo_enum (s:={ s with heap:=h',toks:=tk+1 }) ho fun h2' he' hs'=>?_⟩
  have hT2:h2'.get? s.heap.objs.size=some { cls:=.type "tuple",data:=.seq #[.int i tk,v] }:=hs'.extBut _ _ (Nat.ne_of_gt elt) hT
  refine⟨.ref s.heap.objs.size,upd H s.heap.objs.size (.tup [.int i,x]),I.turnedT (t':=tk+1) hf (fun c o hc e=>?_) (Nat.le_refl _) ⟨by show 2<=sizeLine;decide,[.int i tk,v],.cons ⟨tk,rfl⟩ (.cons ru .nil),⟨_,hT2,rfl,_,rfl⟩⟩,rfl,⟨_,xs,x,rfl,hfr,ha,hx,rfl⟩,⟨⟨_,by simpa using he'⟩,st'.1.xb hs'.extBut (Ne.symm hei)⟩,fun c hc=>?_⟩
  ·simp only[List.mem_cons,List.not_mem_nil,or_false,not_or]at hc
   exact hs'.extBut _ _ hc.1 (hk _ _ hc.1 hc.2 e)
  ·have hn:=(hf c hc).1
   have ne:c≠s.heap.objs.size:=by
    simp only[List.mem_cons,List.not_mem_nil,or_false]at hc
    rcases hc with rfl|rfl
    ·exact Nat.ne_of_lt elt
    ·exact Nat.ne_of_lt ilt
   rw[zAh ne];exact hn
 done:=by
  intro X hP hw hK hc i pins s σ H E I hf st hg
  subst hP hw hK
  obtain⟨xs,ha,hx⟩:=hg
  obtain⟨⟨old,he⟩,h1⟩:=st
  obtain⟨its,rv,p1,z1⟩:=I.kSq ha
  have na:a ∉ [e,it]:=fun m=>by rw[(hf a m).1]at ha;cases ha
  have nai:a≠it:=fun z=>na (by simp[z])
  have l1:=rv.length
  unfold pyNext
  have hT:s.TypeIs (.ref e) "enumerate":=⟨_,he,rfl⟩
  refine wpAny_bind (wpAny_attempt (wpAny_callSpecial?_slot (name:=Str.ofString "__next__") hT F.slot_enumerate_next (wpAny_call_entry F.slot_enumerate_next hT F.entry_enumerate_next ?_ (F.args_enumerate_next_1 _))))
  refine(show wpAny _ _ (field (.ref e) 2 >>= _) _ _ _ from wpAny_bind (wpAny_field he rfl (x:=.ref it) rfl (wpAny_bind (next_end (I.ok.hd hc) h1 p1 (by simp;lia) fun h' x he' hx'=>?_))))
  obtain⟨o,ho,hcl⟩:=hx'
  refine wpAny_bind (wpAny_isInstance (T:="StopIteration") (b:=true) ⟨o,ho,hcl⟩ isSubtype_stop ?_)
  exact wpAny_pure ⟨rfl,I.turnedL (t':=s.toks) hf fun c o hc e=>he' _ _ (fun z=>hc (by simp[z])) e⟩
 self:=fun _ _ _ _ _ st h=>wpAny_pyIter_enum st.1.choose_spec h
section
variable {X:Cx}{K:PySem.W.Frag}{E:XE}{J:Js}{S:Store}{H:Hp}
theorem zZt {a:Addr}{b:Bool}{l:List D}{gd:List (Nat × D)}(h1:∀J' H' S',Grow J H J' H'->AbS K J' S' H'->DS.gOk S' gd->∃ys,H' a=some (hoK b ys)/\RepL K J' H' l ys):ItOk K J H ⟨DS.zEq l 0,gd⟩ (Ite b a) where
 go:=fun i H' J' S' ha g gd hi=>by
  obtain⟨xs,q1,r1⟩:=h1 J' H' S' g ha gd
  have hi':i<l.length:=by rw[DS.zFj]at hi;exact hi
  exact⟨xs,xs[i]'(by rw[<- r1.length];exact hi'),q1,List.getElem?_eq_getElem _⟩
 yld:=fun i H' J' S' x H'' ha g gd yl d ed=>by
  obtain⟨T,xs',x1,rfl,hT,e1,g1,rfl⟩:=yl
  obtain⟨xs,q1,r1⟩:=h1 J' H' S' g ha gd
  have ex:xs=xs':=zVq (Option.some.inj (q1.symm.trans e1))
  subst ex
  obtain⟨dx,f1,p1⟩:=r1.get' g1
  rw[DS.zKw,f1,Nat.zero_add]at ed
  cases ed
  exact⟨ha.push hT,.push hT,T,_,rfl,⟨zAo,ha.out hT⟩,_,_,rfl,rfl,x1,[],rfl,Rep.grow (.push hT) _ _ p1,rfl⟩
 stop:=fun i H' J' S' ha g gd hi=>by
  obtain⟨xs,q1,r1⟩:=h1 J' H' S' g ha gd
  rw[DS.zFj]at hi
  exact⟨xs,q1,by rw[<- r1.length];exact hi⟩
theorem zW3 (b:Bool) {a:Expr}{es:List Expr}{k:Nat}{tpos p pos:Pos}{m:DS.EM}(hg:Gl X "enumerate") (hm:X.mg "enumerate"=none) (he:DE X K E a m) (h1:nst a=true:=by rfl) (hK:X.K=K:=by rfl):DI X K E (.Tuple es k tpos) (.Call (.Name "enumerate" p) [a] [] pos) (DS.iEn b m):=by
 subst hK
 refine⟨⟨fun pins s σ H R I ⟨env,S,J,ha,hE,q⟩=>?_⟩⟩
 have hs:starEach [a] X.env=[(false,eval a X.env)]:=zBd h1
 refine Call_ (zCq I hg hm PyProof.Rows.boot_enumerate (PyProof.Rows.callWith_type1 ?_ hs rfl))
 rw[hs]
 refine(show wpAny _ _ (spliced ((false,eval a X.env)::backTo pos [])) _ _ s from Calls.spliced_cons (thn (he.h.h pins s σ H (fun x H1=>∃J1 S1 d w,AbS X.K J1 S1 H1/\Rep X.K J1 H1 d x/\DS.enW b S1 d=some w/\∀It,ItOk X.K J1 H1 w It->R It H1) I ⟨env,S,J,ha,hE,q.bind.imp fun d S1 J1 H1 _ a1 g1 q1 x rx=>?_⟩) fun v s1 ⟨x,H1,I1,r1,J1,S1,d,w,a1,rx,ew,k⟩=>?_))
 ·obtain⟨w,ew,k⟩:=q1.lift
  exact⟨J1,S1,d,w,a1,rx,ew,k J1 H1 a1 .refl⟩
 ·refine Calls.spliced_nil ?_
  unfold DS.enW at ew
  cases t1:DS.trk S1 d with
  | none=>rw[t1]at ew;cases ew
  | some p1=>
   obtain⟨c1,l⟩:=p1
   rw[t1]at ew
   simp only at ew
   split at ew
   ·rename_i hc
    obtain⟨rfl,_⟩:=hc
    cases ew
    obtain⟨a',rfl,s1'⟩:=zMn a1 rx t1
    have z1:=fun J' H' S' g ab ok=>s1' J' H' S' (DS.gdOf S1 d) g ab (fun p hp=>hp) ok
    have ok0:DS.gOk S1 (DS.gdOf S1 d):=fun p hp=>by
     cases d with
     | ref n=>
      have hp:p∈(match S1[n]? with|some d=>[(n,d)]|none=>[]):=hp
      cases en:S1[n]? with
      | none=>rw[en]at hp;cases hp
      | some c=>rw[en]at hp;rw[List.mem_singleton.mp hp];exact en
     | _=>cases hp
    obtain⟨xs,f1,_⟩:=z1 J1 H1 S1 .refl a1 ok0
    cases r1
    obtain⟨its,rv,p1,_⟩:=I1.kSq f1
    refine zVx p1 fun h' c1' c2 hk=>wpAny_pyIter_enum c1' ?_
    have hne:s1.heap.objs.size+1≠s1.heap.objs.size:=Nat.succ_ne_self _
    refine⟨_,[s1.heap.objs.size+1,s1.heap.objs.size],_,_,H1,rfl,I1.kept (t':=s1.toks) hk,zTl c1 a' _ _ hne,⟨⟨_,by simpa using c1'⟩,c2⟩,fun c hc=>?_,k _ (zZt z1)⟩
    have hle:s1.heap.objs.size<=c:=by
     simp only[List.mem_cons,List.not_mem_nil,or_false]at hc
     rcases hc with rfl|rfl
     ·exact Nat.le_add_right _ _
     ·exact Nat.le_refl _
    exact I1.fpOk hle (I1.hok.fresh hle)
   ·cases ew
end
end L2
namespace DS
def eqI (_:Store) (x y:D):Option D:=match x,y with
 | .int a,.int b=>some (.bl (decide (a=b)))
 | _,_=>none
def neI (_:Store) (x y:D):Option D:=match x,y with
 | .int a,.int b=>some (.bl (!decide (a=b)))
 | _,_=>none
def isiT (_:Store):List D->Option D
 | [.tup _,.ty "tuple"]=>some (.bl true)
 | _=>none
def ltI (_:Store) (x y:D):Option D:=match x,y with
 | .int a,.int b=>some (.bl (decide (a<b)))
 | _,_=>none
noncomputable def putN (S:Store) (o k v:D):Option Store:=match o with
 | .ref n=>match S[n]? with
  | some (.dct false ks vs)=>if zDv false k=true/\ks.length<most then some (S.set n (.dct false (put2 ks vs k v).1 (put2 ks vs k v).2))else none
  | _=>none
 | _=>none
theorem zO2 {S:Store}{a b:Int}:ltI S (.int a) (.int b)=some (.bl (decide (a<b))):=rfl
theorem zBi {S:Store}{a b:Int}:eqI S (.int a) (.int b)=some (.bl (decide (a=b))):=rfl
theorem zV4 {S:Store}{a b:Int}:neI S (.int a) (.int b)=some (.bl (!decide (a=b))):=rfl
theorem zRa {S:Store}{l:List D}:isiT S [.tup l,.ty "tuple"]=some (.bl true):=rfl
end DS
namespace L2
open PySem PySem.Spec PyProof.Rows
open DS (D Store Exn Rs SR)
section
variable {X:Cx}{K:PySem.W.Frag}
theorem zZ3 {pins:List (Addr × Obj)}{σ:St}{H:Hp}{s:Shared}{a:Addr}{kvs:List (Key × V)}{k:Key}{v:V}{u r:Value}{A:Around}{E:Value->Shared->Prop}{Q:Unit->Shared->Prop}(I:Inv X pins σ H s) (e:H a=some (.dK kvs)) (l:kvs.length<sizeLine) (ry:RelV (kV k) u) (rv:RelV v r) (h:∀s',Inv X pins σ (upd H a (.dK (putK kvs k v))) s'->Q () s'):
  wpAny (model X.prog X.w) A (setItem (.ref a) u r) Q E s:=by
 obtain⟨z,hd,vs,rel,dd⟩:=zYy I.hok e
 refine wpAny_setItem_pairs (hsz:=by rw[<- rel.length];exact z) (zLt ry) dd fun h' dd' hs=>h _ ?_
 exact zOz I (by rw[e];exact True.intro) hs (let ⟨q,_,_,hq,_⟩:=dd';⟨q,hq⟩) (zT8 (Nat.le_trans (zFd kvs k v) l) hd (rel.put k rv) dd')
theorem zU0:PSet X (pOf K DS.putN):=by
 intro pins s σ H o i v ov iv u Q I ro ri rv ⟨J,S,d1,d2,d3,S',ha,r1,r2,r3,e,k⟩
 unfold DS.putN at e
 split at e
 ·rename_i n
  obtain⟨a,ea,rfl⟩:=r1
  obtain⟨c,ec,ob,eo,rc⟩:=ha.at ea
  split at e
  ·rename_i ks vs es
   rw[ec]at es;cases es
   obtain⟨xs,q,rl⟩:=rc
   split at e
   ·rename_i hk
    cases e
    cases ro
    have hk1:=hk.1
    unfold DS.zDv at hk1
    rw[Bool.and_eq_true]at hk1
    rcases q with⟨_,kvs,rfl,rfl,rfl⟩|⟨z,_⟩
    ·obtain⟨kk,rfl⟩:=zKb hk1.1 fun l z=>by subst z;cases hk1.2
     obtain rfl:=zHe r2
     obtain⟨p1,p2⟩:=zXc (fun a b=>zHf) (k:=kk) rl r3
     exact zZ3 I eo (by have:=hk.2;rw[List.length_map]at this;exact this) ri rv fun s' I'=>⟨_,I',k _ (ha.write ea ⟨_,.inl ⟨rfl,_,rfl,p1,rfl⟩,p2⟩) (.write ea)⟩
    ·cases z
   ·cases e
  ·cases e
 ·cases e
end
end L2
namespace DS
def addE (S:Store) (x y:D):Option D:=match x,y with
 | .tup [],.tup m=>some (.tup m)
 | x,y=>addD S x y
theorem zS8 {S:Store}{l m:List D}(h:l.length+m.length<=most):addE S (.tup l) (.tup m)=some (.tup (l++m)):=by
 cases l with
 | nil=>rfl
 | cons a r=>show(if a::r≠[]/\(a::r).length+m.length<=most then some (D.tup (a::r++m))else none)=_;rw[if_pos ⟨by simp,h⟩]
end DS
namespace DS
noncomputable section
open Classical
def zFc (S:Store):List D->Option D
 | [d]=>match look S d with
  | some (.lst (x::l))=>if sortable (x::l)then some (minF x l)else none
  | _=>none
 | _=>none
end
end DS
namespace DP
open DS
noncomputable section
def zB6:SM:=
  (sSeq (sSet 0 (eCB absB (zA1 (eVar 0) aNil)))
  (sSeq (sSet 1 (eCB absB (zA1 (eVar 1) aNil)))
  (sSeq (zC6 (tTru (eVar 1)) (sSeq (sSet 2 (eOp modD (eVar 0) (eVar 1)))
  (sSeq (sSet 0 (eVar 1))
  (sSet 1 (eVar 2)))))
  (sRet (eVar 0)))))
def zB5:Fn:=zAx 2 3 zB6
def zFt:SM:=
  (sRet (eOp ltI (eOp mulD (eOp ixD (eVar 0) (eC (.int 0))) (eOp ixD (eVar 1) (eC (.int 1)))) (eOp mulD (eOp ixD (eVar 1) (eC (.int 0))) (eOp ixD (eVar 0) (eC (.int 1))))))
def zCs:Fn:=zAx 2 2 zFt
def zEf:SM:=
  (sRet (eTup (zA1 (eTup (zA1 (eOp ixD (eVar 0) (eC (.int 0))) (zA1 (eC (.int 1)) aNil))) (zA1 (eTup (zA1 (eOp ixD (eVar 0) (eC (.int 1))) (zA1 (eC (.int 1)) aNil))) aNil))))
def zD4:Fn:=zAx 1 1 zEf
def zHy:SM:=
  (sRet (eOp addD (eOp mulD (eOp ixD (eVar 0) (eC (.int 0))) (eOp ixD (eVar 1) (eC (.int 0)))) (eOp mulD (eOp ixD (eVar 0) (eC (.int 1))) (eOp ixD (eVar 1) (eC (.int 1))))))
def zEa:Fn:=zAx 2 2 zHy
def zFq:SM:=
  (sSeq (sIf (tB (eOp gtD (eVar 0) (eC (.int 0)))) (sRet (eC (.int 1))) zAz)
  (sSeq (sIf (tB (eOp ltI (eVar 0) (eC (.int 0)))) (sRet (eUn negD (eC (.int 1)))) zAz)
  (sRet (eC (.int 0)))))
def zDx:Fn:=zAx 1 1 zFq
def zC2:SM:=
  (sRet (eCB zipT (zA1 (eVar 0) (zA1 (eOp addD (eSl slD (eVar 0) (pYes (eC (.int 1))) pNo) (eSl slD (eVar 0) pNo (pYes (eC (.int 1))))) aNil))))
def zBg:Fn:=zAx 1 1 zC2
def zFv:SM:=
  (sSeq (sSet 1 (zB0 1 [] (iVal (eSl slD (eVar 0) pNo (pYes (eC (.int 63))))) (gName 0) tYes (eCB max2B (zA1 (eVar 0) (zA1 (eOp subD (eC (.int 0)) (eVar 0)) aNil)))))
  (sSeq (sSet 2 (eC (.int 7919)))
  (sSeq (sFor (iVal (eVar 1)) (gName 3) (sSet 2 (eOp modD (eOp addD (eOp mulD (eVar 2) (eC (.int 48271))) (eOp modD (eVar 3) (eC (.int 2147483629)))) (eC (.int 2147483647)))))
  (sRet (zRq [(.str (PySem.Str.ofString "seed")),(.str (PySem.Str.ofString "number")),(.str (PySem.Str.ofString "left"))] (zA1 (eVar 2) (zA1 (eC (.int 0)) (zA1 (eNew (eUn revL (zB0 1 [] (iVal (eVar 1)) (gName 0) (tB (eOp geD (eVar 0) (eOp powD (eC (.int 10)) (eC (.int 18))))) (eVar 0)))) aNil))))))))
def zBs:Fn:=zHt 1 4 zFv
def zFu:SM:=
  (sSeq (zC6 (tAnd (tB (eOp eqI (eOp ixD (eVar 0) (eC (.str (PySem.Str.ofString "number")))) (eC (.int 0)))) (tB (eOp gtD (eCB lenB (zA1 (eOp ixD (eVar 0) (eC (.str (PySem.Str.ofString "left")))) aNil)) (eC (.int 0))))) (sPut putN (eVar 0) (eC (.str (PySem.Str.ofString "number"))) (eMt "list" popM (eOp ixD (eVar 0) (eC (.str (PySem.Str.ofString "left")))) aNil)))
  (sSeq (sSet 2 (eOp ixD (eVar 0) (eC (.str (PySem.Str.ofString "number")))))
  (sSeq (sIf (tB (eOp gtD (eVar 2) (eC (.int 0)))) (sSeq (sPut putN (eVar 0) (eC (.str (PySem.Str.ofString "number"))) (eOp zG5 (eVar 2) (eVar 1)))
  (sRet (eOp modD (eVar 2) (eVar 1)))) zAz)
  (sSeq (sSet 3 (eOp modD (eOp addD (eOp mulD (eOp ixD (eVar 0) (eC (.str (PySem.Str.ofString "seed")))) (eC (.int 48271))) (eC (.int 7919))) (eC (.int 2147483647))))
  (sSeq (sPut putN (eVar 0) (eC (.str (PySem.Str.ofString "seed"))) (eOp modD (eOp addD (eOp mulD (eVar 3) (eC (.int 40692))) (eC (.int 104729))) (eC (.int 2147483399))))
  (sSeq (sSet 4 (eOp modD (eOp mulD (eOp ixD (eVar 0) (eC (.str (PySem.Str.ofString "seed")))) (eOp ixD (eVar 0) (eC (.str (PySem.Str.ofString "seed"))))) (eC (.int 2147483563))))
  (sRet (eOp modD (eOp addD (eOp mulD (eOp modD (eOp mulD (eVar 3) (eVar 3)) (eC (.int 2147483629))) (eC (.int 2147483563))) (eVar 4)) (eVar 1)))))))))
def zAe:Fn:=zAx 2 5 zFu
def zC3:SM:=
  (sRet (eTup (zA1 (eTup (zA1 (eVar 0) (zA1 (eC (.int 1)) aNil))) (zA1 (eTup (zA1 (eVar 1) (zA1 (eC (.int 1)) aNil))) aNil))))
def zAg:Fn:=zAx 2 2 zC3
def zCk:SM:=
  (sRet (eCB allB (zA1 (zB0 2 [1,2] (iVal (eVar 0)) (gTup [(gName 0),(gName 1)]) tYes (eOp geD (eOp addD (eOp mulD (eOp ixD (eVar 0) (eC (.int 0))) (eVar 2)) (eOp mulD (eOp ixD (eVar 0) (eC (.int 1))) (eVar 3))) (eVar 1))) aNil)))
def zAw:Fn:=zAx 3 3 zCk
def zD7:SM:=
  (sSeq (sSet 2 (zA9 zB5 (zA1 (eVar 0) (zA1 (eVar 1) aNil))))
  (sSeq (sIf (tB (eOp ltI (eVar 1) (eC (.int 0)))) (sSet 2 (eUn negD (eVar 2))) zAz)
  (sRet (eTup (zA1 (eOp zG5 (eVar 0) (eVar 2)) (zA1 (eOp zG5 (eVar 1) (eVar 2)) aNil))))))
def zC9:Fn:=zAx 2 3 zD7
def zFs:SM:=
  (sSeq (sSet 3 (eOp mulD (eOp subD (eOp ixD (eOp ixD (eVar 2) (eC (.int 0))) (eC (.int 0))) (eOp mulD (eOp ixD (eVar 0) (eC (.int 0))) (eOp ixD (eOp ixD (eVar 2) (eC (.int 0))) (eC (.int 1))))) (eOp ixD (eOp ixD (eVar 2) (eC (.int 1))) (eC (.int 1)))))
  (sSeq (sSet 4 (eOp mulD (eOp subD (eOp ixD (eOp ixD (eVar 2) (eC (.int 1))) (eC (.int 0))) (eOp mulD (eOp ixD (eVar 0) (eC (.int 1))) (eOp ixD (eOp ixD (eVar 2) (eC (.int 1))) (eC (.int 1))))) (eOp ixD (eOp ixD (eVar 2) (eC (.int 0))) (eC (.int 1)))))
  (sRet (zA9 zDx (zA1 (eOp subD (eOp mulD (eOp subD (eOp ixD (eVar 1) (eC (.int 0))) (eOp ixD (eVar 0) (eC (.int 0)))) (eVar 4)) (eOp mulD (eOp subD (eOp ixD (eVar 1) (eC (.int 1))) (eOp ixD (eVar 0) (eC (.int 1)))) (eVar 3))) aNil)))))
def zDy:Fn:=zAx 3 5 zFs
def zF0:SM:=
  (sSeq (sIf (tB (eOp eqI (eCB lenB (zA1 (eVar 0) aNil)) (eC (.int 1)))) (sRet (eCB zR4 (zA1 (eC (.ktup [(.ktup [(.int 1),(.int 0)]),(.ktup [(.int 0),(.int 1)]),(.ktup [(.int (-1)),(.int 0)]),(.ktup [(.int 0),(.int (-1))])])) aNil))) zAz)
  (sSeq (sSet 1 (zB0 2 [] (iVal (zA9 zBg (zA1 (eVar 0) aNil))) (gTup [(gName 0),(gName 1)]) tYes (eTup (zA1 (eOp subD (eOp ixD (eVar 1) (eC (.int 0))) (eOp ixD (eVar 0) (eC (.int 0)))) (zA1 (eOp subD (eOp ixD (eVar 1) (eC (.int 1))) (eOp ixD (eVar 0) (eC (.int 1)))) aNil)))))
  (sSeq (sSet 2 (zB0 1 [] (iVal (eVar 1)) (gName 0) tYes (eTup (zA1 (eUn negD (eOp ixD (eVar 0) (eC (.int 1)))) (zA1 (eOp ixD (eVar 0) (eC (.int 0))) aNil)))))
  (sRet (eIf (tB (eOp eqI (eCB lenB (zA1 (eVar 0) aNil)) (eC (.int 2)))) (eOp addD (eVar 2) (eVar 1)) (eVar 2))))))
def zDz:Fn:=zAx 1 3 zF0
def zBv:SM:=
  (sSeq (sSet 1 (eOp ixD (eLst (zA1 (eC (.int 4)) (zA1 (eC (.int 30)) (zA1 (eOp powD (eC (.int 10)) (eC (.int 6))) aNil)))) (zA9 zAe (zA1 (eVar 0) (zA1 (eC (.int 3)) aNil)))))
  (sSeq (sSet 2 (zA9 zAe (zA1 (eVar 0) (zA1 (eC (.int 4)) aNil))))
  (sSeq (sSet 3 (eNew (eLst aNil)))
  (sSeq (sFor (zIc (zA1 (eOp addD (eC (.int 2)) (zA9 zAe (zA1 (eVar 0) (zA1 (eC (.int 23)) aNil)))) aNil)) (gName 4) (sSeq (sPar [5,6] (zA1 (eOp subD (zA9 zAe (zA1 (eVar 0) (zA1 (eOp addD (eOp mulD (eC (.int 2)) (eVar 1)) (eC (.int 1))) aNil))) (eVar 1)) (zA1 (eOp subD (zA9 zAe (zA1 (eVar 0) (zA1 (eOp addD (eOp mulD (eC (.int 2)) (eVar 1)) (eC (.int 1))) aNil))) (eVar 1)) aNil)))
  (sSeq (sIf (tB (eOp eqI (eVar 2) (eC (.int 0)))) (sUnp (gTup [(gName 5),(gName 6)]) (eOp ixD (eLst (zA1 (eTup (zA1 (eVar 5) (zA1 (eVar 1) aNil))) (zA1 (eTup (zA1 (eVar 5) (zA1 (eOp subD (eC (.int 0)) (eVar 1)) aNil))) (zA1 (eTup (zA1 (eVar 1) (zA1 (eVar 6) aNil))) (zA1 (eTup (zA1 (eOp subD (eC (.int 0)) (eVar 1)) (zA1 (eVar 6) aNil))) aNil))))) (zA9 zAe (zA1 (eVar 0) (zA1 (eC (.int 4)) aNil))))) zAz)
  (sSeq (sIf (tB (eOp eqI (eVar 2) (eC (.int 1)))) (sPar [5,6] (zA1 (eVar 5) (zA1 (eOp zG5 (eOp addD (eVar 5) (eVar 1)) (eC (.int 2))) aNil))) zAz)
  (sSeq (sIf (tB (eOp eqI (eVar 2) (eC (.int 2)))) (sPar [5,6] (zA1 (eVar 5) (zA1 (eOp subD (eC (.int 0)) (eVar 5)) aNil))) zAz)
  (zG3 (eMt "list" zC5 (eVar 3) (zA1 (eTup (zA1 (eVar 5) (zA1 (eVar 6) aNil))) aNil))))))))
  (sRet (eCB zD9 (zA1 (eVar 3) aNil)))))))
def zBa:Fn:=zAx 1 7 zBv
def zJw:SM:=
  (sRet (zA9 zC9 (zA1 (eOp addD (eOp mulD (eOp ixD (eVar 0) (eC (.int 0))) (eOp ixD (eVar 1) (eC (.int 1)))) (eOp mulD (eOp ixD (eVar 1) (eC (.int 0))) (eOp ixD (eVar 0) (eC (.int 1))))) (zA1 (eOp mulD (eOp ixD (eVar 0) (eC (.int 1))) (eOp ixD (eVar 1) (eC (.int 1)))) aNil))))
def zHh:Fn:=zAx 2 2 zJw
def zJv:SM:=
  (sRet (zA9 zC9 (zA1 (eOp mulD (eOp ixD (eVar 0) (eC (.int 0))) (eOp ixD (eVar 1) (eC (.int 0)))) (zA1 (eOp mulD (eOp ixD (eVar 0) (eC (.int 1))) (eOp ixD (eVar 1) (eC (.int 1)))) aNil))))
def zFi:Fn:=zAx 2 2 zJv
def zFr:SM:=
  (sRet (zA9 zDy (zA1 (eVar 0) (zA1 (eVar 1) (zA1 (zA9 zD4 (zA1 (eVar 2) aNil)) aNil)))))
def zC8:Fn:=zAx 3 3 zFr
def zD5:SM:=
  (sSeq (sSet 2 (zA9 zFi (zA1 (eTup (zA1 (eOp ixD (eVar 0) (eC (.int 0))) (zA1 (eC (.int 1)) aNil))) (zA1 (eOp ixD (eVar 1) (eC (.int 0))) aNil))))
  (sSeq (sSet 3 (zA9 zFi (zA1 (eTup (zA1 (eOp ixD (eVar 0) (eC (.int 1))) (zA1 (eC (.int 1)) aNil))) (zA1 (eOp ixD (eVar 1) (eC (.int 1))) aNil))))
  (sRet (zA9 zHh (zA1 (eVar 2) (zA1 (eVar 3) aNil))))))
def zC7:Fn:=zAx 2 4 zD5
def zBh:SM:=
  (sSeq (sSet 1 (eNew (eLst aNil)))
  (sSeq (sFor (iVal (eVar 0)) (gName 2) (sSeq (zC6 (tAnd (tB (eOp gtD (eCB lenB (zA1 (eVar 1) aNil)) (eC (.int 1)))) (tB (eOp leD (zA9 zC8 (zA1 (eOp ixD (eVar 1) (eUn negD (eC (.int 2)))) (zA1 (eOp ixD (eVar 1) (eUn negD (eC (.int 1)))) (zA1 (eVar 2) aNil)))) (eC (.int 0))))) (zG3 (eMt "list" popM (eVar 1) aNil)))
  (zG3 (eMt "list" zC5 (eVar 1) (zA1 (eVar 2) aNil)))))
  (sRet (eVar 1))))
def zBc:Fn:=zAx 1 3 zBh
def zE4:SM:=
  (sSeq (sSet 1 (eUn ssL (eVar 0)))
  (sSeq (sSet 2 (zA9 zBc (zA1 (eVar 1) aNil)))
  (sSeq (sSet 3 (zA9 zBc (zA1 (eUn revL (eVar 1)) aNil)))
  (sRet (eCB zD9 (zA1 (eOrV (eOp addD (eSl slD (eVar 2) pNo (pYes (eUn negD (eC (.int 1))))) (eSl slD (eVar 3) pNo (pYes (eUn negD (eC (.int 1)))))) (eVar 1)) aNil))))))
def zAr:Fn:=zAx 1 4 zE4
def zD6:SM:=
  (sSeq (sSet 1 (zA9 zAr (zA1 (eVar 0) aNil)))
  (sRet (eCB zD9 (zA1 (zB0 1 [1] (iVal (zA9 zDz (zA1 (eVar 1) aNil))) (gName 0) tYes (eTup (zA1 (eVar 0) (zA1 (eCB zFc (zA1 (zB0 1 [0] (iVal (eVar 1)) (gName 0) tYes (zA9 zEa (zA1 (eVar 1) (zA1 (eVar 0) aNil)))) aNil)) aNil)))) aNil))))
def zBb:Fn:=zAx 1 2 zD6
def zE3:SM:=
  (sRet (eCB allB (zA1 (zB0 2 [1] (iVal (zA9 zBb (zA1 (eVar 0) aNil))) (gTup [(gName 0),(gName 1)]) tYes (eNot (zA9 zCs (zA1 (zA9 zC7 (zA1 (eVar 0) (zA1 (eVar 2) aNil))) (zA1 (eTup (zA1 (eVar 1) (zA1 (eC (.int 1)) aNil))) aNil))))) aNil)))
def zAn:Fn:=zAx 2 2 zE3
def zS6:SM:=
  (sSeq (sSet 1 (zA9 zBs (zA1 (eVar 0) aNil)))
  (sSeq (sFor (iVal (eTup (zA1 (zA9 zBa (zA1 (eVar 1) aNil)) aNil))) (gName 2) (sSeq (sPar [3,4] (zA1 (zA9 zAr (zA1 (eVar 2) aNil)) (zA1 (zA9 zBb (zA1 (eVar 2) aNil)) aNil)))
  (sSeq (sIf (tOr (tNot (tTru (eCB isiT (zA1 (eVar 4) (zA1 (eC (.ty "tuple")) aNil))))) (tNot (tTru (eCB allB (zA1 (zB0 1 [2] (iVal (eVar 3)) (gName 0) tYes (eOp inD (eVar 0) (eVar 1))) aNil))))) (sRet (eC (.bl false))) zAz)
  (sSeq (sFor (iVal (eVar 4)) (gTup [(gName 5),(gName 6)]) (sIf (tB (eOp neI (eCB zFc (zA1 (zB0 2 [5] (iVal (eVar 2)) (gTup [(gName 0),(gName 1)]) tYes (eOp addE (eOp mulD (eOp ixD (eVar 2) (eC (.int 0))) (eVar 0)) (eOp mulD (eOp ixD (eVar 2) (eC (.int 1))) (eVar 1)))) aNil)) (eVar 6))) (sRet (eC (.bl false))) zAz))
  (sSeq (sFor (iEn true (eVar 3)) (gTup [(gName 7),(gName 8)]) (sSeq (sUnp (gTup [(gName 9),(gName 10)]) (eVar 8))
  (sSeq (sIf (tOr (tNot (tTru (zA9 zAn (zA1 (eVar 2) (zA1 (zA9 zAg (zA1 (eVar 9) (zA1 (eVar 10) aNil))) aNil))))) (tNot (tTru (zA9 zAw (zA1 (eVar 4) (zA1 (eVar 9) (zA1 (eVar 10) aNil))))))) (sRet (eC (.bl false))) zAz)
  (sSeq (sIf (tB (eOp eqI (eCB lenB (zA1 (eVar 3) aNil)) (eC (.int 1)))) (sSet 11 (eTup (zA1 (eOp addE (eVar 9) (eC (.int 1))) (zA1 (eVar 10) aNil)))) (sSeq (sSet 12 (eOp addE (eSl slD (eVar 3) pNo (pYes (eVar 7))) (eSl slD (eVar 3) (pYes (eOp addE (eVar 7) (eC (.int 1)))) pNo)))
  (sSeq (sSet 11 (eTup (zA1 (eOp subD (eOp mulD (eC (.int 2)) (eVar 9)) (eOp ixD (eOp ixD (eVar 12) (eC (.int 0))) (eC (.int 0)))) (zA1 (eOp subD (eOp mulD (eC (.int 2)) (eVar 10)) (eOp ixD (eOp ixD (eVar 12) (eC (.int 0))) (eC (.int 1)))) aNil))))
  (sSeq (sSet 13 (zA9 zAg (zA1 (eOp ixD (eOp ixD (eVar 12) (eC (.int 0))) (eC (.int 0))) (zA1 (eOp ixD (eOp ixD (eVar 12) (eC (.int 0))) (eC (.int 1))) aNil))))
  (sIf (tOr (tTru (zA9 zAn (zA1 (eVar 12) (zA1 (zA9 zAg (zA1 (eVar 9) (zA1 (eVar 10) aNil))) aNil)))) (tNot (tTru (zA9 zAn (zA1 (eVar 12) (zA1 (eVar 13) aNil)))))) (sRet (eC (.bl false))) zAz)))))
  (sIf (tOr (tTru (zA9 zAn (zA1 (eVar 2) (zA1 (zA9 zAg (zA1 (eOp ixD (eVar 11) (eC (.int 0))) (zA1 (eOp ixD (eVar 11) (eC (.int 1))) aNil))) aNil)))) (tTru (zA9 zAw (zA1 (eVar 4) (zA1 (eOp ixD (eVar 11) (eC (.int 0))) (zA1 (eOp ixD (eVar 11) (eC (.int 1))) aNil)))))) (sRet (eC (.bl false))) zAz)))))
  (sFor (iVal (eVar 2)) (gTup [(gName 9),(gName 10)]) (sIf (tNot (tTru (zA9 zAn (zA1 (eVar 3) (zA1 (zA9 zAg (zA1 (eVar 9) (zA1 (eVar 10) aNil))) aNil))))) (sRet (eC (.bl false))) zAz)))))))
  (sRet (eC (.bl true)))))
def zLv:Fn:=zAx 1 14 zS6
end
end DP
namespace TS
open PySem
abbrev zEo (h:Heap) (z TI TO T:Addr) (f:Bool):Prop:=h.get? z=some { cls:=.type "zip",dict:=none,data:=.fields #[rawInt T,.bool f,.bool false,.ref TI,.ref TO],slots:=#[] }
section
variable {prog:Program}{w:World}{A:Around}{E:Value->Shared->Prop}{s:Shared}
theorem alive {a:Addr}{o:Obj}{Q:Option Obj->Shared->Prop}(ho:s.heap.get? a=some o) (h:Q (some o) s):wpAny (model prog w) A (loadIfAlive a) Q E s:=by
 have h':Q (s.heap.get? a) s:=by rw[ho];exact h
 exact fun _ _ _=>h'
theorem zKf {z TI TO T:Addr}{f:Bool}{o:Obj}{Q:Bool->Shared->Prop}(hz:zEo s.heap z TI TO T f) (hT:s.heap.get? T=some o) (h:∀h',zEo h' z TI TO T true->Heap.SameBut z s.heap h'->Q false { s with heap:=h' }):wpAny (model prog w) A (Builtin.SmallTypes.ownedTupleIsFree (.ref z)) Q E s:=by
 unfold Builtin.SmallTypes.ownedTupleIsFree
 refine wpAny_bind (wpAny_field hz rfl (x:=rawInt T) rfl ?_)
 show wpAny _ _ (loadIfAlive ((T:Int).toNat) >>= _) _ _ _
 rw[Int.toNat_natCast]
 refine wpAny_bind (alive hT ?_)
 simp only[Option.isNone_some,Bool.false_eq_true,if_false]
 refine wpAny_bind (wpAny_field hz rfl (x:=.bool f) rfl ?_)
 cases f with
 | true=>
  rw[if_neg (by decide)]
  exact wpAny_pure (h s.heap hz (Heap.SameBut.refl ..))
 | false=>
  rw[if_pos (by decide)]
  refine wpAny_bind (wpAny_setField_rec hz (by simp) fun g1 z1 s1=>wpAny_pure ?_)
  exact h g1 z1 s1
theorem zTf {b1 b2 f:Bool}{z TI TO T i1 i2 l1 l2:Addr}{o:Obj}{k1 k2:Nat}{xs ys:Array Value}{x y:Value}{Q:Option Value->Shared->Prop}(D:ZipApart z TI TO i1 i2 l1 l2)
  (hz:zEo s.heap z TI TO T f) (hT:s.heap.get? T=some o) (hTI:IsPair s.heap TI (.ref i1) (.ref i2)) (h1:KIt b1 s.heap i1 l1 k1) (h2:KIt b2 s.heap i2 l2 k2) (q1:KSq b1 s.heap l1 xs) (q2:KSq b2 s.heap l2 ys) (hx:xs[k1]?=some x) (hy:ys[k2]?=some y)
  (hQ:∀h',zEo h' z TI TO T true->KIt b1 h' i1 l1 (k1+1)->KIt b2 h' i2 l2 (k2+1)->IsPair h' s.heap.objs.size x y->(∀c o,c≠z->c≠i1->c≠i2->s.heap.get? c=some o->h'.get? c=some o)->Q (some (.ref s.heap.objs.size)) { s with heap:=h' }):
  wpAny (model prog w) A (pyNext (.ref z)) Q E s:=by
 have hTy:s.TypeIs (.ref z) "zip":=⟨_,hz,rfl⟩
 unfold pyNext
 refine wpAny_bind (wpAny_attempt (wpAny_callSpecial?_slot (name:=Str.ofString "__next__") hTy F.slot_zip_next (wpAny_call_entry F.slot_zip_next hTy F.entry_zip_next ?_ (F.args_zip_next_1 _))))
 refine(show wpAny _ _ (field (.ref z) 2 >>= _) _ _ _ from wpAny_bind (wpAny_field hz rfl (x:=.bool false) rfl (show wpAny _ _ (field (.ref z) 3 >>= _) _ _ _ from wpAny_bind (wpAny_field hz rfl (x:=.ref TI) rfl (wpAny_bind (wpAny_seqItems hTI rfl (show wpAny _ _ (Builtin.SmallTypes.ownedTupleIsFree (.ref z) >>= _) _ _ _ from wpAny_bind (zKf hz hT fun g1 z1 s1=>?_))))))))
 simp only[Bool.false_eq_true,if_false]
 rw[<- Array.forIn_toList]
 simp only[List.forIn_cons,List.forIn_nil]
 refine wpAny_bind (wpAny_bind (wpAny_bind (wpAny_holding (show wpAny _ _ (Builtin.SmallTypes.nextOf (.ref i1) >>= _) _ _ _ from wpAny_bind (next_item (h1.xb s1.extBut D.i1z) (q1.xb s1.extBut D.l1z) hx fun g2 h12 s2=>wpAny_pure ?_)))))
 refine wpAny_pure ?_
 dsimp only
 refine wpAny_bind (wpAny_bind (wpAny_holding (show wpAny _ _ (Builtin.SmallTypes.nextOf (.ref i2) >>= _) _ _ _ from wpAny_bind (next_item ((h2.xb s1.extBut D.i2z).xb s2.extBut D.i12.symm) ((q2.xb s1.extBut D.l2z).xb s2.extBut D.l2i1) hy fun g3 h23 s3=>wpAny_pure ?_))))
 refine wpAny_pure (wpAny_pure ?_)
 dsimp only
 have sz:g3.objs.size=s.heap.objs.size:=by rw[s3.1,s2.1,s1.1]
 refine wpAny_bind (wpAny_newTuple (s:={ s with heap:=g3 }) ?_ (by show 2<=sizeLine;decide))
 have k3:∀c o,c≠z->c≠i1->c≠i2->s.heap.get? c=some o->g3.get? c=some o:=fun c o c1 c3 c4 e=>s3.extBut _ _ c4 (s2.extBut _ _ c3 (s1.extBut _ _ c1 e))
 have z3:zEo g3 z TI TO T true:=s3.extBut _ _ D.i2z.symm (s2.extBut _ _ D.i1z.symm z1)
 have a3:KIt b1 g3 i1 l1 (k1+1):=h12.xb s3.extBut D.i12
 refine wpAny_pure ⟨_,rfl,wpAny_pure ?_⟩
 show Q (some (.ref g3.objs.size)) { s with heap:=g3.push { cls:=.type "tuple",data:=.seq #[x,y] } }
 rw[sz]
 refine hQ _ (Heap.get?_push_of_some _ z3) (a3.at fun o e=>Heap.get?_push_of_some _ e) (h23.at fun o e=>Heap.get?_push_of_some _ e) ?_ fun c o c1 c3 c4 e=>Heap.get?_push_of_some _ (k3 c o c1 c3 c4 e)
 have:=Heap.get?_push_size g3 (o:={ cls:=.type "tuple",data:=.seq #[x,y] }) rfl
 rw[sz]at this
 exact this
theorem zWi {b1 b2 f:Bool}{z TI TO T i1 i2 l1 l2:Addr}{o:Obj}{k1 k2:Nat}{xs ys:Array Value}{Q:Option Value->Shared->Prop}(hh:A.handled=none) (D:ZipApart z TI TO i1 i2 l1 l2)
  (hz:zEo s.heap z TI TO T f) (hT:s.heap.get? T=some o) (hTI:IsPair s.heap TI (.ref i1) (.ref i2)) (h1:KIt b1 s.heap i1 l1 k1) (h2:KIt b2 s.heap i2 l2 k2) (q1:KSq b1 s.heap l1 xs) (q2:KSq b2 s.heap l2 ys) (hend:xs[k1]?=none\/ys[k2]?=none)
  (hQ:∀h',(∀c o,c≠z->c≠i1->c≠i2->s.heap.get? c=some o->h'.get? c=some o)->Q none { s with heap:=h' }):wpAny (model prog w) A (pyNext (.ref z)) Q E s:=by
 have hTy:s.TypeIs (.ref z) "zip":=⟨_,hz,rfl⟩
 unfold pyNext
 have stop:∀(g:Heap) (e:Addr),(∀c o,c≠z->c≠i1->c≠i2->s.heap.get? c=some o->g.get? c=some o)->(∃o,g.get? e=some o/\o.cls=.type "StopIteration")->wpAny (model prog w) A (do
   let b <- isInstance (.ref e) (.type "StopIteration")
   if b=true then pure none else throw (.ref e)) Q E { s with heap:=g }:=fun g e kp ⟨o,ho,hc⟩=>wpAny_bind (wpAny_isInstance (b:=true) (T:="StopIteration") ⟨o,ho,hc⟩ isSubtype_stop (wpAny_pure (hQ _ kp)))
 refine wpAny_bind (wpAny_attempt (wpAny_callSpecial?_slot (name:=Str.ofString "__next__") hTy F.slot_zip_next (wpAny_call_entry F.slot_zip_next hTy F.entry_zip_next ?_ (F.args_zip_next_1 _))))
 refine(show wpAny _ _ (field (.ref z) 2 >>= _) _ _ _ from wpAny_bind (wpAny_field hz rfl (x:=.bool false) rfl (show wpAny _ _ (field (.ref z) 3 >>= _) _ _ _ from wpAny_bind (wpAny_field hz rfl (x:=.ref TI) rfl (wpAny_bind (wpAny_seqItems hTI rfl (show wpAny _ _ (Builtin.SmallTypes.ownedTupleIsFree (.ref z) >>= _) _ _ _ from wpAny_bind (zKf hz hT fun g1 z1 s1=>?_))))))))
 simp only[Bool.false_eq_true,if_false]
 rw[<- Array.forIn_toList]
 simp only[List.forIn_cons,List.forIn_nil]
 have hhi:A.in1.handled=none:=hh
 refine wpAny_bind (wpAny_bind (wpAny_bind (wpAny_holding (show wpAny _ _ (Builtin.SmallTypes.nextOf (.ref i1) >>= _) _ _ _ from wpAny_bind ?_))))
 cases hx:xs[k1]? with
 | none=>
  refine next_end hhi (h1.xb s1.extBut D.i1z) (q1.xb s1.extBut D.l1z) hx fun g2 e s2 he=>?_
  exact stop g2 e (fun c o c1 c3 _ x=>s2 _ _ c3 (s1.extBut _ _ c1 x)) he
 | some x=>
  have hy:ys[k2]?=none:=by rcases hend with h|h;rw[hx]at h;cases h;exact h
  refine next_item (h1.xb s1.extBut D.i1z) (q1.xb s1.extBut D.l1z) hx fun g2 h12 s2=>wpAny_pure ?_
  refine wpAny_pure ?_
  dsimp only
  refine wpAny_bind (wpAny_bind (wpAny_holding (show wpAny _ _ (Builtin.SmallTypes.nextOf (.ref i2) >>= _) _ _ _ from wpAny_bind (next_end hhi ((h2.xb s1.extBut D.i2z).xb s2.extBut D.i12.symm) ((q2.xb s1.extBut D.l2z).xb s2.extBut D.l2i1) hy fun g4 e s4 he=>?_))))
  exact stop g4 e (fun c o c1 c3 c4 x=>s4 _ _ c4 (s2.extBut _ _ c3 (s1.extBut _ _ c1 x))) he
end
end TS
namespace TS
open PySem
abbrev own6 (z TI TO i1 i2 S:Addr):List Addr:=[z,TI,TO,i1,i2,S]
structure ZS (b1 b2:Bool) (h0:Heap) (z TI TO i1 i2 l1 l2 S:Addr) (xs ys:Array Value) (i:Nat) (h:Heap) (Ts:List (Addr × Value × Value)):Prop where
 zip:IsZip h z TI TO .none\/∃T f o,zEo h z TI TO T f/\h.get? T=some o/\T≠S
 ti:IsPair h TI (.ref i1) (.ref i2)
 tu:∃p q,IsPair h TO p q
 k1:KIt b1 h i1 l1 i
 k2:KIt b2 h i2 l2 i
 q1:KSq b1 h l1 xs
 q2:KSq b2 h l2 ys
 kp:∀c o,h0.get? c=some o->h.get? c=some o
 len:Ts.length=i
 at_:∀(j:Nat) (t:Addr × Value × Value),Ts[j]?=some t->xs[j]?=some t.2.1/\ys[j]?=some t.2.2/\IsPair h t.1 t.2.1 t.2.2
 ord:Ts.Pairwise fun a b=>a.1<b.1
 apt:∀t∈Ts,h0.objs.size<=t.1/\t.1 ∉ own6 z TI TO i1 i2 S
 own:∀a∈own6 z TI TO i1 i2 S,h0.objs.size<=a
 sz:h0.objs.size<=h.objs.size
section
variable {prog:Program}{w:World}{A:Around}{E:Value->Shared->Prop}{s:Shared}{b1 b2:Bool}{h0:Heap}{z TI TO i1 i2 l1 l2 S:Addr}{xs ys:Array Value}{i:Nat}{Ts:List (Addr × Value × Value)}
theorem ZS.frame {h h':Heap}(x:ZS b1 b2 h0 z TI TO i1 i2 l1 l2 S xs ys i h Ts) (hS:S ∉ [z,TI,TO,i1,i2]) (n1:l1≠S) (n2:l2≠S) (hz:h.objs.size<=h'.objs.size) (k:∀b o,b≠S->h.get? b=some o->h'.get? b=some o):ZS b1 b2 h0 z TI TO i1 i2 l1 l2 S xs ys i h' Ts:=by
 simp only[List.mem_cons,List.not_mem_nil,or_false,not_or]at hS
 refine⟨?_,k _ _ (Ne.symm hS.2.1) x.ti,?_,x.k1.at fun o e=>k _ o (Ne.symm hS.2.2.2.1) e,x.k2.at fun o e=>k _ o (Ne.symm hS.2.2.2.2) e,x.q1.at fun o e=>k _ o n1 e,x.q2.at fun o e=>k _ o n2 e,fun c o e=>k c o (fun z=>?_) (x.kp c o e),x.len,fun j t e=>?_,x.ord,x.apt,x.own,Nat.le_trans x.sz hz⟩
 ·rcases x.zip with q|⟨T,f,o,q1,q2,q3⟩
  ·exact .inl (k _ _ (Ne.symm hS.1) q)
  ·exact .inr ⟨T,f,o,k _ _ (Ne.symm hS.1) q1,k _ _ q3 q2,q3⟩
 ·obtain⟨p,q,e⟩:=x.tu
  exact⟨p,q,k _ _ (Ne.symm hS.2.2.1) e⟩
 ·exact Nat.ne_of_lt (Nat.lt_of_lt_of_le (Heap.lt_size e) (x.own S (by simp))) z
 ·obtain⟨a1,a2,a3⟩:=x.at_ j t e
  have:=(x.apt t (List.mem_of_getElem? e)).2
  simp only[List.mem_cons,List.not_mem_nil,or_false,not_or]at this
  exact⟨a1,a2,k _ _ this.2.2.2.2.2 a3⟩
theorem ZS.item {Q:Option Value->Shared->Prop}{x y:Value}(g:ZS b1 b2 h0 z TI TO i1 i2 l1 l2 S xs ys i s.heap Ts) (D:ZipApart z TI TO i1 i2 l1 l2) (hS:S ∉ [z,TI,TO,i1,i2]) (hSs:S<s.heap.objs.size) (hx:xs[i]?=some x) (hy:ys[i]?=some y)
  (hQ:∀h',ZS b1 b2 h0 z TI TO i1 i2 l1 l2 S xs ys (i+1) h' (Ts++[(s.heap.objs.size,x,y)])->(∀o,s.heap.get? S=some o->h'.get? S=some o)->Q (some (.ref s.heap.objs.size)) { s with heap:=h' }):wpAny (model prog w) A (pyNext (.ref z)) Q E s:=by
 have hS':=hS
 simp only[List.mem_cons,List.not_mem_nil,or_false,not_or]at hS'
 have zl:∀a o,s.heap.get? a=some o->a<s.heap.objs.size:=fun a o e=>Heap.lt_size e
 obtain⟨p,q,hTO⟩:=g.tu
 have lz:z<s.heap.objs.size:=by
  rcases g.zip with q|⟨T,f,o,q1,_⟩
  ·exact zl _ _ q
  ·exact zl _ _ q1
 have li1:i1<s.heap.objs.size:=by obtain⟨o,e,_⟩:=g.k1;exact zl _ _ e
 have li2:i2<s.heap.objs.size:=by obtain⟨o,e,_⟩:=g.k2;exact zl _ _ e
 have lTI:=zl _ _ g.ti
 have lTO:=zl _ _ hTO
 have done:∀h':Heap,(IsZip h' z TI TO .none\/∃T f o,zEo h' z TI TO T f/\h'.get? T=some o/\T≠S)->(∃p q,IsPair h' TO p q)->KIt b1 h' i1 l1 (i+1)->KIt b2 h' i2 l2 (i+1)->IsPair h' s.heap.objs.size x y->(∀c o,c≠z->c≠TO->c≠i1->c≠i2->s.heap.get? c=some o->h'.get? c=some o)->Q (some (.ref s.heap.objs.size)) { s with heap:=h' }:=fun h' c1 c2 c3 c4 c5 kk=>by
  refine hQ h' ⟨c1,kk _ _ D.TIz D.TITO D.TIi1 D.TIi2 g.ti,c2,c3,c4,g.q1.at fun o e=>kk _ o D.l1z D.l1TO D.l1i1 D.l1i2 e,g.q2.at fun o e=>kk _ o D.l2z D.l2TO D.l2i1 D.l2i2 e,fun c o e=>?_,by rw[List.length_append,g.len];rfl,fun j t e=>?_,?_,fun t ht=>?_,g.own,?_⟩ fun o e=>kk _ o hS'.1 hS'.2.2.1 hS'.2.2.2.1 hS'.2.2.2.2 e
  ·have lc:=Heap.lt_size e
   have ne:∀a,a∈own6 z TI TO i1 i2 S->c≠a:=fun a ha=>Nat.ne_of_lt (Nat.lt_of_lt_of_le lc (g.own a ha))
   exact kk c o (ne _ (by simp)) (ne _ (by simp)) (ne _ (by simp)) (ne _ (by simp)) (g.kp c o e)
  ·rcases Nat.lt_or_ge j Ts.length with hj|hj
   ·rw[List.getElem?_append_left hj]at e
    obtain⟨a1,a2,a3⟩:=g.at_ j t e
    have:=(g.apt t (List.mem_of_getElem? e)).2
    simp only[List.mem_cons,List.not_mem_nil,or_false,not_or]at this
    exact⟨a1,a2,kk _ _ this.1 this.2.2.1 this.2.2.2.1 this.2.2.2.2.1 a3⟩
   ·rw[List.getElem?_append_right hj]at e
    have hj0:j-Ts.length=0:=by
     rcases Nat.lt_or_ge (j-Ts.length) 1 with q|q
     ·lia
     ·rw[List.getElem?_eq_none (by simpa using q)]at e;cases e
    rw[hj0]at e
    cases e
    have:j=i:=by have:=g.len;lia
    subst this
    exact⟨hx,hy,c5⟩
  ·refine List.pairwise_append.mpr ⟨g.ord,List.pairwise_singleton _ _,fun a ha b hb=>?_⟩
   rw[List.mem_singleton.mp hb]
   obtain⟨j,hj,e⟩:=List.getElem_of_mem ha
   have:=(g.at_ j a (by rw[List.getElem?_eq_getElem hj,e])).2.2
   exact zl _ _ this
  ·rcases List.mem_append.mp ht with ht|ht
   ·exact g.apt t ht
   ·rw[List.mem_singleton.mp ht]
    refine⟨g.sz,?_⟩
    simp only[List.mem_cons,List.not_mem_nil,or_false,not_or]
    exact⟨Nat.ne_of_gt lz,Nat.ne_of_gt lTI,Nat.ne_of_gt lTO,Nat.ne_of_gt li1,Nat.ne_of_gt li2,Nat.ne_of_gt hSs⟩
  ·exact Nat.le_trans g.sz (Nat.le_of_lt (Heap.lt_size c5))
 have nS:s.heap.objs.size≠S:=Nat.ne_of_gt hSs
 rcases g.zip with hz|⟨T,f,o,hz,hT,nT⟩
 ·refine zTg D hz g.ti hTO g.k1 g.k2 g.q1 g.q2 hx hy fun h' c1 c2 c3 c4 c5 kk=>?_
  exact done h' (.inr ⟨s.heap.objs.size,false,_,c1,c5,nS⟩) ⟨_,_,c2⟩ c3 c4 c5 kk
 ·refine zTf D hz hT g.ti g.k1 g.k2 g.q1 g.q2 hx hy fun h' c1 c3 c4 c5 kk=>?_
  have hT':∃o',h'.get? T=some o':=by
   by_cases e1:T=z
   ·subst e1;exact⟨_,c1⟩
   ·by_cases e2:T=i1
    ·subst e2;obtain⟨o',e',_⟩:=c3;exact⟨o',e'⟩
    ·by_cases e3:T=i2
     ·subst e3;obtain⟨o',e',_⟩:=c4;exact⟨o',e'⟩
     ·exact⟨o,kk T o e1 e2 e3 hT⟩
  obtain⟨o',hT'⟩:=hT'
  exact done h' (.inr ⟨T,true,o',c1,hT',nT⟩) ⟨p,q,kk _ _ D.TOz D.TOi1 D.TOi2 hTO⟩ c3 c4 c5 fun c o c1 _ c3 c4 e=>kk c o c1 c3 c4 e
theorem ZS.end_ {Q:Option Value->Shared->Prop}(hh:A.handled=none) (g:ZS b1 b2 h0 z TI TO i1 i2 l1 l2 S xs ys i s.heap Ts) (D:ZipApart z TI TO i1 i2 l1 l2) (hx:xs[i]?=none\/ys[i]?=none)
  (hQ:∀h',(∀c o,c≠z->c≠TO->c≠i1->c≠i2->s.heap.get? c=some o->h'.get? c=some o)->Q none { s with heap:=h' }):wpAny (model prog w) A (pyNext (.ref z)) Q E s:=by
 obtain⟨p,q,hTO⟩:=g.tu
 rcases g.zip with hz|⟨T,f,o,hz,hT,nT⟩
 ·exact zWj hh D hz g.ti hTO g.k1 g.k2 g.q1 g.q2 hx hQ
 ·exact zWi hh D hz hT g.ti g.k1 g.k2 g.q1 g.q2 hx fun h' kk=>hQ h' fun c o c1 _ c3 c4 e=>kk c o c1 c3 c4 e
theorem zPm {R:Result->Shared->Prop}(hh:A.handled=none) (D:ZipApart z TI TO i1 i2 l1 l2) (hS:S ∉ [z,TI,TO,i1,i2]) (n1:l1≠S) (n2:l2≠S) (hn:xs.size<=sizeLine) (res:Value):
  ∀(k i:Nat) (s:Shared) (Ts:List (Addr × Value × Value)) (c:Nat),min xs.size ys.size-i=k->i<=min xs.size ys.size->ZS b1 b2 h0 z TI TO i1 i2 l1 l2 S xs ys i s.heap Ts->s.heap.get? S=some { cls:=.type "list",dict:=none,data:=.seq (Ts.map fun t=>Value.ref t.1).toArray c,slots:=#[] }->
  (∀(h':Heap) (Ts':List (Addr × Value × Value)) (c':Nat),(∀c o,h0.get? c=some o->h'.get? c=some o)->h0.objs.size<=h'.objs.size->Ts'.length=min xs.size ys.size->(∀(j:Nat) (t:Addr × Value × Value),Ts'[j]?=some t->xs[j]?=some t.2.1/\ys[j]?=some t.2.2/\IsPair h' t.1 t.2.1 t.2.2)->Ts'.Pairwise (fun a b=>a.1<b.1)->(∀t∈Ts',h0.objs.size<=t.1/\t.1≠S)->
   h'.get? S=some { cls:=.type "list",dict:=none,data:=.seq (Ts'.map fun t=>Value.ref t.1).toArray c',slots:=#[] }->R (.ok (.ret res)) { s with heap:=h' })->
  codeAny (model prog w) A (.builtin "list.extend.loop" ⟨[.ref S,.ref z,res],[]⟩) R s:=by
 have hS':=hS
 simp only[List.mem_cons,List.not_mem_nil,or_false,not_or]at hS'
 have hhi:A.in1.handled=none:=hh
 intro k
 induction k with
 | zero=>
  intro i s Ts c hk hi g hSl hR
  refine codeAny_builtin F.entry_extend_loop ?_
  rw[Around.under_plainId F.plain_extend_loop _]
  show wpAny _ A.in1 (pyNext (.ref z) >>= _) _ _ s
  refine wpAny_bind (g.end_ hhi D (by
   rcases Nat.le_total xs.size ys.size with q|q
   ·exact .inl (Array.getElem?_eq_none (by first|assumption|lia))
   ·exact .inr (Array.getElem?_eq_none (by first|assumption|lia))) fun h' kk=>?_)
  refine wpAny_pure (hR h' Ts c (fun c o e=>?_) ?_ (by rw[g.len];lia) (fun j t e=>?_) g.ord (fun t ht=>?_) (kk _ _ hS'.1 hS'.2.2.1 hS'.2.2.2.1 hS'.2.2.2.2 hSl))
  ·have lc:=Heap.lt_size e
   have ne:∀a,a∈own6 z TI TO i1 i2 S->c≠a:=fun a ha=>Nat.ne_of_lt (Nat.lt_of_lt_of_le lc (g.own a ha))
   exact kk c o (ne _ (by simp)) (ne _ (by simp)) (ne _ (by simp)) (ne _ (by simp)) (g.kp c o e)
  ·have h1:=g.own S (by simp)
   exact Nat.le_trans h1 (Nat.le_of_lt (Heap.lt_size (kk _ _ hS'.1 hS'.2.2.1 hS'.2.2.2.1 hS'.2.2.2.2 hSl)))
  ·obtain⟨a1,a2,a3⟩:=g.at_ j t e
   have:=(g.apt t (List.mem_of_getElem? e)).2
   simp only[List.mem_cons,List.not_mem_nil,or_false,not_or]at this
   exact⟨a1,a2,kk _ _ this.1 this.2.2.1 this.2.2.2.1 this.2.2.2.2.1 a3⟩
  ·have:=g.apt t ht
   simp only[List.mem_cons,List.not_mem_nil,or_false,not_or]at this
   exact⟨this.1,this.2.2.2.2.2.2⟩
 | succ k ih=>
  intro i s Ts c hk hi g hSl hR
  refine codeAny_builtin F.entry_extend_loop ?_
  rw[Around.under_plainId F.plain_extend_loop _]
  show wpAny _ A.in1 (pyNext (.ref z) >>= _) _ _ s
  have e1:xs[i]?=some (xs[i]'(by first|assumption|lia)):=Array.getElem?_eq_getElem _
  have e2:ys[i]?=some (ys[i]'(by first|assumption|lia)):=Array.getElem?_eq_getElem _
  refine wpAny_bind (g.item D hS (Heap.lt_size hSl) e1 e2 fun h' g' kS=>?_)
  have hS2:=kS _ hSl
  show wpAny _ A.in1 (updateSeq S (·.push (.ref s.heap.objs.size)) >>= _) _ _ _
  refine wpAny_bind ?_
  have asz:(Ts.map fun t=>Value.ref t.1).toArray.size=i:=by simp[g.len]
  have ea:((Ts++[(s.heap.objs.size,xs[i]'(by first|assumption|lia),ys[i]'(by first|assumption|lia))]).map fun t=>Value.ref t.1).toArray=(Ts.map fun t=>Value.ref t.1).toArray.push (.ref s.heap.objs.size):=by simp
  obtain⟨c2,hu⟩:∃c2,(h'.update S (Obj.mapSeq (·.push (.ref s.heap.objs.size)))).get? S=some { cls:=.type "list",dict:=none,data:=.seq ((Ts++[(s.heap.objs.size,xs[i]'(by first|assumption|lia),ys[i]'(by first|assumption|lia))]).map fun t=>Value.ref t.1).toArray c2,slots:=#[] }:=by
   rw[ea]
   exact⟨_,Heap.get?_update_self _ hS2 rfl⟩
  refine wpAny_updateSeq hS2 rfl (wpAny_pure ⟨plainId_quiet F.plain_extend_loop _,ih (i+1) _ (Ts++[(s.heap.objs.size,xs[i]'(by first|assumption|lia),ys[i]'(by first|assumption|lia))]) c2 (by first|assumption|lia) (by first|assumption|lia) (g'.frame hS n1 n2 ?_ fun b o hb e=>?_) ?_ fun h2 Ts' c' q1 q2 q3 q4 q5 q6 q7=>?_⟩) (by rw[asz];lia) (by show((Ts.map fun t=>Value.ref t.1).toArray.push _).size<=sizeLine+1;rw[Array.size_push,asz];lia)
  ·rw[Heap.size_update];exact Nat.le_refl _
  ·exact(Heap.get?_update_other _ _ (Ne.symm hb)).trans e
  ·exact hu
  ·exact hR h2 Ts' c' q1 q2 q3 q4 q5 q6 q7
end
end TS
namespace TS
open PySem
theorem zNs:typeLookup (.type "zip") "__len__"=pure none:=by rw[typeLookup_type,builtinLookup_eq_fast];kernel_rfl
theorem zLp:typeLookup (.type "zip") "__length_hint__"=pure none:=by rw[typeLookup_type,builtinLookup_eq_fast];kernel_rfl
section
variable {prog:Program}{w:World}{A:Around}{E:Value->Shared->Prop}{s:Shared}{b1 b2:Bool}{h0:Heap}{z TI TO i1 i2 l1 l2 S:Addr}{xs ys:Array Value}{i:Nat}{Ts:List (Addr × Value × Value)}
theorem zLw {R:Result->Shared->Prop}(hh:A.handled=none) (res:Value) (c₀:Nat) (g:ZS b1 b2 h0 z TI TO i1 i2 l1 l2 S xs ys 0 s.heap []) (hz:IsZip s.heap z TI TO .none) (D:ZipApart z TI TO i1 i2 l1 l2) (hS:S ∉ [z,TI,TO,i1,i2]) (n1:l1≠S) (n2:l2≠S) (hn:xs.size<=sizeLine)
  (hl:s.heap.get? S=some { cls:=.type "list",data:=.seq #[] c₀ })
  (hR:∀(h':Heap) (Ts':List (Addr × Value × Value)) (c':Nat),(∀c o,h0.get? c=some o->h'.get? c=some o)->h0.objs.size<=h'.objs.size->Ts'.length=min xs.size ys.size->(∀(j:Nat) (t:Addr × Value × Value),Ts'[j]?=some t->xs[j]?=some t.2.1/\ys[j]?=some t.2.2/\IsPair h' t.1 t.2.1 t.2.2)->Ts'.Pairwise (fun a b=>a.1<b.1)->(∀t∈Ts',h0.objs.size<=t.1/\t.1≠S)->
   h'.get? S=some { cls:=.type "list",dict:=none,data:=.seq (Ts'.map fun t=>Value.ref t.1).toArray c',slots:=#[] }->R (.ok (.ret res)) { s with heap:=h' }):
  wpAny (model prog w) A.in1 (Builtin.List.listExtendWith (.ref S) (.ref z) res)
   (fun fin s'=>match fin with|.done f=>R (.ok f) s'|.again c'=>c'.quiet=true/\codeAny (model prog w) A c' R s') (fun e s'=>R (.error e) s') s:=by
 have hT:s.TypeIs (.ref z) "zip":=⟨_,hz,rfl⟩
 have hSz:S≠z:=fun e=>hS (by simp[e])
 have h1:Builtin.List.listSameRef (.ref S) (.ref z)=false:=by simp[Builtin.List.listSameRef,hSz]
 unfold Builtin.List.listExtendWith
 refine wpAny_bind (wpAny_typeOf hT ?_)
 rw[if_neg (by rw[h1];decide)]
 refine wpAny_bind (wpAny_pyIter_zip hz ?_)
 refine wpAny_bind (wpAny_holding ?_)
 unfold Builtin.List.listLengthHint
 refine wpAny_bind (wpAny_specialOf hT zNs ?_)
 show wpAny _ A.in1 (specialOf (Value.ref z) (Str.ofString "__length_hint__") >>= _) _ _ _
 refine wpAny_bind (wpAny_specialOf hT zLp ?_)
 refine wpAny_pure ?_
 dsimp only
 rw[if_pos (by rfl)]
 refine wpAny_bind (wpAny_rule ?_)
 have frm:∀(f:Array Value->Array Value) (h:Heap),ZS b1 b2 h0 z TI TO i1 i2 l1 l2 S xs ys 0 h []->ZS b1 b2 h0 z TI TO i1 i2 l1 l2 S xs ys 0 (h.update S (Obj.mapSeq f)) []:=fun f h q=>q.frame hS n1 n2 (by rw[Heap.size_update];exact Nat.le_refl _) fun b o hb e=>(Heap.get?_update_other _ _ (Ne.symm hb)).trans e
 unfold Builtin.List.listTouch
 refine wpAny_bind (show wpAny _ A.in1 (updateSeq S (·.push .none) >>= fun _=>updateSeq S (·.pop)) _ _ _ from wpAny_bind (wpAny_updateSeq hl rfl ?_ (by simp) (by simp)))
 have e1:=Heap.get?_update_self (Obj.mapSeq (fun x:Array Value=>x.push .none)) hl rfl
 refine wpAny_updateSeq e1 rfl ?_ (by show 1<=sizeLine;decide) (by show 0<=sizeLine+1;exact Nat.zero_le _)
 have e2:=Heap.get?_update_self (Obj.mapSeq (fun x:Array Value=>x.pop)) e1 rfl
 exact wpAny_pure ⟨plainId_quiet F.plain_extend_loop _,zPm hh D hS n1 n2 hn res _ 0 _ [] _ rfl (Nat.zero_le _) (frm _ _ (frm _ _ g)) e2 hR⟩
theorem zRc {R:Result->Shared->Prop}(hh:A.handled=none) (g:ZS b1 b2 h0 z TI TO i1 i2 l1 l2 S xs ys 0 s.heap []) (hz:IsZip s.heap z TI TO .none) (D:ZipApart z TI TO i1 i2 l1 l2) (hS:S ∉ [z,TI,TO,i1,i2]) (n1:l1≠S) (n2:l2≠S) (hn:xs.size<=sizeLine)
  (hl:s.heap.get? S=some { cls:=.type "list",data:=.seq #[] })
  (hR:∀(h':Heap) (Ts':List (Addr × Value × Value)) (c':Nat),(∀c o,h0.get? c=some o->h'.get? c=some o)->h0.objs.size<=h'.objs.size->Ts'.length=min xs.size ys.size->(∀(j:Nat) (t:Addr × Value × Value),Ts'[j]?=some t->xs[j]?=some t.2.1/\ys[j]?=some t.2.2/\IsPair h' t.1 t.2.1 t.2.2)->Ts'.Pairwise (fun a b=>a.1<b.1)->(∀t∈Ts',h0.objs.size<=t.1/\t.1≠S)->
   h'.get? S=some { cls:=.type "list",dict:=none,data:=.seq (Ts'.map fun t=>Value.ref t.1).toArray c',slots:=#[] }->R (.ok (.ret .none)) { s with heap:=h' }):
  wpAny (model prog w) A.in1 (Builtin.«list.__init__» ⟨[.ref S,.ref z],[]⟩)
   (fun fin s'=>match fin with|.done f=>R (.ok f) s'|.again c'=>c'.quiet=true/\codeAny (model prog w) A c' R s') (fun e s'=>R (.error e) s') s:=by
 have hS':=hS
 simp only[List.mem_cons,List.not_mem_nil,or_false,not_or]at hS'
 show wpAny _ A.in1 (do let old <- Builtin.List.listItems (.ref S);Builtin.List.listUpdate (.ref S) (fun _=>#[]);letGo old.toList.reverse;Builtin.List.listExtendWith (.ref S) (.ref z) .none) _ _ s
 refine wpAny_bind ?_
 unfold Builtin.List.listItems
 refine wpAny_bind (wpAny_seqItems hl rfl (wpAny_pure ?_))
 show wpAny _ A.in1 (updateSeq S (fun _=>#[]) >>= fun _=>letGo (#[]:Array Value).toList.reverse >>= fun _=>Builtin.List.listExtendWith (.ref S) (.ref z) .none) _ _ s
 refine wpAny_bind (wpAny_updateSeq hl rfl ?_)
 have hS₂:=Heap.get?_update_self (Obj.mapSeq (fun _=>(#[]:Array Value))) hl rfl
 have oth:∀b o,b≠S->s.heap.get? b=some o->(s.heap.update S (Obj.mapSeq (fun _=>(#[]:Array Value)))).get? b=some o:=fun b o hb e=>(Heap.get?_update_other _ _ (Ne.symm hb)).trans e
 refine wpAny_bind (wpAny_letGo ?_)
 exact zLw (s:={ s with heap:=s.heap.update S (Obj.mapSeq (fun _=>(#[]:Array Value))) }) hh .none _ (g.frame hS n1 n2 (by rw[Heap.size_update];exact Nat.le_refl _) oth) (oth _ _ (Ne.symm hS'.1) hz) D hS n1 n2 hn hS₂ hR
theorem zHs {Q:Value->Shared->Prop}(hh:A.handled=none) (hz:IsZip s.heap z TI TO .none) (hTI:IsPair s.heap TI (.ref i1) (.ref i2)) (hTO:∃p q,IsPair s.heap TO p q) (k1:KIt b1 s.heap i1 l1 0) (k2:KIt b2 s.heap i2 l2 0) (q1:KSq b1 s.heap l1 xs) (q2:KSq b2 s.heap l2 ys) (D:ZipApart z TI TO i1 i2 l1 l2)
  (kp:∀c o,h0.get? c=some o->s.heap.get? c=some o) (own:∀a∈[z,TI,TO,i1,i2],h0.objs.size<=a) (hsz:h0.objs.size<=s.heap.objs.size) (hn:xs.size<=sizeLine)
  (hQ:∀(h':Heap) (Ts':List (Addr × Value × Value)) (c':Nat),(∀c o,h0.get? c=some o->h'.get? c=some o)->h0.objs.size<=h'.objs.size->Ts'.length=min xs.size ys.size->(∀(j:Nat) (t:Addr × Value × Value),Ts'[j]?=some t->xs[j]?=some t.2.1/\ys[j]?=some t.2.2/\IsPair h' t.1 t.2.1 t.2.2)->Ts'.Pairwise (fun a b=>a.1<b.1)->(∀t∈Ts',h0.objs.size<=t.1/\t.1≠s.heap.objs.size)->
   h'.get? s.heap.objs.size=some { cls:=.type "list",dict:=none,data:=.seq (Ts'.map fun t=>Value.ref t.1).toArray c',slots:=#[] }->Q (.ref s.heap.objs.size) { s with heap:=h' }):wpAny (model prog w) A (call (.type "list") [.ref z]) Q E s:=by
 refine callType_codes (Q₁:=fun obj s₁=>obj=.ref s.heap.objs.size/\s₁={ s with heap:=s.heap.push { cls:=.type "list",data:=.seq #[] } }) F.called_list (F.typeCall_list_1 _) F.entry_list_init
  (code_list_new _ ⟨rfl,rfl⟩) fun obj s₁ h₁=>?_
 obtain⟨rfl,rfl⟩:=h₁
 have hl:(s.heap.push { cls:=.type "list",data:=.seq #[] }).get? s.heap.objs.size=some { cls:=.type "list",data:=.seq #[] }:=Heap.get?_push_size _ rfl
 have up:∀b o,s.heap.get? b=some o->(s.heap.push { cls:=.type "list",data:=.seq #[] }).get? b=some o:=fun b o e=>Heap.get?_push_of_some _ e
 have ne:∀b o,s.heap.get? b=some o->b≠s.heap.objs.size:=fun b o e=>Nat.ne_of_lt (Heap.lt_size e)
 obtain⟨p,q,hTO⟩:=hTO
 have nz:=ne _ _ hz
 have nI:=ne _ _ hTI
 have nO:=ne _ _ hTO
 have n1:i1≠s.heap.objs.size:=by obtain⟨o,e,_⟩:=k1;exact ne _ _ e
 have n2:i2≠s.heap.objs.size:=by obtain⟨o,e,_⟩:=k2;exact ne _ _ e
 have m1:l1≠s.heap.objs.size:=by obtain⟨o,e,_⟩:=q1;exact ne _ _ e
 have m2:l2≠s.heap.objs.size:=by obtain⟨o,e,_⟩:=q2;exact ne _ _ e
 have hS:s.heap.objs.size ∉ [z,TI,TO,i1,i2]:=by
  simp only[List.mem_cons,List.not_mem_nil,or_false,not_or]
  exact⟨nz.symm,nI.symm,nO.symm,n1.symm,n2.symm⟩
 have g:ZS b1 b2 h0 z TI TO i1 i2 l1 l2 s.heap.objs.size xs ys 0 (s.heap.push { cls:=.type "list",data:=.seq #[] }) []:=
  ⟨.inl (up _ _ hz),up _ _ hTI,⟨p,q,up _ _ hTO⟩,k1.at fun o e=>up _ o e,k2.at fun o e=>up _ o e,q1.at fun o e=>up _ o e,q2.at fun o e=>up _ o e,fun c o e=>up c o (kp c o e),rfl,(fun j t e=>by simp at e),.nil,(fun t ht=>nomatch ht),(fun a ha=>by
   simp only[List.mem_cons,List.not_mem_nil,or_false]at ha
   rcases ha with rfl|rfl|rfl|rfl|rfl|rfl
   ·exact own _ (by simp)
   ·exact own _ (by simp)
   ·exact own _ (by simp)
   ·exact own _ (by simp)
   ·exact own _ (by simp)
   ·exact hsz),Nat.le_trans hsz (by rw[Heap.size_push];exact Nat.le_succ _)⟩
 refine⟨⟨_,hl,rfl⟩,F.args_list_init_2 _ _,zRc (A:=A.in1) hh g (up _ _ hz) D hS m1 m2 hn hl fun h' Ts' c' a1 a2 a3 a4 a5 a6 a7=>?_⟩
 exact⟨rfl,hQ h' Ts' c' a1 a2 a3 a4 a5 a6 a7⟩
end
end TS
namespace L2
open PySem PySem.Spec PyProof.Rows TS
def updT (H:Hp):List (Addr × V × V)->Hp
 | []=>H
 | t::r=>updT (upd H t.1 (.tup [t.2.1,t.2.2])) r
theorem zEr:∀(Ts:List (Addr × V × V)) (H:Hp) (b:Addr),b ∉ Ts.map (·.1)->updT H Ts b=H b
 | [],_,_,_=>rfl
 | t::r,H,b,h=>by
  simp only[List.map_cons,List.mem_cons,not_or]at h
  show updT (upd H t.1 _) r b=_
  rw[zEr r _ b h.2,zAh h.1]
theorem zTe {P:Program}{w:World}{h:Heap}:∀(Ts:List (Addr × V × V)) (H:Hp),HOk P w H h->(∀t∈Ts,H t.1=none)->(Ts.map (·.1)).Nodup->(∀t∈Ts,∃u v,RelV t.2.1 u/\RelV t.2.2 v/\IsPair h t.1 u v)->HOk P w (updT H Ts) h
 | [],_,x,_,_,_=>x
 | t::r,H,x,hn,nd,al=>by
  have nd':=List.nodup_cons.mp nd
  obtain⟨u,v,ru,rv,hp⟩:=al t (.head _)
  refine zTe r _ (HOk.adopt x (hn t (.head _)) ⟨by show 2<=sizeLine;decide,[u,v],.cons ru (.cons rv .nil),⟨_,hp,rfl,_,rfl⟩⟩) (fun q hq=>?_) nd'.2 fun q hq=>al q (.tail _ hq)
  rw[zAh fun e=>nd'.1 (List.mem_map.mpr ⟨q,hq,e⟩)]
  exact hn q (.tail _ hq)
def zK5 (ta:TA):TE:=fun σ H Q=>ta σ H fun vs H1=>∃b1 b2 a b xs ys,vs=[.ref a,.ref b]/\H1 a=some (hoK b1 xs)/\H1 b=some (hoK b2 ys) /\
 ∀(Ts:List (Addr × V × V)) (l:Addr),Ts.map (·.2)=xs.zip ys->(∀t∈Ts,H1 t.1=none)->(Ts.map (·.1)).Nodup->H1 l=none->l ∉ Ts.map (·.1)->Q (.ref l) (upd (updT H1 Ts) l (.lst (Ts.map fun t=>.ref t.1)))
section
variable {X:Cx}{a b:Expr}{p p2 pos pos2:Pos}
theorem zI0:∀(l:List Addr),Vals (l.map fun t=>V.ref t) (l.map fun t=>Value.ref t)
 | []=>.nil
 | x::l=>.cons rfl (zI0 l)
theorem zLg {ta:TA}(hc:X.calm=true) (ha:PA X [a,b] ta) (hgl:Gl X "list") (hml:X.mg "list"=none) (hg:Gl X "zip") (hm:X.mg "zip"=none) (hs:starEach [a,b] X.env=[(false,eval a X.env),(false,eval b X.env)]) (hs2:starEach [b] X.env=[(false,eval b X.env)])
  (hs3:starEach [Expr.Call (.Name "zip" p2) [a,b] [] pos2] X.env=[(false,eval (.Call (.Name "zip" p2) [a,b] [] pos2) X.env)]:=by rfl):
  PE X (.Call (.Name "list" p) [.Call (.Name "zip" p2) [a,b] [] pos2] [] pos) (zK5 ta):=by
 intro pins s σ H Q I h
 refine wpAny_Call_Name_kw (zCq I hgl hml PyProof.Rows.boot_list ?_)
 refine PyProof.Rows.callWith_type1 ?_ hs3 rfl
 rw[hs3]
 show wpAny _ _ (spliced ((false,eval (.Call (.Name "zip" p2) [a,b] [] pos2) X.env)::backTo pos [])) _ _ s
 refine Calls.spliced_cons ?_
 refine Call_ (zCq I hg hm PyProof.Rows.boot_zip (PyProof.Rows.callWith_type1 (thn (ha pos2 pins s σ H _ I h) fun us s1 ⟨vs,H1,I1,r1,q1⟩=>?_) (by rw[hs,hs2]) (by rw[hs2];rfl)))
 obtain⟨b1,b2,l1,l2,xs,ys,e,ha1,hb1,q⟩:=q1
 subst e
 obtain⟨u1,u2,rfl,rfl,rfl⟩:=vals2 r1
 obtain⟨its,rv,p1,z1⟩:=I1.kSq ha1
 obtain⟨jts,rw',p2',z2⟩:=I1.kSq hb1
 refine zVf p1 p2' fun h1 c1 c2 c3 c4 c5 hk=>?_
 refine Calls.spliced_nil ?_
 have DZ:∀n:Nat,ZipOwn (n+4) (n+2) (n+3) n (n+1):=fun n=>by constructor <;> exact fun e=>absurd (show(_:Nat)=_ from e) (by first|assumption|lia)
 have out:∀c,c∈[s1.heap.objs.size+4,s1.heap.objs.size+2,s1.heap.objs.size+3,s1.heap.objs.size,s1.heap.objs.size+1]->s1.heap.objs.size<=c:=fun c hc=>by
  simp only[List.mem_cons,List.not_mem_nil,or_false]at hc
  rcases hc with rfl|rfl|rfl|rfl|rfl
  ·exact Nat.le_add_right _ _
  ·exact Nat.le_add_right _ _
  ·exact Nat.le_add_right _ _
  ·exact Nat.le_refl _
  ·exact Nat.le_add_right _ _
 have nl1:l1 ∉ [s1.heap.objs.size+4,s1.heap.objs.size+2,s1.heap.objs.size+3,s1.heap.objs.size,s1.heap.objs.size+1]:=fun hm=>by
  obtain⟨o,e,_⟩:=p1
  exact absurd (Heap.lt_size e) (Nat.not_lt.mpr (out _ hm))
 have nl2:l2 ∉ [s1.heap.objs.size+4,s1.heap.objs.size+2,s1.heap.objs.size+3,s1.heap.objs.size,s1.heap.objs.size+1]:=fun hm=>by
  obtain⟨o,e,_⟩:=p2'
  exact absurd (Heap.lt_size e) (Nat.not_lt.mpr (out _ hm))
 have sz1:s1.heap.objs.size<=h1.objs.size:=by
  have:=Heap.lt_size c1
  exact Nat.le_trans (Nat.le_add_right _ _) (Nat.le_of_lt this)
 have lx:=rv.length
 have ly:=rw'.length
 refine zHs (s:={ s1 with heap:=h1 }) (h0:=s1.heap) (I.ok.hd hc) c1 c2 ⟨_,_,c3⟩ c4 c5 (p1.at fun o e=>hk _ o e) (p2'.at fun o e=>hk _ o e) ((DZ _).apart nl1 nl2) hk out sz1 (by simpa[<- lx]using z1) fun h' Ts c kp sz len at_ ord apt hS=>?_
 have lTs:Ts.length=(xs.zip ys).length:=by rw[len,List.length_zip];simp[<- lx,<- ly]
 generalize hL:h1.objs.size=L at hS apt ⊢
 have hLs:s1.heap.objs.size<=L:=by rw[<- hL];exact sz1
 obtain⟨Us,hU1,hU2⟩:∃Us:List (Addr × V × V),Us.map (·.1)=Ts.map (·.1)/\Us.map (·.2)=xs.zip ys:=by
  refine⟨(Ts.map (·.1)).zip (xs.zip ys),?_,?_⟩
  ·rw[List.map_fst_zip];rw[List.length_map];lia
  ·rw[List.map_snd_zip];rw[List.length_map];lia
 have memU:∀t∈Us,s1.heap.objs.size<=t.1/\t.1≠L:=fun t ht=>by
  have:t.1∈Ts.map (·.1):=by rw[<- hU1];exact List.mem_map.mpr ⟨t,ht,rfl⟩
  obtain⟨r,hr,e⟩:=List.mem_map.mp this
  rw[<- e];exact apt r hr
 have fresh:∀c,s1.heap.objs.size<=c->H1 c=none:=fun c hc=>I1.hok.fresh hc
 have nd:(Us.map (·.1)).Nodup:=by
  rw[hU1]
  exact List.pairwise_map.mpr (ord.imp fun h z=>Nat.ne_of_lt h z)
 have hok0:HOk X.prog X.w H1 h':=I1.hok.kept kp
 have rel:∀t∈Us,∃u v,RelV t.2.1 u/\RelV t.2.2 v/\IsPair h' t.1 u v:=fun t ht=>by
  obtain⟨j,hj,e⟩:=List.getElem_of_mem ht
  have lU:Us.length=Ts.length:=by have:=congrArg List.length hU1;simpa using this
  obtain⟨a1,a2,a3⟩:=at_ j (Ts[j]'(by first|assumption|lia)) (List.getElem?_eq_getElem _)
  have e1:(Us.map (·.1))[j]?=(Ts.map (·.1))[j]?:=by rw[hU1]
  have e2:(Us.map (·.2))[j]?=(xs.zip ys)[j]?:=by rw[hU2]
  rw[List.getElem?_map,List.getElem?_map,List.getElem?_eq_getElem hj,List.getElem?_eq_getElem (by first|assumption|lia),e]at e1
  rw[List.getElem?_map,List.getElem?_eq_getElem hj,e]at e2
  simp at e1
  obtain⟨f1,f2⟩:=List.getElem?_zip_eq_some.mp e2.symm
  obtain⟨u,hu,ru⟩:=rv.get f1
  obtain⟨v,hv,rv'⟩:=rw'.get f2
  refine⟨u,v,ru,rv',?_⟩
  rw[e1]
  have g1:u=(Ts[j]'(by first|assumption|lia)).2.1:=by
   have:its.toArray[j]?=some u:=by simpa using hu
   rw[this]at a1;exact Option.some.inj a1
  have g2:v=(Ts[j]'(by first|assumption|lia)).2.2:=by
   have:jts.toArray[j]?=some v:=by simpa using hv
   rw[this]at a2;exact Option.some.inj a2
  rw[g1,g2];exact a3
 have hokT:=zTe Us H1 hok0 (fun t ht=>fresh _ (memU t ht).1) nd rel
 have nL:L ∉ Us.map (·.1):=fun hm=>by
  obtain⟨t,ht,e⟩:=List.mem_map.mp hm
  exact(memU t ht).2 e
 have hLn:updT H1 Us L=none:=by rw[zEr _ _ _ nL];exact fresh _ hLs
 have refs:Us.map (fun t=>V.ref t.1)=(Us.map (·.1)).map fun t=>V.ref t:=by rw[List.map_map];rfl
 have refs':Ts.map (fun t=>Value.ref t.1)=(Us.map (·.1)).map fun t=>Value.ref t:=by rw[hU1,List.map_map];rfl
 have hok:=HOk.adopt (D:=L) (o:=.lst (Us.map fun t=>.ref t.1)) hokT hLn ⟨by
  have lU:Us.length=Ts.length:=by have:=congrArg List.length hU1;simpa using this
  rw[List.length_map,lU,lTs,List.length_zip];lia,_,c,by rw[refs];exact zI0 _,by rw[hS,refs']⟩
 have keep:∀c,c<s1.heap.objs.size->upd (updT H1 Us) L (.lst (Us.map fun t=>.ref t.1)) c=H1 c:=fun c hc=>by
  rw[zAh (Nat.ne_of_lt (Nat.lt_of_lt_of_le hc hLs)),zEr _ _ _ fun hm=>by
   obtain⟨t,ht,e⟩:=List.mem_map.mp hm
   have:=(memU t ht).1
   rw[e]at this
   exact absurd hc (Nat.not_lt.mpr this)]
 have keepS:∀c u,H1 c=some u->upd (updT H1 Us) L (.lst (Us.map fun t=>.ref t.1)) c=some u:=fun c u e=>by
  rw[keep c ?_,e]
  rcases Nat.lt_or_ge c s1.heap.objs.size with q|q
  ·exact q
  ·rw[fresh c q]at e;cases e
 have I4:Inv X pins σ (upd (updT H1 Us) L (.lst (Us.map fun t=>.ref t.1))) { s1 with heap:=h' }:=by
  refine Inv.call' (s:=s1) (s':={ s1 with heap:=h' }) (ch:=[]) I1 rfl ?_ hok I1.bare fun b hb=>nomatch hb
  exact⟨fun b o e _ _ hx=>kp b o e,fun b o e _ _ hx=>⟨o.slots,kp b o e⟩,fun b o e n _=>by rw[keep b (Heap.lt_size e)];exact n,fun b o e hx=>⟨o,kp b o e⟩,
    fun b ys e=>keepS b _ e,fun b o u e=>keepS b _ e,fun b ps e=>⟨#[],by rw[keepS b _ e];simp⟩⟩
 exact⟨.ref L,_,I4,rfl,q Us L hU2 (fun t ht=>fresh _ (memU t ht).1) nd (fresh _ hLs) nL⟩
theorem qlistzip' {ta:TA}(hc:X.calm=true) (ha:SA X [a,b] ta) (hgl:Gl X "list") (hml:X.mg "list"=none) (hg:Gl X "zip") (hm:X.mg "zip"=none) (hs:starEach [a,b] X.env=[(false,eval a X.env),(false,eval b X.env)]) (hs2:starEach [b] X.env=[(false,eval b X.env)]):
  SE X (.Call (.Name "list" p) [.Call (.Name "zip" p2) [a,b] [] pos2] [] pos) (zK5 ta):=⟨zLg hc ha.h hgl hml hg hm hs hs2⟩
end
end L2
namespace L2
open PySem PySem.Spec PyProof.Rows
open DS (D Store Exn Rs SR)
section
variable {X:Cx}{K:PySem.W.Frag}{E:XE}{J:Js}{S:Store}{H:Hp}{d d1 d2:D}{v:V}
theorem zSg {l:List D}{c:Bool}(ha:AbS K J S H) (r:Rep K J H d v) (e:DS.trk S d=some (c,l)):∃a xs,v=.ref a/\H a=some (hoK c xs)/\RepL K J H l xs:=by
 cases d with
 | tup l=>cases e;obtain⟨a,xs,rfl,t,rl⟩:=r;exact⟨a,xs,rfl,t.1,rl⟩
 | lst l=>cases e;obtain⟨a,xs,rfl,t,rl⟩:=r;exact⟨a,xs,rfl,t.1,rl⟩
 | ref n=>
  obtain⟨a,ea,rfl⟩:=r
  obtain⟨c',ec,o,eo,rc⟩:=ha.at ea
  have e:(match S[n]? with|some (.lst l)=>some (false,l)|_=>none)=some (c,l):=e
  rw[ec]at e
  cases c' with
  | lst l'=>
   cases e
   obtain⟨ys,rfl,rl⟩:=rc
   exact⟨a,ys,rfl,eo,rl⟩
  | _=>cases e
 | _=>cases e
theorem zMz:∀(Ts:List (Addr × V × V)) (l m:List D) (xs ys:List V) (H:Hp),AbS K J S H->RepL K J H l xs->RepL K J H m ys->Ts.map (·.2)=xs.zip ys->(∀t∈Ts,H t.1=none)->(Ts.map (·.1)).Nodup->
  AbS K J S (updT H Ts)/\Grow J H J (updT H Ts)/\RepL K J (updT H Ts) ((l.zip m).map fun p=>.tup [p.1,p.2]) (Ts.map fun t=>.ref t.1)
 | [],l,m,xs,ys,H,ha,r1,r2,e,_,_=>by
  refine⟨ha,.refl,?_⟩
  have:(l.zip m).length=0:=by rw[List.length_zip,r1.length,r2.length,<- List.length_zip,<- e];rfl
  rw[List.length_eq_zero_iff.mp this]
  rfl
 | t::Ts,[],m,xs,ys,H,ha,r1,r2,e,_,_=>by cases r1;cases e
 | t::Ts,d::l,[],xs,ys,H,ha,r1,r2,e,_,_=>by
  cases r2
  rw[List.zip_nil_right]at e
  cases e
 | t::Ts,d::l,d'::m,xs,ys,H,ha,r1,r2,e,hn,nd=>by
  obtain⟨x,xs,rfl,rx,r1⟩:=r1
  obtain⟨y,ys,rfl,ry,r2⟩:=r2
  have e0:t.2::Ts.map (·.2)=(x,y)::xs.zip ys:=e
  injection e0 with e1 e2
  obtain⟨ta,tx,ty⟩:=t
  simp only[Prod.mk.injEq]at e1
  obtain⟨rfl,rfl⟩:=e1
  have nd':=List.nodup_cons.mp nd
  have g0:Grow J H J (upd H ta (.tup [tx,ty])):=.push (hn (ta,tx,ty) (.head _))
  have a0:AbS K J S (upd H ta (.tup [tx,ty])):=ha.push (hn (ta,tx,ty) (.head _))
  obtain⟨a1,g1,q1⟩:=zMz Ts l m xs ys _ a0 (RepL.grow g0 _ _ r1) (RepL.grow g0 _ _ r2) e2 (fun q hq=>by
   rw[zAh fun z=>nd'.1 (List.mem_map.mpr ⟨q,hq,z⟩)]
   exact hn q (.tail _ hq)) nd'.2
  refine⟨a1,g0.trans g1,?_⟩
  refine⟨.ref ta,_,rfl,Rep.grow g1 (.tup [d,d']) _ ?_,q1⟩
  refine⟨ta,_,rfl,⟨zAo,ha.out (hn (ta,tx,ty) (.head _))⟩,tx,[ty],rfl,?_,ty,[],rfl,?_,rfl⟩
  ·exact Rep.grow g0 _ _ rx
  ·exact Rep.grow g0 _ _ ry
theorem zM0 {a b:Expr}{am:DS.AM}{p p2 pos pos2:Pos}(hc:X.calm=true) (ha:DA X K E [a,b] am) (hgl:Gl X "list") (hml:X.mg "list"=none) (hg:Gl X "zip") (hm:X.mg "zip"=none) (h1:nst a=true:=by rfl) (h2:nst b=true:=by rfl):
  DF X K E (.Call (.Name "list" p) [.Call (.Name "zip" p2) [a,b] [] pos2] [] pos) (DS.eCB DS.zipT am):=by
 refine⟨(qlistzip' hc ha.h hgl hml hg hm (by rw[zBd h1,zBd h2];rfl) (by rw[zBd h2];rfl)).imp fun σ H Q ⟨env,S,J,hA,hE,q⟩=>⟨env,S,J,hA,hE,q.bind.imp fun ds S1 J1 H1 e1 a1 g1 q1 xs rx=>?_⟩⟩
 obtain⟨c,ec,k⟩:=q1.lift
 have hl:=ha.len _ _ _ _ e1
 match ds,hl with
 | [d,d'],_=>
  obtain⟨x,y,rfl,r,r'⟩:=zJ0 rx
  unfold DS.zipT at ec
  simp only at ec
  cases t1:DS.trk S1 d with
  | none=>rw[t1]at ec;cases ec
  | some p1=>
   cases t2:DS.trk S1 d' with
   | none=>rw[t1,t2]at ec;cases ec
   | some p2=>
    obtain⟨c1,l⟩:=p1
    obtain⟨c2,m⟩:=p2
    rw[t1,t2]at ec
    cases ec
    obtain⟨a',xs,rfl,f1,s1⟩:=zSg a1 r t1
    obtain⟨b',ys,rfl,f2,s2⟩:=zSg a1 r' t2
    refine⟨c1,c2,a',b',xs,ys,rfl,f1,f2,fun Ts L hz hn nd hLn nL=>?_⟩
    obtain⟨a2,g2,q2⟩:=zMz Ts l m xs ys H1 a1 s1 s2 hz hn nd
    exact k J1 (updT H1 Ts) a2 g2 L _ (by rw[zEr _ _ _ nL];exact hLn) ⟨_,rfl,q2⟩
end
end L2
namespace L2
open PySem PySem.Spec PyProof.Rows
open DS (D Store Exn Rs SR)
structure KRep (K:PySem.W.Frag) (d:D) (u:Value):Prop where
 ex:∃v,RelV v u/\∀J H,Rep K J H d v
inductive KReps (K:PySem.W.Frag):List D->List Value->Prop
 | nil:KReps K [] []
 | cons {d:D}{u:Value}{ds:List D}{us:List Value}(h:KRep K d u) (t:KReps K ds us):KReps K (d::ds) (u::us)
section
variable {K:PySem.W.Frag}
theorem zC1 {i:Int}{t:Tok}:KRep K (.int i) (.int i t):=⟨.int i,⟨t,rfl⟩,fun _ _=>rfl⟩
theorem KReps.vals:∀{ds:List D}{us:List Value},KReps K ds us->∃xs,Vals xs us/\∀J H,RepL K J H ds xs
 | _,_,.nil=>⟨[],.nil,fun _ _=>rfl⟩
 | _,_,.cons h t=>by
  obtain⟨v,r,hv⟩:=h.ex
  obtain⟨xs,rs,hx⟩:=t.vals
  exact⟨v::xs,.cons r rs,fun J H=>⟨v,xs,rfl,hv J H,hx J H⟩⟩
theorem zDu {a:Addr}{od:Option Addr}{its:Array Value}{n:Nat}{sl:Array (Option Value)}{ds:List D}(l:K.lookup a=some ⟨.type "tuple",od,.seq its n,sl⟩) (hs:its.size<=sizeLine) (h:KReps K ds its.toList):KRep K (.ktup ds) (.ref a):=by
 obtain⟨xs,rs,hx⟩:=h.vals
 exact⟨.ref a,rfl,fun J H=>⟨a,xs,rfl,⟨_,its,n,l,rfl,rfl,hs,rs⟩,hx J H⟩⟩
theorem de_k {X:Cx}{E:XE}{x:Str}{d:D}{u:Value}{pos:Pos}(hg:Gl X x) (hm:X.mg x=some u) (h:KRep K d u) (hd:(x == ("__debug__":Str))=false:=by decide):DE X K E (.Name x pos) (DS.eC d):=by
 obtain⟨v,r,hv⟩:=h.ex
 exact de_c (zQk hg hm r hd) hv
end
end L2
namespace L2
open PySem PySem.Spec PyProof.Rows
open DS (D Store Exn Rs SR)
section
variable {prog:Program}{w:World}{A:Around}{E:Value->Shared->Prop}{s:Shared}
theorem zS2 {t b:Addr}{ws:List Value}{Q:Value->Shared->Prop}(ht:IsTup s.heap t (List.toArray [])) (hb:IsTup s.heap b ws.toArray) (h:Q (.ref b) s):wpAny (model prog w) A (binaryOp .Add (.ref t) (.ref b)) Q E s:=by
 obtain⟨⟨c1,d1,a1,l1⟩,o1,k1,n1,e1⟩:=ht
 obtain⟨⟨c2,d2,a2,l2⟩,o2,k2,n2,e2⟩:=hb
 dsimp only at k1 e1 k2 e2
 cases k1;cases e1;cases k2;cases e2
 exact concat_meets ⟨_,o1,rfl⟩ ⟨_,o2,rfl⟩ noFill_tuple_add seq_tuple_add PySem.F.slot_tuple_add PySem.F.entry_tuple_add (PySem.F.args_tuple_add_2 _ _) (tuple_addW0 t b _ _ n1 n2 d1 d2 l1 l2 rfl) ⟨o1,o2,h⟩
end
section
variable {X:Cx}{K:PySem.W.Frag}
theorem zH8 (hK:X.K=K:=by rfl):OpR X (binaryOp .Add) (r2Of K DS.addE):=by
 intro pins s σ H x y v u Q I rx ry ⟨J,S,d1,d2,d,ha,r1,r2,e,k⟩
 unfold DS.addE at e
 split at e
 ·subst hK
  cases e
  obtain⟨a,xs,rfl,t1,q1⟩:=r1
  cases q1
  obtain⟨b,ys,rfl,t2,q2⟩:=id r2
  cases rx
  cases ry
  obtain⟨its,z1,p1,_⟩:=I.tuple t1.sq
  obtain⟨its2,z2,p2,_⟩:=I.tuple t2.sq
  cases z1
  exact zS2 p1 p2 ⟨.ref b,H,I,rfl,k _ H ha .refl ⟨b,ys,rfl,t2,q2⟩⟩
 ·exact zB8 hK pins s σ H x y v u Q I rx ry ⟨J,S,d1,d2,d,ha,r1,r2,e,k⟩
end
end L2
namespace L2
open PySem PySem.Spec PyProof.Rows EK
open DS (D Store Exn Rs SR lv srt dedup)
section
variable {X:Cx}{K:PySem.W.Frag}{E:XE}{J:Js}{S:Store}{H:Hp}{d d1 d2:D}{v:V}{pins:List (Addr × Obj)}{σ:St}{s:Shared}
theorem zGp (hc:X.calm=true) (hu:X.A.units+64<cLine) (hK:X.K=K:=by rfl):zBk X (.builtin "min") (cOf K DS.zFc):=by
 subst hK
 intro pins s σ H xs us Q I r ⟨J,S,ds,d,ha,rl,e,k⟩
 unfold DS.zFc at e
 split at e
 ·rename_i d0
  obtain⟨x,rfl,rx⟩:=zEj (ds:=[]) rl
  split at e
  ·rename_i d1 l e1
   split at e
   ·rename_i hs
    cases e
    obtain⟨hz,n,hn,hl⟩:=hs
    obtain⟨a,ys,rfl,hq,q⟩:=zO3 ha rx e1
    obtain⟨u,rfl,ru⟩:=vals1 r
    cases ru
    obtain⟨its,rv,pl,_⟩:=I.list hq
    obtain⟨o,ho,hcl,c,hd⟩:=pl.isList
    have hk:=zOo (J:=J) (K:=X.K) I hl q rv
    have al:A2 (Ek s.heap n) (d1::l) its.toArray.toList:=by simpa using hk
    exact zNz (items:=its.toArray) (I.ok.hd hc) ⟨o,ho,hcl,c,hd⟩ al (by first|assumption|lia) fun v h' tk hm hv kp=>zV7 (K:=X.K) (J:=J) (a:=a) I hl q rv hm hv kp fun x rx=>k x H ha .refl rx
   ·cases e
  ·cases e
 ·cases e
end
end L2
namespace L2
open PySem PySem.Spec PyProof.Rows
open DS (D Store Exn Rs SR)
section
variable {X:Cx}{K:PySem.W.Frag}
theorem zFa:OpR X (compareOp .Eq) (r2Of K DS.eqI):=by
 intro pins s σ H x y v u Q I rx ry ⟨J,S,d1,d2,d,ha,r1,r2,e,k⟩
 unfold DS.eqI at e
 split at e
 ·cases e
  obtain rfl:=r1
  obtain rfl:=r2
  obtain⟨t,rfl⟩:=rx
  obtain⟨t',rfl⟩:=ry
  exact eq_int ⟨.bl _,H,I,rfl,k _ H ha .refl rfl⟩
 ·cases e
theorem zY2:OpR X (compareOp .NotEq) (r2Of K DS.neI):=by
 intro pins s σ H x y v u Q I rx ry ⟨J,S,d1,d2,d,ha,r1,r2,e,k⟩
 unfold DS.neI at e
 split at e
 ·cases e
  obtain rfl:=r1
  obtain rfl:=r2
  obtain⟨t,rfl⟩:=rx
  obtain⟨t',rfl⟩:=ry
  exact ne_int ⟨.bl _,H,I,rfl,k _ H ha .refl rfl⟩
 ·cases e
theorem zNl:OpR X (compareOp .Lt) (r2Of K DS.ltI):=by
 intro pins s σ H x y v u Q I rx ry ⟨J,S,d1,d2,d,ha,r1,r2,e,k⟩
 unfold DS.ltI at e
 split at e
 ·cases e
  obtain rfl:=r1
  obtain rfl:=r2
  exact zZo pins s σ H _ _ v u Q I rx ry ⟨_,_,rfl,rfl,k _ H ha .refl rfl⟩
 ·cases e
theorem zM5 (hK:X.K=K:=by rfl):zBk X (.builtin "isinstance") (cOf K DS.isiT):=by
 subst hK
 intro pins s σ H xs us Q I r ⟨J,S,ds,d,ha,rl,e,k⟩
 unfold DS.isiT at e
 split at e
 ·cases e
  obtain⟨x,y,rfl,rx,ry⟩:=zJ0 rl
  obtain rfl:=ry
  obtain⟨a,ys,rfl,t,_⟩:=rx
  obtain⟨u,w,rfl,ru,rw⟩:=vals2 r
  cases ru
  cases rw
  obtain⟨_,_,_,p⟩:=(show ObjOk X.prog X.w H s.heap a (.tup ys)from I.hok a _ t.1)
  obtain⟨o,h1,h2,_⟩:=p
  exact PySem.W.kia_one PySem.W.kitx_tuple I.kIn ⟨o,h1,h2⟩ (zVg X.K (U:="tuple") (T:="tuple") (by decide) (by decide)) (fun z=>nomatch z) fun tk=>⟨.bl true,H,I.tok _,rfl,k _ H ha .refl rfl⟩
 ·cases e
end
end L2
namespace DS
open PySem (Str)
noncomputable section
open Classical
theorem zGf {n:Nat}:∀(S:Store),keeps n S S
 | []=>trivial
 | _::r=>⟨.inl rfl,zGf r⟩
theorem zKo {n:Nat}:∀{S S':Store},S.length=S'.length->(∀(i:Nat) (d:D),S'[i]?=some d->S[i]?=some d\/d.low n=true)->keeps n S S'
 | [],_,_,_=>trivial
 | a::r,[],e,_=>by simp at e
 | a::r,b::t,e,h=>⟨by
   rcases h 0 b rfl with q|q
   ·exact .inl (by simpa using q)
   ·exact .inr q,zKo (by simpa using e) fun i d q=>by simpa using h (i+1) d (by simpa using q)⟩
theorem zRl {S:Store}{d:D}(h:d.low S.length=true):fin S d S=.ok d S:=by
 unfold fin
 rw[if_pos (zGf S),if_pos h,List.take_length]
theorem zYv {S S':Store}{d:D}(e:S.length=S'.length) (k:∀(i:Nat) (d:D),S'[i]?=some d->S[i]?=some d\/d.low S.length=true) (h:d.low S.length=true):fin S d S'=.ok d S':=by
 unfold fin
 rw[if_pos (zKo e k),if_pos h,e,List.take_length]
theorem atN {l:List D}{i:Int}{k:Nat}{d:D}(h:i=(k:Int)) (e:l[k]?=some d):atL l i=some d:=by
 obtain⟨hk,_⟩:=List.getElem?_eq_some_iff.mp e
 unfold atL ixN
 rw[if_pos (by first|assumption|lia),if_pos (by first|assumption|lia)]
 show l[i.toNat]?=some d
 rw[show i.toNat=k by first|assumption|lia];exact e
theorem atM {l:List D}{i:Int}{k:Nat}{d:D}(h:i=(k:Int)-l.length) (e:l[k]?=some d):atL l i=some d:=by
 obtain⟨hk,_⟩:=List.getElem?_eq_some_iff.mp e
 unfold atL ixN
 rw[if_neg (by first|assumption|lia),if_pos (by first|assumption|lia)]
 show l[(i+l.length).toNat]?=some d
 rw[show(i+l.length).toNat=k by first|assumption|lia];exact e
theorem atL0 {d:D}{l:List D}:atL (d::l) 0=some d:=atN (k:=0) rfl rfl
theorem atL1 {d e:D}{l:List D}:atL (d::e::l) 1=some e:=atN (k:=1) rfl rfl
theorem atL2 {d e f:D}{l:List D}:atL (d::e::f::l) 2=some f:=atN (k:=2) rfl rfl
theorem atL3 {d e f g:D}{l:List D}:atL (d::e::f::g::l) 3=some g:=atN (k:=3) rfl rfl
theorem ixT {S:Store}{l:List D}{i:Int}:ixD S (.tup l) (.int i)=atL l i:=rfl
theorem ixL {S:Store}{l:List D}{i:Int}:ixD S (.lst l) (.int i)=atL l i:=rfl
theorem zOe {S:Store}{l:List D}:items S (.tup l)=some l:=rfl
theorem zOf {S:Store}{l:List D}:items S (.lst l)=some l:=rfl
theorem zKi {S:Store}{l:List D}:look S (.tup l)=some (.tup l):=rfl
theorem zR2 {S:Store}{l:List D}:look S (.lst l)=some (.lst l):=rfl
theorem zR3 {S:Store}{i:Int}:look S (.int i)=some (.int i):=rfl
theorem zV9 {S:Store}{b:Bool}:look S (.bl b)=some (.bl b):=rfl
theorem zFb {S:Store}{a b:Int}(h:sm a/\sm b):mulD S (.int a) (.int b)=some (.int (a*b)):=if_pos h
end
end DS
local macro_rules | `(tactic| simp_arith [$ls,*]) => `(tactic| simp only [DS.sSeq, DS.sSet, DS.sRet, DS.zZe, DS.zAz, DS.sIf, DS.sUnp, DS.zG3, DS.sPar, DS.zMw, DS.eVar, DS.eC, DS.eOp, DS.eUn, DS.aNil, DS.zA1, DS.eTup, DS.eLst, DS.eCB, DS.zA9, DS.eSl, DS.pNo, DS.pYes, DS.asI, DS.asB, DS.tB, DS.tAnd, DS.tOr, DS.tNot, DS.tYes, DS.eAnd, DS.eOr, DS.eNot, DS.eIf, DS.Rs.bind_ok, DS.Rs.then_ok, DS.zA7, DS.zD2, DS.gName, DS.gTup, DS.gAll, DS.zOe, DS.zOf, DS.zKi, DS.zR2, DS.zR3, DS.zV9, Option.map_some, Option.map_none, List.getElem?_cons_zero, List.getElem?_cons_succ, List.set_cons_zero, List.set_cons_succ, List.length_cons, List.length_nil, List.map_cons, List.map_nil, List.replicate, List.cons_append, List.nil_append, Nat.zero_add, Nat.reduceAdd, Nat.reduceSub, Nat.reduceLT, Nat.reduceEqDiff, if_true, if_false, DS.addD, DS.subD, DS.ixT, DS.ixL, DS.atL0, DS.atL1, DS.atL2, DS.atL3, Bool.not_true, Bool.not_false, Bool.false_eq_true, reduceIte, $ls,*])
namespace DS
open PySem (Str)
noncomputable section
open Classical
abbrev zE9:D:=.str (Str.ofString "seed")
abbrev kNum:D:=.str (Str.ofString "number")
abbrev zFg:D:=.str (Str.ofString "left")
theorem zMl {a b:String}(h:(Str.ofString a).cps≠(Str.ofString b).cps):D.str (Str.ofString a)≠D.str (Str.ofString b):=fun e=>h (by injection e with e;rw[e])
theorem ne1:zE9≠kNum:=zMl (by decide +kernel)
theorem ne2:zE9≠zFg:=zMl (by decide +kernel)
theorem ne3:kNum≠zFg:=zMl (by decide +kernel)
def zEc (seed num:Int) (m:Nat):D:=.dct false [zE9,kNum,zFg] [.int seed,.int num,.ref m]
structure DealAt (S:Store) (n m:Nat) (seed num:Int) (left:List Int):Prop where
 d:S[n]?=some (zEc seed num m)
 l:S[m]?=some (.lst (left.map D.int))
 ne:n≠m
 lo:0<=seed
 hi:seed<2147483647
section
variable {S:Store}{n m:Nat}{seed num:Int}{left:List Int}
theorem zJg (h:DealAt S n m seed num left):ixD S (.ref n) zE9=some (.int seed):=by
 unfold ixD look
 simp only[h.d]
 simp only[zEc]
 rw[if_pos (show zDv false zE9=true from rfl),look2,if_pos rfl]
theorem zOb (h:DealAt S n m seed num left):ixD S (.ref n) kNum=some (.int num):=by
 unfold ixD look
 simp only[h.d]
 simp only[zEc]
 rw[if_pos (show zDv false kNum=true from rfl),look2,if_neg ne1,look2,if_pos rfl]
theorem zOc (h:DealAt S n m seed num left):ixD S (.ref n) zFg=some (.ref m):=by
 unfold ixD look
 simp only[h.d]
 simp only[zEc]
 rw[if_pos (show zDv false zFg=true from rfl),look2,if_neg ne2,look2,if_neg ne3,look2,if_pos rfl]
theorem zN3 (h:DealAt S n m seed num left) (x:Int):putN S (.ref n) kNum (.int x)=some (S.set n (zEc seed x m)):=by
 unfold putN
 simp only[h.d]
 simp only[zEc]
 rw[if_pos ⟨rfl,by decide⟩]
 unfold put2
 rw[if_pos (by simp)]
 dsimp only
 rw[repl2,if_neg ne1,repl2,if_pos rfl,repl2,if_neg (Ne.symm ne3),repl2]
 all_goals simp
theorem zQ0 (h:DealAt S n m seed num left) (x:Int):putN S (.ref n) zE9 (.int x)=some (S.set n (zEc x num m)):=by
 unfold putN
 simp only[h.d]
 simp only[zEc]
 rw[if_pos ⟨rfl,by decide⟩]
 unfold put2
 rw[if_pos (by simp)]
 dsimp only
 rw[repl2,if_pos rfl,repl2,if_neg (Ne.symm ne1),repl2,if_neg (Ne.symm ne2),repl2]
 all_goals simp
theorem DealAt.lt (h:DealAt S n m seed num left):n<S.length:=(List.getElem?_eq_some_iff.mp h.d).1
theorem DealAt.ltm (h:DealAt S n m seed num left):m<S.length:=(List.getElem?_eq_some_iff.mp h.l).1
theorem DealAt.set_num (h:DealAt S n m seed num left) (x:Int):DealAt (S.set n (zEc seed x m)) n m seed x left:=⟨by rw[List.getElem?_set_self h.lt],by rw[List.getElem?_set_ne h.ne];exact h.l,h.ne,h.lo,h.hi⟩
theorem DealAt.set_seed (h:DealAt S n m seed num left) (x:Int) (h1:0<=x) (h2:x<2147483647):DealAt (S.set n (zEc x num m)) n m x num left:=⟨by rw[List.getElem?_set_self h.lt],by rw[List.getElem?_set_ne h.ne];exact h.l,h.ne,h1,h2⟩
theorem DealAt.set_left (h:DealAt S n m seed num left) (l:List Int):DealAt (S.set m (.lst (l.map D.int))) n m seed num l:=⟨by rw[List.getElem?_set_ne (Ne.symm h.ne)];exact h.d,by rw[List.getElem?_set_self h.ltm],h.ne,h.lo,h.hi⟩
structure Only (n m:Nat) (S S':Store):Prop where
 len:S'.length=S.length
 at_:∀k,k≠n->k≠m->S'[k]?=S[k]?
theorem Only.refl:Only n m S S:=⟨rfl,fun _ _ _=>rfl⟩
theorem Only.trans {S' S'':Store}(a:Only n m S S') (b:Only n m S' S''):Only n m S S'':=⟨b.len.trans a.len,fun k h1 h2=>(b.at_ k h1 h2).trans (a.at_ k h1 h2)⟩
theorem Only.set1 (d:D):Only n m S (S.set n d):=⟨by simp,fun k h1 _=>List.getElem?_set_ne (Ne.symm h1)⟩
theorem Only.set2 (d:D):Only n m S (S.set m d):=⟨by simp,fun k _ h1=>List.getElem?_set_ne (Ne.symm h1)⟩
abbrev zHu:TM:=(tAnd (tB (eOp eqI (eOp ixD (eVar 0) (eC kNum)) (eC (.int 0)))) (tB (eOp gtD (eCB lenB (zA1 (eOp ixD (eVar 0) (eC zFg)) aNil)) (eC (.int 0)))))
abbrev zMc:SM:=(sPut putN (eVar 0) (eC kNum) (eMt "list" popM (eOp ixD (eVar 0) (eC zFg)) aNil))
theorem zG7 (env:Env) (he:env[0]?=some (some (.ref n))):∀(k:Nat) {S:Store}{num:Int}{left:List Int},left.length=k->DealAt S n m seed num left->∃S' num' left',zAu zHu zMc (k+1) env S=.nx env S'/\DealAt S' n m seed num' left'/\Only n m S S'
 | k,S,num,left,hk,h=>by
  have e0:eVar 0 env S=.ok (.ref n) S:=by unfold eVar;rw[he]
  have eq0:eqI S (.int num) (.int 0)=some (.bl (decide (num=0))):=rfl
  have el:look S (.ref m)=some (.lst (left.map D.int)):=h.l
  have c1:tB (eOp eqI (eOp ixD (eVar 0) (eC kNum)) (eC (.int 0))) env S=.ok (decide (num=0)) S:=by simp only[tB,eOp,eC,e0,Rs.bind_ok,zOb h,zA7,eq0,asB]
  have c2:tB (eOp gtD (eCB lenB (zA1 (eOp ixD (eVar 0) (eC zFg)) aNil)) (eC (.int 0))) env S=.ok (decide ((0:Int)<(left.map D.int).length)) S:=by simp only[tB,eOp,eC,eCB,zA1,aNil,e0,Rs.bind_ok,zOc h,zA7,lenB,el,gtD,asB]
  unfold zAu
  by_cases h0:num=0
  ·by_cases hl:left=[]
   ·subst hl
    have c:zHu env S=.ok false S:=by
     unfold zHu tAnd
     rw[c1,Rs.bind_ok,decide_eq_true h0,if_pos rfl,c2]
     rfl
    rw[c,Rs.then_ok,if_neg (by decide)]
    exact⟨S,num,[],rfl,h,.refl⟩
   ·obtain⟨ls,x,rfl⟩:∃ls x,left=ls++[x]:=⟨left.dropLast,left.getLast hl,(List.dropLast_concat_getLast hl).symm⟩
    have c:zHu env S=.ok true S:=by
     unfold zHu tAnd
     rw[c1,Rs.bind_ok,decide_eq_true h0,if_pos rfl,c2,decide_eq_true (by simp)]
    have h1:=h.set_left ls
    have b:zMc env S=.nx env ((S.set m (.lst (ls.map D.int))).set n (zEc seed x m)):=by
     unfold zMc sPut eMt eOp aNil eC
     have ty:tyD S (.ref m)=some "list":=by unfold tyD;rw[el]
     have pm:popM S (.ref m) []=some (.int x,S.set m (.lst (ls.map D.int))):=by
      unfold popM
      simp only[h.l]
      simp
     have e1:eVar 0 env (S.set m (.lst (ls.map D.int)))=.ok (.ref n) (S.set m (.lst (ls.map D.int))):=by unfold eVar;rw[he]
     simp only[e0,Rs.bind_ok,Rs.then_ok,zA7,zOc h,ty,if_true,pm,zD2,e1,zN3 h1]
    rw[c,Rs.then_ok,if_pos rfl,b]
    dsimp only
    obtain⟨k,rfl⟩:∃j,k=j+1:=⟨ls.length,by simpa using hk.symm⟩
    obtain⟨S',num',left',e,hd,o⟩:=zG7 env he k (by simpa using hk) (h1.set_num x)
    exact⟨S',num',left',e,hd,(Only.set2 _).trans ((Only.set1 _).trans o)⟩
  ·have c:zHu env S=.ok false S:=by
    unfold zHu tAnd
    rw[c1,Rs.bind_ok,decide_eq_false h0,if_neg (by decide)]
   rw[c,Rs.then_ok,if_neg (by decide)]
   exact⟨S,num,left,rfl,h,.refl⟩
def zZ8:SM:=
  (sSeq (zC6 zHu zMc)
  (sSeq (sSet 2 (eOp ixD (eVar 0) (eC kNum)))
  (sSeq (sIf (tB (eOp gtD (eVar 2) (eC (.int 0)))) (sSeq (sPut putN (eVar 0) (eC kNum) (eOp zG5 (eVar 2) (eVar 1)))
  (sRet (eOp modD (eVar 2) (eVar 1)))) zAz)
  (sSeq (sSet 3 (eOp modD (eOp addD (eOp mulD (eOp ixD (eVar 0) (eC zE9)) (eC (.int 48271))) (eC (.int 7919))) (eC (.int 2147483647))))
  (sSeq (sPut putN (eVar 0) (eC zE9) (eOp modD (eOp addD (eOp mulD (eVar 3) (eC (.int 40692))) (eC (.int 104729))) (eC (.int 2147483399))))
  (sSeq (sSet 4 (eOp modD (eOp mulD (eOp ixD (eVar 0) (eC zE9)) (eOp ixD (eVar 0) (eC zE9))) (eC (.int 2147483563))))
  (sRet (eOp modD (eOp addD (eOp mulD (eOp modD (eOp mulD (eVar 3) (eVar 3)) (eC (.int 2147483629))) (eC (.int 2147483563))) (eVar 4)) (eVar 1)))))))))
theorem zEp {x:Int}(h1:0<=x) (h2:x<2147483648):sm x:=zX1 (by first|assumption|lia) (by first|assumption|lia)
theorem zKh {k:Nat}(h:m<k):(zEc seed num m).low k=true:=by
 show(lowL k [zE9,kNum,zFg] && lowL k [.int seed,.int num,.ref m])=true
 simp[lowL,D.low,h]
theorem low_ints {k:Nat}:∀(l:List Int),lowL k (l.map D.int)=true
 | []=>rfl
 | x::l=>by show(true && lowL k (l.map D.int))=true;rw[low_ints l];rfl
theorem zKv {S':Store}{seed' num':Int}{left':List Int}{d:D}(h:DealAt S n m seed num left) (h':DealAt S' n m seed' num' left') (o:Only n m S S') (hd:d.low S.length=true):fin S d S'=.ok d S':=by
 refine zYv o.len.symm (fun i e he=>?_) hd
 by_cases h1:i=n
 ·subst h1;rw[h'.d]at he;cases he;exact .inr (zKh h.ltm)
 ·by_cases h2:i=m
  ·subst h2;rw[h'.l]at he;cases he;exact .inr (low_ints left')
  ·rw[o.at_ i h1 h2]at he;exact .inl he
def Deal (S:Store) (n m:Nat):Prop:=∃seed num left,DealAt S n m seed num left
theorem zJj {a b:Int}(hb:0<b) (hs:sm b):zG5 S (.int a) (.int b)=some (.int (a.fdiv b)):=if_pos ⟨by first|assumption|lia,hs⟩
theorem zCf {a b:Int}(hb:0<b):modD S (.int a) (.int b)=some (.int (a % b)):=if_pos hb
theorem zW0 {many:Int}(hm:0<many) (hs:sm many) (h:Deal S n m):∃(r:Int) (S':Store),zAx 2 5 zZ8 [.ref n,.int many] S=.ok (.int r) S'/\0<=r/\r<many/\Deal S' n m/\Only n m S S':=by
 obtain⟨seed,num,left,h⟩:=h
 obtain⟨S1,num1,left1,ew,h1,o1⟩:=zG7 (env:=[some (.ref n),some (.int many),none,none,none]) rfl left.length rfl h
 have ew':zC6 zHu zMc [some (.ref n),some (.int many),none,none,none] S=.nx [some (.ref n),some (.int many),none,none,none] S1:=by
  rw[zF7 (n:=left.length+1) (by rw[ew];exact fun z=>nomatch z),ew]
 unfold zAx zZ8
 simp only[List.length_cons,List.length_nil,Nat.reduceAdd,if_true,List.map_cons,List.map_nil,Nat.reduceSub,List.replicate,List.cons_append,List.nil_append]
 rw[sSeq,ew']
 dsimp only
 have g:gtD S1 (.int num1) (.int 0)=some (.bl (decide (0<num1))):=rfl
 by_cases hp:0<num1
 ·have p1:=zN3 h1 (num1.fdiv many)
  have h2:=h1.set_num (num1.fdiv many)
  try simp_arith [if_true]
  simp only[zOb h1]
  try simp_arith [if_true]
  simp only[g,decide_eq_true hp]
  try simp_arith [if_true]
  simp only[sPut]
  try simp_arith [if_true]
  simp only[zJj hm hs]
  try simp_arith [if_true]
  simp only[p1]
  try simp_arith [if_true]
  simp only[zCf hm]
  try simp_arith [if_true]
  exact⟨num1 % many,_,zKv h h2 (o1.trans (.set1 _)) rfl,Int.emod_nonneg _ (by first|assumption|lia),Int.emod_lt_of_pos _ hm,⟨_,_,_,h2⟩,o1.trans (.set1 _)⟩
 ·simp_arith [if_true]
  simp only[zOb h1]
  try simp_arith [if_true]
  simp only[g,decide_eq_false hp]
  try simp_arith [if_true]
  simp only[zJg h1]
  try simp_arith [if_true]
  have s1:sm seed/\sm 48271:=⟨zEp h1.lo (by have:=h1.hi;lia),zEp (by decide) (by decide)⟩
  simp only[zFb s1]
  try simp_arith [if_true]
  simp only[zCf (show(0:Int)<2147483647 by decide)]
  try simp_arith [if_true]
  generalize ho:(seed*48271+7919) % 2147483647=one
  have o0:0<=one:=by rw[<- ho];exact Int.emod_nonneg _ (by decide)
  have o9:one<2147483647:=by rw[<- ho];exact Int.emod_lt_of_pos _ (by decide)
  simp only[sPut]
  try simp_arith [if_true]
  simp only[zFb (show sm one/\sm 40692 from⟨zEp o0 (by first|assumption|lia),zEp (by decide) (by decide)⟩)]
  try simp_arith [if_true]
  simp only[zCf (show(0:Int)<2147483399 by decide)]
  try simp_arith [if_true]
  generalize hq:(one*40692+104729) % 2147483399=sd
  have s0:0<=sd:=by rw[<- hq];exact Int.emod_nonneg _ (by decide)
  have s9:sd<2147483399:=by rw[<- hq];exact Int.emod_lt_of_pos _ (by decide)
  have p1:=zQ0 h1 sd
  have h2:=h1.set_seed sd s0 (by first|assumption|lia)
  simp only[p1]
  try simp_arith [if_true]
  simp only[zJg h2]
  try simp_arith [if_true]
  simp only[zJg h2]
  try simp_arith [if_true]
  simp only[zFb (show sm sd/\sm sd from⟨zEp s0 (by first|assumption|lia),zEp s0 (by first|assumption|lia)⟩)]
  try simp_arith [if_true]
  simp only[zCf (show(0:Int)<2147483563 by decide)]
  try simp_arith [if_true]
  simp only[zFb (show sm one/\sm one from⟨zEp o0 (by first|assumption|lia),zEp o0 (by first|assumption|lia)⟩)]
  try simp_arith [if_true]
  simp only[zCf (show(0:Int)<2147483629 by decide)]
  try simp_arith [if_true]
  generalize hw:one*one % 2147483629=w
  have w0:0<=w:=by rw[<- hw];exact Int.emod_nonneg _ (by decide)
  have w9:w<2147483629:=by rw[<- hw];exact Int.emod_lt_of_pos _ (by decide)
  simp only[zFb (show sm w/\sm 2147483563 from⟨zEp w0 (by first|assumption|lia),zEp (by decide) (by decide)⟩)]
  try simp_arith [if_true]
  simp only[zCf hm]
  try simp_arith [if_true]
  exact⟨_,_,zKv h h2 (o1.trans (.set1 _)) rfl,Int.emod_nonneg _ (by first|assumption|lia),Int.emod_lt_of_pos _ hm,⟨_,_,_,h2⟩,o1.trans (.set1 _)⟩
end
end
end DS
namespace DS
open PySem (Str)
noncomputable section
open Classical
structure AtJ (env:Env) (j:Nat) (d:D) (env':Env):Prop where
 len:env'.length=env.length
 at_:env'[j]?=some (some d)
 o:∀i:Nat,i≠j->env'[i]?=env[i]?
theorem AtJ.set {env:Env}{j:Nat}(h:j<env.length) (d:D):AtJ env j d (env.set j (some d)):=⟨by simp,by rw[List.getElem?_set_self h],fun i hi=>List.getElem?_set_ne (Ne.symm hi)⟩
theorem AtJ.more {env env1 env2:Env}{j:Nat}{d e:D}(a:AtJ env j d env1) (b:AtJ env1 j e env2):AtJ env j e env2:=⟨b.len.trans a.len,b.at_,fun i hi=>(b.o i hi).trans (a.o i hi)⟩
theorem zFn {gd:List (Nat × D)}{j:Nat}{c:TM}{e:EM}{f:D->D}{p:D->Bool}{S:Store}(hg:gOk S gd):∀(l:List D) (k:Nat) (env:Env),j<env.length->k+l.length<=most->(∀d∈l,∀env',AtJ env j d env'->c env' S=.ok (p d) S)->(∀d∈l,p d=true->∀env',AtJ env j d env'->e env' S=.ok (f d) S)->
  zDi gd (gName j) c e k l env S=.ok ((l.filter p).map f) S
 | [],k,env,_,_,_,_=>by rw[zDi,if_pos hg];rfl
 | d::l,k,env,hj,hk,hc,he=>by
  have hk':k+(l.length+1)<=most:=hk
  rw[zDi,if_pos ⟨hg,by first|assumption|lia⟩]
  have a:=AtJ.set hj d
  show(c (env.set j (some d)) S).bind _=_
  rw[hc d (.head _) _ a,Rs.bind_ok]
  have up:∀x env',AtJ (env.set j (some d)) j x env'->AtJ env j x env':=fun x env' q=>a.more q
  have r:=fun k' (h:k'+l.length<=most)=>zFn (f:=f) hg l k' (env.set j (some d)) (by simpa using hj) h (fun x hx env' q=>hc x (.tail _ hx) env' (up x env' q)) fun x hx hp env' q=>he x (.tail _ hx) hp env' (up x env' q)
  by_cases hp:p d=true
  ·rw[if_pos hp,he d (.head _) hp _ a,Rs.bind_ok,r (k+1) (by first|assumption|lia),Rs.bind_ok,List.filter_cons_of_pos hp];rfl
  ·rw[if_neg hp,r k (by first|assumption|lia),List.filter_cons_of_neg hp]
theorem comp_map {gd:List (Nat × D)}{j:Nat}{e:EM}{f:D->D}{S:Store}(hg:gOk S gd) {l:List D}{env:Env}(hj:j<env.length) (hk:l.length<=most) (he:∀d∈l,∀env',AtJ env j d env'->e env' S=.ok (f d) S):zDi gd (gName j) tYes e 0 l env S=.ok (l.map f) S:=by
 have:=zFn (c:=tYes) (p:=fun _=>true) (f:=f) (e:=e) hg l 0 env hj (by first|assumption|lia) (fun _ _ _ _=>rfl) fun d hd _=>he d hd
 rwa[List.filter_eq_self.mpr fun _ _=>rfl]at this
theorem zAt {S:Store}:gOk S []:=fun _ h=>nomatch h
theorem zOn {gd:List (Nat × D)}{i j:Nat}{b:SM}{S:Store}{f:D->D->D}(hij:i≠j) (hg:gOk S gd) {I:D->Prop}:∀(l:List D) (env:Env) (a:D),env[i]?=some (some a)->j<env.length->I a->(∀d∈l,∀env' a,env'.length=env.length->env'[i]?=some (some a)->env'[j]?=some (some d)->I a->(∀k,k≠i->k≠j->env'[k]?=env[k]?)->b env' S=.nx (env'.set i (some (f a d))) S/\I (f a d))->
  ∃env',forL gd (gName j) b l env S=.nx env' S/\env'.length=env.length/\env'[i]?=some (some (l.foldl f a))/\I (l.foldl f a)/\∀k,k≠i->k≠j->env'[k]?=env[k]?
 | [],env,a,ha,hj,hi,_=>⟨env,by rw[forL,if_pos hg],rfl,ha,hi,fun _ _ _=>rfl⟩
 | d::l,env,a,ha,hj,hi,hb=>by
  have il:i<env.length:=(List.getElem?_eq_some_iff.mp ha).1
  obtain⟨e1,i1⟩:=hb d (.head _) (env.set j (some d)) a (by simp) (by rw[List.getElem?_set_ne (Ne.symm hij)];exact ha) (by rw[List.getElem?_set_self hj]) hi fun k _ hk=>List.getElem?_set_ne (Ne.symm hk)
  obtain⟨env',e2,l2,a2,i2,o2⟩:=zOn hij hg l ((env.set j (some d)).set i (some (f a d))) (f a d) (by rw[List.getElem?_set_self (by simpa using il)]) (by simpa using hj) i1 fun x hx env' a' hl h1 h2 h3 h4=>hb x (.tail _ hx) env' a' (by simpa using hl) h1 h2 h3 fun k k1 k2=>by
   rw[h4 k k1 k2,List.getElem?_set_ne (Ne.symm k1),List.getElem?_set_ne (Ne.symm k2)]
  refine⟨env',?_,by simpa using l2,a2,i2,fun k k1 k2=>by rw[o2 k k1 k2,List.getElem?_set_ne (Ne.symm k1),List.getElem?_set_ne (Ne.symm k2)]⟩
  rw[forL,if_pos hg]
  show(match b (env.set j (some d)) S with|.nx e S1=>forL gd (gName j) b l e S1|.ct e S1=>forL gd (gName j) b l e S1|.bk e S1=>.nx e S1|q=>q)=_
  rw[e1]
  exact e2
end
end DS
namespace DS
open PySem (Str)
noncomputable section
open Classical
def absI (x:Int):Int:=if 0-x > x then 0-x else x
abbrev eAbs:EM:=eCB max2B (zA1 (eVar 0) (zA1 (eOp subD (eC (.int 0)) (eVar 0)) aNil))
abbrev zPd (i j:Nat):SM:=sSet i (eOp modD (eOp addD (eOp mulD (eVar i) (eC (.int 48271))) (eOp modD (eVar j) (eC (.int 2147483629)))) (eC (.int 2147483647)))
abbrev zVy (i:Nat):EM:=zB0 1 [] (iVal (eVar i)) (gName 0) (tB (eOp geD (eVar 0) (eOp powD (eC (.int 10)) (eC (.int 18))))) (eVar 0)
abbrev zPy (i j:Nat):SM:=sRet (zRq [zE9,kNum,zFg] (zA1 (eVar j) (zA1 (eC (.int 0)) (zA1 (eNew (eUn revL (zVy i))) aNil))))
theorem zS1 {S:Store}{env:Env}(ns:List Int) (h:ns.length<=most):zDi [] (gName 0) tYes eAbs 0 (ns.map D.int) (compEnv 1 [] env) S=.ok ((ns.map absI).map D.int) S:=by
 have:=comp_map (gd:=[]) (j:=0) (e:=eAbs) (f:=fun d=>match d with|.int x=>.int (absI x)|d=>d) (S:=S) (l:=ns.map D.int) (env:=compEnv 1 [] env) zAt (by simp[compEnv]) (by simpa using h) fun d hd env' a=>by
  obtain⟨x,_,rfl⟩:=List.mem_map.mp hd
  have e0:∀S,eVar 0 env' S=.ok (.int x) S:=fun S=>by unfold eVar;rw[a.at_]
  unfold eAbs eCB zA1 eOp aNil eC
  simp only[e0,Rs.bind_ok,subD,zA7,max2B]
  rfl
 rw[this,List.map_map,List.map_map]
 rfl
theorem zP3 {S:Store}{env:Env}(i:Nat) (ns:List Int) (hi:env[i]?=some (some (.lst (ns.map D.int)))) (h:ns.length<=most):zVy i env S=.ok (.lst ((ns.filter fun x=>decide ((10:Int) ^ 18<=x)).map D.int)) S:=by
 unfold zVy zB0 iVal
 have e0:eVar i env S=.ok (.lst (ns.map D.int)) S:=by unfold eVar;rw[hi]
 rw[e0,Rs.bind_ok,show zDj S (.lst (ns.map D.int))=some ⟨ns.map D.int,[]⟩from rfl,zA7,Rs.bind_ok]
 have:=zFn (gd:=[]) (j:=0) (c:=tB (eOp geD (eVar 0) (eOp powD (eC (.int 10)) (eC (.int 18))))) (e:=eVar 0) (f:=id) (p:=fun d=>match d with|.int x=>decide ((10:Int) ^ 18<=x)|_=>false) (S:=S) zAt (ns.map D.int) 0 (compEnv 1 [] env) (by simp[compEnv]) (by simpa using h) (fun d hd env' a=>by
  obtain⟨x,_,rfl⟩:=List.mem_map.mp hd
  have e0:∀S,eVar 0 env' S=.ok (.int x) S:=fun S=>by unfold eVar;rw[a.at_]
  have pw:powD S (.int 10) (.int 18)=some (.int ((10:Int) ^ 18)):=by
   show(if(0:Int)<=18/\(18:Int)<=1000000/\(10:Int).natAbs<2 ^ 64 then some (D.int ((10:Int) ^ (18:Int).toNat))else none)=_
   rw[if_pos (by decide)];rfl
  unfold tB eOp eC
  simp only[e0,Rs.bind_ok,pw,zA7,geD,asB]) (fun d hd hp env' a=>by
  unfold eVar;rw[a.at_];rfl)
 rw[this,Rs.bind_ok,List.map_id]
 congr 2
 exact List.filter_map
theorem zRi {S:Store}{env:Env}{i j k:Nat}(hij:i≠j) (hik:i≠k) (hjk:j≠k) {ns:List Int}{a0:Int}(h1:env[i]?=some (some (.lst (ns.map D.int)))) (h2:env[j]?=some (some (.int a0))) (hk:k<env.length) (l0:0<=a0) (l1:a0<2147483647):
  ∃env' seed,sFor (iVal (eVar i)) (gName k) (zPd j k) env S=.nx env' S/\env'.length=env.length/\env'[i]?=some (some (.lst (ns.map D.int)))/\env'[j]?=some (some (.int seed))/\0<=seed/\seed<2147483647:=by
 have e0:eVar i env S=.ok (.lst (ns.map D.int)) S:=by unfold eVar;rw[h1]
 obtain⟨env',e1,l2,a2,⟨seed,es,s0,s1⟩,o2⟩:=zOn (gd:=[]) (i:=j) (j:=k) (b:=zPd j k) (S:=S) (f:=fun a d=>match a,d with|.int a,.int d=>.int ((a*48271+d % 2147483629) % 2147483647)|a,_=>a) hjk zAt (I:=fun d=>∃x:Int,d=.int x/\0<=x/\x<2147483647) (ns.map D.int) env (.int a0) h2 hk ⟨a0,rfl,l0,l1⟩ fun d hd env' a hl q1 q2 q3 q4=>by
  obtain⟨x,_,rfl⟩:=List.mem_map.mp hd
  obtain⟨y,rfl,y0,y1⟩:=q3
  refine⟨?_,_,rfl,Int.emod_nonneg _ (by decide),Int.emod_lt_of_pos _ (by decide)⟩
  have v1:∀S,eVar j env' S=.ok (.int y) S:=fun S=>by unfold eVar;rw[q1]
  have v2:∀S,eVar k env' S=.ok (.int x) S:=fun S=>by unfold eVar;rw[q2]
  unfold zPd sSet eOp eC
  simp only[v1,v2,Rs.bind_ok,Rs.then_ok,zA7,zFb (show sm y/\sm 48271 from⟨zEp y0 (by first|assumption|lia),zEp (by decide) (by decide)⟩),zCf (show(0:Int)<2147483629 by decide),addD,zCf (show(0:Int)<2147483647 by decide)]
 refine⟨env',seed,?_,l2,by rw[o2 i hij hik];exact h1,by rw[a2,es],s0,s1⟩
 unfold sFor iVal
 rw[e0,Rs.bind_ok,show zDj S (.lst (ns.map D.int))=some ⟨ns.map D.int,[]⟩from rfl,zA7,Rs.then_ok]
 exact e1
theorem zX5 {S:Store}{env:Env}{i j:Nat}{ns:List Int}{seed:Int}(h1:env[i]?=some (some (.lst (ns.map D.int)))) (h2:env[j]?=some (some (.int seed))) (s0:0<=seed) (s1:seed<2147483647) (hl:ns.length<=most):
  ∃S',zPy i j env S=.rt (.ref S.length) S'/\Deal S' S.length (S.length+1)/\S'.length=S.length+2/\∀k,k<S.length->S'[k]?=S[k]?:=by
 have v2:∀S,eVar j env S=.ok (.int seed) S:=fun S=>by unfold eVar;rw[h2]
 have rv:∀S (l:List D),revL S (.lst l)=some (.lst l.reverse):=fun _ _=>rfl
 have lk:((S++[D.dct false [] []])++[D.lst ((ns.filter fun x=>decide ((10:Int) ^ 18<=x)).map D.int).reverse])[S.length]?=some (D.dct false [] []):=by simp
 refine⟨((S++[D.dct false [] []])++[D.lst ((ns.filter fun x=>decide ((10:Int) ^ 18<=x)).map D.int).reverse]).set S.length (.dct false [zE9,kNum,zFg] [.int seed,.int 0,.ref (S++[D.dct false [] []]).length]),?_,?_,?_,?_⟩
 ·unfold zPy sRet zRq eNew eUn zA1 aNil eC
  simp only[v2,Rs.bind_ok,zP3 i ns h1 hl,rv,zA7,lk,if_true,Rs.then_ok]
 ·refine⟨seed,0,(ns.filter fun x=>decide ((10:Int) ^ 18<=x)).reverse,?_,?_,by first|assumption|lia,s0,s1⟩
  ·simp[zEc]
  ·simp
 ·simp
 ·intro k hk
  rw[List.getElem?_set_ne (by first|assumption|lia),List.getElem?_append_left (by simp;lia),List.getElem?_append_left hk]
theorem zRz {ns:List Int}{lo hi:Option Int}:cutL (ns.map D.int) lo hi=(cutL ns lo hi).map D.int:=by
 unfold cutL
 simp[List.map_drop,List.map_take]
end
end DS
namespace DS
open PySem (Str)
noncomputable section
open Classical
def BB (k:Nat) (x:Int):Prop:=x.natAbs<2 ^ k
theorem BB.mul {i j:Nat}{x y:Int}(h:BB i x) (h':BB j y):BB (i+j) (x*y):=by
 unfold BB at *
 rw[Int.natAbs_mul,Nat.pow_add]
 exact Nat.mul_lt_mul_of_lt_of_le h (Nat.le_of_lt h') (Nat.two_pow_pos j)
theorem BB.mono {i j:Nat}{x:Int}(h:BB i x) (k:i<=j):BB j x:=Nat.lt_of_lt_of_le h (Nat.pow_le_pow_right (by decide) k)
theorem BB.add {i j:Nat}{x y:Int}(h:BB i x) (h':BB j y):BB (max i j+1) (x+y):=by
 have a:=h.mono (Nat.le_max_left i j)
 have b:=h'.mono (Nat.le_max_right i j)
 unfold BB at *
 rw[Nat.pow_succ]
 lia
theorem BB.neg {i:Nat}{x:Int}(h:BB i x):BB i (-x):=by unfold BB at *;rwa[Int.natAbs_neg]
theorem BB.sub {i j:Nat}{x y:Int}(h:BB i x) (h':BB j y):BB (max i j+1) (x-y):=by
 rw[Int.sub_eq_add_neg];exact h.add h'.neg
theorem BB.sm {i:Nat}{x:Int}(h:BB i x) (k:i<=4000):sm x:=Nat.lt_of_lt_of_le h (Nat.pow_le_pow_right (by decide) (by first|assumption|lia))
theorem BB.of {k:Nat}{x:Int}(h1:-(2 ^ k:Int)<x) (h2:x<2 ^ k):BB k x:=by
 unfold BB
 have:((2 ^ k:Nat):Int)=2 ^ k:=by norm_cast
 lia
theorem BB.lit {k:Nat}{x:Int}(h:Nat.ble (x.natAbs+1) (2 ^ k)=true):BB k x:=Nat.le_of_ble_eq_true h
theorem zAy {S:Store}{i j:Nat}{x y:Int}(h:BB i x) (h':BB j y) (hi:i<=4000:=by decide) (hj:j<=4000:=by decide):mulD S (.int x) (.int y)=some (.int (x*y)):=zFb ⟨h.sm hi,h'.sm hj⟩
theorem zAq {np nl:Nat}{b:SM}{ds:List D}{S:Store}{d:D}(hl:ds.length=np) (h:b (ds.map some++List.replicate (nl-np) none) S=.rt d S) (hd:d.low S.length=true):zAx np nl b ds S=.ok d S:=by
 unfold zAx
 rw[if_pos hl,h]
 exact zRl hd
end
end DS
namespace DS
open PySem (Str)
noncomputable section
open Classical
def zPe:SM:=
  (sSeq (sSet 1 (zB0 1 [] (iVal (eSl slD (eVar 0) pNo (pYes (eC (.int 63))))) (gName 0) tYes eAbs))
  (sSeq (sSet 2 (eC (.int 7919)))
  (sSeq (sFor (iVal (eVar 1)) (gName 3) (zPd 2 3)) (zPy 1 2))))
theorem zRw {S:Store}{ns:List Int}(h:ns.length<=63):∃S',zHt 1 4 zPe [.klst (ns.map D.int)] S=.ok (.ref S.length) S'/\Deal S' S.length (S.length+1)/\S'.length=S.length+2/\∀k,k<S.length->S'[k]?=S[k]?:=by
 have hl:((cutL ns none (some 63)).map absI).length<=most:=by
  have:(cutL ns none (some 63)).length<=ns.length:=by unfold cutL;rw[List.length_take,List.length_drop];lia
  have m63:63<=most:=by decide
  rw[List.length_map];lia
 have sl:slD S (.klst (ns.map D.int)) none (some 63)=some (.lst ((cutL ns none (some 63)).map D.int)):=by
  show some (D.lst (cutL (ns.map D.int) none (some 63)))=_
  rw[zRz]
 have c1:=zS1 (S:=S) (env:=[some (.klst (ns.map D.int)),none,none,none]) (cutL ns none (some 63)) (by rw[List.length_map]at hl;exact hl)
 have w1:zDj S (.lst ((cutL ns none (some 63)).map D.int))=some ⟨(cutL ns none (some 63)).map D.int,[]⟩:=rfl
 unfold zHt zPe
 simp only[List.length_cons,List.length_nil,Nat.reduceAdd,if_true,List.map_cons,List.map_nil,Nat.reduceSub,List.replicate,List.cons_append,List.nil_append]
 obtain⟨env',seed,e1,l1,a1,b1,s0,s1⟩:=zRi (S:=S) (env:=[some (.klst (ns.map D.int)),some (.lst (((cutL ns none (some 63)).map absI).map D.int)),some (.int 7919),none]) (i:=1) (j:=2) (k:=3) (by decide) (by decide) (by decide) rfl rfl (by simp) (by decide) (by decide)
 obtain⟨S',e2,d2,l2,o2⟩:=zX5 (S:=S) a1 b1 s0 s1 hl
 refine⟨S',?_,d2,l2,o2⟩
 have st:sSeq (sSet 1 (zB0 1 [] (iVal (eSl slD (eVar 0) pNo (pYes (eC (.int 63))))) (gName 0) tYes eAbs)) (sSeq (sSet 2 (eC (.int 7919))) (sSeq (sFor (iVal (eVar 1)) (gName 3) (zPd 2 3)) (zPy 1 2))) [some (.klst (ns.map D.int)),none,none,none] S=.rt (.ref S.length) S':=by
  simp only[sSeq,sSet,zB0,iVal,eSl,pYes,pNo,eC,eOp,eVar,List.getElem?_cons_zero,List.getElem?_cons_succ,Rs.bind_ok,zA7,Option.map_some,asI,sl,w1,c1,Rs.then_ok,List.set_cons_zero,List.set_cons_succ,addD]
  simp only[e1,e2]
 rw[st]
end
end DS
namespace DS
open PySem (Str)
noncomputable section
open Classical
theorem zOm {gd:List (Nat × D)}{j:Nat}{b:SM}{I:Nat->Env->Store->Prop}(hg:∀i env S,I i env S->gOk S gd):∀(l:List D) (i:Nat) (env:Env) (S:Store),(∀k d env S,l[k]?=some d->I (i+k) env S->∃env' S',b (env.set j (some d)) S=.nx env' S'/\I (i+k+1) env' S')->I i env S->∃env' S',forL gd (gName j) b l env S=.nx env' S'/\I (i+l.length) env' S'
 | [],i,env,S,_,h=>⟨env,S,by rw[forL,if_pos (hg i env S h)],h⟩
 | d::l,i,env,S,st,h=>by
  obtain⟨env1,S1,e1,h1⟩:=st 0 d env S rfl h
  obtain⟨env2,S2,e2,h2⟩:=zOm hg l (i+1) env1 S1 (fun k d env S hk hi=>by
   have:=st (k+1) d env S (by simpa using hk) (by rw[show i+(k+1)=i+1+k by first|assumption|lia];exact hi)
   rwa[show i+(k+1)+1=i+1+k+1 by first|assumption|lia]at this) h1
  refine⟨env2,S2,?_,by rw[List.length_cons,show i+(l.length+1)=i+1+l.length by first|assumption|lia];exact h2⟩
  rw[forL,if_pos (hg i env S h),show gName j S d env=some (env.set j (some d))from rfl]
  dsimp only
  rw[e1]
  exact e2
structure Grow (n m:Nat) (S S':Store):Prop where
 len:S.length<=S'.length
 at_:∀k,k<S.length->k≠n->k≠m->S'[k]?=S[k]?
section
variable {n m:Nat}{S S' S'':Store}
theorem Grow.trans (a:Grow n m S S') (b:Grow n m S' S''):Grow n m S S'':=⟨Nat.le_trans a.len b.len,fun k h h1 h2=>(b.at_ k (Nat.lt_of_lt_of_le h a.len) h1 h2).trans (a.at_ k h h1 h2)⟩
theorem Only.grow (a:Only n m S S'):Grow n m S S':=⟨by rw[a.len];exact Nat.le_refl _,fun k _ h1 h2=>a.at_ k h1 h2⟩
theorem Grow.app (T:Store):Grow n m S (S++T):=⟨by simp,fun k h _ _=>List.getElem?_append_left h⟩
theorem Grow.set {c:Nat}{d:D}(a:Grow n m S S') (h:S.length<=c):Grow n m S (S'.set c d):=⟨by simpa using a.len,fun k hk h1 h2=>by rw[List.getElem?_set_ne (by first|assumption|lia)];exact a.at_ k hk h1 h2⟩
theorem Deal.lt (h:Deal S n m):n<S.length/\m<S.length:=by
 obtain⟨_,_,_,h⟩:=h
 exact⟨h.lt,h.ltm⟩
theorem Deal.app (h:Deal S n m) (T:Store):Deal (S++T) n m:=by
 have l:=h.lt
 obtain⟨a,b,c,h⟩:=h
 exact⟨a,b,c,⟨by rw[List.getElem?_append_left l.1];exact h.d,by rw[List.getElem?_append_left l.2];exact h.l,h.ne,h.lo,h.hi⟩⟩
theorem Deal.set {k:Nat}{d:D}(h:Deal S n m) (h1:k≠n) (h2:k≠m):Deal (S.set k d) n m:=by
 obtain⟨a,b,c,h⟩:=h
 exact⟨a,b,c,⟨by rw[List.getElem?_set_ne h1];exact h.d,by rw[List.getElem?_set_ne h2];exact h.l,h.ne,h.lo,h.hi⟩⟩
theorem zIa {n:Nat}:∀{S S':Store},S.length<=S'.length->(∀(i:Nat) (d:D),i<S.length->S'[i]?=some d->S[i]?=some d\/d.low n=true)->keeps n S S'
 | [],_,_,_=>trivial
 | a::r,[],e,_=>by simp at e
 | a::r,b::t,e,h=>⟨by
   rcases h 0 b (by simp) rfl with q|q
   ·exact .inl (by simpa using q)
   ·exact .inr q,zIa (by simpa using e) fun i d hi q=>by simpa using h (i+1) d (by simpa using hi) (by simpa using q)⟩
theorem zRm {d:D}(h:Deal S n m) (h':Deal S' n m) (g:Grow n m S S') (hd:d.low S.length=true):∃S'',fin S d S'=.ok d S''/\Deal S'' n m/\Only n m S S'':=by
 have l:=h.lt
 refine⟨S'.take S.length,?_,?_,?_⟩
 ·unfold fin
  rw[if_pos,if_pos hd]
  refine zIa g.len fun i e hi he=>?_
  obtain⟨_,_,_,h'⟩:=h'
  by_cases h1:i=n
  ·subst h1;rw[h'.d]at he;cases he;exact .inr (zKh l.2)
  ·by_cases h2:i=m
   ·subst h2;rw[h'.l]at he;cases he;exact .inr (low_ints _)
   ·rw[g.at_ i hi h1 h2]at he;exact .inl he
 ·obtain⟨a,b,c,h'⟩:=h'
  exact⟨a,b,c,⟨by rw[List.getElem?_take_of_lt l.1];exact h'.d,by rw[List.getElem?_take_of_lt l.2];exact h'.l,h'.ne,h'.lo,h'.hi⟩⟩
 ·refine⟨by rw[List.length_take];have:=g.len;lia,fun k h1 h2=>?_⟩
  by_cases hk:k<S.length
  ·rw[List.getElem?_take_of_lt hk];exact g.at_ k hk h1 h2
  ·rw[List.getElem?_eq_none (by rw[List.length_take];lia),List.getElem?_eq_none (by first|assumption|lia)]
theorem zM6 {np nl:Nat}{b:SM}{ds:List D}{d:D}(hl:ds.length=np) (h:b (ds.map some++List.replicate (nl-np) none) S=.rt d S') (h0:Deal S n m) (h1:Deal S' n m) (o:Grow n m S S') (hd:d.low S.length=true):∃S'',zAx np nl b ds S=.ok d S''/\Deal S'' n m/\Only n m S S'':=by
 obtain⟨S'',e,a,b'⟩:=zRm h0 h1 o hd
 refine⟨S'',?_,a,b'⟩
 unfold zAx
 rw[if_pos hl,h]
 exact e
end
theorem zPv {k:Int}(h0:0<=k) (h:k<1000000):zJ3 [.int k]=some ⟨(List.range k.toNat).map fun(i:Nat)=>.int (i:Int),[]⟩:=by
 show(if fits62 k=true then some (Walk.mk (zGa 0 k) [])else none)=_
 rw[if_pos (by unfold fits62;exact decide_eq_true ⟨by first|assumption|lia,by first|assumption|lia⟩)]
 unfold zGa
 simp
theorem zNu {α:Type}[BEq α] [LawfulBEq α]:∀{l m:List α},l.Nodup->(∀x∈l,x∈m)->l.length<=m.length
 | [],_,_,_=>Nat.zero_le _
 | a::l,m,h,hm=>by
  have hn:=List.nodup_cons.mp h
  have am:=hm a (.head _)
  have:=zNu (l:=l) (m:=m.erase a) hn.2 fun x hx=>(List.mem_erase_of_ne fun z=>hn.1 (by subst z;exact hx)).mpr (hm x (.tail _ hx))
  rw[List.length_erase_of_mem am]at this
  have:0<m.length:=List.length_pos_of_mem am
  rw[List.length_cons];lia
end
end DS
namespace DP
open DS
noncomputable section
open Classical
abbrev Pt:=Int × Int
abbrev cel (p:Pt):D:=.tup [.int p.1,.int p.2]
def crs (a b c:Pt):Int:=(b.1-a.1)*(c.2-a.2)-(b.2-a.2)*(c.1-a.1)
def sgn (x:Int):Int:=if 0<x then 1 else if x<0 then -1 else 0
def BP (p:Pt):Prop:=BB 100 p.1/\BB 100 p.2
def popS:List Pt->Pt->List Pt
 | b::a::r,c=>if crs a b c<=0 then popS (a::r) c else b::a::r
 | st,_=>st
def lturns (cs:List Pt):List Pt:=(cs.foldl (fun st c=>c::popS st c) []).reverse
theorem zW7 {x:Int}:decide (sgn x<=0)=decide (x<=0):=by
 apply decide_eq_decide.mpr
 unfold sgn
 split
 ·lia
 ·split <;> lia
theorem zEu {c:Pt}:∀(st:List Pt),(∀p∈popS st c,p∈st)/\(popS st c).length<=st.length
 | []=>⟨fun p h=>h,Nat.le_refl _⟩
 | [_]=>⟨fun p h=>h,Nat.le_refl _⟩
 | b::a::r=>by
  rw[popS]
  split
  ·obtain⟨h1,h2⟩:=zEu (a::r)
   exact⟨fun p h=>.tail _ (h1 p h),Nat.le_succ_of_le h2⟩
  ·exact⟨fun p h=>h,Nat.le_refl _⟩
theorem zDr {k:Nat}:∀(l:List Pt),lowL k (l.map cel)=true
 | []=>rfl
 | x::l=>by show((cel x).low k && lowL k (l.map cel))=true;rw[zDr l];rfl
theorem zP8 {p q:Pt}(h:cel p=cel q):p=q:=by
 unfold cel at h
 simp at h
 exact Prod.ext h.1 h.2
theorem zSx (p:Pt):lv 1 (cel p):=⟨_,rfl,fun x hx=>by
 rcases List.mem_cons.mp hx with rfl|hx
 ·exact⟨_,rfl⟩
 ·exact⟨p.2,List.mem_singleton.mp hx⟩⟩
theorem zU2 (cs:List Pt):∃rs:List Pt,srt (dedup (cs.map cel))=rs.map cel/\rs.Nodup/\(∀p,p∈rs <-> p∈cs)/\(rs.map cel).Pairwise dle:=by
 have al:∀x∈srt (dedup (cs.map cel)),∃p∈cs,x=cel p:=fun x hx=>by
  have:=mem_dedup.mp ((zBx _).mem_iff.mp hx)
  obtain⟨p,hp,e⟩:=List.mem_map.mp this
  exact⟨p,hp,e.symm⟩
 obtain⟨rs,e1⟩:∃rs:List Pt,srt (dedup (cs.map cel))=rs.map cel:=by
  generalize srt (dedup (cs.map cel))=l at al
  induction l with
  | nil=>exact⟨[],rfl⟩
  | cons x l ih=>
   obtain⟨p,_,rfl⟩:=al x (.head _)
   obtain⟨rs,e⟩:=ih fun y hy=>al y (.tail _ hy)
   exact⟨p::rs,by rw[e];rfl⟩
 refine⟨rs,e1,?_,fun p=>?_,?_⟩
 ·have:(rs.map cel).Nodup:=by rw[<- e1];exact(zBx _).nodup_iff.mpr zEz
  exact(List.pairwise_map.mp this).imp fun {a b} h z=>h (by rw[z])
 ·have:cel p∈rs.map cel <-> cel p∈cs.map cel:=by rw[<- e1,(zBx _).mem_iff,mem_dedup]
  constructor
  ·intro h
   obtain⟨q,hq,e⟩:=List.mem_map.mp (this.mp (List.mem_map.mpr ⟨p,h,rfl⟩))
   rw[<- zP8 e];exact hq
  ·intro h
   obtain⟨q,hq,e⟩:=List.mem_map.mp (this.mpr (List.mem_map.mpr ⟨p,h,rfl⟩))
   rw[<- zP8 e];exact hq
 ·rw[<- e1]
  exact zK7 (n:=1) fun y hy=>by
   obtain⟨p,_,e⟩:=List.mem_map.mp (mem_dedup.mp hy)
   rw[<- e];exact zSx p
theorem zSy {cs:List Pt}:(lturns cs).length<=cs.length:=by
 have:∀(cs st:List Pt),(cs.foldl (fun st c=>c::popS st c) st).length<=cs.length+st.length:=by
  intro cs
  induction cs with
  | nil=>intro st;simp
  | cons c cs ih=>
   intro st
   have h:=ih (c::popS st c)
   have h2:=(zEu (c:=c) st).2
   simp only[List.foldl_cons,List.length_cons]at h ⊢
   lia
 have h:=this cs []
 unfold lturns
 rw[List.length_reverse]
 simpa using h
theorem zRy {l:List D}:cutL l none (some (-1))=l.dropLast:=by
 have e1:sIx l.length 0 none=0:=rfl
 have e2:sIx l.length l.length (some (-1))=l.length-1:=by
  show(if(-1:Int)<0 then(-1+(l.length:Int)).toNat else min (-1:Int).toNat l.length)=_
  rw[if_pos (by decide)];lia
 unfold cutL
 rw[e1,e2,List.drop_zero,List.dropLast_eq_take,Nat.sub_zero]
theorem zQw {a b:Int}(ha:0<a) (h:0<=a*b):0<=b:=by
 rcases(show b<0\/0<=b by first|assumption|lia)with q|q
 ·have:=Int.mul_neg_of_pos_of_neg ha q;lia
 ·exact q
theorem ang {x1 x2 y1 y2 z1 z2:Int}(hx:0<x1\/(x1=0/\0<x2)) (hy:0<y1\/(y1=0/\0<y2)) (hz:0<z1\/(z1=0/\0<=z2)) (h1:0<=x1*y2-x2*y1) (h2:0<=y1*z2-y2*z1):0<=x1*z2-x2*z1:=by
 rcases hy with y|⟨y,y'⟩
 ·have e:y1*(x1*z2-x2*z1)=x1*(y1*z2-y2*z1)+z1*(x1*y2-x2*y1):=by grind
  have p1:0<=x1*(y1*z2-y2*z1):=Int.mul_nonneg (by first|assumption|lia) h2
  have p2:0<=z1*(x1*y2-x2*y1):=Int.mul_nonneg (by first|assumption|lia) h1
  exact zQw y (by rw[e];exact Int.add_nonneg p1 p2)
 ·subst y
  have z0:z1=0:=by
   rcases hz with z|z
   ·have:=Int.mul_pos y' z;lia
   ·exact z.1
  subst z0
  have p1:0<=x1*z2:=Int.mul_nonneg (by first|assumption|lia) (by first|assumption|lia)
  lia
theorem opp {a1 a2 q1 q2 b1 b2:Int}(ha:a1<0\/(a1=0/\a2<0)) (hq:0<q1\/(q1=0/\0<q2)) (e:a1*q2=a2*q1) (h:0<b1*a2-b2*a1):b1*q2-b2*q1<0:=by
 rcases hq with q|⟨q,q'⟩
 ·rcases(show b1*q2-b2*q1<0\/0<=b1*q2-b2*q1 by first|assumption|lia)with z|z
  ·exact z
  ·have i:a1*(b1*q2-b2*q1)=q1*(b1*a2-b2*a1):=by
    have:a1*(b1*q2-b2*q1)=b1*(a1*q2)-b2*q1*a1:=by grind
    rw[this,e];grind
   have p1:=Int.mul_pos q h
   have p2:a1*(b1*q2-b2*q1)<=0:=Int.mul_nonpos_of_nonpos_of_nonneg (by first|assumption|lia) z
   lia
 ·subst q
  have a0:a1=0:=by
   rcases ha with a|a
   ·have:=Int.mul_neg_of_neg_of_pos a q';lia
   ·exact a.1
  subst a0
  have a2n:a2<0:=by first|assumption|lia
  rcases(show b1<0\/0<=b1 by first|assumption|lia)with b|b
  ·have:=Int.mul_neg_of_neg_of_pos b q';lia
  ·have:=Int.mul_nonpos_of_nonneg_of_nonpos b (Int.le_of_lt a2n);lia
def plt (p q:Pt):Prop:=p.1<q.1\/(p.1=q.1/\p.2<q.2)
theorem zN8 {p q r:Pt}(h:plt p q) (h':plt q r):plt p r:=by unfold plt at *;lia
theorem zE7 {p:Pt}(h:plt p p):False:=by unfold plt at h;lia
theorem zF8 {p q:Pt}(h:plt p q) (h':plt q p):False:=zE7 (zN8 h h')
theorem far {a b d c:Pt}(h1:plt a b) (h2:plt b d) (h3:plt b c) (t1:0<=crs a b d) (t2:0<=crs b d c):0<=crs a b c:=by
 have e1:crs a b d=(b.1-a.1)*(d.2-b.2)-(b.2-a.2)*(d.1-b.1):=by unfold crs;grind
 have e2:crs b d c=(d.1-b.1)*(c.2-b.2)-(d.2-b.2)*(c.1-b.1):=by unfold crs;grind
 have e3:crs a b c=(b.1-a.1)*(c.2-b.2)-(b.2-a.2)*(c.1-b.1):=by unfold crs;grind
 unfold plt at *
 rw[e3]
 exact ang (by first|assumption|lia) (by first|assumption|lia) (by first|assumption|lia) (e1 ▸ t1) (e2 ▸ t2)
theorem skip {a b c p:Pt}(h1:plt a b) (h2:plt a c) (h3:p=a\/plt a p) (t1:crs a b c<=0) (t2:0<=crs a b p):0<=crs a c p:=by
 have t1':0<=(c.1-a.1)*(b.2-a.2)-(c.2-a.2)*(b.1-a.1):=by unfold crs at t1;grind
 unfold crs at *
 unfold plt at *
 refine ang (y1:=b.1-a.1) (y2:=b.2-a.2) (by first|assumption|lia) (by first|assumption|lia) ?_ t1' t2
 rcases h3 with h|h
 ·subst h;lia
 ·lia
theorem zTk {a b c p:Pt}(h1:plt a b) (h2:plt b c) (h3:plt p b) (t1:0<crs a b c) (t2:0<=crs a b p):0<=crs b c p:=by
 have e1:crs a b c=(b.1-a.1)*(c.2-b.2)-(b.2-a.2)*(c.1-b.1):=by unfold crs;grind
 have e2:crs a b p=(b.1-p.1)*(b.2-a.2)-(b.2-p.2)*(b.1-a.1):=by unfold crs;grind
 have e3:crs b c p=(b.1-p.1)*(c.2-b.2)-(b.2-p.2)*(c.1-b.1):=by unfold crs;grind
 unfold plt at *
 rw[e3]
 exact ang (y1:=b.1-a.1) (y2:=b.2-a.2) (by first|assumption|lia) (by first|assumption|lia) (by first|assumption|lia) (e2 ▸ t2) (by have:=e1 ▸ t1;lia)
def Ok (P:List Pt):List Pt->Prop
 | b::a::r=>plt a b/\(∀p∈P,0<=crs a b p)/\(∀z r',r=z::r'->0<crs z a b)/\Ok P (a::r)
 | _=>True
theorem Ok.tail {P:List Pt}{b:Pt}{r:List Pt}(h:Ok P (b::r)):Ok P r:=by
 match r,h with
 | [],_=>trivial
 | _::_,h=>exact h.2.2.2
theorem zSo {P:List Pt}{c:Pt}(hc:∀p∈P,plt p c):∀(st:List Pt),(∀p∈st,p∈P)->Ok P st->(∀b r,st=b::r->∀p∈P,(p=b\/plt b p)->0<=crs b c p)->st≠[]->
  ∃b r,popS st c=b::r/\(b::r) <:+ st/\Ok P (b::r)/\(∀p∈P,(p=b\/plt b p)->0<=crs b c p)/\(∀a r',r=a::r'->0<crs a b c)
 | [],_,_,_,h=>absurd rfl h
 | [b],_,o,t,_=>⟨b,[],rfl,List.suffix_refl _,o,t b [] rfl,fun a r' e=>nomatch e⟩
 | b::a::r,hm,o,t,_=>by
  rw[popS]
  split
  ·rename_i q
   have ap:a∈P:=hm a (.tail _ (.head _))
   obtain⟨b',r',e1,s1,o1,t1,u1⟩:=zSo hc (a::r) (fun p hp=>hm p (.tail _ hp)) o.tail (fun b2 r2 e p hp hb=>by
    cases e
    exact skip o.1 (hc a ap) hb q (o.2.1 p hp)) (by simp)
   exact⟨b',r',e1,s1.trans (List.suffix_cons b _),o1,t1,u1⟩
  ·rename_i q
   exact⟨b,a::r,rfl,List.suffix_refl _,o,t b _ rfl,fun a' r' e=>by cases e;lia⟩
theorem zNp {P:List Pt}{c:Pt}:∀(r:List Pt) (b:Pt),Ok P (b::r)->(∀a r',r=a::r'->0<=crs a b c)->plt b c->Ok (P++[c]) (b::r)
 | [],_,_,_,_=>trivial
 | a::r,b,o,t,h=>by
  obtain⟨o1,o2,o3,o4⟩:=o
  refine⟨o1,fun p hp=>?_,o3,zNp r a o4 (fun z r' e=>?_) (zN8 o1 h)⟩
  ·rcases List.mem_append.mp hp with hp|hp
   ·exact o2 p hp
   ·rw[List.mem_singleton.mp hp];exact t a r rfl
  ·subst e
   exact far o4.1 o1 (zN8 o1 h) (Int.le_of_lt (o3 z r' rfl)) (t a _ rfl)
structure Inv (P st:List Pt):Prop where
 ok:Ok P st
 sub:st.reverse.Sublist P
 top:∀b r,st=b::r->∀p∈P,p=b\/plt p b
 bot:∀r b,st=r++[b]->∀p∈P,p=b\/plt b p
 ne:P≠[]->st≠[]
theorem zRb {P st:List Pt}{c:Pt}(h:Inv P st) (hc:∀p∈P,plt p c):Inv (P++[c]) (c::popS st c):=by
 have ms:∀p∈st,p∈P:=fun p hp=>h.sub.subset (List.mem_reverse.mpr hp)
 have topc:∀b r,c::popS st c=b::r->∀p∈P++[c],p=b\/plt p b:=fun b r e p hp=>by
  injection e with e _
  subst e
  rcases List.mem_append.mp hp with hp|hp
  ·exact .inr (hc p hp)
  ·exact .inl (List.mem_singleton.mp hp)
 by_cases hn:st=[]
 ·subst hn
  have pn:P=[]:=Classical.byContradiction fun z=>h.ne z rfl
  subst pn
  refine⟨trivial,.refl _,topc,fun r b e p hp=>?_,fun _=>by simp⟩
  match r,e with
  | [],e=>
   simp[popS]at e hp
   exact .inl (by rw[hp,<- e])
  | _::_,e=>simp[popS]at e
 ·obtain⟨b,r,e,sf,o,t,u⟩:=zSo hc st ms h.ok (fun b r e p hp hb=>by
   have tp:=h.top b r e p hp
   have:p=b:=by
    rcases hb with hb|hb
    ·exact hb
    ·rcases tp with q|q
     ·exact q
     ·exact absurd hb fun z=>zF8 z q
   subst this
   unfold crs;grind) hn
  have bp:b∈P:=ms b (sf.subset (.head _))
  have botS:∀r' b',b::r=r'++[b']->∀p∈P,p=b'\/plt b' p:=fun r' b' e'=>by
   obtain⟨s,hs⟩:=sf
   exact h.bot (s++r') b' (by rw[<- hs,e',List.append_assoc])
  rw[e]
  refine⟨⟨hc b bp,fun p hp=>?_,u,zNp r b o (fun a r' e=>Int.le_of_lt (u a r' e)) (hc b bp)⟩,?_,by rw[<- e];exact topc,fun r' b' e' p hp=>?_,fun _=>by simp⟩
  ·rcases List.mem_append.mp hp with hp|hp
   ·by_cases q:p=b\/plt b p
    ·exact t p hp q
    ·have pb:plt p b:=by
      have:p≠b/\¬ plt b p:=⟨fun z=>q (.inl z),fun z=>q (.inr z)⟩
      have ne:¬ (p.1=b.1/\p.2=b.2):=fun z=>this.1 (Prod.ext z.1 z.2)
      have:=this.2
      unfold plt at *;lia
     match r,u,o,botS with
     | [],_,_,botS=>exact absurd (botS [] b rfl p hp) q
     | a::r',u,o,_=>exact zTk o.1 (hc b bp) pb (u a r' rfl) (o.2.1 p hp)
   ·rw[List.mem_singleton.mp hp];unfold crs;grind
  ·rw[List.reverse_cons]
   exact((sf.sublist.reverse).trans h.sub).append (.refl _)
  ·match r',e' with
   | [],e'=>simp at e'
   | x::r',e'=>
    injection e' with e1 e2
    rcases List.mem_append.mp hp with hp|hp
    ·exact botS r' b' e2 p hp
    ·rw[List.mem_singleton.mp hp]
     right
     have:b'∈b::r:=by rw[e2];simp
     exact hc b' (ms b' (sf.subset this))
theorem zOi:∀(cs P st:List Pt),Inv P st->(P++cs).Pairwise plt->Inv (P++cs) (cs.foldl (fun st c=>c::popS st c) st)
 | [],P,st,h,_=>by simpa using h
 | c::cs,P,st,h,hp=>by
  have e:P++c::cs=(P++[c])++cs:=by simp
  have s:=zRb (c:=c) h fun p hp'=>(List.pairwise_append.mp hp).2.2 p hp' c (.head _)
  rw[e,List.foldl_cons]
  exact zOi cs (P++[c]) _ s (e ▸ hp)
structure Way (lt:Pt->Pt->Prop) (P L:List Pt):Prop where
 sub:L.Sublist P
 two:∀i a b,L[i]?=some a->L[i+1]?=some b->lt a b/\∀p∈P,0<=crs a b p
 three:∀i a b c,L[i]?=some a->L[i+1]?=some b->L[i+2]?=some c->0<crs a b c
 fst:∀a,L[0]?=some a->∀p∈P,p=a\/lt a p
 lst:∀a,L[L.length-1]?=some a->∀p∈P,p=a\/lt p a
 ne:P≠[]->L≠[]
theorem zSu {P:List Pt}:∀(st:List Pt),Ok P st->∀(i:Nat) a b,st[i+1]?=some a->st[i]?=some b->plt a b/\∀p∈P,0<=crs a b p
 | [],_,i,a,b,h,_=>by simp at h
 | [_],_,i,a,b,h,_=>by simp at h
 | y::x::r,o,0,a,b,h,h'=>by
  simp at h h'
  subst h h'
  exact⟨o.1,o.2.1⟩
 | y::x::r,o,i+1,a,b,h,h'=>zSu (x::r) o.tail i a b (by simpa using h) (by simpa using h')
theorem zKe {P:List Pt}:∀(st:List Pt),Ok P st->∀(i:Nat) a b c,st[i+2]?=some a->st[i+1]?=some b->st[i]?=some c->0<crs a b c
 | [],_,i,a,b,c,h,_,_=>by simp at h
 | [_],_,i,a,b,c,h,_,_=>by simp at h
 | [_,_],_,i,a,b,c,h,_,_=>by simp at h
 | z::y::x::r,o,0,a,b,c,h,h',h''=>by
  simp at h h' h''
  subst h h' h''
  exact o.2.2.1 x r rfl
 | z::y::x::r,o,i+1,a,b,c,h,h',h''=>zKe (y::x::r) o.tail i a b c (by simpa using h) (by simpa using h') (by simpa using h'')
theorem zSa {P:List Pt}(hp:P.Pairwise plt):Way plt P (lturns P):=by
 have h:=zOi P [] [] ⟨trivial,.refl _,(fun b r e=>nomatch e),(fun r b e=>by simp at e),fun z=>absurd rfl z⟩ (by simpa using hp)
 rw[List.nil_append]at h
 unfold lturns
 generalize P.foldl (fun st c=>c::popS st c) []=st at h
 have rv:∀(i:Nat) a,st.reverse[i]?=some a->i<st.length/\st[st.length-1-i]?=some a:=fun i a e=>by
  have l:i<st.length:=by have:=(List.getElem?_eq_some_iff.mp e).1;simpa using this
  rw[List.getElem?_reverse l]at e
  exact⟨l,e⟩
 refine⟨h.sub,fun i a b ha hb=>?_,fun i a b c ha hb hc=>?_,fun a ha p hp=>?_,fun a ha p hp=>?_,fun z=>by simpa using h.ne z⟩
 ·obtain⟨l1,ha⟩:=rv i a ha
  obtain⟨l2,hb⟩:=rv _ b hb
  exact zSu st h.ok (st.length-1-(i+1)) a b (by rw[<- ha];congr 1;lia) hb
 ·obtain⟨l1,ha⟩:=rv i a ha
  obtain⟨l2,hb⟩:=rv _ b hb
  obtain⟨l3,hc⟩:=rv _ c hc
  exact zKe st h.ok (st.length-1-(i+2)) a b c (by rw[<- ha];congr 1;lia) (by rw[<- hb];congr 1;lia) hc
 ·obtain⟨l,ha⟩:=rv 0 a ha
  have hn:st≠[]:=fun z=>by subst z;simp at l
  have ga:st.getLast hn=a:=by rw[List.getLast_eq_getElem];exact(List.getElem?_eq_some_iff.mp ha).2
  refine h.bot st.dropLast a ?_ p hp
  rw[<- ga];exact(List.dropLast_concat_getLast hn).symm
 ·rw[List.length_reverse]at ha
  obtain⟨l,ha⟩:=rv _ a ha
  have hn:st≠[]:=fun z=>by subst z;simp at l
  obtain⟨b,r,rfl⟩:=List.exists_cons_of_ne_nil hn
  simp at ha
  subst ha
  exact h.top b r rfl p hp
def ng (p:Pt):Pt:=(-p.1,-p.2)
theorem zL4 {a b c:Pt}:crs (ng a) (ng b) (ng c)=crs a b c:=by unfold crs ng;grind
theorem zV3 {a:Pt}:ng (ng a)=a:=by simp[ng]
theorem zSp {c:Pt}:∀(st:List Pt),popS (st.map ng) (ng c)=(popS st c).map ng
 | []=>rfl
 | [_]=>rfl
 | b::a::r=>by
  show(if crs (ng a) (ng b) (ng c)<=0 then popS (ng a::r.map ng) (ng c)else ng b::ng a::r.map ng)=(if crs a b c<=0 then popS (a::r) c else b::a::r).map ng
  rw[zL4]
  split
  ·exact zSp (a::r)
  ·rfl
theorem zO1 {cs:List Pt}:lturns (cs.map ng)=(lturns cs).map ng:=by
 have:∀(cs st:List Pt),(cs.map ng).foldl (fun st c=>c::popS st c) (st.map ng)=(cs.foldl (fun st c=>c::popS st c) st).map ng:=by
  intro cs
  induction cs with
  | nil=>exact fun st=>rfl
  | cons c cs ih=>
   intro st
   rw[List.map_cons,List.foldl_cons,List.foldl_cons,zSp]
   exact ih (c::popS st c)
 unfold lturns
 rw[show([]:List Pt)=([]:List Pt).map ng from rfl,this,List.map_reverse]
 rfl
theorem plt_ng {a b:Pt}:plt (ng a) (ng b) <-> plt b a:=by unfold plt ng;dsimp only;lia
theorem zWk {P:List Pt}(hp:P.Pairwise fun a b=>plt b a):Way (fun a b=>plt b a) P (lturns P):=by
 have w:=zSa (P:=P.map ng) (List.pairwise_map.mpr (hp.imp fun h=>plt_ng.mpr h))
 rw[zO1]at w
 have at':∀(i:Nat) a,(lturns P)[i]?=some a->((lturns P).map ng)[i]?=some (ng a):=fun i a h=>by rw[List.getElem?_map,h];rfl
 have inj:∀a b:Pt,ng a=ng b->a=b:=fun a b h=>by rw[<- zV3 (a:=a),h,zV3]
 refine⟨?_,fun i a b ha hb=>?_,fun i a b c ha hb hc=>?_,fun a ha p hp=>?_,fun a ha p hp=>?_,fun z=>?_⟩
 ·have:=w.sub.map ng
  rw[List.map_map,List.map_map,show ng ∘ ng=id from funext fun a=>zV3,List.map_id,List.map_id]at this
  exact this
 ·obtain⟨h1,h2⟩:=w.two i _ _ (at' i a ha) (at' _ b hb)
  exact⟨plt_ng.mp h1,fun p hp=>by rw[<- zL4];exact h2 _ (List.mem_map.mpr ⟨p,hp,rfl⟩)⟩
 ·rw[<- zL4];exact w.three i _ _ _ (at' i a ha) (at' _ b hb) (at' _ c hc)
 ·rcases w.fst _ (at' 0 a ha) (ng p) (List.mem_map.mpr ⟨p,hp,rfl⟩)with q|q
  ·exact .inl (inj _ _ q)
  ·exact .inr (plt_ng.mp q)
 ·rcases w.lst (ng a) (by rw[List.length_map];exact at' _ a ha) (ng p) (List.mem_map.mpr ⟨p,hp,rfl⟩)with q|q
  ·exact .inl (inj _ _ q)
  ·exact .inr (plt_ng.mp q)
 ·have:=w.ne (by simpa using z)
  simpa using this
theorem zMa {lt:Pt->Pt->Prop}{P L:List Pt}(w:Way lt P L) (as:∀a b,lt a b->lt b a->False) (h:∃x∈P,∃y∈P,x≠y):2<=L.length:=by
 obtain⟨x,hx,y,hy,ne⟩:=h
 match L,w with
 | [],w=>exact absurd rfl (w.ne fun z=>by rw[z]at hx;cases hx)
 | [a],w=>
  exfalso
  have q:∀p∈P,p=a:=fun p hp=>by
   rcases w.fst a rfl p hp with z|z
   ·exact z
   ·rcases w.lst a rfl p hp with z'|z'
    ·exact z'
    ·exact(as _ _ z z').elim
  exact ne (by rw[q x hx,q y hy])
 | _::_::r,_=>simp
theorem zWd {p q:Pt}:blt (cel p) (cel q)=decide (plt p q):=by
 unfold cel
 rw[blt,zB2,zB2]
 by_cases h1:p.1=q.1
 ·rw[if_pos (by rw[h1])]
  by_cases h2:p.2=q.2
  ·rw[if_pos (by rw[h2]),bltL]
   exact(decide_eq_false fun z=>by unfold plt at z;lia).symm
  ·rw[if_neg fun z=>h2 (by injection z),blt]
   apply decide_eq_decide.mpr
   unfold plt;lia
 ·rw[if_neg fun z=>h1 (by injection z),blt]
  apply decide_eq_decide.mpr
  unfold plt;lia
theorem zPw {rs:List Pt}(nd:rs.Nodup) (h:(rs.map cel).Pairwise dle):rs.Pairwise plt:=by
 have:=List.pairwise_map.mp h
 refine(this.and nd).imp fun {a b} ⟨h1,h2⟩=>?_
 unfold dle at h1
 rw[zWd]at h1
 have:=of_decide_eq_false h1
 have ne:¬ (a.1=b.1/\a.2=b.2):=fun z=>h2 (Prod.ext z.1 z.2)
 unfold plt at *
 lia
theorem zRs {n:Nat}{a:D}(h:lv n a):dle a a:=zHv h
theorem zJc {n:Nat}:∀(l:List D) (d:D),lv n d->(∀x∈l,lv n x)->(minF d l=d\/minF d l∈l)/\dle (minF d l) d/\∀x∈l,dle (minF d l) x
 | [],d,hd,_=>⟨.inl rfl,zRs hd,fun x hx=>nomatch hx⟩
 | y::l,d,hd,hl=>by
  have hy:=hl y (.head _)
  have hl':∀x∈l,lv n x:=fun x hx=>hl x (.tail _ hx)
  have e:minF d (y::l)=minF (if blt y d=true then y else d) l:=rfl
  rw[e]
  by_cases q:blt y d=true
  ·rw[if_pos q]
   obtain⟨m1,m2,m3⟩:=zJc l y hy hl'
   have lm:lv n (minF y l):=by
    rcases m1 with z|z
    ·rw[z];exact hy
    ·exact hl' _ z
   refine⟨.inr ?_,zL1 lm hy hd m2 (zPc hy hd q),fun x hx=>?_⟩
   ·rcases m1 with z|z
    ·rw[z];exact .head _
    ·exact .tail _ z
   ·rcases List.mem_cons.mp hx with rfl|hx
    ·exact m2
    ·exact m3 x hx
  ·rw[if_neg q]
   obtain⟨m1,m2,m3⟩:=zJc l d hd hl'
   have lm:lv n (minF d l):=by
    rcases m1 with z|z
    ·rw[z];exact hd
    ·exact hl' _ z
   refine⟨?_,m2,fun x hx=>?_⟩
   ·rcases m1 with z|z
    ·exact .inl z
    ·exact .inr (.tail _ z)
   ·rcases List.mem_cons.mp hx with rfl|hx
    ·exact zL1 lm hd hy m2 (Bool.eq_false_iff.mpr q)
    ·exact m3 x hx
theorem zO0 {l:List Int}:∀x∈l.map D.int,lv 0 x:=fun x hx=>by obtain⟨p,_,rfl⟩:=List.mem_map.mp hx;exact⟨p,rfl⟩
theorem zR0 {S:Store}{xs:List Int}(hl:xs.length<=61) (hn:xs≠[]):∃v∈xs,minB S [.lst (xs.map D.int)]=some (.int v)/\∀x∈xs,v<=x:=by
 match xs,hl,hn with
 | c::cs,hl,_=>
  obtain⟨m1,m2,m3⟩:=zJc (n:=0) (cs.map D.int) (.int c) ⟨c,rfl⟩ zO0
  obtain⟨b,hb,eb⟩:∃b∈c::cs,minF (.int c) (cs.map D.int)=.int b:=by
   rcases m1 with z|z
   ·exact⟨c,.head _,z⟩
   ·obtain⟨b,hb,e⟩:=List.mem_map.mp z
    exact⟨b,.tail _ hb,e.symm⟩
  refine⟨b,hb,?_,fun x hx=>?_⟩
  ·show(if sortable (.int c::cs.map D.int)then some (minF (.int c) (cs.map D.int))else none)=_
   rw[if_pos ⟨by simp at hl ⊢;lia,0,by decide,fun x hx=>zO0 (l:=c::cs) x hx⟩,eb]
  ·rw[eb]at m2 m3
   have:dle (.int b) (.int x):=by
    rcases List.mem_cons.mp hx with rfl|hx
    ·exact m2
    ·exact m3 _ (List.mem_map.mpr ⟨x,hx,rfl⟩)
   unfold dle at this
   rw[blt]at this
   have:=of_decide_eq_false this
   lia
theorem zIe:∀(l:List Pt),zDf (l.map cel)=true
 | []=>rfl
 | x::l=>by show(true && zDf (l.map cel))=true;rw[zIe l];rfl
theorem zL3:∀(l:List Pt),depL (l.map cel)<=60
 | []=>Nat.zero_le _
 | x::l=>by
  show max (D.dep (cel x)) (depL (l.map cel))<=60
  have:D.dep (cel x)=1:=by simp[D.dep,depL]
  have:=zL3 l
  lia
theorem zVl {S:Store}{l:List Pt}{p:Pt}(h:p∈l):inD S (cel p) (.tup (l.map cel))=some (.bl true):=by
 unfold inD inO
 simp only[zKi]
 rw[if_pos ⟨rfl,zIe l,zL3 l,fun d hd=>by obtain⟨x,_,rfl⟩:=List.mem_map.mp hd;rfl⟩]
 show some (D.bl _)=_
 congr 2
 exact decide_eq_true (List.mem_map.mpr ⟨p,h,rfl⟩)
theorem tru {S:Store}{b:Bool}:truth S (.bl b)=some b:=rfl
theorem zFe {S:Store}{l:List D}:lenB S [.tup l]=some (.int l.length):=rfl
theorem zBw {S:Store}{l:List D}:zDj S (.tup l)=some ⟨l,[]⟩:=rfl
theorem zGs {S:Store}{l:List D}:zDj S (.lst l)=some ⟨l,[]⟩:=rfl
theorem zVw {S:Store}{b:Bool}:fin [] (.bl b) S=.ok (.bl b) []:=by
 unfold fin
 rw[if_pos (show keeps ([]:Store).length [] S from trivial),if_pos (show(D.bl b).low ([]:Store).length=true from rfl)];rfl
end
end DP
namespace DP
open DS
noncomputable section
open Classical
def hull (rs:List Pt):List Pt:=if(lturns rs).dropLast++(lturns rs.reverse).dropLast=[]then rs else(lturns rs).dropLast++(lturns rs.reverse).dropLast
theorem back {a b p:Pt}:crs b a p=- crs a b p:=by unfold crs;grind
theorem zNo {a b x y z:Pt}(h:plt a b\/plt b a) (hx:crs a b x=0) (hy:crs a b y=0) (hz:crs a b z=0):crs x y z=0:=by
 have e1:(b.1-a.1)*crs x y z=(y.1-x.1)*(crs a b z-crs a b x)-(z.1-x.1)*(crs a b y-crs a b x):=by unfold crs;grind
 have e2:(b.2-a.2)*crs x y z=(y.2-x.2)*(crs a b z-crs a b x)-(z.2-x.2)*(crs a b y-crs a b x):=by unfold crs;grind
 rw[hx,hy,hz]at e1 e2
 simp only[Int.sub_zero,Int.mul_zero,Int.mul_eq_zero]at e1 e2
 rcases e1 with e1|e1
 ·rcases e2 with e2|e2
  ·unfold plt at h;lia
  ·exact e2
 ·exact e1
theorem zRk {a b c p:Pt}(h:(plt a b/\plt c b)\/(plt b a/\plt b c)) (z:crs a b c=0) (h1:0<=crs a b p) (h2:0<=crs b c p):crs a b p=0:=by
 have e0:crs a b c=(c.1-b.1)*(a.2-b.2)-(c.2-b.2)*(a.1-b.1):=by unfold crs;grind
 have e1:crs a b p=(p.1-b.1)*(a.2-b.2)-(p.2-b.2)*(a.1-b.1):=by unfold crs;grind
 have e2:crs b c p=(p.2-b.2)*(c.1-b.1)-(p.1-b.1)*(c.2-b.2):=by unfold crs;grind
 rcases(show crs a b p=0\/0<crs a b p by first|assumption|lia)with q|q
 ·exact q
 exfalso
 unfold plt at h
 rcases h with⟨h3,h4⟩|⟨h3,h4⟩
 ·have:=opp (a1:=a.1-b.1) (a2:=a.2-b.2) (q1:=b.1-c.1) (q2:=b.2-c.2) (b1:=p.1-b.1) (b2:=p.2-b.2) (by first|assumption|lia) (by first|assumption|lia) (by rw[e0]at z;grind) (by rw[<- e1];exact q)
  have e3:(p.1-b.1)*(b.2-c.2)-(p.2-b.2)*(b.1-c.1)=crs b c p:=by rw[e2];grind
  lia
 ·have e4:0<(b.1-p.1)*(b.2-a.2)-(b.2-p.2)*(b.1-a.1):=by
   have:(b.1-p.1)*(b.2-a.2)-(b.2-p.2)*(b.1-a.1)=crs a b p:=by rw[e1];grind
   lia
  have:=opp (a1:=b.1-a.1) (a2:=b.2-a.2) (q1:=c.1-b.1) (q2:=c.2-b.2) (b1:=b.1-p.1) (b2:=b.2-p.2) (by first|assumption|lia) (by first|assumption|lia) (by rw[e0]at z;grind) e4
  have e3:(b.1-p.1)*(c.2-b.2)-(b.2-p.2)*(c.1-b.1)=crs b c p:=by rw[e2];grind
  lia
theorem zQu {a p b q:Pt}(h1:plt a p) (h2:plt p q) (t:0<crs a p b) (s1:0<=crs a p q) (s2:0<=crs q p a) (s3:0<=crs p b q):False:=by
 have e0:crs a p b=(b.1-p.1)*(a.2-p.2)-(b.2-p.2)*(a.1-p.1):=by unfold crs;grind
 have e1:crs a p q=(q.1-p.1)*(a.2-p.2)-(q.2-p.2)*(a.1-p.1):=by unfold crs;grind
 have e2:crs q p a=- crs a p q:=by unfold crs;grind
 have e3:crs p b q=(b.1-p.1)*(q.2-p.2)-(b.2-p.2)*(q.1-p.1):=by unfold crs;grind
 have z:crs a p q=0:=by first|assumption|lia
 unfold plt at h1 h2
 have:=opp (a1:=a.1-p.1) (a2:=a.2-p.2) (q1:=q.1-p.1) (q2:=q.2-p.2) (b1:=b.1-p.1) (b2:=b.2-p.2) (by first|assumption|lia) (by first|assumption|lia) (by rw[e1]at z;grind) (e0 ▸ t)
 lia
structure Hull (rs H:List Pt):Prop where
 len:2<=H.length
 fst:∃a,H[0]?=some a/\∀p∈rs,p=a\/plt a p
 sub:∀p∈H,p∈rs
 nd:H.Nodup
 side:∀k,k<H.length->∃a b c,H[k]?=some a/\H[(k+1) % H.length]?=some b/\H[(k+2) % H.length]?=some c/\(∀p∈rs,0<=crs a b p)/\(2<H.length->0<crs a b c)
 lin:H.length=2->∃a b,H=[a,b]/\(∀p∈rs,crs a b p=0)/\∀p∈rs,p=b\/plt p b
theorem zVo {rs:List Pt}(hr:rs.Pairwise plt) (h2:2<=rs.length):Hull rs (hull rs):=by
 have wl:=zSa hr
 have wu':=zWk (P:=rs.reverse) (List.pairwise_reverse.mpr hr)
 have two:∃x∈rs,∃y∈rs,x≠y:=by
  match rs,h2,hr with
  | x::y::r,_,hr=>exact⟨x,.head _,y,.tail _ (.head _),fun z=>by
    subst z
    exact zE7 ((List.pairwise_cons.mp hr).1 x (.head _))⟩
 have l1:=zMa wl (fun _ _=>zF8) two
 have l2:=zMa wu' (fun _ _ h h'=>zF8 h h') (by
  obtain⟨x,hx,y,hy,e⟩:=two
  exact⟨x,List.mem_reverse.mpr hx,y,List.mem_reverse.mpr hy,e⟩)
 unfold hull
 generalize lturns rs=L at *
 generalize lturns rs.reverse=U at *
 have ne:L.dropLast++U.dropLast≠[]:=fun z=>by
  have:=congrArg List.length z
  simp at this
  lia
 rw[if_neg ne]
 obtain⟨m,hm,m1⟩:∃m,L.length=m+1/\1<=m:=⟨L.length-1,by first|assumption|lia,by first|assumption|lia⟩
 obtain⟨k,hk,k1⟩:∃k,U.length=k+1/\1<=k:=⟨U.length-1,by first|assumption|lia,by first|assumption|lia⟩
 obtain⟨gL,hL⟩:∃g:Nat->Pt,∀i,i<=m->L[i]?=some (g i):=⟨fun i=>L.getD i (0,0),fun i hi=>by
  have:i<L.length:=by first|assumption|lia
  simp[this]⟩
 obtain⟨gU,hU⟩:∃g:Nat->Pt,∀i,i<=k->U[i]?=some (g i):=⟨fun i=>U.getD i (0,0),fun i hi=>by
  have:i<U.length:=by first|assumption|lia
  simp[this]⟩
 have mL:∀i,i<=m->gL i∈rs:=fun i hi=>wl.sub.subset (List.mem_of_getElem? (hL i hi))
 have mU:∀i,i<=k->gU i∈rs:=fun i hi=>List.mem_reverse.mp (wu'.sub.subset (List.mem_of_getElem? (hU i hi)))
 have eqof:∀{lt:Pt->Pt->Prop},(∀a b,lt a b->lt b a->False)->∀a b,(b=a\/lt a b)->(a=b\/lt b a)->a=b:=fun as a b h h'=>by
  rcases h with z|z
  ·exact z.symm
  ·rcases h' with z'|z'
   ·exact z'
   ·exact(as _ _ z z').elim
 have top:gL m=gU 0:=by
  have a1:=wl.lst (gL m) (by rw[hm];exact hL m (Nat.le_refl _)) (gU 0) (mU 0 (by first|assumption|lia))
  have a2:=wu'.fst (gU 0) (hU 0 (by first|assumption|lia)) (gL m) (List.mem_reverse.mpr (mL m (Nat.le_refl _)))
  exact eqof (lt:=fun a b=>plt b a) (fun _ _ h h'=>zF8 h h') _ _ a1 a2
 have bot:gU k=gL 0:=by
  have a1:=wu'.lst (gU k) (by rw[hk];exact hU k (Nat.le_refl _)) (gL 0) (List.mem_reverse.mpr (mL 0 (by first|assumption|lia)))
  have a2:=wl.fst (gL 0) (hL 0 (by first|assumption|lia)) (gU k) (mU k (Nat.le_refl _))
  exact eqof (lt:=plt) (fun _ _ h h'=>zF8 h h') _ _ a1 a2
 have pL:∀i,i<m->plt (gL i) (gL (i+1))/\∀p∈rs,0<=crs (gL i) (gL (i+1)) p:=fun i hi=>wl.two i _ _ (hL i (by first|assumption|lia)) (hL (i+1) hi)
 have pU:∀i,i<k->plt (gU (i+1)) (gU i)/\∀p∈rs,0<=crs (gU i) (gU (i+1)) p:=fun i hi=>by
  obtain⟨a,b⟩:=wu'.two i _ _ (hU i (by first|assumption|lia)) (hU (i+1) hi)
  exact⟨a,fun p hp=>b p (List.mem_reverse.mpr hp)⟩
 have tL:∀i,i+2<=m->0<crs (gL i) (gL (i+1)) (gL (i+2)):=fun i hi=>wl.three i _ _ _ (hL i (by first|assumption|lia)) (hL _ (by first|assumption|lia)) (hL _ hi)
 have tU:∀i,i+2<=k->0<crs (gU i) (gU (i+1)) (gU (i+2)):=fun i hi=>wu'.three i _ _ _ (hU i (by first|assumption|lia)) (hU _ (by first|assumption|lia)) (hU _ hi)
 have len:(L.dropLast++U.dropLast).length=m+k:=by simp;lia
 have atH:∀i,i<m+k->(L.dropLast++U.dropLast)[i]?=some (if i<m then gL i else gU (i-m)):=fun i hi=>by
  have d1:L.dropLast.length=m:=by simp;lia
  have d2:U.dropLast.length=k:=by simp;lia
  by_cases q:i<m
  ·rw[if_pos q,List.getElem?_append_left (by first|assumption|lia),List.getElem?_dropLast,if_pos (by first|assumption|lia)]
   exact hL i (by first|assumption|lia)
  ·rw[if_neg q,List.getElem?_append_right (by first|assumption|lia),d1,List.getElem?_dropLast,if_pos (by first|assumption|lia)]
   exact hU _ (by first|assumption|lia)
 /- a corner where both ways meet -/
 have meet:∀a b c,((plt a b/\plt c b)\/(plt b a/\plt b c))->c∈rs->(∀p∈rs,0<=crs a b p)->(∀p∈rs,0<=crs b c p)->2<m+k->0<crs a b c:=fun a b c h hc s1 s2 hn=>by
  rcases(show crs a b c=0\/0<crs a b c by have:=s1 c hc;lia)with z|z
  ·exfalso
   have al:∀p∈rs,crs a b p=0:=fun p hp=>zRk h z (s1 p hp) (s2 p hp)
   have dir:plt a b\/plt b a:=by
    rcases h with h|h
    ·exact .inl h.1
    ·exact .inr h.1
   by_cases q:2<=m
   ·have:=tL 0 (by first|assumption|lia)
    rw[zNo dir (al _ (mL 0 (by first|assumption|lia))) (al _ (mL 1 (by first|assumption|lia))) (al _ (mL 2 (by first|assumption|lia)))]at this
    lia
   ·have:=tU 0 (by first|assumption|lia)
    rw[zNo dir (al _ (mU 0 (by first|assumption|lia))) (al _ (mU 1 (by first|assumption|lia))) (al _ (mU 2 (by first|assumption|lia)))]at this
    lia
  ·exact z
 have meet1:2<m+k->0<crs (gL (m-1)) (gL m) (gU 1):=fun hn=>by
  have a1:=pL (m-1) (by first|assumption|lia)
  rw[show m-1+1=m by first|assumption|lia]at a1
  have a2:=pU 0 (by first|assumption|lia)
  rw[Nat.zero_add,<- top]at a2
  exact meet _ _ _ (.inl ⟨a1.1,a2.1⟩) (mU 1 (by first|assumption|lia)) a1.2 a2.2 hn
 have meet2:2<m+k->0<crs (gU (k-1)) (gU k) (gL 1):=fun hn=>by
  have a1:=pU (k-1) (by first|assumption|lia)
  rw[show k-1+1=k by first|assumption|lia]at a1
  have a2:=pL 0 (by first|assumption|lia)
  rw[Nat.zero_add,<- bot]at a2
  exact meet _ _ _ (.inr ⟨a1.1,a2.1⟩) (mL 1 (by first|assumption|lia)) a1.2 a2.2 hn
 have ndL:L.Pairwise plt:=hr.sublist wl.sub
 have ndU:U.Pairwise fun a b=>plt b a:=(List.pairwise_reverse.mpr hr).sublist wu'.sub
 have ltL:∀i j,i<j->j<=m->plt (gL i) (gL j):=fun i j hij hj=>by
  have:=List.pairwise_iff_getElem.mp ndL i j (by first|assumption|lia) (by first|assumption|lia) hij
  rwa[(List.getElem?_eq_some_iff.mp (hL i (by first|assumption|lia))).2,(List.getElem?_eq_some_iff.mp (hL j hj)).2]at this
 have ltU:∀i j,i<j->j<=k->plt (gU j) (gU i):=fun i j hij hj=>by
  have:=List.pairwise_iff_getElem.mp ndU i j (by first|assumption|lia) (by first|assumption|lia) hij
  rwa[(List.getElem?_eq_some_iff.mp (hU i (by first|assumption|lia))).2,(List.getElem?_eq_some_iff.mp (hU j hj)).2]at this
 have apart:∀i j,i<m->j<k->gL i≠gU j:=fun i j hi hj e=>by
  have i0:i≠0:=fun z=>by
   subst z
   have:=ltU j k hj (Nat.le_refl _)
   rw[bot,e]at this
   exact zE7 this
  have j0:j≠0:=fun z=>by
   subst z
   have:=ltL i m hi (Nat.le_refl _)
   rw[top,e]at this
   exact zE7 this
  have a1:=pL (i-1) (by first|assumption|lia)
  have a2:=pL i hi
  have t:=tL (i-1) (by first|assumption|lia)
  rw[show i-1+1=i by first|assumption|lia]at a1 t
  rw[show i-1+2=i+1 by first|assumption|lia]at t
  have b1:=pU (j-1) (by first|assumption|lia)
  rw[show j-1+1=j by first|assumption|lia,<- e]at b1
  exact zQu a1.1 b1.1 t (a1.2 _ (mU _ (by first|assumption|lia))) (b1.2 _ (mL _ (by first|assumption|lia))) (a2.2 _ (mU _ (by first|assumption|lia)))
 refine⟨by first|assumption|lia,⟨gL 0,by rw[atH 0 (by first|assumption|lia),if_pos (by first|assumption|lia)],wl.fst _ (hL 0 (by first|assumption|lia))⟩,fun p hp=>?_,?_,fun i hi=>?_,fun hn=>?_⟩
 ·rcases List.mem_append.mp hp with hp|hp
  ·exact wl.sub.subset (List.dropLast_subset _ hp)
  ·exact List.mem_reverse.mp (wu'.sub.subset (List.dropLast_subset _ hp))
 ·refine List.nodup_append.mpr ⟨?_,?_,fun a ha b hb e=>?_⟩
  ·exact(ndL.sublist (List.dropLast_sublist _)).imp fun h z=>by subst z;exact zE7 h
  ·exact(ndU.sublist (List.dropLast_sublist _)).imp fun h z=>by subst z;exact zE7 h
  ·subst e
   obtain⟨i,hi,e1⟩:=List.getElem_of_mem ha
   obtain⟨j,hj,e2⟩:=List.getElem_of_mem hb
   simp at hi hj
   have x1:=hL i (by first|assumption|lia)
   have x2:=hU j (by first|assumption|lia)
   rw[List.getElem_dropLast]at e1 e2
   rw[List.getElem?_eq_getElem (by first|assumption|lia),e1]at x1
   rw[List.getElem?_eq_getElem (by first|assumption|lia),e2]at x2
   injection x1 with x1
   injection x2 with x2
   exact apart i j (by first|assumption|lia) (by first|assumption|lia) (by rw[<- x1,<- x2])
 ·rw[len]at hi ⊢
  have G1:(L.dropLast++U.dropLast)[(i+1) % (m+k)]?=some (if i+1<m then gL (i+1)else gU (i+1-m)):=by
   by_cases q:i+1<m+k
   ·rw[Nat.mod_eq_of_lt q];exact atH _ q
   ·have:i+1=m+k:=by first|assumption|lia
    rw[this,Nat.mod_self,atH 0 (by first|assumption|lia),if_pos (by first|assumption|lia),if_neg (by first|assumption|lia),show m+k-m=k by first|assumption|lia,bot]
  have G2:i+2<=m+k->(L.dropLast++U.dropLast)[(i+2) % (m+k)]?=some (if i+2<m then gL (i+2)else gU (i+2-m)):=fun q'=>by
   by_cases q:i+2<m+k
   ·rw[Nat.mod_eq_of_lt q];exact atH _ q
   ·have:i+2=m+k:=by first|assumption|lia
    rw[this,Nat.mod_self,atH 0 (by first|assumption|lia),if_pos (by first|assumption|lia),if_neg (by first|assumption|lia),show m+k-m=k by first|assumption|lia,bot]
  by_cases c1:i+1<m
  ·rw[if_pos c1]at G1
   have G2:=G2 (by first|assumption|lia)
   refine⟨_,_,_,atH i hi,G1,G2,?_,fun hn=>?_⟩
   ·rw[if_pos (by first|assumption|lia)];exact(pL i (by first|assumption|lia)).2
   ·rw[if_pos (by first|assumption|lia)]
    by_cases c2:i+2<m
    ·rw[if_pos c2];exact tL i (by first|assumption|lia)
    ·have z:i+2=m:=by first|assumption|lia
     have:=tL i (by first|assumption|lia)
     rw[if_neg c2,z,Nat.sub_self,<- top]
     rw[z]at this
     exact this
  ·by_cases c2:i+1=m
   ·rw[if_neg c1,c2,Nat.sub_self,<- top]at G1
    have G2:=G2 (by first|assumption|lia)
    rw[if_neg (by first|assumption|lia),show i+2-m=1 by first|assumption|lia]at G2
    have ei:i=m-1:=by first|assumption|lia
    have G0:=atH i hi
    rw[if_pos (by first|assumption|lia),ei]at G0
    refine⟨_,_,_,by rw[ei];exact G0,by rw[c2];exact G1,G2,?_,meet1⟩
    have:=(pL (m-1) (by first|assumption|lia)).2
    rwa[show m-1+1=m by first|assumption|lia]at this
   ·have cm:m<=i:=by first|assumption|lia
    have G0:=atH i hi
    rw[if_neg (by first|assumption|lia)]at G0
    rw[if_neg (by first|assumption|lia),show i+1-m=(i-m)+1 by first|assumption|lia]at G1
    have s:=(pU (i-m) (by first|assumption|lia)).2
    by_cases c3:i+2<=m+k
    ·have G2:=G2 c3
     rw[if_neg (by first|assumption|lia),show i+2-m=(i-m)+2 by first|assumption|lia]at G2
     exact⟨_,_,_,G0,G1,G2,s,fun _=>tU (i-m) (by first|assumption|lia)⟩
    ·have z:i+2=m+k+1:=by first|assumption|lia
     have zi:i-m=k-1:=by first|assumption|lia
     have G2':(L.dropLast++U.dropLast)[(i+2) % (m+k)]?=some (gL 1):=by
      rw[z,Nat.add_mod_left,Nat.mod_eq_of_lt (by first|assumption|lia),atH 1 (by first|assumption|lia)]
      by_cases m2:1<m
      ·rw[if_pos m2]
      ·have:m=1:=by first|assumption|lia
       rw[if_neg m2,this,Nat.sub_self,<- top,this]
     refine⟨_,_,_,G0,G1,G2',s,fun hn=>?_⟩
     have:=meet2 hn
     rw[zi,show k-1+1=k by first|assumption|lia]
     exact this
 ·rw[len]at hn
  have m1':m=1:=by first|assumption|lia
  have k1':k=1:=by first|assumption|lia
  subst m1' k1'
  refine⟨gL 0,gL 1,?_,fun p hp=>?_,fun p hp=>?_⟩
  ·have x0:=atH 0 (by first|assumption|lia)
   have x1:=atH 1 (by first|assumption|lia)
   rw[if_pos (by first|assumption|lia)]at x0
   rw[if_neg (by first|assumption|lia),Nat.sub_self,<- top]at x1
   generalize L.dropLast++U.dropLast=H at len x0 x1
   match H,len,x0,x1 with
   | [a,b],_,x0,x1=>simp at x0 x1;rw[x0,x1]
  ·have a1:=(pL 0 (by first|assumption|lia)).2 p hp
   have a2:=(pU 0 (by first|assumption|lia)).2 p hp
   rw[Nat.zero_add,bot,<- top,back]at a2
   rw[Nat.zero_add]at a1
   lia
  ·exact wl.lst (gL 1) (by rw[hm];exact hL 1 (by first|assumption|lia)) p hp
theorem zRe {p:Pt}:hull [p]=[p]:=by
 unfold hull
 rw[if_pos (by rfl)]
end
end DP
namespace DP
open DS
noncomputable section
open Classical
theorem zW4:zBs=zHt 1 4 zPe:=rfl
theorem zTu {S:Store}{x:Int}:zDx [.int x] S=.ok (.int (sgn x)) S:=by
 refine zAq rfl ?_ rfl
 have g:∀S,gtD S (.int x) (.int 0)=some (.bl (decide (0<x))):=fun _=>rfl
 have l:∀S,ltI S (.int x) (.int 0)=some (.bl (decide (x<0))):=fun _=>rfl
 unfold zFq sgn
 by_cases h1:0<x
 ·simp_arith [g,h1,decide_true]
 ·by_cases h2:x<0
  ·simp_arith [g,h1,l,h2,negD,decide_true,decide_false]
  ·simp_arith [g,h1,l,h2,decide_false]
theorem zQ9 {S:Store}{c:Pt}:zD4 [cel c] S=.ok (.tup [.tup [.int c.1,.int 1],.tup [.int c.2,.int 1]]) S:=by
 refine zAq rfl ?_ rfl
 unfold zEf cel
 simp_arith [if_true]
theorem zTv {S:Store}{a b c:Pt}(ha:BP a) (hb:BP b) (hc:BP c):zC8 [cel a,cel b,cel c] S=.ok (.int (sgn (crs a b c))) S:=by
 have one:BB 2 1:=BB.lit rfl
 have at_ok:zDy [cel a,cel b,.tup [.tup [.int c.1,.int 1],.tup [.int c.2,.int 1]]] S=.ok (.int (sgn (crs a b c))) S:=by
  refine zAq rfl ?_ rfl
  have e:(b.1-a.1)*((c.2-a.2*1)*1)-(b.2-a.2)*((c.1-a.1*1)*1)=crs a b c:=by unfold crs;grind
  have m1:=(hc.1.sub (ha.1.mul one))
  have m2:=(hc.2.sub (ha.2.mul one))
  unfold zFs cel
  simp_arith [zAy ha.1 one,zAy ha.2 one,zAy m1 one,zAy m2 one,zAy (hb.1.sub ha.1) (m2.mul one),zAy (hb.2.sub ha.2) (m1.mul one),e,zTu]
 refine zAq rfl ?_ rfl
 unfold zFr
 simp_arith [zQ9,at_ok]
abbrev cLt:TM:=(tAnd (tB (eOp gtD (eCB lenB (zA1 (eVar 1) aNil)) (eC (.int 1)))) (tB (eOp leD (zA9 zC8 (zA1 (eOp ixD (eVar 1) (eUn negD (eC (.int 2)))) (zA1 (eOp ixD (eVar 1) (eUn negD (eC (.int 1)))) (zA1 (eVar 2) aNil)))) (eC (.int 0)))))
abbrev wLt:SM:=(zG3 (eMt "list" popM (eVar 1) aNil))
theorem zJz {S0:Store}{env:Env}{c:Pt}(h1:env[1]?=some (some (.ref S0.length))) (h2:env[2]?=some (some (cel c))) (hc:BP c):∀(st:List Pt),(∀p∈st,BP p)->∃k,zAu cLt wLt k env (S0++[.lst (st.reverse.map cel)])=.nx env (S0++[.lst ((popS st c).reverse.map cel)])
 | st,hb=>by
  generalize hS:S0++[D.lst (st.reverse.map cel)]=S
  have el:look S (.ref S0.length)=some (.lst (st.reverse.map cel)):=by rw[<- hS];simp[look]
  have v1:∀S,eVar 1 env S=.ok (.ref S0.length) S:=fun S=>by unfold eVar;rw[h1]
  have v2:∀S,eVar 2 env S=.ok (cel c) S:=fun S=>by unfold eVar;rw[h2]
  have c1:tB (eOp gtD (eCB lenB (zA1 (eVar 1) aNil)) (eC (.int 1))) env S=.ok (decide ((1:Int)<(st.reverse.map cel).length)) S:=by simp only[tB,eOp,eC,eCB,zA1,aNil,v1,Rs.bind_ok,zA7,lenB,el,gtD,asB]
  have no:(∀a b r,st=b::a::r->0<crs a b c)->cLt env S=.ok false S->∃k,zAu cLt wLt k env S=.nx env (S0++[.lst ((popS st c).reverse.map cel)]):=fun h hcl=>by
   refine⟨1,?_⟩
   have:popS st c=st:=by
    match st,h with
    | [],_=>rfl
    | [_],_=>rfl
    | b::a::r,h=>rw[popS,if_neg (by have:=h a b r rfl;lia)]
   rw[zAu,hcl,Rs.then_ok,if_neg (by decide),this,hS]
  match st,hb,hS,el,c1,no with
  | [],_,_,_,c1,no=>exact no (fun a b r e=>nomatch e) (by unfold cLt tAnd;rw[c1];rfl)
  | [_],_,_,_,c1,no=>exact no (fun a b r e=>nomatch e) (by unfold cLt tAnd;rw[c1];rfl)
  | b::a::r,hb,hS,el,c1,no=>
   have ba:=hb a (.tail _ (.head _))
   have bb:=hb b (.head _)
   have len:((b::a::r).reverse.map cel).length=r.length+2:=by simp
   have i2:ixD S (.ref S0.length) (.int (-2))=some (cel a):=by
    unfold ixD
    rw[el]
    refine atM (k:=r.length) (by rw[len];lia) (by simp)
   have i1:ixD S (.ref S0.length) (.int (-1))=some (cel b):=by
    unfold ixD
    rw[el]
    refine atM (k:=r.length+1) (by rw[len];lia) (by simp)
   have n2:∀S (x:Int),negD S (.int x)=some (.int (-x)):=fun _ _=>rfl
   have le:∀S (x:Int),leD S (.int x) (.int 0)=some (.bl (decide (x<=0))):=fun _ _=>rfl
   have c2:tB (eOp leD (zA9 zC8 (zA1 (eOp ixD (eVar 1) (eUn negD (eC (.int 2)))) (zA1 (eOp ixD (eVar 1) (eUn negD (eC (.int 1)))) (zA1 (eVar 2) aNil)))) (eC (.int 0))) env S=.ok (decide (crs a b c<=0)) S:=by
    simp only[tB,eOp,eC,zA9,eUn,zA1,aNil,v1,v2,Rs.bind_ok,n2,zA7,i2,i1,zTv ba bb hc,le,asB,zW7]
   have cc:cLt env S=.ok (decide (crs a b c<=0)) S:=by
    unfold cLt tAnd
    rw[c1,Rs.bind_ok,decide_eq_true (by rw[len];lia),if_pos rfl,c2]
   by_cases q:crs a b c<=0
   ·obtain⟨k,hk⟩:=zJz h1 h2 hc (a::r) fun p hp=>hb p (.tail _ hp)
    refine⟨k+1,?_⟩
    have ty:tyD S (.ref S0.length)=some "list":=by unfold tyD;rw[el]
    have pm:popM S (.ref S0.length) []=some (cel b,S0++[.lst ((a::r).reverse.map cel)]):=by
     have:S[S0.length]?=some (.lst ((b::a::r).reverse.map cel)):=el
     unfold popM
     simp only[this]
     rw[<- hS]
     simp
    have w:wLt env S=.nx env (S0++[.lst ((a::r).reverse.map cel)]):=by
     simp only[wLt,zG3,eMt,aNil,v1,Rs.bind_ok,ty,if_true,pm,zD2,Rs.then_ok]
    rw[zAu,cc,decide_eq_true q,Rs.then_ok,if_pos rfl,w]
    dsimp only
    rw[hk,show popS (b::a::r) c=popS (a::r) c by rw[popS,if_pos q]]
   ·exact no (fun a' b' r' e=>by cases e;lia) (by rw[cc,decide_eq_false q])
abbrev bLt:SM:=(sSeq (zC6 cLt wLt) (zG3 (eMt "list" zC5 (eVar 1) (zA1 (eVar 2) aNil))))
theorem zTp {S0:Store}{x:D}{c:Pt}(st:List Pt) (hc:BP c) (hb:∀p∈st,BP p) (hl:st.length<most):bLt [some x,some (.ref S0.length),some (cel c)] (S0++[.lst (st.reverse.map cel)])=.nx [some x,some (.ref S0.length),some (cel c)] (S0++[.lst ((c::popS st c).reverse.map cel)]):=by
 obtain⟨k,hk⟩:=zJz (S0:=S0) (env:=[some x,some (.ref S0.length),some (cel c)]) (c:=c) rfl rfl hc st hb
 have w:zC6 cLt wLt [some x,some (.ref S0.length),some (cel c)] (S0++[.lst (st.reverse.map cel)])=.nx [some x,some (.ref S0.length),some (cel c)] (S0++[.lst ((popS st c).reverse.map cel)]):=by
  rw[zF7 (n:=k) (by rw[hk];exact fun z=>nomatch z),hk]
 have g:(S0++[D.lst ((popS st c).reverse.map cel)])[S0.length]?=some (.lst ((popS st c).reverse.map cel)):=by simp
 have ty:tyD (S0++[.lst ((popS st c).reverse.map cel)]) (.ref S0.length)=some "list":=by unfold tyD;rw[show look (S0++[.lst ((popS st c).reverse.map cel)]) (.ref S0.length)=_ from g]
 have ap:zC5 (S0++[.lst ((popS st c).reverse.map cel)]) (.ref S0.length) [cel c]=some (.non,S0++[.lst ((c::popS st c).reverse.map cel)]):=by
  unfold zC5
  simp only[g]
  rw[if_pos (by have:=(zEu (c:=c) st).2;simp;lia)]
  simp
 unfold bLt
 rw[sSeq,w]
 simp only[zG3,eMt,eVar,zA1,aNil,List.getElem?_cons_zero,List.getElem?_cons_succ,Rs.bind_ok,ty,if_true,ap,zD2,Rs.then_ok]
theorem zT4 {S0:Store}{x:D}:∀(cs st:List Pt) (o:Option D),(∀p∈cs,BP p)->(∀p∈st,BP p)->st.length+cs.length<=most->∃o',forL [] (gName 2) bLt (cs.map cel) [some x,some (.ref S0.length),o] (S0++[.lst (st.reverse.map cel)])=.nx [some x,some (.ref S0.length),o'] (S0++[.lst ((cs.foldl (fun st c=>c::popS st c) st).reverse.map cel)])
 | [],st,o,_,_,_=>⟨o,by rw[List.map_nil,forL,if_pos zAt];rfl⟩
 | c::cs,st,o,h1,h2,hl=>by
  have hl':st.length+(cs.length+1)<=most:=hl
  have sb:=zEu (c:=c) st
  obtain⟨o',e⟩:=zT4 (S0:=S0) (x:=x) cs (c::popS st c) (some (cel c)) (fun p hp=>h1 p (.tail _ hp)) (fun p hp=>by
   rcases List.mem_cons.mp hp with rfl|hp
   ·exact h1 _ (.head _)
   ·exact h2 p (sb.1 p hp)) (by simp only[List.length_cons];have:=sb.2;lia)
  refine⟨o',?_⟩
  rw[List.map_cons,forL,if_pos zAt]
  have g:gName 2 (S0++[.lst (st.reverse.map cel)]) (cel c) [some x,some (.ref S0.length),o]=some [some x,some (.ref S0.length),some (cel c)]:=rfl
  rw[g]
  dsimp only
  rw[zTp st (h1 c (.head _)) h2 (by first|assumption|lia)]
  exact e
theorem zO4 {S:Store}{cs:List Pt}(hb:∀p∈cs,BP p) (hl:cs.length<=most):zBc [.lst (cs.map cel)] S=.ok (.lst ((lturns cs).map cel)) S:=by
 obtain⟨o',e⟩:=zT4 (S0:=S) (x:=.lst (cs.map cel)) cs [] none hb (fun p hp=>nomatch hp) (by simpa using hl)
 have b:zBh [some (.lst (cs.map cel)),none,none] S=.rt (.ref S.length) (S++[.lst ((lturns cs).map cel)]):=by
  have w:zDj (S++[D.lst []]) (.lst (cs.map cel))=some ⟨cs.map cel,[]⟩:=rfl
  have e:forL [] (gName 2) bLt (cs.map cel) [some (.lst (cs.map cel)),some (.ref S.length),none] (S++[.lst []])=.nx [some (.lst (cs.map cel)),some (.ref S.length),o'] (S++[.lst ((lturns cs).map cel)]):=e
  unfold zBh
  simp only[sSeq,sSet,eNew,eLst,aNil,Rs.bind_ok,Rs.then_ok,List.set_cons_zero,List.set_cons_succ,sFor,iVal,eVar,List.getElem?_cons_zero,List.getElem?_cons_succ,w,zA7]
  rw[e]
  simp only[sRet,eVar,List.getElem?_cons_zero,List.getElem?_cons_succ,Rs.then_ok]
 unfold zBc zAx
 rw[if_pos (show [D.lst (cs.map cel)].length=1 from rfl),show zBh ([D.lst (cs.map cel)].map some++List.replicate (3-1) none) S=_ from b]
 dsimp only
 unfold fin
 have k:keeps S.length S (S++[.lst ((lturns cs).map cel)]):=by
  have:∀(n:Nat) (S T:Store),keeps n S (S++T):=fun n S T=>by
   induction S with
   | nil=>trivial
   | cons a r ih=>exact⟨.inl rfl,ih⟩
  exact this _ _ _
 have g:(S++[D.lst ((lturns cs).map cel)])[S.length]?=some (.lst ((lturns cs).map cel)):=by simp
 rw[if_pos k,if_neg (show ¬ (D.ref S.length).low S.length=true by simp[D.low])]
 simp only[g]
 rw[if_pos (show(D.lst ((lturns cs).map cel)).low S.length=true from zDr _)]
 simp
theorem zVn {S:Store}{cs rs:List Pt}(hb:∀p∈cs,BP p) (hl:cs.length<=61) (hr:srt (dedup (cs.map cel))=rs.map cel) (hm:∀p,p∈rs <-> p∈cs) (hn:rs.length<=cs.length):zAr [.tup (cs.map cel)] S=.ok (.tup ((hull rs).map cel)) S:=by
 have br:∀p∈rs,BP p:=fun p hp=>hb p ((hm p).mp hp)
 have m299:600<=most:=by decide
 have ss:ssL S (.tup (cs.map cel))=some (.lst (rs.map cel)):=by
  show(if setable (cs.map cel)then some (D.lst (srt (dedup (cs.map cel))))else none)=_
  rw[if_pos ⟨by rw[List.length_map];lia,0,by decide,fun x hx=>by obtain⟨p,_,rfl⟩:=List.mem_map.mp hx;exact zSx p⟩,hr]
 have l1:=zO4 (S:=S) br (by first|assumption|lia)
 have l2:=zO4 (S:=S) (cs:=rs.reverse) (fun p hp=>br p (List.mem_reverse.mp hp)) (by rw[List.length_reverse];lia)
 have rv:revL S (.lst (rs.map cel))=some (.lst (rs.reverse.map cel)):=by show some (D.lst (rs.map cel).reverse)=_;rw[List.map_reverse]
 have s1:∀l:List Pt,slD S (.lst (l.map cel)) none (some (-1))=some (.lst (l.dropLast.map cel)):=fun l=>by show some (D.lst (cutL (l.map cel) none (some (-1))))=_;rw[zRy,List.map_dropLast]
 have ad:addD S (.lst ((lturns rs).dropLast.map cel)) (.lst ((lturns rs.reverse).dropLast.map cel))=some (.lst (((lturns rs).dropLast++(lturns rs.reverse).dropLast).map cel)):=by
  show(if _ then some (D.lst (_++_))else none)=_
  have a1:=zSy (cs:=rs)
  have a2:=zSy (cs:=rs.reverse)
  rw[if_pos (by simp;rw[List.length_reverse]at a2;lia),List.map_append]
 have tp:∀l:List Pt,zD9 S [.lst (l.map cel)]=some (.tup (l.map cel)):=fun _=>rfl
 have tr:truth S (.lst (((lturns rs).dropLast++(lturns rs.reverse).dropLast).map cel))=some (decide ((lturns rs).dropLast++(lturns rs.reverse).dropLast≠[])):=by
  show some (decide (((lturns rs).dropLast++(lturns rs.reverse).dropLast).map cel≠[]))=_
  congr 1
  apply decide_eq_decide.mpr
  rw[ne_eq,ne_eq,List.map_eq_nil_iff]
 have n1:negD S (.int 1)=some (.int (-1)):=rfl
 refine zAq rfl ?_ (zDr _)
 show zE4 [some (.tup (cs.map cel)),none,none,none] S=_
 unfold zE4 hull
 by_cases q:(lturns rs).dropLast++(lturns rs.reverse).dropLast=[]
 ·rw[if_pos q]
  simp only[sSeq,sSet,sRet,eUn,zA9,zA1,aNil,eCB,eOrV,eOp,eSl,pNo,pYes,eC,asI,eVar,List.getElem?_cons_zero,List.getElem?_cons_succ,List.set_cons_zero,List.set_cons_succ,Rs.bind_ok,Rs.then_ok,zA7,Option.map_some,ss,l1,l2,rv,s1,ad,tr,n1,tp,decide_eq_false (not_not_intro q),Bool.false_eq_true,if_false]
 ·rw[if_neg q]
  simp only[sSeq,sSet,sRet,eUn,zA9,zA1,aNil,eCB,eOrV,eOp,eSl,pNo,pYes,eC,asI,eVar,List.getElem?_cons_zero,List.getElem?_cons_succ,List.set_cons_zero,List.set_cons_succ,Rs.bind_ok,Rs.then_ok,zA7,Option.map_some,ss,l1,l2,rv,s1,ad,tr,n1,tp,decide_eq_true q,if_true]
end
end DP
namespace DP
open DS
noncomputable section
open Classical
def wth (s p:Pt):Int:=s.1*p.1+s.2*p.2
def mn:List Int->Int
 | []=>0
 | [x]=>x
 | x::y::r=>min x (mn (y::r))
theorem zNy:∀{l:List Int},l≠[]->mn l∈l
 | [x],_=>by simp[mn]
 | x::y::r,_=>by
  have:=zNy (l:=y::r) (by simp)
  rw[mn]
  rcases Int.le_total x (mn (y::r))with h|h
  ·rw[Int.min_eq_left h];simp
  ·rw[Int.min_eq_right h];exact List.mem_cons_of_mem _ this
theorem zV6:∀{l:List Int}{x:Int},x∈l->mn l<=x
 | [y],x,h=>by simp[mn]at *;lia
 | y::z::r,x,h=>by
  rw[mn]
  rcases List.mem_cons.mp h with e|e
  ·rw[e];exact Int.min_le_left _ _
  ·exact Int.le_trans (Int.min_le_right _ _) (zV6 e)
theorem zYa {l:List Int}{v:Int}(h:v∈l) (h':∀x∈l,v<=x):mn l=v:=Int.le_antisymm (zV6 h) (h' _ (zNy fun z=>by rw[z]at h;cases h))
def mw (s:Pt) (H:List Pt):Int:=mn (H.map (wth s))
theorem zQx {s p:Pt}{H:List Pt}(h:p∈H):mw s H<=wth s p:=zV6 (List.mem_map.mpr ⟨p,h,rfl⟩)
theorem zNv {s:Pt}{H:List Pt}(h:H≠[]):∃p∈H,mw s H=wth s p:=by
 obtain⟨p,hp,e⟩:=List.mem_map.mp (zNy (l:=H.map (wth s)) (by simpa using h))
 exact⟨p,hp,e.symm⟩
def nbs (H:List Pt):List (Pt × Pt):=H.zip (H.drop 1++H.take 1)
def wys (H:List Pt):List Pt:=(nbs H).map fun p=>(p.2.1-p.1.1,p.2.2-p.1.2)
def ups (H:List Pt):List Pt:=(wys H).map fun w=>(-w.2,w.1)
def inw (H:List Pt):List Pt:=if H.length=1 then [(1,0),(0,1),(-1,0),(0,-1)]else if H.length=2 then ups H++wys H else ups H
def Wi (H:List Pt) (q:Pt):Prop:=∀s∈inw H,mw s H<=wth s q
theorem zM9 {a b p:Pt}:wth (-(b.2-a.2),b.1-a.1) p-wth (-(b.2-a.2),b.1-a.1) a=crs a b p:=by unfold wth crs;grind
theorem zSv {H:List Pt}(h1:1<=H.length) {k:Nat}(hk:k<H.length):(nbs H)[k]?=some (H[k],H[(k+1) % H.length]'(Nat.mod_lt _ (by first|assumption|lia))):=by
 unfold nbs
 rw[List.getElem?_zip_eq_some]
 refine⟨List.getElem?_eq_getElem hk,?_⟩
 by_cases z:k+1<H.length
 ·rw[List.getElem?_append_left (by rw[List.length_drop];lia),List.getElem?_drop,show 1+k=k+1 by first|assumption|lia,List.getElem?_eq_getElem z]
  simp only[Nat.mod_eq_of_lt z]
 ·have e:k+1=H.length:=by first|assumption|lia
  rw[List.getElem?_append_right (by rw[List.length_drop];lia),List.length_drop,List.getElem?_take_of_lt (by first|assumption|lia),show k-(H.length-1)=0 by first|assumption|lia,List.getElem?_eq_getElem (by first|assumption|lia)]
  simp only[e,Nat.mod_self]
theorem zHc {H:List Pt}(h1:1<=H.length):(nbs H).length=H.length:=by
 unfold nbs;rw[List.length_zip,List.length_append,List.length_drop,List.length_take];lia
theorem zWn {H:List Pt}{s:Pt}(h1:1<=H.length) (h:s∈ups H):∃k a b,k<H.length/\H[k]?=some a/\H[(k+1) % H.length]?=some b/\s=(-(b.2-a.2),b.1-a.1):=by
 unfold ups wys at h
 obtain⟨w,hw,rfl⟩:=List.mem_map.mp h
 obtain⟨p,hp,rfl⟩:=List.mem_map.mp hw
 obtain⟨k,hk,e⟩:=List.mem_iff_getElem.mp hp
 rw[zHc h1]at hk
 have:=zSv h1 hk
 rw[List.getElem?_eq_getElem (by rw[zHc h1];exact hk),e]at this
 have e2:=Option.some.inj this
 exact⟨k,_,_,hk,List.getElem?_eq_getElem hk,List.getElem?_eq_getElem (Nat.mod_lt _ (by first|assumption|lia)),by rw[e2]⟩
theorem zTj {H:List Pt}{a b:Pt}{k:Nat}(h1:1<=H.length) (hk:k<H.length) (ha:H[k]?=some a) (hb:H[(k+1) % H.length]?=some b):(-(b.2-a.2),b.1-a.1)∈ups H:=by
 unfold ups wys
 refine List.mem_map.mpr ⟨(b.1-a.1,b.2-a.2),List.mem_map.mpr ⟨(a,b),?_,rfl⟩,rfl⟩
 have:=zSv h1 hk
 rw[List.getElem?_eq_getElem hk]at ha
 rw[List.getElem?_eq_getElem (Nat.mod_lt _ (by first|assumption|lia))]at hb
 rw[Option.some.inj ha,Option.some.inj hb]at this
 exact List.mem_of_getElem? this
def HU (cs H:List Pt):Prop:=(∃p,H=[p]/\cs≠[]/\∀c∈cs,c=p)\/∃rs,Hull rs H/\∀p,p∈rs <-> p∈cs
theorem HU.ne {cs H:List Pt}(h:HU cs H):1<=H.length:=by
 rcases h with⟨p,rfl,_⟩|⟨rs,h,_⟩
 ·simp
 ·have:=h.len;lia
theorem HU.sub {cs H:List Pt}(h:HU cs H):∀p∈H,p∈cs:=by
 rcases h with⟨p,rfl,ne,h⟩|⟨rs,h,e⟩
 ·intro q hq
  rw[List.mem_singleton.mp hq]
  obtain⟨c,r,rfl⟩:=List.exists_cons_of_ne_nil ne
  have:=h c (.head _)
  rw[<- this];exact .head _
 ·exact fun p hp=>(e p).mp (h.sub p hp)
theorem HU.nd {cs H:List Pt}(h:HU cs H):H.Nodup:=by
 rcases h with⟨p,rfl,_⟩|⟨rs,h,e⟩
 ·simp
 ·exact h.nd
theorem HU.len {cs H:List Pt}(h:HU cs H):H.length<=cs.length:=zNu h.nd h.sub
theorem along {a b c:Pt}(h1:plt a b) (h2:c=a\/plt a c) (e:crs a b c=0):0<=(b.1-a.1)*(c.1-a.1)+(b.2-a.2)*(c.2-a.2):=by
 rcases h2 with rfl|h2
 ·simp
 ·unfold plt at h1 h2
  unfold crs at e
  rcases h1 with h1|⟨h1,h1'⟩
  ·have p1:0<=(b.1-a.1)*(c.1-a.1):=Int.mul_nonneg (by first|assumption|lia) (by first|assumption|lia)
   have p2:0<=(b.2-a.2)*(b.2-a.2)*(c.1-a.1):=Int.mul_nonneg (by rcases Int.le_total 0 (b.2-a.2)with q|q;exact Int.mul_nonneg q q;exact Int.mul_nonneg_of_nonpos_of_nonpos q q) (by first|assumption|lia)
   have p3:(b.1-a.1)*((b.2-a.2)*(c.2-a.2))=(b.2-a.2)*(b.2-a.2)*(c.1-a.1):=by grind
   have p4:0<=(b.2-a.2)*(c.2-a.2):=zQw (a:=b.1-a.1) (by first|assumption|lia) (by rw[p3];exact p2)
   lia
  ·have z:b.1-a.1=0:=by first|assumption|lia
   rw[z]at e ⊢
   have:c.1-a.1=0:=by
    rcases Int.mul_eq_zero.mp (show(b.2-a.2)*(c.1-a.1)=0 by omega)with q|q
    ·lia
    ·exact q
   have p4:0<=(b.2-a.2)*(c.2-a.2):=Int.mul_nonneg (by first|assumption|lia) (by first|assumption|lia)
   lia
theorem along' {a b c:Pt}(h1:plt a b) (h2:c=b\/plt c b) (e:crs a b c=0):0<=(b.1-a.1)*(b.1-c.1)+(b.2-a.2)*(b.2-c.2):=by
 have:=along (a:=ng b) (b:=ng a) (c:=ng c) (plt_ng.mpr h1) (h2.imp (fun z=>by rw[z]) fun z=>plt_ng.mpr z) (by rw[zL4,back];unfold crs at *;grind)
 unfold ng at this
 dsimp only at this
 grind
theorem HU.wi {cs H:List Pt}(h:HU cs H) {c:Pt}(hc:c∈cs):Wi H c:=by
 intro s hs
 rcases h with⟨p,rfl,ne,h⟩|⟨rs,h,e⟩
 ·rw[h c hc];exact zQx (.head _)
 ·have l2:=h.len
  have one:H.length≠1:=by first|assumption|lia
  have ups:s∈ups H->mw s H<=wth s c:=fun hs=>by
   obtain⟨k,a,b,hk,ha,hb,rfl⟩:=zWn (by first|assumption|lia) hs
   obtain⟨a',b',_,ha',hb',_,sd,_⟩:=h.side k hk
   rw[ha]at ha';cases ha'
   rw[hb]at hb';cases hb'
   have:=sd c ((e c).mpr hc)
   rw[<- zM9]at this
   have:=zQx (s:=(-(b.2-a.2),b.1-a.1)) (List.mem_of_getElem? ha)
   lia
  unfold inw at hs
  rw[if_neg one]at hs
  by_cases t:H.length=2
  ·rw[if_pos t]at hs
   rcases List.mem_append.mp hs with hs|hs
   ·exact ups hs
   ·obtain⟨a,b,rfl,l0,lb⟩:=h.lin t
    obtain⟨a',ea,la⟩:=h.fst
    cases ea
    have hc':=(e c).mpr hc
    have hb':b∈rs:=h.sub b (.tail _ (.head _))
    have lt:plt a b:=by
     rcases la b hb' with q|q
     ·exfalso
      have:=h.nd
      rw[q]at this
      simp at this
     ·exact q
    have q1:=along lt (la c hc') (l0 c hc')
    have q2:=along' lt (lb c hc') (l0 c hc')
    have m1:=zQx (s:=s) (p:=a) (H:=[a,b]) (.head _)
    have m2:=zQx (s:=s) (p:=b) (H:=[a,b]) (.tail _ (.head _))
    unfold wys nbs at hs
    simp at hs
    rcases hs with rfl|rfl
    ·unfold wth at m1 ⊢
     dsimp only at m1 ⊢
     grind
    ·unfold wth at m2 ⊢
     dsimp only at m2 ⊢
     grind
  ·rw[if_neg t]at hs
   exact ups hs
theorem HU.mw {cs H:List Pt}(h:HU cs H) {s:Pt}(hs:s∈inw H):mw s cs=mw s H:=by
 have ne:H≠[]:=fun z=>by have:=h.ne;rw[z]at this;simp at this
 obtain⟨p,hp,e⟩:=zNv (s:=s) ne
 rw[e]
 refine zYa (List.mem_map.mpr ⟨p,h.sub p hp,rfl⟩) fun x hx=>?_
 obtain⟨c,hc,rfl⟩:=List.mem_map.mp hx
 rw[<- e]
 exact h.wi hc s hs
def CC (H:List Pt) (q:Pt):Prop:=∃(t1 t2 t3:Int) (a b c:Pt),0<=t1/\0<=t2/\0<=t3/\0<t1+t2+t3/\a∈H/\b∈H/\c∈H /\
 t1*a.1+t2*b.1+t3*c.1=(t1+t2+t3)*q.1/\t1*a.2+t2*b.2+t3*c.2=(t1+t2+t3)*q.2
theorem CC.ge {H:List Pt}{q:Pt}(h:CC H q) {s:Pt}{m:Int}(hm:∀p∈H,m<=wth s p):m<=wth s q:=by
 obtain⟨t1,t2,t3,a,b,c,h1,h2,h3,hp,ha,hb,hc,e1,e2⟩:=h
 have p1:0<=t1*(wth s a-m):=Int.mul_nonneg h1 (by have:=hm a ha;lia)
 have p2:0<=t2*(wth s b-m):=Int.mul_nonneg h2 (by have:=hm b hb;lia)
 have p3:0<=t3*(wth s c-m):=Int.mul_nonneg h3 (by have:=hm c hc;lia)
 have e:t1*(wth s a-m)+t2*(wth s b-m)+t3*(wth s c-m)=(t1+t2+t3)*(wth s q-m):=by
  unfold wth
  have f1:s.1*(t1*a.1+t2*b.1+t3*c.1)=s.1*((t1+t2+t3)*q.1):=by rw[e1]
  have f2:s.2*(t1*a.2+t2*b.2+t3*c.2)=s.2*((t1+t2+t3)*q.2):=by rw[e2]
  grind
 have:=zQw hp (by rw[<- e];lia)
 lia
theorem CC.wi {H cs:List Pt}{q:Pt}(h:CC cs q) (hu:HU cs H):Wi H q:=fun s hs=>h.ge fun p hp=>hu.wi hp s hs
end
end DP
namespace DP
open DS
noncomputable section
open Classical
theorem ivt {g:Nat->Int}:∀(m i:Nat),0<g i->g (i+m)<=0->∃j,i<=j/\j<i+m/\0<g j/\g (j+1)<=0
 | 0,i,h,h'=>by rw[Nat.add_zero]at h';lia
 | m+1,i,h,h'=>by
  by_cases z:g (i+1)<=0
  ·exact⟨i,Nat.le_refl _,by first|assumption|lia,h,z⟩
  ·obtain⟨j,a,b,c⟩:=ivt (g:=g) m (i+1) (by first|assumption|lia) (by rw[show i+1+m=i+(m+1) by first|assumption|lia];exact h')
   exact⟨j,by first|assumption|lia,by first|assumption|lia,c⟩
theorem bary1 {a b c q:Pt}:crs b c q*a.1+crs c a q*b.1+crs a b q*c.1=(crs b c q+crs c a q+crs a b q)*q.1:=by unfold crs;grind
theorem bary2 {a b c q:Pt}:crs b c q*a.2+crs c a q*b.2+crs a b q*c.2=(crs b c q+crs c a q+crs a b q)*q.2:=by unfold crs;grind
theorem fan {H:List Pt}{q:Pt}(hn:3<=H.length) (sd:∀k a b,k<H.length->H[k]?=some a->H[(k+1) % H.length]?=some b->0<=crs a b q)
  (tn:∀k a b c,k<H.length->H[k]?=some a->H[(k+1) % H.length]?=some b->H[(k+2) % H.length]?=some c->0<crs a b c):CC H q:=by
 have at_:∀i (h:i<H.length),H[i]?=some (H[i]'h):=fun i h=>List.getElem?_eq_getElem h
 generalize hg:(fun i=>if h:i<H.length then crs (H[0]'(by first|assumption|lia)) (H[i]'h) q else 0)=g
 have gi:∀i (h:i<H.length),g i=crs (H[0]'(by first|assumption|lia)) (H[i]'h) q:=fun i h=>by rw[<- hg];simp[h]
 have s01:=sd 0 _ _ (by first|assumption|lia) (at_ 0 (by first|assumption|lia)) (by rw[Nat.mod_eq_of_lt (by first|assumption|lia)];exact at_ 1 (by first|assumption|lia))
 have sl0:=sd (H.length-1) _ _ (by first|assumption|lia) (at_ (H.length-1) (by first|assumption|lia)) (by rw[show H.length-1+1=H.length by first|assumption|lia,Nat.mod_self];exact at_ 0 (by first|assumption|lia))
 have gl:g (1+(H.length-2))<=0:=by
  rw[gi _ (by first|assumption|lia),back]
  simp only[show 1+(H.length-2)=H.length-1 by first|assumption|lia]
  lia
 rcases Int.lt_or_eq_of_le s01 with p|z
 ·obtain⟨j,j1,j2,g1,g2⟩:=ivt (g:=g) (H.length-2) 1 (by rw[gi 1 (by first|assumption|lia)];exact p) gl
  have hj:j+1<H.length:=by first|assumption|lia
  rw[gi _ (by first|assumption|lia)]at g1
  rw[gi _ hj]at g2
  have s:=sd j _ _ (by first|assumption|lia) (at_ j (by first|assumption|lia)) (by rw[Nat.mod_eq_of_lt hj];exact at_ (j+1) hj)
  rw[back]at g2
  exact⟨_,_,_,_,_,_,s,by first|assumption|lia,Int.le_of_lt g1,by first|assumption|lia,List.getElem_mem _,List.getElem_mem _,List.getElem_mem _,bary1,bary2⟩
 ·have t0:=tn (H.length-1) _ _ _ (by first|assumption|lia) (at_ (H.length-1) (by first|assumption|lia)) (by rw[show H.length-1+1=H.length by first|assumption|lia,Nat.mod_self];exact at_ 0 (by first|assumption|lia)) (by rw[show H.length-1+2=1+H.length by first|assumption|lia,Nat.add_mod_right,Nat.mod_eq_of_lt (by first|assumption|lia)];exact at_ 1 (by first|assumption|lia))
  have t1:=tn 0 _ _ _ (by first|assumption|lia) (at_ 0 (by first|assumption|lia)) (by rw[Nat.mod_eq_of_lt (by first|assumption|lia)];exact at_ 1 (by first|assumption|lia)) (by rw[Nat.mod_eq_of_lt (by first|assumption|lia)];exact at_ 2 (by first|assumption|lia))
  have s12:=sd 1 _ _ (by first|assumption|lia) (at_ 1 (by first|assumption|lia)) (by rw[Nat.mod_eq_of_lt (by first|assumption|lia)];exact at_ 2 (by first|assumption|lia))
  have m0:H[0]'(by first|assumption|lia)∈H:=List.getElem_mem _
  have m1:H[1]'(by first|assumption|lia)∈H:=List.getElem_mem _
  generalize H[0]'(by first|assumption|lia)=a at *
  generalize H[1]'(by first|assumption|lia)=b at *
  generalize H[2]'(by first|assumption|lia)=c at *
  generalize H[H.length-1]'(by first|assumption|lia)=l at *
  have i1:crs l a b*(q.1-a.1)=crs l a q*(b.1-a.1):=by
   have:crs l a b*(q.1-a.1)-crs l a q*(b.1-a.1)=-(crs a b q)*(a.1-l.1):=by unfold crs;grind
   rw[<- z]at this
   omega
  have i2:crs l a b*(q.2-a.2)=crs l a q*(b.2-a.2):=by
   have:crs l a b*(q.2-a.2)-crs l a q*(b.2-a.2)=-(crs a b q)*(a.2-l.2):=by unfold crs;grind
   rw[<- z]at this
   omega
  have i3:crs a b c*(crs l a b-crs l a q)=crs l a b*crs b c q:=by
   have:crs a b c*(crs l a b-crs l a q)-crs l a b*crs b c q=((c.1-b.1)*(a.2-l.2)-(c.2-b.2)*(a.1-l.1))*crs a b q:=by unfold crs;grind
   rw[<- z]at this
   lia
  have n0:0<=crs l a b-crs l a q:=zQw t1 (by rw[i3];exact Int.mul_nonneg (by first|assumption|lia) s12)
  exact⟨crs l a b-crs l a q,crs l a q,0,a,b,b,n0,sl0,Int.le_refl _,by first|assumption|lia,m0,m1,m1,by grind,by grind⟩
theorem HU.cc {cs H:List Pt}{q:Pt}(h:HU cs H) (w:Wi H q):CC H q:=by
 rcases h with⟨p,rfl,ne,h⟩|⟨rs,h,e⟩
 ·have w1:=w (1,0) (by simp[inw])
  have w2:=w (0,1) (by simp[inw])
  have w3:=w (-1,0) (by simp[inw])
  have w4:=w (0,-1) (by simp[inw])
  simp[DP.mw,mn,wth]at w1 w2 w3 w4
  exact⟨1,0,0,p,p,p,by first|assumption|lia,by first|assumption|lia,by first|assumption|lia,by first|assumption|lia,.head _,.head _,.head _,by first|assumption|lia,by first|assumption|lia⟩
 ·have l2:=h.len
  have sd:∀k a b,k<H.length->H[k]?=some a->H[(k+1) % H.length]?=some b->0<=crs a b q:=fun k a b hk ha hb=>by
   obtain⟨a',b',_,ha',hb',_,sd,_⟩:=h.side k hk
   rw[ha]at ha';cases ha'
   rw[hb]at hb';cases hb'
   have hs:=zTj (by first|assumption|lia) hk ha hb
   have:=w _ (show _∈inw H by
    unfold inw
    rw[if_neg (by first|assumption|lia)]
    by_cases t:H.length=2
    ·rw[if_pos t];exact List.mem_append_left _ hs
    ·rw[if_neg t];exact hs)
   obtain⟨p,hp,ep⟩:=zNv (s:=(-(b.2-a.2),b.1-a.1)) (H:=H) (fun z=>by rw[z]at l2;simp at l2)
   have:=sd p (h.sub p hp)
   rw[<- zM9]at this ⊢
   lia
  by_cases t:H.length=2
  ·obtain⟨a,b,rfl,l0,lb⟩:=h.lin t
   have lt:a≠b:=fun z=>by
    have:=h.nd
    rw[z]at this
    simp at this
   have s1:=sd 0 a b (by simp) rfl rfl
   have s2:=sd 1 b a (by simp) rfl (by simp)
   rw[back]at s2
   have z:crs a b q=0:=by first|assumption|lia
   have w1:=w (b.1-a.1,b.2-a.2) (by simp[inw,wys,nbs])
   have w2:=w (a.1-b.1,a.2-b.2) (by simp[inw,wys,nbs])
   have dd:0<(b.1-a.1)*(b.1-a.1)+(b.2-a.2)*(b.2-a.2):=by
    have n1:0<=(b.1-a.1)*(b.1-a.1):=by rcases Int.le_total 0 (b.1-a.1)with q|q;exact Int.mul_nonneg q q;exact Int.mul_nonneg_of_nonpos_of_nonpos q q
    have n2:0<=(b.2-a.2)*(b.2-a.2):=by rcases Int.le_total 0 (b.2-a.2)with q|q;exact Int.mul_nonneg q q;exact Int.mul_nonneg_of_nonpos_of_nonpos q q
    rcases Int.lt_or_eq_of_le n1 with y|y
    ·lia
    ·rcases Int.lt_or_eq_of_le n2 with x|x
     ·lia
     ·exfalso
      have x1:=(Int.mul_eq_zero.mp y.symm).elim id id
      have x2:=(Int.mul_eq_zero.mp x.symm).elim id id
      exact lt (Prod.ext (by first|assumption|lia) (by first|assumption|lia))
   have v1:0<=(b.1-a.1)*(q.1-a.1)+(b.2-a.2)*(q.2-a.2):=by
    obtain⟨p,hp,ep⟩:=zNv (s:=(b.1-a.1,b.2-a.2)) (H:=[a,b]) (by simp)
    rw[ep]at w1
    unfold wth at w1
    simp at hp
    rcases hp with rfl|rfl <;> grind
   have v2:0<=(b.1-a.1)*(b.1-q.1)+(b.2-a.2)*(b.2-q.2):=by
    obtain⟨p,hp,ep⟩:=zNv (s:=(a.1-b.1,a.2-b.2)) (H:=[a,b]) (by simp)
    rw[ep]at w2
    unfold wth at w2
    simp at hp
    rcases hp with rfl|rfl <;> grind
   refine⟨_,_,0,a,b,b,v2,v1,Int.le_refl _,by grind,.head _,.tail _ (.head _),.tail _ (.head _),?_,?_⟩
   ·unfold crs at z;grind
   ·unfold crs at z;grind
  ·exact fan (by first|assumption|lia) sd fun k a b c hk ha hb hc=>by
    obtain⟨a',b',c',ha',hb',hc',_,tn⟩:=h.side k hk
    rw[ha]at ha';cases ha'
    rw[hb]at hb';cases hb'
    rw[hc]at hc';cases hc'
    exact tn (by first|assumption|lia)
theorem HU.ext {cs H:List Pt}{q:Pt}(h:HU cs H) (hq:q∈H):∃s:Pt,∀p∈H,p≠q->wth s q<wth s p:=by
 rcases h with⟨p,rfl,ne,h⟩|⟨rs,h,e⟩
 ·exact⟨(0,0),fun r hr n=>absurd ((List.mem_singleton.mp hr).trans (List.mem_singleton.mp hq).symm) n⟩
 ·have l2:=h.len
  obtain⟨k,hk,rfl⟩:=List.mem_iff_getElem.mp hq
  obtain⟨l,hl,el⟩:∃l,l<H.length/\(l+1) % H.length=k:=by
   cases k with
   | zero=>exact⟨H.length-1,by first|assumption|lia,by rw[show H.length-1+1=H.length by first|assumption|lia,Nat.mod_self]⟩
   | succ k=>exact⟨k,by first|assumption|lia,Nat.mod_eq_of_lt hk⟩
  obtain⟨a,b,c,ha,hb,hc,s1,tn⟩:=h.side l hl
  rw[el,List.getElem?_eq_getElem hk]at hb
  cases hb
  by_cases t:H.length=2
  ·refine⟨(a.1-H[k].1,a.2-H[k].2),fun p hp n=>?_⟩
   have pa:p=a:=by
    obtain⟨x,y,rfl,_⟩:=h.lin t
    have nd:=h.nd
    simp at nd hp
    have:l=0\/l=1:=by simp at hl;lia
    rcases this with rfl|rfl
    ·simp at el;subst el;simp at ha n ⊢;subst ha;rcases hp with z|z;exact z;exact absurd z n
    ·simp at el;subst el;simp at ha n ⊢;subst ha;rcases hp with z|z;exact absurd z n;exact z
   subst pa
   generalize H[k]=q at *
   have dd:0<(p.1-q.1)*(p.1-q.1)+(p.2-q.2)*(p.2-q.2):=by
    have n1:0<=(p.1-q.1)*(p.1-q.1):=by rcases Int.le_total 0 (p.1-q.1)with q|q;exact Int.mul_nonneg q q;exact Int.mul_nonneg_of_nonpos_of_nonpos q q
    have n2:0<=(p.2-q.2)*(p.2-q.2):=by rcases Int.le_total 0 (p.2-q.2)with q|q;exact Int.mul_nonneg q q;exact Int.mul_nonneg_of_nonpos_of_nonpos q q
    rcases Int.lt_or_eq_of_le n1 with y|y
    ·lia
    ·rcases Int.lt_or_eq_of_le n2 with x|x
     ·lia
     ·exfalso
      have x1:=(Int.mul_eq_zero.mp y.symm).elim id id
      have x2:=(Int.mul_eq_zero.mp x.symm).elim id id
      exact n (Prod.ext (by first|assumption|lia) (by first|assumption|lia))
   unfold wth
   dsimp only
   grind
  ·have tn:=tn (by first|assumption|lia)
   obtain⟨b',c',_,hb',hc',_,s2,_⟩:=h.side k hk
   rw[List.getElem?_eq_getElem hk]at hb'
   cases hb'
   have ec:(k+1) % H.length=(l+2) % H.length:=by rw[<- el,Nat.add_mod,Nat.mod_mod,<- Nat.add_mod]
   rw[ec,hc]at hc'
   cases hc'
   generalize H[k]=q at *
   refine⟨(-(q.2-a.2)+-(c.2-q.2),(q.1-a.1)+(c.1-q.1)),fun p hp n=>?_⟩
   have u1:=s1 p (h.sub p hp)
   have u2:=s2 p (h.sub p hp)
   have e:wth (-(q.2-a.2)+-(c.2-q.2),(q.1-a.1)+(c.1-q.1)) p-wth (-(q.2-a.2)+-(c.2-q.2),(q.1-a.1)+(c.1-q.1)) q=crs a q p+crs q c p:=by unfold wth crs;grind
   by_cases z:crs a q p+crs q c p=0
   ·exfalso
    have z1:crs a q p=0:=by first|assumption|lia
    have z2:crs q c p=0:=by first|assumption|lia
    have i1:crs a q c*(p.1-q.1)=crs a q p*(c.1-q.1)-crs q c p*(q.1-a.1):=by unfold crs;grind
    have i2:crs a q c*(p.2-q.2)=crs a q p*(c.2-q.2)-crs q c p*(q.2-a.2):=by unfold crs;grind
    rw[z1,z2]at i1 i2
    have j1:p.1-q.1=0:=by rcases Int.mul_eq_zero.mp (i1.trans (by first|assumption|lia))with z|z;lia;exact z
    have j2:p.2-q.2=0:=by rcases Int.mul_eq_zero.mp (i2.trans (by first|assumption|lia))with z|z;lia;exact z
    exact n (Prod.ext (by first|assumption|lia) (by first|assumption|lia))
   ·lia
theorem CC.gt {H:List Pt}{q:Pt}(h:CC H q) {s:Pt}{m:Int}(hm:∀p∈H,m<wth s p):m<wth s q:=by
 have:=h.ge (s:=s) (m:=m+1) fun p hp=>by have:=hm p hp;lia
 lia
theorem HU.far {cs H:List Pt}{q o:Pt}(h:HU cs H) (hq:q∈H) (ho:o∈H) (n:o≠q):¬ Wi H (2*q.1-o.1,2*q.2-o.2):=fun w=>by
 obtain⟨s,hs⟩:=h.ext hq
 have:=(h.cc w).ge (s:=s) (m:=wth s q) fun p hp=>by
  by_cases z:p=q
  ·rw[z];exact Int.le_refl _
  ·exact Int.le_of_lt (hs p hp z)
 have:=hs o ho n
 unfold wth at *
 dsimp only at *
 grind
theorem HU.out {cs H os H':List Pt}{q:Pt}(h:HU cs H) (hq:q∈H) (h':HU os H') (ho:∀p∈os,p∈H/\p≠q):¬ Wi H' q:=fun w=>by
 obtain⟨s,hs⟩:=h.ext hq
 have:=(h'.cc w).gt (s:=s) (m:=wth s q) fun p hp=>hs p (ho p (h'.sub p hp)).1 (ho p (h'.sub p hp)).2
 lia
theorem HU.back {cs H H':List Pt}{c:Pt}(h:HU cs H) (hc:c∈cs) (h':HU H H'):Wi H' c:=(h.cc (h.wi hc)).wi h'
theorem HU.step {cs H:List Pt}{p:Pt}(h:HU cs H) (e:H.length=1) (hp:p∈H):¬ Wi H (p.1+1,p.2):=fun w=>by
 obtain⟨q,rfl⟩:=List.length_eq_one_iff.mp e
 cases List.mem_singleton.mp hp
 have:=w (-1,0) (by simp[inw])
 simp[DP.mw,mn,wth]at this
 lia
end
end DP
namespace DP
open DS
noncomputable section
open Classical
abbrev frc (x l:Int):D:=.tup [.int x,.int l]
abbrev cGd:TM:=tTru (eVar 1)
abbrev wGd:SM:=(sSeq (sSet 2 (eOp modD (eVar 0) (eVar 1))) (sSeq (sSet 0 (eVar 1)) (sSet 1 (eVar 2))))
theorem zK0 {S:Store}:∀(n:Nat) (u v:Int) (o:Option D),0<=u->0<=v->v.toNat<=n->(0<u\/0<v)->∃k g o',zAu cGd wGd k [some (.int u),some (.int v),o] S=.nx [some (.int g),some (.int 0),o'] S/\0<g/\g ∣ u/\g ∣ v
 | n,u,v,o,h0,h1,hn,hp=>by
  have c:cGd [some (.int u),some (.int v),o] S=.ok (decide (v≠0)) S:=rfl
  by_cases q:0<v
  ·match n,hn with
   | 0,hn=>lia
   | n+1,hn=>
    have w:wGd [some (.int u),some (.int v),o] S=.nx [some (.int v),some (.int (u % v)),some (.int (u % v))] S:=by
     unfold wGd
     simp_arith [zCf q]
    have r0:=Int.emod_nonneg u (show v≠0 by first|assumption|lia)
    have r1:=Int.emod_lt_of_pos u q
    obtain⟨k,g,o',e,g0,g1,g2⟩:=zK0 (S:=S) n v (u % v) (some (.int (u % v))) h1 r0 (by first|assumption|lia) (.inl q)
    refine⟨k+1,g,o',?_,g0,?_,g1⟩
    ·rw[zAu,c,decide_eq_true (by first|assumption|lia),Rs.then_ok,if_pos rfl,w]
     exact e
    ·have e0:u=v*(u / v)+u % v:=(Int.mul_ediv_add_emod u v).symm
     rw[e0]
     exact Int.dvd_add (Int.dvd_trans g1 (Int.dvd_mul_right v _)) g2
  ·have v0:v=0:=by first|assumption|lia
   subst v0
   refine⟨1,u,o,?_,by first|assumption|lia,Int.dvd_refl u,Int.dvd_zero u⟩
   rw[zAu,c,decide_eq_false (by first|assumption|lia),Rs.then_ok,if_neg (by decide)]
theorem zYs {S:Store}{X L:Int}(h1:0<L):∃g,zB5 [.int X,.int L] S=.ok (.int g) S/\0<g/\g ∣ X/\g ∣ L:=by
 have ab:absB S [.int X]=some (.int (if X<0 then -X else X)):=rfl
 have ab':absB S [.int L]=some (.int L):=by show some (D.int (if L<0 then -L else L))=_;rw[if_neg (by first|assumption|lia)]
 generalize hu:(if X<0 then -X else X)=u at ab
 have u0:0<=u:=by rw[<- hu];split <;> lia
 obtain⟨k,g,o',e,g0,g1,g2⟩:=zK0 (S:=S) L.toNat u L none u0 (by first|assumption|lia) (Nat.le_refl _) (.inr h1)
 have w:zC6 cGd wGd [some (.int u),some (.int L),none] S=_:=(zF7 (n:=k) (by rw[e];exact fun z=>nomatch z)).trans e
 have gX:g ∣ X:=by
  rw[<- hu]at g1
  split at g1
  ·exact(Int.dvd_neg).mp g1
  ·exact g1
 refine⟨g,zAq rfl ?_ rfl,g0,gX,g2⟩
 show zB6 [some (.int X),some (.int L),none] S=_
 unfold zB6
 have x1:sSet 0 (eCB absB (zA1 (eVar 0) aNil)) [some (.int X),some (.int L),none] S=.nx [some (.int u),some (.int L),none] S:=by simp_arith [ab]
 have x2:sSet 1 (eCB absB (zA1 (eVar 1) aNil)) [some (.int u),some (.int L),none] S=.nx [some (.int u),some (.int L),none] S:=by simp_arith [ab']
 rw[sSeq,x1]
 dsimp only
 rw[sSeq,x2]
 dsimp only
 rw[sSeq,show zC6 (tTru (eVar 1)) (sSeq (sSet 2 (eOp modD (eVar 0) (eVar 1))) (sSeq (sSet 0 (eVar 1)) (sSet 1 (eVar 2)))) [some (.int u),some (.int L),none] S=_ from w]
 dsimp only
 simp_arith [if_true]
theorem zOl {S:Store}{k:Nat}{X L:Int}(hX:BB k X) (hL:BB k L) (hk:k<=3000) (h1:0<L):∃g px pl,zC9 [.int X,.int L] S=.ok (frc px pl) S/\0<g/\X=px*g/\L=pl*g/\BB k px/\BB k pl/\0<pl:=by
 obtain⟨g,e,g0,⟨px,hx⟩,⟨pl,hp⟩⟩:=zYs (S:=S) (X:=X) h1
 have ne:g≠0:=by first|assumption|lia
 have f1:X.fdiv g=px:=by rw[hx,Int.mul_fdiv_cancel_left _ ne]
 have f2:L.fdiv g=pl:=by rw[hp,Int.mul_fdiv_cancel_left _ ne]
 have pl0:0<pl:=by
  rcases(show pl<=0\/0<pl by first|assumption|lia)with z|z
  ·have:=Int.mul_nonpos_of_nonneg_of_nonpos (Int.le_of_lt g0) z;lia
  ·exact z
 have small:∀y z:Int,BB k y->y=g*z->BB k z:=fun y z hy e=>by
  have:z.natAbs<=y.natAbs:=by
   rw[e,Int.natAbs_mul]
   exact Nat.le_mul_of_pos_left _ (by first|assumption|lia)
  unfold BB at *
  lia
 have gs:BB k g:=by
  have:g.natAbs<=L.natAbs:=by
   rw[hp,Int.natAbs_mul]
   exact Nat.le_mul_of_pos_right _ (by first|assumption|lia)
  unfold BB at *
  lia
 have gm:sm g:=gs.sm (by first|assumption|lia)
 have lt:ltI S (.int L) (.int 0)=some (.bl false):=by rw[zO2,decide_eq_false (by first|assumption|lia)]
 refine⟨g,px,pl,zAq rfl ?_ rfl,g0,by rw[hx,Int.mul_comm],by rw[hp,Int.mul_comm],small X px hX hx,small L pl hL hp,pl0⟩
 show zD7 [some (.int X),some (.int L),none] S=_
 unfold zD7
 simp_arith [e,lt,zJj g0 gm,f1,f2]
theorem zK3 {S:Store}{k:Nat}{a b c d:Int}(ha:BB k a) (hb:BB k b) (hc:BB k c) (hd:BB k d) (hk:k<=1000) (h1:0<b) (h2:0<d):∃p r g,zFi [frc a b,frc c d] S=.ok (frc p r) S/\0<r/\BB (k+k) p/\BB (k+k) r/\0<g/\a*c=p*g/\b*d=r*g:=by
 obtain⟨g,px,pl,e,g0,e1,e2,b1,b2,p0⟩:=zOl (S:=S) (ha.mul hc) (hb.mul hd) (by first|assumption|lia) (Int.mul_pos h1 h2)
 refine⟨px,pl,g,zAq rfl ?_ rfl,p0,b1,b2,g0,e1,e2⟩
 unfold zJv
 simp_arith [zAy ha hc (by first|assumption|lia) (by first|assumption|lia),zAy hb hd (by first|assumption|lia) (by first|assumption|lia),e]
theorem zS7 {S:Store}{k:Nat}{a b c d:Int}(ha:BB k a) (hb:BB k b) (hc:BB k c) (hd:BB k d) (hk:k<=1000) (h1:0<b) (h2:0<d):∃p r g,zHh [frc a b,frc c d] S=.ok (frc p r) S/\0<r/\BB (k+k+1) p/\BB (k+k+1) r/\0<g/\a*d+c*b=p*g/\b*d=r*g:=by
 have b0:=(ha.mul hd).add (hc.mul hb)
 rw[Nat.max_self]at b0
 obtain⟨g,px,pl,e,g0,e1,e2,b1,b2,p0⟩:=zOl (S:=S) b0 ((hb.mul hd).mono (Nat.le_succ _)) (by first|assumption|lia) (Int.mul_pos h1 h2)
 refine⟨px,pl,g,zAq rfl ?_ rfl,p0,b1,b2,g0,e1,e2⟩
 unfold zJw
 simp_arith [zAy ha hd (by first|assumption|lia) (by first|assumption|lia),zAy hc hb (by first|assumption|lia) (by first|assumption|lia),zAy hb hd (by first|assumption|lia) (by first|assumption|lia),e]
def kc (b:Bool) (p:Pt):D:=if b then .ktup [.int p.1,.int p.2]else cel p
theorem zKq {S:Store}{b:Bool}{p:Pt}:ixD S (kc b p) (.int 0)=some (.int p.1):=by cases b <;> exact atL0
theorem zKp {S:Store}{b:Bool}{p:Pt}:ixD S (kc b p) (.int 1)=some (.int p.2):=by cases b <;> exact atL1
theorem zPn {S:Store}{b:Bool}{k:Nat}{s p:Pt}(h1:BB k s.1) (h2:BB k s.2) (h3:BB k p.1) (h4:BB k p.2) (hk:k<=1000):zEa [kc b s,cel p] S=.ok (.int (wth s p)) S:=by
 refine zAq rfl ?_ rfl
 show zHy [some (kc b s),some (cel p)] S=_
 unfold zHy
 simp_arith [zKq,zKp,zAy h1 h3 (by first|assumption|lia) (by first|assumption|lia),zAy h2 h4 (by first|assumption|lia) (by first|assumption|lia),wth]
theorem at_ok {S:Store}{b:Bool}{s:Pt}{x lx y ly n:Int}(h1:BB 200 s.1) (h2:BB 200 s.2) (hx:BB 200 x) (hlx:BB 200 lx) (hy:BB 200 y) (hly:BB 200 ly) (p1:0<lx) (p2:0<ly) (hn:BB 1000 n):
  ∃w,zC7 [kc b s,.tup [frc x lx,frc y ly]] S=.ok w S/\zCs [w,.tup [.int n,.int 1]] S=.ok (.bl (decide (s.1*x*ly+s.2*y*lx<n*(lx*ly)))) S:=by
 have one:BB 200 1:=BB.lit rfl
 obtain⟨a,r,g,e1,r0,ba,br,g0,q1,q2⟩:=zK3 (S:=S) h1 one hx hlx (by decide) (by decide) p1
 obtain⟨a',r',g',e2,r0',ba',br',g0',q1',q2'⟩:=zK3 (S:=S) h2 one hy hly (by decide) (by decide) p2
 obtain⟨p,d,f,e3,d0,bp,bd,f0,q3,q4⟩:=zS7 (S:=S) ba br ba' br' (by decide) r0 r0'
 have key:(s.1*x*ly+s.2*y*lx)*d=p*(lx*ly):=by
  have f1:(s.1*x*ly+s.2*y*lx)=(a*r'+a'*r)*(g*g'):=by grind
  have f2:lx*ly=(r*r')*(g*g'):=by grind
  rw[f1,f2,q3,q4]
  grind
 have lp:0<lx*ly:=Int.mul_pos p1 p2
 have dec:decide (p<n*d)=decide (s.1*x*ly+s.2*y*lx<n*(lx*ly)):=by
  apply decide_eq_decide.mpr
  constructor
  ·intro z
   have:p*(lx*ly)<n*d*(lx*ly):=Int.mul_lt_mul_of_pos_right z lp
   rw[<- key]at this
   exact Int.lt_of_mul_lt_mul_right (a:=d) (by grind) (Int.le_of_lt d0)
  ·intro z
   have:(s.1*x*ly+s.2*y*lx)*d<n*(lx*ly)*d:=Int.mul_lt_mul_of_pos_right z d0
   rw[key]at this
   exact Int.lt_of_mul_lt_mul_right (a:=lx*ly) (by grind) (Int.le_of_lt lp)
 refine⟨frc p d,zAq rfl ?_ rfl,zAq rfl ?_ rfl⟩
 ·show zD5 [some (kc b s),some (.tup [frc x lx,frc y ly]),none,none] S=_
  unfold zD5
  simp_arith [zKq,zKp,e1,e2,e3]
 ·unfold zFt
  simp_arith [zAy bp one,zAy hn bd,zO2,Int.mul_one,dec]
end
end DP
namespace DP
open DS
noncomputable section
open Classical
theorem yA3 {l:List D}(h:l≠[]):cutL l (some 1) none=l.drop 1:=by
 have e1:sIx l.length 0 (some 1)=1:=by
  show(if(1:Int)<0 then((1:Int)+(l.length:Int)).toNat else min (1:Int).toNat l.length)=1
  have:0<l.length:=List.length_pos_iff.mpr h
  rw[if_neg (by decide)];simp;lia
 have e2:sIx l.length l.length none=l.length:=rfl
 unfold cutL
 rw[e1,e2,List.take_of_length_le (by rw[List.length_drop];lia)]
theorem yA2 {l:List D}(h:l≠[]):cutL l none (some 1)=l.take 1:=by
 have e1:sIx l.length l.length (some 1)=1:=by
  show(if(1:Int)<0 then((1:Int)+(l.length:Int)).toNat else min (1:Int).toNat l.length)=1
  have:0<l.length:=List.length_pos_iff.mpr h
  rw[if_neg (by decide)];simp;lia
 unfold cutL
 rw[e1];rfl
abbrev prD (p:Pt × Pt):D:=.tup [cel p.1,cel p.2]
theorem zY7 {S:Store}{rs:List Pt}(h2:2<=rs.length) (h9:rs.length<=61):zBg [.tup (rs.map cel)] S=.ok (.lst ((nbs rs).map prD)) S:=by
 have hn:rs.map cel≠[]:=fun z=>by
  have:=congrArg List.length z
  simp at this
  rw[this]at h2
  simp at h2
 have s1:slD S (.tup (rs.map cel)) (some 1) none=some (.tup ((rs.drop 1).map cel)):=by
  show some (D.tup (cutL (rs.map cel) (some 1) none))=_
  rw[yA3 hn,List.map_drop]
 have s2:slD S (.tup (rs.map cel)) none (some 1)=some (.tup ((rs.take 1).map cel)):=by
  show some (D.tup (cutL (rs.map cel) none (some 1)))=_
  rw[yA2 hn,List.map_take]
 have ad:addD S (.tup ((rs.drop 1).map cel)) (.tup ((rs.take 1).map cel))=some (.tup ((rs.drop 1++rs.take 1).map cel)):=by
  have m9:100<=most:=by decide
  show(if(rs.drop 1).map cel≠[]/\((rs.drop 1).map cel).length+((rs.take 1).map cel).length<=most then some (D.tup ((rs.drop 1).map cel++(rs.take 1).map cel))else none)=_
  rw[if_pos ⟨fun z=>by
   have:=congrArg List.length z
   simp at this
   lia,by simp;lia⟩,List.map_append]
 have zt:zipT S [.tup (rs.map cel),.tup ((rs.drop 1++rs.take 1).map cel)]=some (.lst ((nbs rs).map prD)):=by
  show some (D.lst (((rs.map cel).zip ((rs.drop 1++rs.take 1).map cel)).map fun p=>.tup [p.1,p.2]))=_
  rw[List.zip_map,List.map_map]
  rfl
 have lowp:∀(l:List (Pt × Pt)),lowL S.length (l.map prD)=true:=fun l=>by
  induction l with
  | nil=>rfl
  | cons a l ih=>show(true && lowL S.length (l.map prD))=true;rw[ih];rfl
 refine zAq rfl ?_ (lowp _)
 show zC2 [some (.tup (rs.map cel))] S=_
 unfold zC2
 simp only[sRet,eCB,zA1,aNil,eOp,eSl,pNo,pYes,eC,asI,eVar,List.getElem?_cons_zero,Rs.bind_ok,Rs.then_ok,zA7,Option.map_some,s1,s2,ad,zt]
theorem zTa {α:Type}{h f:α->D}{gd:List (Nat × D)}{g:GM}{e:EM}{S:Store}{I:Env->Prop}(hg:gOk S gd):∀(xs:List α) (k:Nat) (env:Env),I env->k+xs.length<=most->
  (∀a∈xs,∀env,I env->∃env',g S (h a) env=some env'/\I env'/\e env' S=.ok (f a) S)->zDi gd g tYes e k (xs.map h) env S=.ok (xs.map f) S
 | [],k,env,_,_,_=>by rw[List.map_nil,zDi,if_pos hg];rfl
 | a::xs,k,env,hi,hk,he=>by
  have hk':k+(xs.length+1)<=most:=hk
  obtain⟨env',e1,e2,e3⟩:=he a (.head _) env hi
  rw[List.map_cons,zDi,if_pos ⟨hg,by first|assumption|lia⟩,e1]
  dsimp only
  rw[tYes,Rs.bind_ok,if_pos rfl,e3,Rs.bind_ok,zTa (I:=I) hg xs (k+1) env' e2 (by first|assumption|lia) fun b hb=>he b (.tail _ hb),Rs.bind_ok]
  rfl
theorem zCt {α:Type}{h f:α->D}{own:Nat}{ix:List Nat}{i:IM}{gd:List (Nat × D)}{g:GM}{e:EM}{S:Store}{env:Env}{xs:List α}(I:Env->Prop) (hi:i env S=.ok ⟨xs.map h,gd⟩ S) (hg:gOk S gd) (h0:I (compEnv own ix env)) (hk:xs.length<=most)
  (he:∀a∈xs,∀env,I env->∃env',g S (h a) env=some env'/\I env'/\e env' S=.ok (f a) S):zB0 own ix i g tYes e env S=.ok (.lst (xs.map f)) S:=by
 rw[zB0,hi,Rs.bind_ok]
 rw[zTa (I:=I) hg xs 0 _ h0 (by first|assumption|lia) he,Rs.bind_ok]
theorem zMd {H:List Pt}(hb:∀p∈H,BP p):∀w∈wys H,BB 110 w.1/\BB 110 w.2:=fun w hw=>by
 obtain⟨p,hp,rfl⟩:=List.mem_map.mp hw
 have:=List.of_mem_zip (show(p.1,p.2)∈H.zip (H.drop 1++H.take 1)from hp)
 have b1:=hb _ this.1
 have b2:BP p.2:=by
  rcases List.mem_append.mp this.2 with z|z
  ·exact hb _ (List.mem_of_mem_drop z)
  ·exact hb _ (List.mem_of_mem_take z)
 exact⟨(b2.1.sub b1.1).mono (by decide),(b2.2.sub b1.2).mono (by decide)⟩
theorem zKr {H:List Pt}(hb:∀p∈H,BP p):∀s∈inw H,BB 110 s.1/\BB 110 s.2:=fun s hs=>by
 have u:s∈ups H->BB 110 s.1/\BB 110 s.2:=fun hs=>by
  obtain⟨w,hw,rfl⟩:=List.mem_map.mp hs
  exact⟨(zMd hb w hw).2.neg,(zMd hb w hw).1⟩
 unfold inw at hs
 split at hs
 ·simp at hs
  rcases hs with rfl|rfl|rfl|rfl <;> exact⟨BB.lit rfl,BB.lit rfl⟩
 ·split at hs
  ·rcases List.mem_append.mp hs with z|z
   ·exact u z
   ·exact zMd hb s z
  ·exact u hs
theorem zT0 {k:Nat}{b:Bool}:∀(l:List Pt),lowL k (l.map (kc b))=true
 | []=>rfl
 | p::l=>by
  show((kc b p).low k && lowL k (l.map (kc b)))=true
  rw[zT0 l]
  cases b <;> rfl
theorem zJh {H:List Pt}(h1:1<=H.length):(inw H).length<=2*H.length+2/\inw H≠[]:=by
 have e:(wys H).length=H.length:=by unfold wys;rw[List.length_map,zHc h1]
 have e':(ups H).length=H.length:=by unfold ups;rw[List.length_map,e]
 unfold inw
 split
 ·simp;lia
 ·split
  ·refine⟨by rw[List.length_append,e,e'];lia,fun z=>?_⟩
   have:=congrArg List.length z
   rw[List.length_append,e,e',List.length_nil]at this
   lia
  ·refine⟨by first|assumption|lia,fun z=>?_⟩
   have:=congrArg List.length z
   rw[e',List.length_nil]at this
   lia
theorem zOg {S:Store}{H:List Pt}(hb:∀p∈H,BP p) (h1:1<=H.length) (hl:H.length<=61):zDz [.tup (H.map cel)] S=.ok (.lst ((inw H).map (kc (decide (H.length=1))))) S:=by
 refine zAq rfl ?_ (zT0 _)
 show zF0 [some (.tup (H.map cel)),none,none] S=_
 unfold zF0
 by_cases one:H.length=1
 ·have e:eqI S (.int ((H.map cel).length:Int)) (.int 1)=some (.bl true):=by rw[zBi,decide_eq_true (by rw[List.length_map,one];rfl)]
  have l:∀l,zR4 S [.ktup l]=some (.lst l):=fun _=>rfl
  have q:inw H=[(1,0),(0,1),(-1,0),(0,-1)]:=by unfold inw;rw[if_pos one]
  rw[q,decide_eq_true one]
  simp_arith [zFe,e,l]
  rfl
 ·have e:eqI S (.int ((H.map cel).length:Int)) (.int 1)=some (.bl false):=by rw[zBi,decide_eq_false (by rw[List.length_map];lia)]
  have n:=zY7 (S:=S) (rs:=H) (by first|assumption|lia) hl
  have m9:1000<=most:=by decide
  have nl:=zHc h1
  have c1:zB0 2 [] (iVal (zA9 zBg (zA1 (eVar 0) aNil))) (gTup [(gName 0),(gName 1)]) tYes (eTup (zA1 (eOp subD (eOp ixD (eVar 1) (eC (.int 0))) (eOp ixD (eVar 0) (eC (.int 0)))) (zA1 (eOp subD (eOp ixD (eVar 1) (eC (.int 1))) (eOp ixD (eVar 0) (eC (.int 1)))) aNil))) [some (.tup (H.map cel)),none,none] S=.ok (.lst ((wys H).map cel)) S:=by
   rw[zCt (xs:=nbs H) (h:=prD) (gd:=[]) (fun env=>∃a b,env=[a,b]) (f:=fun p=>cel (p.2.1-p.1.1,p.2.2-p.1.2)) (by simp only[iVal,zA9,zA1,aNil,eVar,List.getElem?_cons_zero,Rs.bind_ok,n,zGs,zA7]) zAt ⟨none,none,rfl⟩ (by first|assumption|lia) ?_]
   ·unfold wys
    rw[List.map_map];rfl
   ·rintro p hp env ⟨a,b,rfl⟩
    refine⟨[some (cel p.1),some (cel p.2)],by simp_arith [if_true],⟨_,_,rfl⟩,by simp_arith [if_true]⟩
  have c2:zB0 1 [] (iVal (eVar 1)) (gName 0) tYes (eTup (zA1 (eUn negD (eOp ixD (eVar 0) (eC (.int 1)))) (zA1 (eOp ixD (eVar 0) (eC (.int 0))) aNil))) [some (.tup (H.map cel)),some (.lst ((wys H).map cel)),none] S=.ok (.lst ((ups H).map cel)) S:=by
   rw[zCt (xs:=wys H) (h:=cel) (gd:=[]) (fun env=>∃a,env=[a]) (f:=fun w=>cel (-w.2,w.1)) (by simp only[iVal,eVar,List.getElem?_cons_zero,List.getElem?_cons_succ,Rs.bind_ok,zGs,zA7]) zAt ⟨none,rfl⟩ (by unfold wys;rw[List.length_map];lia) ?_]
   ·unfold ups
    rw[List.map_map];rfl
   ·rintro p hp env ⟨a,rfl⟩
    refine⟨[some (cel p)],by simp_arith [if_true],⟨_,rfl⟩,by simp_arith [negD]⟩
  have kf:∀l:List Pt,l.map (kc false)=l.map cel:=fun l=>rfl
  rw[decide_eq_false one,kf]
  have wl:(wys H).length=H.length:=by unfold wys;rw[List.length_map,nl]
  have ul:(ups H).length=H.length:=by unfold ups;rw[List.length_map,wl]
  by_cases two:H.length=2
  ·have e2:eqI S (.int ((H.map cel).length:Int)) (.int 2)=some (.bl true):=by rw[zBi,decide_eq_true (by rw[List.length_map,two];rfl)]
   have ad:addD S (.lst ((ups H).map cel)) (.lst ((wys H).map cel))=some (.lst ((inw H).map cel)):=by
    show(if((ups H).map cel).length+((wys H).map cel).length<=most then some (D.lst ((ups H).map cel++(wys H).map cel))else none)=_
    rw[if_pos (by rw[List.length_map,List.length_map];lia),<- List.map_append]
    unfold inw
    rw[if_neg one,if_pos two]
   simp only[sSeq,sIf,zAz,sSet,sRet,eIf,tB,asB,eOp,eCB,eC,zA1,aNil,eVar,List.getElem?_cons_zero,List.getElem?_cons_succ,List.set_cons_zero,List.set_cons_succ,Rs.bind_ok,Rs.then_ok,zA7,zFe,e,e2,c1,c2,ad,Bool.false_eq_true,if_false,if_true]
  ·have e2:eqI S (.int ((H.map cel).length:Int)) (.int 2)=some (.bl false):=by rw[zBi,decide_eq_false (by rw[List.length_map];lia)]
   have q:inw H=ups H:=by unfold inw;rw[if_neg one,if_neg two]
   simp only[sSeq,sIf,zAz,sSet,sRet,eIf,tB,asB,eOp,eCB,eC,zA1,aNil,eVar,List.getElem?_cons_zero,List.getElem?_cons_succ,List.set_cons_zero,List.set_cons_succ,Rs.bind_ok,Rs.then_ok,zA7,zFe,e,e2,c1,c2,q,Bool.false_eq_true,if_false,if_true]
theorem zSw {S:Store}{xs:List Int}(hl:xs.length<=61) (hn:xs≠[]):zFc S [.lst (xs.map D.int)]=some (.int (mn xs)):=by
 obtain⟨v,hv,e,h⟩:=zR0 (S:=S) hl hn
 cases xs with
 | nil=>exact absurd rfl hn
 | cons x r=>rw[show zFc S [.lst ((x::r).map D.int)]=minB S [.lst ((x::r).map D.int)]from rfl,e,zYa hv h]
abbrev sdD (b:Bool) (H:List Pt) (s:Pt):D:=.tup [kc b s,.int (mw s H)]
theorem zSz {k:Nat}{b:Bool}{H:List Pt}:∀(l:List Pt),lowL k (l.map (sdD b H))=true
 | []=>rfl
 | p::l=>by
  show((sdD b H p).low k && lowL k (l.map (sdD b H)))=true
  rw[zSz l]
  cases b <;> rfl
theorem zK9 {S:Store}{v:D}{H:List Pt}(hh:∀S,zAr [v] S=.ok (.tup (H.map cel)) S) (hb:∀p∈H,BP p) (h1:1<=H.length) (hl:H.length<=61):zBb [v] S=.ok (.tup ((inw H).map (sdD (decide (H.length=1)) H))) S:=by
 have m9:1000<=most:=by decide
 have ne:H≠[]:=fun z=>by rw[z]at h1;simp at h1
 refine zAq rfl ?_ (zSz _)
 show zD6 [some v,none] S=_
 unfold zD6
 have inn:∀(s:Pt),s∈inw H->zB0 1 [0] (iVal (eVar 1)) (gName 0) tYes (zA9 zEa (zA1 (eVar 1) (zA1 (eVar 0) aNil))) [some (kc (decide (H.length=1)) s),some (.tup (H.map cel))] S=.ok (.lst ((H.map (wth s)).map D.int)) S:=fun s hs=>by
  rw[zCt (xs:=H) (h:=cel) (gd:=[]) (fun env=>∃a,env=[a,some (kc (decide (H.length=1)) s)]) (f:=fun p=>.int (wth s p)) (by simp only[iVal,eVar,List.getElem?_cons_zero,List.getElem?_cons_succ,Rs.bind_ok,zBw,zA7]) zAt ⟨none,rfl⟩ (by first|assumption|lia) ?_]
  ·rw[List.map_map];rfl
  ·rintro p hp env ⟨a,rfl⟩
   have bs:=zKr hb s hs
   have bp:=hb p hp
   have w:=zPn (S:=S) (b:=decide (H.length=1)) bs.1 bs.2 (bp.1.mono (by decide)) (bp.2.mono (by decide)) (by decide)
   exact⟨[some (cel p),some (kc (decide (H.length=1)) s)],by simp_arith [if_true],⟨_,rfl⟩,by simp_arith [w]⟩
 have c:zB0 1 [1] (iVal (zA9 zDz (zA1 (eVar 1) aNil))) (gName 0) tYes (eTup (zA1 (eVar 0) (zA1 (eCB zFc (zA1 (zB0 1 [0] (iVal (eVar 1)) (gName 0) tYes (zA9 zEa (zA1 (eVar 1) (zA1 (eVar 0) aNil)))) aNil)) aNil))) [some v,some (.tup (H.map cel))] S=.ok (.lst ((inw H).map (sdD (decide (H.length=1)) H))) S:=by
  refine zCt (xs:=inw H) (h:=kc (decide (H.length=1))) (gd:=[]) (fun env=>∃a,env=[a,some (.tup (H.map cel))]) (f:=sdD (decide (H.length=1)) H) (by simp only[iVal,zA9,zA1,aNil,eVar,List.getElem?_cons_zero,List.getElem?_cons_succ,Rs.bind_ok,zOg hb h1 hl,zGs,zA7]) zAt ⟨none,rfl⟩ (by have:=(zJh h1).1;lia) ?_
  rintro s hs env ⟨a,rfl⟩
  refine⟨[some (kc (decide (H.length=1)) s),some (.tup (H.map cel))],by simp_arith [if_true],⟨_,rfl⟩,?_⟩
  have i:=inn s hs
  have mi:=zSw (S:=S) (xs:=H.map (wth s)) (by rw[List.length_map];exact hl) (by simpa using ne)
  have i2:∀E:EM,E [some (kc (decide (H.length=1)) s),some (.tup (H.map cel))] S=.ok (.lst ((H.map (wth s)).map D.int)) S->eTup (zA1 (eVar 0) (zA1 (eCB zFc (zA1 E aNil)) aNil)) [some (kc (decide (H.length=1)) s),some (.tup (H.map cel))] S=.ok (sdD (decide (H.length=1)) H s) S:=fun E hE=>by
   simp only[eTup,eCB,zA1,aNil,eVar,List.getElem?_cons_zero,Rs.bind_ok,hE,mi,zA7]
   rfl
  exact i2 _ i
 have tp:∀l,zD9 S [.lst l]=some (.tup l):=fun _=>rfl
 have x1:sSet 1 (zA9 zAr (zA1 (eVar 0) aNil)) [some v,none] S=.nx [some v,some (.tup (H.map cel))] S:=by simp_arith [hh]
 rw[sSeq,x1]
 dsimp only
 rw[sRet,eCB,zA1,c,Rs.bind_ok,aNil,Rs.bind_ok,Rs.bind_ok,tp,zA7,Rs.then_ok]
def WiQ (H:List Pt) (x lx y ly:Int):Prop:=∀s∈inw H,mw s H*(lx*ly)<=s.1*x*ly+s.2*y*lx
theorem zTh {H:List Pt}{q:Pt}:WiQ H q.1 1 q.2 1 <-> Wi H q:=by
 unfold WiQ Wi wth
 constructor
 ·intro h s hs
  have:=h s hs
  simp only[Int.mul_one]at this
  exact this
 ·intro h s hs
  have:=h s hs
  simp only[Int.mul_one]
  exact this
theorem zPf {α:Type}{S:Store}{p:α->Bool}(l:List α):allB S [.lst (l.map fun x=>.bl (p x))]=some (.bl (l.all p)):=by
 have:∀l:List α,bools (l.map fun x=>.bl (p x))=some (l.map p):=fun l=>by
  induction l with
  | nil=>rfl
  | cons a l ih=>show(bools (l.map fun x=>D.bl (p x))).map (p a::·)=_;rw[ih];rfl
 show((bools (l.map fun x=>D.bl (p x))).map fun bs=>D.bl (bs.all id))=_
 rw[this]
 simp
theorem zZs {H:List Pt}{s:Pt}(hb:∀p∈H,BP p) (h1:1<=H.length) (h:BB 110 s.1/\BB 110 s.2):BB 300 (mw s H):=by
 obtain⟨p,hp,e⟩:=zNv (s:=s) (H:=H) (fun z=>by rw[z]at h1;simp at h1)
 rw[e]
 exact((h.1.mul (hb p hp).1).add (h.2.mul (hb p hp).2)).mono (by decide)
theorem zZv {S:Store}{v:D}{H:List Pt}{x lx y ly:Int}(hh:∀S,zAr [v] S=.ok (.tup (H.map cel)) S) (hb:∀p∈H,BP p) (h1:1<=H.length) (hl:H.length<=61)
  (hx:BB 200 x) (hlx:BB 200 lx) (hy:BB 200 y) (hly:BB 200 ly) (p1:0<lx) (p2:0<ly):zAn [v,.tup [frc x lx,frc y ly]] S=.ok (.bl (decide (WiQ H x lx y ly))) S:=by
 have m9:1000<=most:=by decide
 refine zAq rfl ?_ rfl
 show zE3 [some v,some (.tup [frc x lx,frc y ly])] S=_
 unfold zE3
 have c:zB0 2 [1] (iVal (zA9 zBb (zA1 (eVar 0) aNil))) (gTup [(gName 0),(gName 1)]) tYes (eNot (zA9 zCs (zA1 (zA9 zC7 (zA1 (eVar 0) (zA1 (eVar 2) aNil))) (zA1 (eTup (zA1 (eVar 1) (zA1 (eC (.int 1)) aNil))) aNil)))) [some v,some (.tup [frc x lx,frc y ly])] S=.ok (.lst ((inw H).map fun s=>.bl (!decide (s.1*x*ly+s.2*y*lx<mw s H*(lx*ly))))) S:=by
  refine zCt (xs:=inw H) (h:=sdD (decide (H.length=1)) H) (gd:=[]) (fun env=>∃a b,env=[a,b,some (.tup [frc x lx,frc y ly])]) (f:=fun s=>.bl (!decide (s.1*x*ly+s.2*y*lx<mw s H*(lx*ly)))) (by simp only[iVal,zA9,zA1,aNil,eVar,List.getElem?_cons_zero,Rs.bind_ok,zK9 hh hb h1 hl,zBw,zA7]) zAt ⟨none,none,rfl⟩ (by have:=(zJh h1).1;lia) ?_
  rintro s hs env ⟨a,b,rfl⟩
  have bs:=zKr hb s hs
  obtain⟨w,e1,e2⟩:=at_ok (S:=S) (b:=decide (H.length=1)) (s:=s) (n:=mw s H) (bs.1.mono (by decide)) (bs.2.mono (by decide)) hx hlx hy hly p1 p2 ((zZs hb h1 bs).mono (by decide))
  exact⟨[some (kc (decide (H.length=1)) s),some (.int (mw s H)),some (.tup [frc x lx,frc y ly])],by simp_arith [if_true],⟨_,_,rfl⟩,by simp_arith [e1,e2]⟩
 have r:((inw H).all fun s=>!decide (s.1*x*ly+s.2*y*lx<mw s H*(lx*ly)))=decide (WiQ H x lx y ly):=by
  rw[Bool.eq_iff_iff,List.all_eq_true,decide_eq_true_iff]
  unfold WiQ
  refine⟨fun h s hs=>?_,fun h s hs=>?_⟩
  ·have:=h s hs
   rw[Bool.not_eq_true',decide_eq_false_iff_not]at this
   lia
  ·rw[Bool.not_eq_true',decide_eq_false_iff_not]
   have:=h s hs
   lia
 simp only[sRet,eCB,zA1,aNil]
 rw[c]
 simp only[Rs.bind_ok,Rs.then_ok,zPf,r,zA7]
end
end DP
namespace DP
open DS
noncomputable section
open Classical
theorem zS9 {S:Store}{a c:Int}:addE S (.int a) (.int c)=some (.int (a+c)):=rfl
theorem zVp {cs:List Pt}(hb:∀p∈cs,BP p) (h1:1<=cs.length) (hl:cs.length<=61):∃H,(∀S,zAr [.tup (cs.map cel)] S=.ok (.tup (H.map cel)) S)/\HU cs H:=by
 obtain⟨rs,er,nd,mem,up⟩:=zU2 cs
 have rl:rs.length<=cs.length:=zNu nd fun p hp=>(mem p).mp hp
 refine⟨hull rs,fun S=>zVn hb hl er mem rl,?_⟩
 have rp:=zPw nd up
 match rs,rl,nd,mem,rp with
 | [],_,_,mem,_=>
  exfalso
  obtain⟨c,r,rfl⟩:=List.exists_cons_of_length_pos (show 0<cs.length by first|assumption|lia)
  have:=(mem c).mpr (.head _)
  cases this
 | [p],_,_,mem,_=>
  rw[zRe]
  refine .inl ⟨p,rfl,fun z=>by rw[z]at h1;simp at h1,fun c hc=>List.mem_singleton.mp ((mem c).mpr hc)⟩
 | p::q::r,_,_,mem,rp=>exact .inr ⟨_,zVo rp (by simp),mem⟩
theorem zQ2 {S:Store}{x y:Int}:zAg [.int x,.int y] S=.ok (.tup [frc x 1,frc y 1]) S:=by
 refine zAq rfl ?_ rfl
 show zC3 [some (.int x),some (.int y)] S=_
 unfold zC3
 simp_arith [if_true]
theorem zYp {S:Store}{v:D}{H:List Pt}{x y:Int}(hh:∀S,zAr [v] S=.ok (.tup (H.map cel)) S) (hb:∀p∈H,BP p) (h1:1<=H.length) (hl:H.length<=61) (hx:BB 110 x) (hy:BB 110 y):zAn [v,.tup [frc x 1,frc y 1]] S=.ok (.bl (decide (Wi H (x,y)))) S:=by
 have one:BB 200 1:=BB.lit rfl
 rw[zZv hh hb h1 hl (hx.mono (by decide)) one (hy.mono (by decide)) one (by decide) (by decide)]
 congr 2
 exact decide_eq_decide.mpr (zTh (q:=(x,y)))
theorem zVs {S:Store}{b:Bool}{H:List Pt}{x y:Int}(hb:∀p∈H,BP p) (h1:1<=H.length) (hl:H.length<=61) (hx:BB 110 x) (hy:BB 110 y):zAw [.tup ((inw H).map (sdD b H)),.int x,.int y] S=.ok (.bl (decide (Wi H (x,y)))) S:=by
 have m9:1000<=most:=by decide
 refine zAq rfl ?_ rfl
 show zCk [some (.tup ((inw H).map (sdD b H))),some (.int x),some (.int y)] S=_
 unfold zCk
 have gi:∀(a c:Int),geD S (.int a) (.int c)=some (.bl (decide (c<=a))):=fun _ _=>rfl
 have c:zB0 2 [1,2] (iVal (eVar 0)) (gTup [(gName 0),(gName 1)]) tYes (eOp geD (eOp addD (eOp mulD (eOp ixD (eVar 0) (eC (.int 0))) (eVar 2)) (eOp mulD (eOp ixD (eVar 0) (eC (.int 1))) (eVar 3))) (eVar 1)) [some (.tup ((inw H).map (sdD b H))),some (.int x),some (.int y)] S=.ok (.lst ((inw H).map fun s=>.bl (decide (mw s H<=wth s (x,y))))) S:=by
  refine zCt (xs:=inw H) (h:=sdD b H) (gd:=[]) (fun env=>∃o o',env=[o,o',some (.int x),some (.int y)]) (f:=fun s=>.bl (decide (mw s H<=wth s (x,y)))) (by simp only[iVal,eVar,List.getElem?_cons_zero,Rs.bind_ok,zBw,zA7]) zAt ⟨none,none,rfl⟩ (by have:=(zJh h1).1;lia) ?_
  rintro s hs env ⟨o,o',rfl⟩
  have bs:=zKr hb s hs
  exact⟨[some (kc b s),some (.int (mw s H)),some (.int x),some (.int y)],by simp_arith [if_true],⟨_,_,rfl⟩,by simp_arith [zKq,zKp,zAy bs.1 hx,zAy bs.2 hy,gi,wth];rfl⟩
 have r:((inw H).all fun s=>decide (mw s H<=wth s (x,y)))=decide (Wi H (x,y)):=by
  rw[Bool.eq_iff_iff,List.all_eq_true,decide_eq_true_iff]
  unfold Wi
  exact⟨fun h s hs=>of_decide_eq_true (h s hs),fun h s hs=>decide_eq_true (h s hs)⟩
 simp only[sRet,eCB,zA1,aNil]
 rw[c]
 simp only[Rs.bind_ok,Rs.then_ok,zPf,r,zA7]
theorem zRj {α:Type}{h:α->D}{gd:List (Nat × D)}{g:GM}{b:SM}{S:Store}(I:Env->Prop) (hg:gOk S gd):∀(xs:List α) (env:Env),I env->
  (∀a∈xs,∀env,I env->∃env' env'',g S (h a) env=some env'/\b env' S=.nx env'' S/\I env'')->∃env',forL gd g b (xs.map h) env S=.nx env' S/\I env'
 | [],env,hi,_=>⟨env,by rw[List.map_nil,forL,if_pos hg],hi⟩
 | a::xs,env,hi,he=>by
  obtain⟨env',env'',e1,e2,e3⟩:=he a (.head _) env hi
  obtain⟨e4,e5,e6⟩:=zRj (h:=h) (gd:=gd) (g:=g) (b:=b) I hg xs env'' e3 fun b hb=>he b (.tail _ hb)
  refine⟨e4,?_,e6⟩
  rw[List.map_cons,forL,if_pos hg,e1]
  dsimp only
  rw[e2]
  exact e5
def enP:List Pt->Nat->List (Nat × Pt)
 | [],_=>[]
 | p::r,n=>(n,p)::enP r (n+1)
theorem zT5:∀(l:List Pt) (n:Nat),zEq (l.map cel) n=(enP l n).map fun p=>.tup [.int (p.1:Int),cel p.2]
 | [],_=>rfl
 | p::r,n=>by rw[List.map_cons,zEq,zT5 r (n+1)];rfl
theorem zT6:∀(l:List Pt) (n k:Nat) (p:Pt),(k,p)∈enP l n->n<=k/\l[k-n]?=some p
 | [],_,_,_,h=>by cases h
 | q::r,n,k,p,h=>by
  rcases List.mem_cons.mp h with e|e
  ·cases e;simp
  ·obtain⟨a,b⟩:=zT6 r (n+1) k p e
   refine⟨by first|assumption|lia,?_⟩
   rw[show k-n=(k-(n+1))+1 by first|assumption|lia,List.getElem?_cons_succ]
   exact b
section
variable {cs H:List Pt}{v0 v1:Option D}{b:Bool}
abbrev En (v0 v1:Option D) (cs H:List Pt) (b:Bool) (o5 o6 o7 o8 o9 o10 o11 o12 o13:Option D):Env:=[v0,v1,some (.tup (cs.map cel)),some (.tup (H.map cel)),some (.tup ((inw H).map (sdD b H))),o5,o6,o7,o8,o9,o10,o11,o12,o13]
def IL (v0 v1:Option D) (cs H:List Pt) (b:Bool) (env:Env):Prop:=∃o5 o6 o7 o8 o9 o10 o11 o12 o13,env=En v0 v1 cs H b o5 o6 o7 o8 o9 o10 o11 o12 o13
structure Al (cs H:List Pt):Prop where
 hh:∀S,zAr [.tup (cs.map cel)] S=.ok (.tup (H.map cel)) S
 hu:HU cs H
 bp:∀p∈cs,BP p
 l1:1<=cs.length
 l9:cs.length<=61
theorem Al.of {cs:List Pt}(hb:∀p∈cs,BP p) (h1:1<=cs.length) (hl:cs.length<=61):∃H,Al cs H:=by
 obtain⟨H,e,h⟩:=zVp hb h1 hl
 exact⟨H,e,h,hb,h1,hl⟩
theorem Al.hb (A:Al cs H):∀p∈H,BP p:=fun p hp=>A.bp p (A.hu.sub p hp)
theorem Al.h9 (A:Al cs H):H.length<=61:=Nat.le_trans A.hu.len A.l9
theorem Al.inn (A:Al cs H) {S:Store}{x y:Int}(hx:BB 110 x) (hy:BB 110 y):zAn [.tup (cs.map cel),.tup [frc x 1,frc y 1]] S=.ok (.bl (decide (Wi H (x,y)))) S:=zYp A.hh A.hb A.hu.ne A.h9 hx hy
theorem Al.held (A:Al cs H) {S:Store}{x y:Int}(hx:BB 110 x) (hy:BB 110 y):zAw [.tup ((inw H).map (sdD b H)),.int x,.int y] S=.ok (.bl (decide (Wi H (x,y)))) S:=zVs A.hb A.hu.ne A.h9 hx hy
abbrev zVd:SM:=(sFor (iVal (eVar 2)) (gTup [(gName 9),(gName 10)]) (sIf (tNot (tTru (zA9 zAn (zA1 (eVar 3) (zA1 (zA9 zAg (zA1 (eVar 9) (zA1 (eVar 10) aNil))) aNil))))) (sRet (eC (.bl false))) zAz))
theorem zVc (A:Al cs H) {S:Store}{env:Env}(h:IL v0 v1 cs H b env):∃env',zVd env S=.nx env' S:=by
 obtain⟨H',A'⟩:=Al.of A.hb A.hu.ne A.h9
 have w:iVal (eVar 2) env S=.ok ⟨cs.map cel,[]⟩ S:=by
  obtain⟨o5,o6,o7,o8,o9,o10,o11,o12,o13,rfl⟩:=h
  simp only[iVal,eVar,List.getElem?_cons_zero,List.getElem?_cons_succ,Rs.bind_ok,zBw,zA7]
 obtain⟨env',e,_⟩:=zRj (h:=cel) (gd:=[]) (g:=gTup [(gName 9),(gName 10)]) (b:=sIf (tNot (tTru (zA9 zAn (zA1 (eVar 3) (zA1 (zA9 zAg (zA1 (eVar 9) (zA1 (eVar 10) aNil))) aNil))))) (sRet (eC (.bl false))) zAz) (S:=S) (IL v0 v1 cs H b) zAt cs env h fun c hc env he=>by
  obtain⟨o5,o6,o7,o8,o9,o10,o11,o12,o13,rfl⟩:=he
  have bp:=A.bp c hc
  have q:=A'.inn (S:=S) (bp.1.mono (j:=110) (by decide)) (bp.2.mono (j:=110) (by decide))
  rw[decide_eq_true (A.hu.back hc A'.hu)]at q
  refine⟨En v0 v1 cs H b o5 o6 o7 o8 (some (.int c.1)) (some (.int c.2)) o11 o12 o13,En v0 v1 cs H b o5 o6 o7 o8 (some (.int c.1)) (some (.int c.2)) o11 o12 o13,by simp_arith [if_true],?_,⟨_,_,_,_,_,_,_,_,_,rfl⟩⟩
  simp_arith [tTru,zQ2,q,tru]
 refine⟨env',?_⟩
 unfold zVd
 rw[sFor,w,Rs.then_ok]
 exact e
abbrev zTw:SM:=(sFor (iVal (eVar 4)) (gTup [(gName 5),(gName 6)]) (sIf (tB (eOp neI (eCB zFc (zA1 (zB0 2 [5] (iVal (eVar 2)) (gTup [(gName 0),(gName 1)]) tYes (eOp addE (eOp mulD (eOp ixD (eVar 2) (eC (.int 0))) (eVar 0)) (eOp mulD (eOp ixD (eVar 2) (eC (.int 1))) (eVar 1)))) aNil)) (eVar 6))) (sRet (eC (.bl false))) zAz))
theorem zMr (A:Al cs H) {S:Store}{env:Env}(h:IL v0 v1 cs H b env):∃env',zTw env S=.nx env' S/\IL v0 v1 cs H b env':=by
 have m9:1000<=most:=by decide
 have l9:=A.l9
 have w:iVal (eVar 4) env S=.ok ⟨(inw H).map (sdD b H),[]⟩ S:=by
  obtain⟨o5,o6,o7,o8,o9,o10,o11,o12,o13,rfl⟩:=h
  simp only[iVal,eVar,List.getElem?_cons_zero,List.getElem?_cons_succ,Rs.bind_ok,zBw,zA7]
 obtain⟨env',e,hi⟩:=zRj (h:=sdD b H) (gd:=[]) (g:=gTup [(gName 5),(gName 6)]) (b:=(sIf (tB (eOp neI (eCB zFc (zA1 (zB0 2 [5] (iVal (eVar 2)) (gTup [(gName 0),(gName 1)]) tYes (eOp addE (eOp mulD (eOp ixD (eVar 2) (eC (.int 0))) (eVar 0)) (eOp mulD (eOp ixD (eVar 2) (eC (.int 1))) (eVar 1)))) aNil)) (eVar 6))) (sRet (eC (.bl false))) zAz)) (S:=S) (IL v0 v1 cs H b) zAt (inw H) env h fun s hs env he=>by
  obtain⟨o5,o6,o7,o8,o9,o10,o11,o12,o13,rfl⟩:=he
  have bs:=zKr A.hb s hs
  have c:zB0 2 [5] (iVal (eVar 2)) (gTup [(gName 0),(gName 1)]) tYes (eOp addE (eOp mulD (eOp ixD (eVar 2) (eC (.int 0))) (eVar 0)) (eOp mulD (eOp ixD (eVar 2) (eC (.int 1))) (eVar 1))) (En v0 v1 cs H b (some (kc b s)) (some (.int (mw s H))) o7 o8 o9 o10 o11 o12 o13) S=.ok (.lst ((cs.map (wth s)).map D.int)) S:=by
   rw[zCt (xs:=cs) (h:=cel) (gd:=[]) (fun env=>∃o o',env=[o,o',some (kc b s)]) (f:=fun p=>.int (wth s p)) (by simp only[iVal,eVar,List.getElem?_cons_zero,List.getElem?_cons_succ,Rs.bind_ok,zBw,zA7]) zAt ⟨none,none,rfl⟩ (by first|assumption|lia) ?_]
   ·rw[List.map_map];rfl
   ·rintro p hp env ⟨o,o',rfl⟩
    have bp:=A.bp p hp
    exact⟨[some (.int p.1),some (.int p.2),some (kc b s)],by simp_arith [if_true],⟨_,_,rfl⟩,by simp_arith [zKq,zKp,zAy bs.1 bp.1,zAy bs.2 bp.2,wth,zS9]⟩
  have mi:=zSw (S:=S) (xs:=cs.map (wth s)) (by rw[List.length_map];exact l9) (fun z=>by
   have:=congrArg List.length z
   rw[List.length_map,List.length_nil]at this
   have:=A.l1
   lia)
  have ne:neI S (.int (mn (cs.map (wth s)))) (.int (mw s H))=some (.bl false):=by
   rw[show mn (cs.map (wth s))=mw s H from A.hu.mw hs,zV4,decide_eq_true rfl];rfl
  refine⟨En v0 v1 cs H b (some (kc b s)) (some (.int (mw s H))) o7 o8 o9 o10 o11 o12 o13,En v0 v1 cs H b (some (kc b s)) (some (.int (mw s H))) o7 o8 o9 o10 o11 o12 o13,by simp_arith [if_true],?_,⟨_,_,_,_,_,_,_,_,_,rfl⟩⟩
  have g:∀E:EM,E (En v0 v1 cs H b (some (kc b s)) (some (.int (mw s H))) o7 o8 o9 o10 o11 o12 o13) S=.ok (.lst ((cs.map (wth s)).map D.int)) S->sIf (tB (eOp neI (eCB zFc (zA1 E aNil)) (eVar 6))) (sRet (eC (.bl false))) zAz (En v0 v1 cs H b (some (kc b s)) (some (.int (mw s H))) o7 o8 o9 o10 o11 o12 o13) S=.nx (En v0 v1 cs H b (some (kc b s)) (some (.int (mw s H))) o7 o8 o9 o10 o11 o12 o13) S:=fun E hE=>by
   simp_arith [hE,mi,ne]
  exact g _ c
 refine⟨env',?_,hi⟩
 unfold zTw
 rw[sFor,w,Rs.then_ok]
 exact e
end
end
end DP
namespace DP
open DS
noncomputable section
open Classical
theorem zRx {l:List D}{a:Nat}(h1:a<=l.length):cutL l none (some (a:Int))=l.take a:=by
 have e1:sIx l.length l.length (some (a:Int))=a:=by
  show(if(a:Int)<0 then((a:Int)+(l.length:Int)).toNat else min (a:Int).toNat l.length)=a
  rw[if_neg (by first|assumption|lia)];simp;lia
 have e2:sIx l.length 0 none=0:=rfl
 unfold cutL
 rw[e1,e2,List.drop_zero,Nat.sub_zero]
theorem zS0 {l:List D}{a:Nat}(h1:a<=l.length):cutL l (some (a:Int)) none=l.drop a:=by
 have e1:sIx l.length 0 (some (a:Int))=a:=by
  show(if(a:Int)<0 then((a:Int)+(l.length:Int)).toNat else min (a:Int).toNat l.length)=a
  rw[if_neg (by first|assumption|lia)];simp;lia
 have e2:sIx l.length l.length none=l.length:=rfl
 unfold cutL
 rw[e1,e2,List.take_of_length_le (by rw[List.length_drop];lia)]
section
variable {cs H:List Pt}{v0 v1:Option D}{b:Bool}
abbrev c2:SM:=(sIf (tOr (tNot (tTru (zA9 zAn (zA1 (eVar 2) (zA1 (zA9 zAg (zA1 (eVar 9) (zA1 (eVar 10) aNil))) aNil))))) (tNot (tTru (zA9 zAw (zA1 (eVar 4) (zA1 (eVar 9) (zA1 (eVar 10) aNil))))))) (sRet (eC (.bl false))) zAz)
abbrev c3b:SM:=(sSeq (sSet 12 (eOp addE (eSl slD (eVar 3) pNo (pYes (eVar 7))) (eSl slD (eVar 3) (pYes (eOp addE (eVar 7) (eC (.int 1)))) pNo)))
  (sSeq (sSet 11 (eTup (zA1 (eOp subD (eOp mulD (eC (.int 2)) (eVar 9)) (eOp ixD (eOp ixD (eVar 12) (eC (.int 0))) (eC (.int 0)))) (zA1 (eOp subD (eOp mulD (eC (.int 2)) (eVar 10)) (eOp ixD (eOp ixD (eVar 12) (eC (.int 0))) (eC (.int 1)))) aNil))))
  (sSeq (sSet 13 (zA9 zAg (zA1 (eOp ixD (eOp ixD (eVar 12) (eC (.int 0))) (eC (.int 0))) (zA1 (eOp ixD (eOp ixD (eVar 12) (eC (.int 0))) (eC (.int 1))) aNil))))
  (sIf (tOr (tTru (zA9 zAn (zA1 (eVar 12) (zA1 (zA9 zAg (zA1 (eVar 9) (zA1 (eVar 10) aNil))) aNil)))) (tNot (tTru (zA9 zAn (zA1 (eVar 12) (zA1 (eVar 13) aNil)))))) (sRet (eC (.bl false))) zAz))))
abbrev c3:SM:=(sIf (tB (eOp eqI (eCB lenB (zA1 (eVar 3) aNil)) (eC (.int 1)))) (sSet 11 (eTup (zA1 (eOp addE (eVar 9) (eC (.int 1))) (zA1 (eVar 10) aNil)))) c3b)
abbrev c4:SM:=(sIf (tOr (tTru (zA9 zAn (zA1 (eVar 2) (zA1 (zA9 zAg (zA1 (eOp ixD (eVar 11) (eC (.int 0))) (zA1 (eOp ixD (eVar 11) (eC (.int 1))) aNil))) aNil)))) (tTru (zA9 zAw (zA1 (eVar 4) (zA1 (eOp ixD (eVar 11) (eC (.int 0))) (zA1 (eOp ixD (eVar 11) (eC (.int 1))) aNil)))))) (sRet (eC (.bl false))) zAz)
abbrev cB:SM:=(sSeq (sUnp (gTup [(gName 9),(gName 10)]) (eVar 8)) (sSeq c2 (sSeq c3 c4)))
theorem yA5 (A:Al cs H) {S:Store}{k:Nat}{q:Pt}(hq:H[k]?=some q) (o5 o6 o8 o11 o12 o13:Option D):∃o11' o12' o13' f,c3 (En v0 v1 cs H b o5 o6 (some (.int (k:Int))) o8 (some (.int q.1)) (some (.int q.2)) o11 o12 o13) S=.nx (En v0 v1 cs H b o5 o6 (some (.int (k:Int))) o8 (some (.int q.1)) (some (.int q.2)) o11' o12' o13') S/\o11'=some (cel f)/\BB 110 f.1/\BB 110 f.2/\¬ Wi H f:=by
 have hqm:q∈H:=List.mem_of_getElem? hq
 have bq:=A.hb q hqm
 have hk:k<H.length:=(List.getElem?_eq_some_iff.mp hq).1
 have h9:=A.h9
 by_cases one:H.length=1
 ·have e:eqI S (.int ((H.map cel).length:Int)) (.int 1)=some (.bl true):=by rw[zBi,decide_eq_true (by rw[List.length_map,one];rfl)]
  have ad:∀a c:Int,addE S (.int a) (.int c)=some (.int (a+c)):=fun _ _=>rfl
  refine⟨some (cel (q.1+1,q.2)),o12,o13,(q.1+1,q.2),?_,rfl,(bq.1.add (BB.lit (k:=2) rfl)).mono (by decide),bq.2.mono (by decide),A.hu.step one hqm⟩
  unfold c3
  simp_arith [zFe,e,ad]
 ·have e:eqI S (.int ((H.map cel).length:Int)) (.int 1)=some (.bl false):=by rw[zBi,decide_eq_false (by rw[List.length_map];lia)]
  have m9:1000<=most:=by decide
  generalize hO:H.take k++H.drop (k+1)=O
  have oin:∀p∈O,p∈H/\p≠q:=fun p hp=>by
   rw[<- hO]at hp
   have nd:=A.hu.nd
   have eq:H=H.take k++q::H.drop (k+1):=by
    rw[List.getElem?_eq_getElem hk]at hq
    cases hq
    rw[<- List.drop_eq_getElem_cons hk,List.take_append_drop]
   rw[eq]at nd
   have nd':=List.nodup_append.mp nd
   rcases List.mem_append.mp hp with z|z
   ·exact⟨List.mem_of_mem_take z,fun w=>nd'.2.2 p z q (.head _) w⟩
   ·refine⟨List.mem_of_mem_drop z,fun w=>?_⟩
    rw[w]at z
    exact(List.nodup_cons.mp nd'.2.1).1 z
  have ol:O.length=H.length-1:=by rw[<- hO,List.length_append,List.length_take,List.length_drop];lia
  have hne:=A.hu.ne
  obtain⟨H',A'⟩:=Al.of (cs:=O) (fun p hp=>A.hb p (oin p hp).1) (by first|assumption|lia) (by first|assumption|lia)
  obtain⟨o,r,hor⟩:=List.exists_cons_of_length_pos (show 0<O.length by first|assumption|lia)
  have om:o∈O:=by rw[hor];exact .head _
  have bo:=A.hb o (oin o om).1
  have s1:slD S (.tup (H.map cel)) none (some (k:Int))=some (.tup ((H.take k).map cel)):=by
   show some (D.tup (cutL (H.map cel) none (some (k:Int))))=_
   rw[zRx (by rw[List.length_map];lia),List.map_take]
  have s2:slD S (.tup (H.map cel)) (some ((k:Int)+1)) none=some (.tup ((H.drop (k+1)).map cel)):=by
   show some (D.tup (cutL (H.map cel) (some ((k+1:Nat):Int)) none))=_
   rw[zS0 (by rw[List.length_map];lia),List.map_drop]
  have ad:addE S (.tup ((H.take k).map cel)) (.tup ((H.drop (k+1)).map cel))=some (.tup (O.map cel)):=by
   rw[zS8 (by simp;lia),<- List.map_append,hO]
  have ai:∀a c:Int,addE S (.int a) (.int c)=some (.int (a+c)):=fun _ _=>rfl
  have i0:atL (O.map cel) 0=some (cel o):=by rw[hor];exact atL0
  have two:BB 3 2:=BB.lit rfl
  have q1:=A'.inn (S:=S) (x:=q.1) (y:=q.2) (bq.1.mono (by decide)) (bq.2.mono (by decide))
  rw[decide_eq_false (show ¬ Wi H' (q.1,q.2)from A.hu.out hqm A'.hu oin)]at q1
  have q2:=A'.inn (S:=S) (x:=o.1) (y:=o.2) (bo.1.mono (by decide)) (bo.2.mono (by decide))
  rw[decide_eq_true (show Wi H' (o.1,o.2)from A'.hu.wi om)]at q2
  refine⟨some (cel (2*q.1-o.1,2*q.2-o.2)),some (.tup (O.map cel)),some (.tup [frc o.1 1,frc o.2 1]),(2*q.1-o.1,2*q.2-o.2),?_,rfl,((two.mul bq.1).sub bo.1).mono (by decide),((two.mul bq.2).sub bo.2).mono (by decide),A.hu.far hqm (oin o om).1 (oin o om).2⟩
  unfold c3 c3b
  simp_arith [tTru,zFe,e,s1,s2,ad,ai,i0,zAy two bq.1,zAy two bq.2,zQ2,q1,q2,tru]
theorem yA4 (A:Al cs H) {S:Store}{k:Nat}{q:Pt}(hq:H[k]?=some q) (o5 o6 o9 o10 o11 o12 o13:Option D):∃env',cB (En v0 v1 cs H b o5 o6 (some (.int (k:Int))) (some (cel q)) o9 o10 o11 o12 o13) S=.nx env' S/\IL v0 v1 cs H b env':=by
 have hqm:q∈H:=List.mem_of_getElem? hq
 have bq:=A.hb q hqm
 obtain⟨o11',o12',o13',f,e3,rfl,b1,b2,nw⟩:=yA5 (v0:=v0) (v1:=v1) (b:=b) A (S:=S) hq o5 o6 (some (cel q)) o11 o12 o13
 refine⟨En v0 v1 cs H b o5 o6 (some (.int (k:Int))) (some (cel q)) (some (.int q.1)) (some (.int q.2)) (some (cel f)) o12' o13',?_,⟨_,_,_,_,_,_,_,_,_,rfl⟩⟩
 have x1:sUnp (gTup [(gName 9),(gName 10)]) (eVar 8) (En v0 v1 cs H b o5 o6 (some (.int (k:Int))) (some (cel q)) o9 o10 o11 o12 o13) S=.nx (En v0 v1 cs H b o5 o6 (some (.int (k:Int))) (some (cel q)) (some (.int q.1)) (some (.int q.2)) o11 o12 o13) S:=by simp_arith [if_true]
 have w:=A.hu.wi (A.hu.sub q hqm)
 have i1:=A.inn (S:=S) (x:=q.1) (y:=q.2) (bq.1.mono (by decide)) (bq.2.mono (by decide))
 rw[decide_eq_true (show Wi H (q.1,q.2)from w)]at i1
 have i2:=A.held (b:=b) (S:=S) (x:=q.1) (y:=q.2) (bq.1.mono (by decide)) (bq.2.mono (by decide))
 rw[decide_eq_true (show Wi H (q.1,q.2)from w)]at i2
 have x2:c2 (En v0 v1 cs H b o5 o6 (some (.int (k:Int))) (some (cel q)) (some (.int q.1)) (some (.int q.2)) o11 o12 o13) S=.nx (En v0 v1 cs H b o5 o6 (some (.int (k:Int))) (some (cel q)) (some (.int q.1)) (some (.int q.2)) o11 o12 o13) S:=by
  unfold c2
  simp_arith [tTru,zQ2,i1,i2,tru]
 have j1:=A.inn (S:=S) (x:=f.1) (y:=f.2) b1 b2
 rw[decide_eq_false (show ¬ Wi H (f.1,f.2)from nw)]at j1
 have j2:=A.held (b:=b) (S:=S) (x:=f.1) (y:=f.2) b1 b2
 rw[decide_eq_false (show ¬ Wi H (f.1,f.2)from nw)]at j2
 have x4:c4 (En v0 v1 cs H b o5 o6 (some (.int (k:Int))) (some (cel q)) (some (.int q.1)) (some (.int q.2)) (some (cel f)) o12' o13') S=.nx (En v0 v1 cs H b o5 o6 (some (.int (k:Int))) (some (cel q)) (some (.int q.1)) (some (.int q.2)) (some (cel f)) o12' o13') S:=by
  unfold c4
  simp_arith [tTru,zQ2,j1,j2,tru]
 unfold cB
 rw[sSeq,x1]
 dsimp only
 rw[sSeq,x2]
 dsimp only
 rw[sSeq,e3]
 exact x4
abbrev zW9:SM:=(sFor (iEn true (eVar 3)) (gTup [(gName 7),(gName 8)]) cB)
theorem zW8 (A:Al cs H) {S:Store}{env:Env}(h:IL v0 v1 cs H b env):∃env',zW9 env S=.nx env' S/\IL v0 v1 cs H b env':=by
 have h9:=A.h9
 have ew:enW true S (.tup (H.map cel))=some ⟨(enP H 0).map fun p=>.tup [.int (p.1:Int),cel p.2],[]⟩:=by
  show(if true=true/\(H.map cel).length<2 ^ 60 then some (Walk.mk (zEq (H.map cel) 0) [])else none)=_
  rw[if_pos ⟨rfl,by rw[List.length_map];lia⟩,zT5]
 have w:iEn true (eVar 3) env S=.ok ⟨(enP H 0).map fun p=>.tup [.int (p.1:Int),cel p.2],[]⟩ S:=by
  obtain⟨o5,o6,o7,o8,o9,o10,o11,o12,o13,rfl⟩:=h
  simp only[iEn,eVar,List.getElem?_cons_zero,List.getElem?_cons_succ,Rs.bind_ok,ew,zA7]
 obtain⟨env',e,hi⟩:=zRj (h:=fun p:Nat × Pt=>.tup [.int (p.1:Int),cel p.2]) (gd:=[]) (g:=gTup [(gName 7),(gName 8)]) (b:=cB) (S:=S) (IL v0 v1 cs H b) zAt (enP H 0) env h fun p hp env he=>by
  obtain⟨o5,o6,o7,o8,o9,o10,o11,o12,o13,rfl⟩:=he
  have:=zT6 H 0 p.1 p.2 hp
  rw[Nat.sub_zero]at this
  obtain⟨env',e1,e2⟩:=yA4 (v0:=v0) (v1:=v1) (b:=b) A (S:=S) this.2 o5 o6 o9 o10 o11 o12 o13
  exact⟨_,env',by simp_arith [if_true],e1,e2⟩
 refine⟨env',?_,hi⟩
 unfold zW9
 rw[sFor,w,Rs.then_ok]
 exact e
abbrev bod:SM:=(sSeq (sPar [3,4] (zA1 (zA9 zAr (zA1 (eVar 2) aNil)) (zA1 (zA9 zBb (zA1 (eVar 2) aNil)) aNil)))
  (sSeq (sIf (tOr (tNot (tTru (eCB isiT (zA1 (eVar 4) (zA1 (eC (.ty "tuple")) aNil))))) (tNot (tTru (eCB allB (zA1 (zB0 1 [2] (iVal (eVar 3)) (gName 0) tYes (eOp inD (eVar 0) (eVar 1))) aNil))))) (sRet (eC (.bl false))) zAz)
  (sSeq zTw (sSeq zW9 zVd))))
theorem zZ7 (hb:∀p∈cs,BP p) (h1:1<=cs.length) (hl:cs.length<=61) {S:Store}:∃env',bod [v0,v1,some (.tup (cs.map cel)),none,none,none,none,none,none,none,none,none,none,none] S=.nx env' S:=by
 obtain⟨H,A⟩:=Al.of hb h1 hl
 have m9:1000<=most:=by decide
 have h9:=A.h9
 generalize hbo:decide (H.length=1)=b
 have sd:=zK9 (S:=S) A.hh A.hb A.hu.ne A.h9
 rw[hbo]at sd
 have x1:sPar [3,4] (zA1 (zA9 zAr (zA1 (eVar 2) aNil)) (zA1 (zA9 zBb (zA1 (eVar 2) aNil)) aNil)) [v0,v1,some (.tup (cs.map cel)),none,none,none,none,none,none,none,none,none,none,none] S=.nx (En v0 v1 cs H b none none none none none none none none none) S:=by simp_arith [A.hh,sd]
 have c:zB0 1 [2] (iVal (eVar 3)) (gName 0) tYes (eOp inD (eVar 0) (eVar 1)) (En v0 v1 cs H b none none none none none none none none none) S=.ok (.lst (H.map fun _=>.bl true)) S:=by
  refine zCt (xs:=H) (h:=cel) (gd:=[]) (fun env=>∃o,env=[o,some (.tup (cs.map cel))]) (f:=fun _=>.bl true) (by simp only[iVal,eVar,List.getElem?_cons_zero,List.getElem?_cons_succ,Rs.bind_ok,zBw,zA7]) zAt ⟨none,rfl⟩ (by first|assumption|lia) ?_
  rintro p hp env ⟨o,rfl⟩
  exact⟨[some (cel p),some (.tup (cs.map cel))],by simp_arith [if_true],⟨_,rfl⟩,by simp_arith [zVl (A.hu.sub p hp)]⟩
 have al:allB S [.lst (H.map fun _=>.bl true)]=some (.bl true):=by
  have:=zPf (S:=S) (p:=fun _:Pt=>true) H
  rw[this];simp
 have x2:(sIf (tOr (tNot (tTru (eCB isiT (zA1 (eVar 4) (zA1 (eC (.ty "tuple")) aNil))))) (tNot (tTru (eCB allB (zA1 (zB0 1 [2] (iVal (eVar 3)) (gName 0) tYes (eOp inD (eVar 0) (eVar 1))) aNil))))) (sRet (eC (.bl false))) zAz) (En v0 v1 cs H b none none none none none none none none none) S=.nx (En v0 v1 cs H b none none none none none none none none none) S:=by
  have g:∀E:EM,E (En v0 v1 cs H b none none none none none none none none none) S=.ok (.lst (H.map fun _=>.bl true)) S->(sIf (tOr (tNot (tTru (eCB isiT (zA1 (eVar 4) (zA1 (eC (.ty "tuple")) aNil))))) (tNot (tTru (eCB allB (zA1 E aNil))))) (sRet (eC (.bl false))) zAz) (En v0 v1 cs H b none none none none none none none none none) S=.nx (En v0 v1 cs H b none none none none none none none none none) S:=fun E hE=>by
   simp_arith [tTru,zRa,tru,hE,al]
  exact g _ c
 obtain⟨e1,y1,i1⟩:=zMr (v0:=v0) (v1:=v1) (b:=b) A (S:=S) (env:=En v0 v1 cs H b none none none none none none none none none) ⟨_,_,_,_,_,_,_,_,_,rfl⟩
 obtain⟨e2,y2,i2⟩:=zW8 A (S:=S) i1
 obtain⟨e3,y3⟩:=zVc A (S:=S) i2
 refine⟨e3,?_⟩
 unfold bod
 rw[sSeq,x1]
 dsimp only
 rw[sSeq,x2]
 dsimp only
 rw[sSeq,y1]
 dsimp only
 rw[sSeq,y2]
 exact y3
end
end
end DP
namespace DP
open DS
noncomputable section
open Classical
theorem zZa {S:Store}{c:Nat}{l:List Pt}{p:Pt}(h:S[c]?=some (.lst (l.map cel))) (hl:l.length<1000):zC5 S (.ref c) [cel p]=some (.non,S.set c (.lst ((l++[p]).map cel))):=by
 unfold zC5
 simp only[h]
 have m9:1000<=most:=by decide
 rw[if_pos (by rw[List.length_map];lia)]
 simp
theorem zWs {S:Store}{c:Nat}{l:List Pt}(h:S[c]?=some (.lst (l.map cel))):tyD S (.ref c)=some "list":=by unfold tyD;rw[show look S (.ref c)=_ from h]
structure Mk (n m:Nat) (S0:Store) (c:Nat) (l:List Pt) (S:Store):Prop where
 deal:Deal S n m
 grow:Grow n m S0 S
 at_:S[c]?=some (.lst (l.map cel))
 far:S0.length<=c
theorem Mk.draw {n m c:Nat}{S0 S S':Store}{l:List Pt}(h0:Deal S0 n m) (h:Mk n m S0 c l S) (d:Deal S' n m) (o:Only n m S S'):Mk n m S0 c l S':=by
 have l0:=h0.lt
 have:=h.far
 exact⟨d,h.grow.trans o.grow,by rw[o.at_ c (by first|assumption|lia) (by first|assumption|lia)];exact h.at_,h.far⟩
theorem Mk.add {n m c:Nat}{S0 S:Store}{l:List Pt}(h0:Deal S0 n m) (h:Mk n m S0 c l S) (p:Pt):Mk n m S0 c (l++[p]) (S.set c (.lst ((l++[p]).map cel))):=by
 have l0:=h0.lt
 have:=h.far
 exact⟨h.deal.set (by first|assumption|lia) (by first|assumption|lia),h.grow.set h.far,by rw[List.getElem?_set_self (List.getElem?_eq_some_iff.mp h.at_).1],h.far⟩
end
end DP
namespace DP
open DS
noncomputable section
open Classical
theorem zGl {S:Store}{n m:Nat}{many:Int}(h:Deal S n m) (h1:0<many) (h2:many<2 ^ 100):∃(r:Int) (S':Store),zAe [.ref n,.int many] S=.ok (.int r) S'/\0<=r/\r<many/\Deal S' n m/\Only n m S S':=zW0 h1 (zX1 (by first|assumption|lia) (by first|assumption|lia)) h
abbrev b1:SM:=(sPar [5,6] (zA1 (eOp subD (zA9 zAe (zA1 (eVar 0) (zA1 (eOp addD (eOp mulD (eC (.int 2)) (eVar 1)) (eC (.int 1))) aNil))) (eVar 1)) (zA1 (eOp subD (zA9 zAe (zA1 (eVar 0) (zA1 (eOp addD (eOp mulD (eC (.int 2)) (eVar 1)) (eC (.int 1))) aNil))) (eVar 1)) aNil)))
abbrev b2:SM:=(sIf (tB (eOp eqI (eVar 2) (eC (.int 0)))) (sUnp (gTup [(gName 5),(gName 6)]) (eOp ixD (eLst (zA1 (eTup (zA1 (eVar 5) (zA1 (eVar 1) aNil))) (zA1 (eTup (zA1 (eVar 5) (zA1 (eOp subD (eC (.int 0)) (eVar 1)) aNil))) (zA1 (eTup (zA1 (eVar 1) (zA1 (eVar 6) aNil))) (zA1 (eTup (zA1 (eOp subD (eC (.int 0)) (eVar 1)) (zA1 (eVar 6) aNil))) aNil))))) (zA9 zAe (zA1 (eVar 0) (zA1 (eC (.int 4)) aNil))))) zAz)
abbrev b3:SM:=(sIf (tB (eOp eqI (eVar 2) (eC (.int 1)))) (sPar [5,6] (zA1 (eVar 5) (zA1 (eOp zG5 (eOp addD (eVar 5) (eVar 1)) (eC (.int 2))) aNil))) zAz)
abbrev b4:SM:=(sIf (tB (eOp eqI (eVar 2) (eC (.int 2)))) (sPar [5,6] (zA1 (eVar 5) (zA1 (eOp subD (eC (.int 0)) (eVar 5)) aNil))) zAz)
abbrev b5:SM:=(zG3 (eMt "list" zC5 (eVar 3) (zA1 (eTup (zA1 (eVar 5) (zA1 (eVar 6) aNil))) aNil)))
abbrev bS:SM:=(sSeq b1 (sSeq b2 (sSeq b3 (sSeq b4 b5))))
def Wd (p:Pt):Prop:=-1000000<=p.1/\p.1<=1000000/\-1000000<=p.2/\p.2<=1000000
theorem Wd.bp {p:Pt}(h:Wd p):BP p:=⟨BB.of (by unfold Wd at h;lia) (by unfold Wd at h;lia),BB.of (by unfold Wd at h;lia) (by unfold Wd at h;lia)⟩
abbrev Ev (n:Nat) (w f:Int) (c:Nat) (o4:Option D) (x y:Int):Env:=[some (.ref n),some (.int w),some (.int f),some (.ref c),o4,some (.int x),some (.int y)]
structure IS (n m:Nat) (S0:Store) (c:Nat) (w f:Int) (i:Nat) (env:Env) (S:Store):Prop where
 ex:∃l e4 e5 e6,env=[some (.ref n),some (.int w),some (.int f),some (.ref c),e4,e5,e6]/\Mk n m S0 c l S/\l.length=i/\∀p∈l,Wd p
theorem zWz {n m c:Nat}{S0 S:Store}{w f:Int}{i:Nat}{env:Env}{d:D}(h0:Deal S0 n m) (hw:1<=w/\w<=1000000) (hi:i<30) (h:IS n m S0 c w f i env S):∃env' S',bS (env.set 4 (some d)) S=.nx env' S'/\IS n m S0 c w f (i+1) env' S':=by
 obtain⟨l,e4,e5,e6,rfl,hm,hl,hr⟩:=h.ex
 have two:BB 3 2:=BB.lit rfl
 have bw:BB 30 w:=BB.of (by first|assumption|lia) (by first|assumption|lia)
 obtain⟨r,S1,q1,a1,a2,d1,o1⟩:=zGl (many:=2*w+1) hm.deal (by first|assumption|lia) (by first|assumption|lia)
 have hm1:=hm.draw h0 d1 o1
 obtain⟨u,S2,q2,c1,c2,d2,o2⟩:=zGl (many:=2*w+1) hm1.deal (by first|assumption|lia) (by first|assumption|lia)
 have hm2:=hm1.draw h0 d2 o2
 have x1:b1 [some (.ref n),some (.int w),some (.int f),some (.ref c),some d,e5,e6] S=.nx (Ev n w f c (some d) (r-w) (u-w)) S2:=by
  unfold b1
  simp_arith [zAy two bw,q1,q2]
 obtain⟨x,y,S3,x2,hm3,k1,k2⟩:∃x y S3,b2 (Ev n w f c (some d) (r-w) (u-w)) S2=.nx (Ev n w f c (some d) x y) S3/\Mk n m S0 c l S3/\(-w<=x/\x<=w)/\(-w<=y/\y<=w):=by
  by_cases z:f=0
  ·obtain⟨t,S3,q3,t1,t2,d3,o3⟩:=zGl (many:=4) hm2.deal (by first|assumption|lia) (by first|assumption|lia)
   have hm3:=hm2.draw h0 d3 o3
   obtain⟨x,y,exy,hx,hy⟩:∃x y:Int,atL [cel (r-w,w),cel (r-w,0-w),cel (w,u-w),cel (0-w,u-w)] t=some (cel (x,y))/\(-w<=x/\x<=w)/\(-w<=y/\y<=w):=by
    have:t=0\/t=1\/t=2\/t=3:=by first|assumption|lia
    rcases this with rfl|rfl|rfl|rfl
    ·exact⟨_,_,atL0,by first|assumption|lia,by first|assumption|lia⟩
    ·exact⟨_,_,atL1,by first|assumption|lia,by first|assumption|lia⟩
    ·exact⟨_,_,atL2,by first|assumption|lia,by first|assumption|lia⟩
    ·exact⟨_,_,atL3,by first|assumption|lia,by first|assumption|lia⟩
   refine⟨x,y,S3,?_,hm3,hx,hy⟩
   unfold b2
   simp_arith [zBi,decide_eq_true z,q3,exy]
  ·refine⟨r-w,u-w,S2,?_,hm2,by first|assumption|lia,by first|assumption|lia⟩
   unfold b2
   simp_arith [zBi,decide_eq_false z]
 obtain⟨x',y',x3,k1',k2'⟩:∃x' y',b3 (Ev n w f c (some d) x y) S3=.nx (Ev n w f c (some d) x' y') S3/\(-w<=x'/\x'<=w)/\(-w<=y'/\y'<=w):=by
  by_cases z:f=1
  ·have fd:zG5 S3 (.int (x+w)) (.int 2)=some (.int ((x+w).fdiv 2)):=zJj (by decide) (two.sm (by decide))
   have e:(x+w).fdiv 2=(x+w) / 2:=Int.fdiv_eq_ediv_of_nonneg _ (by decide)
   refine⟨x,(x+w) / 2,?_,k1,by first|assumption|lia⟩
   unfold b3
   simp_arith [zBi,decide_eq_true z,fd,e]
  ·refine⟨x,y,?_,k1,k2⟩
   unfold b3
   simp_arith [zBi,decide_eq_false z]
 obtain⟨x'',y'',x4,j1,j2⟩:∃x'' y'',b4 (Ev n w f c (some d) x' y') S3=.nx (Ev n w f c (some d) x'' y'') S3/\(-w<=x''/\x''<=w)/\(-w<=y''/\y''<=w):=by
  by_cases z:f=2
  ·refine⟨x',0-x',?_,k1',by first|assumption|lia⟩
   unfold b4
   simp_arith [zBi,decide_eq_true z]
  ·refine⟨x',y',?_,k1',k2'⟩
   unfold b4
   simp_arith [zBi,decide_eq_false z]
 have hm4:=hm3.add h0 (x'',y'')
 refine⟨Ev n w f c (some d) x'' y'',_,?_,⟨_,some d,_,_,rfl,hm4,by simp[hl],fun p hp=>?_⟩⟩
 ·have ap:=zZa (p:=(x'',y'')) hm3.at_ (by first|assumption|lia)
  have x5:b5 (Ev n w f c (some d) x'' y'') S3=.nx (Ev n w f c (some d) x'' y'') (S3.set c (.lst ((l++[(x'',y'')]).map cel))):=by
   unfold b5
   simp_arith [eMt,zWs hm3.at_,ap]
  show bS [some (.ref n),some (.int w),some (.int f),some (.ref c),some d,e5,e6] S=_
  unfold bS
  rw[sSeq,x1]
  dsimp only
  rw[sSeq,x2]
  dsimp only
  rw[sSeq,x3]
  dsimp only
  rw[sSeq,x4]
  exact x5
 ·rcases List.mem_append.mp hp with hp|hp
  ·exact hr p hp
  ·rw[List.mem_singleton.mp hp];unfold Wd;dsimp only;lia
theorem pw6 {S:Store}:powD S (.int 10) (.int 6)=some (.int 1000000):=by rfl
theorem zTr {S:Store}{n m:Nat}(h:Deal S n m):∃(cs:List Pt) (S':Store),zBa [.ref n] S=.ok (.tup (cs.map cel)) S'/\2<=cs.length/\cs.length<=30/\(∀p∈cs,BP p)/\Deal S' n m/\Only n m S S':=by
 have lt:=h.lt
 obtain⟨r1,S1,d1,a1,a2,h1,o1⟩:=zGl (many:=3) h (by decide) (by decide)
 obtain⟨w,ew,hw⟩:∃w:Int,atL [D.int 4,D.int 30,D.int 1000000] r1=some (.int w)/\1<=w/\w<=1000000:=by
  have:r1=0\/r1=1\/r1=2:=by first|assumption|lia
  rcases this with rfl|rfl|rfl
  ·exact⟨_,atL0,by first|assumption|lia,by first|assumption|lia⟩
  ·exact⟨_,atL1,by first|assumption|lia,by first|assumption|lia⟩
  ·exact⟨_,atL2,by first|assumption|lia,by first|assumption|lia⟩
 obtain⟨f,S2,d2,a3,a4,h2,o2⟩:=zGl (many:=4) h1 (by decide) (by decide)
 have o12:=o1.trans o2
 have l2:=o12.len
 have mk0:Mk n m S S2.length [] (S2++[.lst []]):=⟨h2.app _,o12.grow.trans (.app _),by simp,by first|assumption|lia⟩
 obtain⟨r3,S3,d3,a5,a6,h3,o3⟩:=zGl (many:=23) mk0.deal (by decide) (by decide)
 have mk3:=mk0.draw h h3 o3
 have is0:IS n m S S2.length w f 0 [some (.ref n),some (.int w),some (.int f),some (.ref S2.length),none,none,none] S3:=⟨[],none,none,none,rfl,mk3,rfl,fun p hp=>nomatch hp⟩
 have rg:=zPv (k:=2+r3) (by first|assumption|lia) (by first|assumption|lia)
 obtain⟨env5,S5,e5,is5⟩:=zOm (gd:=[]) (j:=4) (b:=bS) (I:=IS n m S S2.length w f) (fun _ _ _ _=>zAt) ((List.range (2+r3).toNat).map fun(i:Nat)=>.int (i:Int)) 0 _ _ (fun k d env S' hk hi=>by
  have:k<(2+r3).toNat:=by
   have:=(List.getElem?_eq_some_iff.mp hk).1
   simpa using this
  exact zWz h hw (by first|assumption|lia) hi) is0
 obtain⟨l,v4,v5,v6,rfl,hm,hl,hr⟩:=is5.ex
 rw[Nat.zero_add,List.length_map,List.length_range]at hl
 have tp:zD9 S5 [.ref S2.length]=some (.tup (l.map cel)):=by
  simp only[zD9,litems,show look S5 (.ref S2.length)=_ from hm.at_,Option.map_some]
 obtain⟨S'',ec,dl,on⟩:=zM6 (np:=1) (nl:=7) (b:=zBv) (ds:=[.ref n]) (d:=.tup (l.map cel)) (S':=S5) rfl (by
  show zBv [some (.ref n),none,none,none,none,none,none] S=_
  have x1:sSet 1 (eOp ixD (eLst (zA1 (eC (.int 4)) (zA1 (eC (.int 30)) (zA1 (eOp powD (eC (.int 10)) (eC (.int 6))) aNil)))) (zA9 zAe (zA1 (eVar 0) (zA1 (eC (.int 3)) aNil)))) [some (.ref n),none,none,none,none,none,none] S=.nx [some (.ref n),some (.int w),none,none,none,none,none] S1:=by simp_arith [pw6,d1,ew]
  have x2:sSet 2 (zA9 zAe (zA1 (eVar 0) (zA1 (eC (.int 4)) aNil))) [some (.ref n),some (.int w),none,none,none,none,none] S1=.nx [some (.ref n),some (.int w),some (.int f),none,none,none,none] S2:=by simp_arith [d2]
  have x3:sSet 3 (eNew (eLst aNil)) [some (.ref n),some (.int w),some (.int f),none,none,none,none] S2=.nx [some (.ref n),some (.int w),some (.int f),some (.ref S2.length),none,none,none] (S2++[.lst []]):=by simp_arith [eNew]
  have x4:sFor (zIc (zA1 (eOp addD (eC (.int 2)) (zA9 zAe (zA1 (eVar 0) (zA1 (eC (.int 23)) aNil)))) aNil)) (gName 4) bS [some (.ref n),some (.int w),some (.int f),some (.ref S2.length),none,none,none] (S2++[.lst []])=.nx [some (.ref n),some (.int w),some (.int f),some (.ref S2.length),v4,v5,v6] S5:=by
   simp only[sFor,zIc,zA1,aNil,zA9,eC,eVar,eOp,addD,List.getElem?_cons_zero,Rs.bind_ok,d3,rg,zA7,Rs.then_ok]
   exact e5
  have x5:sRet (eCB zD9 (zA1 (eVar 3) aNil)) [some (.ref n),some (.int w),some (.int f),some (.ref S2.length),v4,v5,v6] S5=.rt (.tup (l.map cel)) S5:=by simp_arith [tp]
  unfold zBv
  rw[sSeq,x1]
  dsimp only
  rw[sSeq,x2]
  dsimp only
  rw[sSeq,x3]
  dsimp only
  rw[sSeq,show sFor (zIc (zA1 (eOp addD (eC (.int 2)) (zA9 zAe (zA1 (eVar 0) (zA1 (eC (.int 23)) aNil)))) aNil)) (gName 4) bS [some (.ref n),some (.int w),some (.int f),some (.ref S2.length),none,none,none] (S2++[.lst []])=_ from x4]
  exact x5) h hm.deal hm.grow (zDr _)
 exact⟨l,S'',ec,by first|assumption|lia,by first|assumption|lia,fun p hp=>(hr p hp).bp,dl,on⟩
theorem zSk {a b:SM}{env e:Env}{S S1:Store}{r:SR}(h:a env S=.nx e S1) (h':b e S1=r):sSeq a b env S=r:=by rw[sSeq,h];exact h'
theorem law_ok (ns:List Int) (h:ns.length<=63):∃S,zLv [.klst (ns.map .int)] []=.ok (.bl true) S:=by
 obtain⟨S1,e1,d1,_,_⟩:=zRw (S:=[]) h
 rw[<- zW4]at e1
 obtain⟨cs,S2,e2,l2,l9,bp,d2,o2⟩:=zTr d1
 have e2:zBa [.ref 0] S1=.ok (.tup (cs.map cel)) S2:=e2
 obtain⟨env',e3⟩:=zZ7 (v0:=some (.klst (ns.map .int))) (v1:=some (.ref 0)) bp (by first|assumption|lia) (by first|assumption|lia) (S:=S2)
 refine⟨[],?_⟩
 unfold zLv zAx
 rw[if_pos (show [D.klst (ns.map .int)].length=1 from rfl)]
 suffices hb':zS6 ([D.klst (ns.map .int)].map some++List.replicate (14-1) none) []=.rt (.bl true) S2 by rw[hb'];exact zVw
 have x1:sSet 1 (zA9 zBs (zA1 (eVar 0) aNil)) [some (.klst (ns.map .int)),none,none,none,none,none,none,none,none,none,none,none,none,none] []=.nx [some (.klst (ns.map .int)),some (.ref 0),none,none,none,none,none,none,none,none,none,none,none,none] S1:=by simp_arith [e1]
 have x2:sFor (iVal (eTup (zA1 (zA9 zBa (zA1 (eVar 1) aNil)) aNil))) (gName 2) bod [some (.klst (ns.map .int)),some (.ref 0),none,none,none,none,none,none,none,none,none,none,none,none] S1=.nx env' S2:=by
  have w:iVal (eTup (zA1 (zA9 zBa (zA1 (eVar 1) aNil)) aNil)) [some (.klst (ns.map .int)),some (.ref 0),none,none,none,none,none,none,none,none,none,none,none,none] S1=.ok ⟨[.tup (cs.map cel)],[]⟩ S2:=by
   simp only[iVal,eTup,zA9,zA1,aNil,eVar,List.getElem?_cons_zero,List.getElem?_cons_succ,Rs.bind_ok,e2,zBw,zA7]
  rw[sFor,w,Rs.then_ok]
  show forL [] (gName 2) bod [.tup (cs.map cel)] _ S2=_
  rw[forL,if_pos zAt]
  show(match bod [some (.klst (ns.map .int)),some (.ref 0),some (.tup (cs.map cel)),none,none,none,none,none,none,none,none,none,none,none] S2 with|.nx e S1=>forL [] (gName 2) bod [] e S1|.ct e S1=>forL [] (gName 2) bod [] e S1|.bk e S1=>.nx e S1|q=>q)=_
  rw[e3]
  show forL [] (gName 2) bod [] env' S2=_
  rw[forL,if_pos zAt]
 show zS6 [some (.klst (ns.map .int)),none,none,none,none,none,none,none,none,none,none,none,none,none] []=_
 exact zSk x1 (zSk x2 rfl)
end
end DP
namespace Law
open PySem PySem.Spec PyProof.Rows L2
abbrev n_0:List Str:=["corners","ways","slopes"]
abbrev n_1:List Str:=["slope","number","point"]
abbrev n_2:List Str:=["_law_script","_law_some_here","_law_number","_law_one"]
abbrev n_3:List Str:=["_law_sides","_law_x","_law_y"]
abbrev n_4:List Str:=["_law_slope","_law_number","_law_x","_law_y"]
abbrev n_5:List Str:=["_law_script","_law_deal_here","_law_cells","_law_corners","_law_sides","_law_slope","_law_number","_law_k","_law_corner","_law_x","_law_y","_law_farther","_law_others","_law_middle"]
abbrev n_6:List Str:=["_law_x","_law_y","_law_slope"]
abbrev n_7:List Str:=["one","other","point"]
abbrev n_8:List Str:=["one","other","third"]
abbrev n_9:List Str:=["one","other","rest"]
abbrev n_10:List Str:=["_law_deal_here","_law_many","_law_number","_law_one","_law_other"]
abbrev n_11:List Str:=["upper","lower","divisor"]
abbrev n_12:List Str:=["one","other","point","along","up"]
abbrev n_13:List Str:=["_law_deal_here","_law_wide","_law_form","_law_found","_law_turn","_law_x","_law_y"]
abbrev n_14:List Str:=["slope","point","along","up"]
abbrev n_15:List Str:=["cells","corners","cell"]
abbrev n_16:List Str:=["cells","rising","there","back"]
def top (i:Nat):Stmt:=PySem.Challenge.pw_healfloor_k73_sides_of_many.main.body.getD i (.Pass ⟨0,0,0,0⟩)
structure Txt (K:PySem.W.Frag) (mg:Str->Option Value):Prop where
 b_abs:mg "abs"=none
 b_all:mg "all"=none
 b_enumerate:mg "enumerate"=none
 b_isinstance:mg "isinstance"=none
 b_len:mg "len"=none
 b_list:mg "list"=none
 b_max:mg "max"=none
 b_min:mg "min"=none
 b_range:mg "range"=none
 b_reversed:mg "reversed"=none
 b_set:mg "set"=none
 b_sorted:mg "sorted"=none
 b_tuple:mg "tuple"=none
 b_zip:mg "zip"=none
 c_ALL_WAYS:∃u,mg "ALL_WAYS"=some u/\KRep K (.ktup [(.ktup [(.int 1),(.int 0)]),(.ktup [(.int 0),(.int 1)]),(.ktup [(.int (-1)),(.int 0)]),(.ktup [(.int 0),(.int (-1))])]) u
section
variable (P:Program) (w:World) (K:PySem.W.Frag) (mg:Str->Option Value) (base:Heap)
abbrev zCm:Prop:=Cal P w K mg base "common_divisor" 1 ["one","other"] (spOf K XE0 DP.zB5)
abbrev zIw:Prop:=Cal P w K mg base "is_less" 1 ["one","other"] (spOf K XE0 DP.zCs)
abbrev zGr:Prop:=Cal P w K mg base "point_of" 1 ["cell"] (spOf K XE0 DP.zD4)
abbrev zPi:Prop:=Cal P w K mg base "worth" 1 ["slope","cell"] (spOf K XE0 DP.zEa)
abbrev zIt:Prop:=Cal P w K mg base "sign_of" 1 ["number"] (spOf K XE0 DP.zDx)
abbrev zEl:Prop:=Cal P w K mg base "neighbours" 1 ["ring"] (spOf K XE0 DP.zBg)
abbrev zG1:Prop:=Cal P w K mg base "_law_deal" 1 ["_law_script"] (spOf K XE0 DP.zBs)
abbrev zG0:Prop:=Cal P w K mg base "_law_draw" 1 ["_law_deal_here","_law_many"] (spOf K XE0 DP.zAe)
abbrev zEn:Prop:=Cal P w K mg base "_law_point" 1 ["_law_x","_law_y"] (spOf K XE0 DP.zAg)
abbrev zFz:Prop:=Cal P w K mg base "_law_held" 1 n_3 (spOf K XE0 DP.zAw)
abbrev zEh:Prop:=Cal P w K mg base "fraction" 2 ["upper","lower"] (spOf K XE0 DP.zC9)
abbrev zIv:Prop:=Cal P w K mg base "side_at" 2 n_7 (spOf K XE0 DP.zDy)
abbrev zLc:Prop:=Cal P w K mg base "inward" 2 ["corners"] (spOf K XE0 DP.zDz)
abbrev zFy:Prop:=Cal P w K mg base "_law_some" 2 ["_law_deal_here"] (spOf K XE0 DP.zBa)
abbrev zPk:Prop:=Cal P w K mg base "added" 3 ["one","other"] (spOf K XE0 DP.zHh)
abbrev zPj:Prop:=Cal P w K mg base "times" 3 ["one","other"] (spOf K XE0 DP.zFi)
abbrev zIu:Prop:=Cal P w K mg base "side_of" 3 n_8 (spOf K XE0 DP.zC8)
abbrev zGq:Prop:=Cal P w K mg base "worth_at" 4 ["slope","point"] (spOf K XE0 DP.zC7)
abbrev zEm:Prop:=Cal P w K mg base "left_turns" 4 ["cells"] (spOf K XE0 DP.zBc)
abbrev zFx:Prop:=Cal P w K mg base "hull_of" 5 ["cells"] (spOf K XE0 DP.zAr)
abbrev zEg:Prop:=Cal P w K mg base "sides_of" 6 ["cells"] (spOf K XE0 DP.zBb)
abbrev zIx:Prop:=Cal P w K mg base "in_hull" 7 ["cells","point"] (spOf K XE0 DP.zAn)
end
section
variable {P:Program}{w:World}{K:PySem.W.Frag}{mg:Str->Option Value}{base:Heap}
abbrev zB4:Stmt:=top 1
theorem sc_common_divisor:zAl n_9 ["one","other"] (zA6 zB4):=⟨rfl,rfl,rfl,by decide +kernel,rfl,by decide +kernel,by decide +kernel⟩
theorem zE8 {f:Addr}{fd:FuncData}(F:Fun K "common_divisor" "common_divisor" zB4 f fd) (T:Txt K mg):FnOk P w K mg base CX0 1 f fd ["one","other"] (spOf K XE0 DP.zB5):=by
 refine fn_d (k:=0) (b:=DP.zB6) F sc_common_divisor rfl rfl fun cdv A outer s H E hr=>?_
 have hu:=zBq hr
 have hu64:=hr.units
 have hu1:=hr.units0
 have nd:=sc_common_divisor.nd
 exact(zA5 (zAj (j:=0) nd rfl (by first|exact Or.inl rfl|exact Or.inr rfl) (zE1 zIl rfl T.b_abs PyProof.Rows.boot_abs (zA2 (zA0 0) zA4)))
   (zA5 (zAj (j:=1) nd rfl (by first|exact Or.inl rfl|exact Or.inr rfl) (zE1 zIl rfl T.b_abs PyProof.Rows.boot_abs (zA2 (zA0 1) zA4)))
   (zA5 (zFk PassesOwn.never (zDa (zA0 1)) (zA5 (zAj (j:=2) nd rfl (by first|exact Or.inl rfl|exact Or.inr rfl) (zAb zCe (zA0 0) (zA0 1)))
   (zA5 (zAj (j:=0) nd rfl (by first|exact Or.inl rfl|exact Or.inr rfl) (zA0 1))
   (zA8 (zAj (j:=1) nd rfl (by first|exact Or.inl rfl|exact Or.inr rfl) (zA0 2))))))
   (zA8 (zAf (zA0 0))))))
abbrev zDp:Stmt:=top 5
theorem sc_is_less:zAl ["one","other"] ["one","other"] (zA6 zDp):=⟨rfl,rfl,rfl,by decide +kernel,rfl,by decide +kernel,by decide +kernel⟩
theorem zLm {f:Addr}{fd:FuncData}(F:Fun K "is_less" "is_less" zDp f fd) (T:Txt K mg):FnOk P w K mg base CX0 1 f fd ["one","other"] (spOf K XE0 DP.zCs):=by
 refine fn_d (k:=0) (b:=DP.zFt) F sc_is_less rfl rfl fun cdv A outer s H E hr=>?_
 have hu:=zBq hr
 have hu64:=hr.units
 have hu1:=hr.units0
 have nd:=sc_is_less.nd
 exact(zA8 (zAf (zOx zNl (zAb zAi (zAc (ix_D hu) (zA0 0) zA3) (zAc (ix_D hu) (zA0 1) zA3)) (zAb zAi (zAc (ix_D hu) (zA0 1) zA3) (zAc (ix_D hu) (zA0 0) zA3)) (nomark _))))
abbrev zCx:Stmt:=top 7
theorem sc_point_of:zAl ["cell"] ["cell"] (zA6 zCx):=⟨rfl,rfl,rfl,by decide +kernel,rfl,by decide +kernel,by decide +kernel⟩
theorem zJ7 {f:Addr}{fd:FuncData}(F:Fun K "point_of" "point_of" zCx f fd) (T:Txt K mg):FnOk P w K mg base CX0 1 f fd ["cell"] (spOf K XE0 DP.zD4):=by
 refine fn_d (k:=0) (b:=DP.zEf) F sc_point_of rfl rfl fun cdv A outer s H E hr=>?_
 have hu:=zBq hr
 have hu64:=hr.units
 have hu1:=hr.units0
 have nd:=sc_point_of.nd
 exact(zA8 (zAf (zB1 (zA2 (zB1 (zA2 (zAc (ix_D hu) (zA0 0) zA3) (zA2 zA3 zA4))) (zA2 (zB1 (zA2 (zAc (ix_D hu) (zA0 0) zA3) (zA2 zA3 zA4))) zA4)))))
abbrev zH3:Stmt:=top 8
theorem sc_worth:zAl ["slope","cell"] ["slope","cell"] (zA6 zH3):=⟨rfl,rfl,rfl,by decide +kernel,rfl,by decide +kernel,by decide +kernel⟩
theorem zQr {f:Addr}{fd:FuncData}(F:Fun K "worth" "worth" zH3 f fd) (T:Txt K mg):FnOk P w K mg base CX0 1 f fd ["slope","cell"] (spOf K XE0 DP.zEa):=by
 refine fn_d (k:=0) (b:=DP.zHy) F sc_worth rfl rfl fun cdv A outer s H E hr=>?_
 have hu:=zBq hr
 have hu64:=hr.units
 have hu1:=hr.units0
 have nd:=sc_worth.nd
 exact(zA8 (zAf (zAb zB8 (zAb zAi (zAc (ix_D hu) (zA0 0) zA3) (zAc (ix_D hu) (zA0 1) zA3)) (zAb zAi (zAc (ix_D hu) (zA0 0) zA3) (zAc (ix_D hu) (zA0 1) zA3)))))
abbrev zDm:Stmt:=top 10
theorem sc_sign_of:zAl ["number"] ["number"] (zA6 zDm):=⟨rfl,rfl,rfl,by decide +kernel,rfl,by decide +kernel,by decide +kernel⟩
theorem zLj {f:Addr}{fd:FuncData}(F:Fun K "sign_of" "sign_of" zDm f fd) (T:Txt K mg):FnOk P w K mg base CX0 1 f fd ["number"] (spOf K XE0 DP.zDx):=by
 refine fn_d (k:=0) (b:=DP.zFq) F sc_sign_of rfl rfl fun cdv A outer s H E hr=>?_
 have hu:=zBq hr
 have hu64:=hr.units
 have hu1:=hr.units0
 have nd:=sc_sign_of.nd
 exact(zA5 (zBt (zBj zKd (zA0 0) zA3 (nomark _)) (zA8 (zAf zA3)) zBe)
   (zA5 (zBt (zBj zNl (zA0 0) zA3 (nomark _)) (zA8 (zAf (zJn zDd zA3))) zBe)
   (zA8 (zAf zA3))))
abbrev zBy:Stmt:=top 19
theorem sc_neighbours:zAl ["ring"] ["ring"] (zA6 zBy):=⟨rfl,rfl,rfl,by decide +kernel,rfl,by decide +kernel,by decide +kernel⟩
theorem zH9 {f:Addr}{fd:FuncData}(F:Fun K "neighbours" "neighbours" zBy f fd) (T:Txt K mg):FnOk P w K mg base CX0 1 f fd ["ring"] (spOf K XE0 DP.zBg):=by
 refine fn_d (k:=0) (b:=DP.zC2) F sc_neighbours rfl rfl fun cdv A outer s H E hr=>?_
 have hu:=zBq hr
 have hu64:=hr.units
 have hu1:=hr.units0
 have nd:=sc_neighbours.nd
 exact(zA8 (zAf (zEd (zM0 rfl (zA2 (zA0 0) (zA2 (zAb zB8 (zJo sl_D (zA0 0) (zFl zA3) zJl) (zJo sl_D (zA0 0) zJl (zFl zA3))) zA4)) rfl T.b_list rfl T.b_zip))))
abbrev zBf:Stmt:=top 22
theorem sc__law_deal:zAl n_2 ["_law_script"] (zA6 zBf):=⟨rfl,rfl,rfl,by decide +kernel,rfl,by decide +kernel,by decide +kernel⟩
theorem zI8 {f:Addr}{fd:FuncData}(F:Fun K "_law_deal" "_law_deal" zBf f fd) (T:Txt K mg):FnOk P w K mg base CX0 1 f fd ["_law_script"] (spOf K XE0 DP.zBs):=by
 refine fn_r (k:=0) (b:=DP.zFv) F sc__law_deal rfl rfl fun cdv A outer s H E hr=>?_
 have hu:=zBq hr
 have hu64:=hr.units
 have hu1:=hr.units0
 have nd:=sc__law_deal.nd
 exact(zA5 (zHm (j:=1) nd rfl (by first|exact Or.inl rfl|exact Or.inr rfl) rfl (CompScope.mk' (sc:=zA6 zBf) (N:=n_2) (own:=["_law_one"]) (fre:=[]) (ix:=[]) rfl rfl (by decide +kernel)) (zBu (zJo sl_D (zA0 0) zJl (zFl zA3))) (fun cl C s0 H0 fp=>(zAk (j:=0) (show List.Nodup (["_law_one"]:List Str) by decide +kernel) rfl (Or.inl rfl) (Or.inr rfl))) (fun cl C s0 H0 fp=>zCg) (fun cl C s0 H0 fp=>(zE1 (zM4 rfl) rfl T.b_max PyProof.Rows.boot_max (zA2 (zA0 0) (zA2 (zAb zB7 zA3 (zA0 0)) zA4)))))
   (zA5 (zAj (j:=2) nd rfl (by first|exact Or.inl rfl|exact Or.inr rfl) zA3)
   (zA5 (zDg PassesOwn.never rfl (zBu (zA0 1)) (zAk (j:=3) nd rfl (by first|exact Or.inl rfl|exact Or.inr rfl)) (zA8 (zAj (j:=2) nd rfl (by first|exact Or.inl rfl|exact Or.inr rfl) (zAb zCe (zAb zB8 (zAb zAi (zA0 2) zA3) (zAb zCe (zA0 3) zA3)) zA3))))
   (zA8 (zAf (zW5 (zHo (zA0 2) (zHo zA3 (zHo (zOw (zGm rfl (zEd (zDh rfl (CompScope.mk' (sc:=zA6 zBf) (N:=n_2) (own:=["_law_one"]) (fre:=[]) (ix:=[]) rfl rfl (by decide +kernel)) (zBu (zA0 1)) (fun cl C s0 H0 fp=>(zAk (j:=0) (show List.Nodup (["_law_one"]:List Str) by decide +kernel) rfl (Or.inl rfl) (Or.inr rfl))) (fun cl C s0 H0 fp=>(zW2 (zBj zSs (zA0 0) (zAb zNk zA3 zA3) (nomark _)))) (fun cl C s0 H0 fp=>(zA0 0)))) rfl T.b_list rfl T.b_reversed)) zW1))) rfl (by decide +kernel)))))))
abbrev zCd:Stmt:=top 23
theorem sc__law_draw:zAl n_10 ["_law_deal_here","_law_many"] (zA6 zCd):=⟨rfl,rfl,rfl,by decide +kernel,rfl,by decide +kernel,by decide +kernel⟩
theorem zI7 {f:Addr}{fd:FuncData}(F:Fun K "_law_draw" "_law_draw" zCd f fd) (T:Txt K mg):FnOk P w K mg base CX0 1 f fd ["_law_deal_here","_law_many"] (spOf K XE0 DP.zAe):=by
 refine fn_d (k:=0) (b:=DP.zFu) F sc__law_draw rfl rfl fun cdv A outer s H E hr=>?_
 have hu:=zBq hr
 have hu64:=hr.units
 have hu1:=hr.units0
 have nd:=sc__law_draw.nd
 exact(zA5 (zFk PassesOwn.never (dt_w (zT7 (zBj zFa (zAc (ix_D hu) (zA0 0) zDb) zA3 (nomark _)) (zOq (zBj zKd (zE1 zCa rfl T.b_len PySem.boot_len (zA2 (zAc (ix_D hu) (zA0 0) zDb) zA4)) zA3 (nomark _))))) (zA8 (zJk zU0 (zA0 0) zDb (zT9 PySem.F.plainAttrs_list PySem.F.slot_list_pop PySem.F.type_list_pop zNw (.inr (.inl rfl)) (zAc (ix_D hu) (zA0 0) zDb)))))
   (zA5 (zAj (j:=2) nd rfl (by first|exact Or.inl rfl|exact Or.inr rfl) (zAc (ix_D hu) (zA0 0) zDb))
   (zA5 (zBt (zBj zKd (zA0 2) zA3 (nomark _)) (zA5 (zJk zU0 (zA0 0) zDb (zAb zEv (zA0 2) (zA0 1)))
   (zA8 (zAf (zAb zCe (zA0 2) (zA0 1))))) zBe)
   (zA5 (zAj (j:=3) nd rfl (by first|exact Or.inl rfl|exact Or.inr rfl) (zAb zCe (zAb zB8 (zAb zAi (zAc (ix_D hu) (zA0 0) zDb) zA3) zA3) zA3))
   (zA5 (zJk zU0 (zA0 0) zDb (zAb zCe (zAb zB8 (zAb zAi (zA0 3) zA3) zA3) zA3))
   (zA5 (zAj (j:=4) nd rfl (by first|exact Or.inl rfl|exact Or.inr rfl) (zAb zCe (zAb zAi (zAc (ix_D hu) (zA0 0) zDb) (zAc (ix_D hu) (zA0 0) zDb)) zA3))
   (zA8 (zAf (zAb zCe (zAb zB8 (zAb zAi (zAb zCe (zAb zAi (zA0 3) (zA0 3)) zA3) zA3) (zA0 4)) (zA0 1))))))))))
abbrev zC0:Stmt:=top 25
theorem sc__law_point:zAl ["_law_x","_law_y"] ["_law_x","_law_y"] (zA6 zC0):=⟨rfl,rfl,rfl,by decide +kernel,rfl,by decide +kernel,by decide +kernel⟩
theorem zHb {f:Addr}{fd:FuncData}(F:Fun K "_law_point" "_law_point" zC0 f fd) (T:Txt K mg):FnOk P w K mg base CX0 1 f fd ["_law_x","_law_y"] (spOf K XE0 DP.zAg):=by
 refine fn_d (k:=0) (b:=DP.zC3) F sc__law_point rfl rfl fun cdv A outer s H E hr=>?_
 have hu:=zBq hr
 have hu64:=hr.units
 have hu1:=hr.units0
 have nd:=sc__law_point.nd
 exact(zA8 (zAf (zB1 (zA2 (zB1 (zA2 (zA0 0) (zA2 zA3 zA4))) (zA2 (zB1 (zA2 (zA0 1) (zA2 zA3 zA4))) zA4)))))
abbrev zBo:Stmt:=top 26
theorem sc__law_held:zAl n_3 n_3 (zA6 zBo):=⟨rfl,rfl,rfl,by decide +kernel,rfl,by decide +kernel,by decide +kernel⟩
theorem zI6 {f:Addr}{fd:FuncData}(F:Fun K "_law_held" "_law_held" zBo f fd) (T:Txt K mg):FnOk P w K mg base CX0 1 f fd n_3 (spOf K XE0 DP.zAw):=by
 refine fn_d (k:=0) (b:=DP.zCk) F sc__law_held rfl rfl fun cdv A outer s H E hr=>?_
 have hu:=zBq hr
 have hu64:=hr.units
 have hu1:=hr.units0
 have nd:=sc__law_held.nd
 exact(zA8 (zAf (zE1 (zEe rfl) rfl T.b_all PyProof.Rows.boot_all (zA2 (zEd (zDh rfl (CompScope.mk' (sc:=zA6 zBo) (N:=n_3) (own:=["_law_slope","_law_number"]) (fre:=["_law_x","_law_y"]) (ix:=[1,2]) rfl rfl (by decide +kernel)) (zBu (zA0 0)) (fun cl C s0 H0 fp=>(zE0 rfl (zAp (zAk (j:=0) (show List.Nodup n_4 by decide +kernel) rfl (Or.inl rfl) (Or.inr rfl)) (zAp (zAk (j:=1) (show List.Nodup n_4 by decide +kernel) rfl (Or.inl rfl) (Or.inr rfl)) zCh)))) (fun cl C s0 H0 fp=>zCg) (fun cl C s0 H0 fp=>(zOx zSs (zAb zB8 (zAb zAi (zAc (ix_D hu) (zA0 0) zA3) (zA0 2)) (zAb zAi (zAc (ix_D hu) (zA0 0) zA3) (zA0 3))) (zA0 1) (nomark _))))) zA4))))
abbrev zCz:Stmt:=top 2
theorem sc_fraction:zAl n_11 ["upper","lower"] (zA6 zCz):=⟨rfl,rfl,rfl,by decide +kernel,rfl,by decide +kernel,by decide +kernel⟩
theorem zJ8 {f:Addr}{fd:FuncData}(F:Fun K "fraction" "fraction" zCz f fd) (T:Txt K mg) (C_common_divisor:zCm P w K mg base):FnOk P w K mg base CX0 2 f fd ["upper","lower"] (spOf K XE0 DP.zC9):=by
 refine fn_d (k:=1) (b:=DP.zD7) F sc_fraction rfl rfl fun cdv A outer s H E hr=>?_
 have hu:=zBq hr
 have hu64:=hr.units
 have hu1:=hr.units0
 have nd:=sc_fraction.nd
 exact(zA5 (zAj (j:=2) nd rfl (by first|exact Or.inl rfl|exact Or.inr rfl) (zAa C_common_divisor (hr.mono (by decide)) rfl (zA2 (zA0 0) (zA2 (zA0 1) zA4))))
   (zA5 (zBt (zBj zNl (zA0 1) zA3 (nomark _)) (zA8 (zAj (j:=2) nd rfl (by first|exact Or.inl rfl|exact Or.inr rfl) (zJn zDd (zA0 2)))) zBe)
   (zA8 (zAf (zB1 (zA2 (zAb zEv (zA0 0) (zA0 2)) (zA2 (zAb zEv (zA0 1) (zA0 2)) zA4)))))))
abbrev zDo:Stmt:=top 12
theorem sc_side_at:zAl n_12 n_7 (zA6 zDo):=⟨rfl,rfl,rfl,by decide +kernel,rfl,by decide +kernel,by decide +kernel⟩
theorem zLl {f:Addr}{fd:FuncData}(F:Fun K "side_at" "side_at" zDo f fd) (T:Txt K mg) (C_sign_of:zIt P w K mg base):FnOk P w K mg base CX0 2 f fd n_7 (spOf K XE0 DP.zDy):=by
 refine fn_d (k:=1) (b:=DP.zFs) F sc_side_at rfl rfl fun cdv A outer s H E hr=>?_
 have hu:=zBq hr
 have hu64:=hr.units
 have hu1:=hr.units0
 have nd:=sc_side_at.nd
 exact(zA5 (zAj (j:=3) nd rfl (by first|exact Or.inl rfl|exact Or.inr rfl) (zAb zAi (zAb zB7 (zAc (ix_D hu) (zAc (ix_D hu) (zA0 2) zA3) zA3) (zAb zAi (zAc (ix_D hu) (zA0 0) zA3) (zAc (ix_D hu) (zAc (ix_D hu) (zA0 2) zA3) zA3))) (zAc (ix_D hu) (zAc (ix_D hu) (zA0 2) zA3) zA3)))
   (zA5 (zAj (j:=4) nd rfl (by first|exact Or.inl rfl|exact Or.inr rfl) (zAb zAi (zAb zB7 (zAc (ix_D hu) (zAc (ix_D hu) (zA0 2) zA3) zA3) (zAb zAi (zAc (ix_D hu) (zA0 0) zA3) (zAc (ix_D hu) (zAc (ix_D hu) (zA0 2) zA3) zA3))) (zAc (ix_D hu) (zAc (ix_D hu) (zA0 2) zA3) zA3)))
   (zA8 (zAf (zAa C_sign_of (hr.mono (by decide)) rfl (zA2 (zAb zB7 (zAb zAi (zAb zB7 (zAc (ix_D hu) (zA0 1) zA3) (zAc (ix_D hu) (zA0 0) zA3)) (zA0 4)) (zAb zAi (zAb zB7 (zAc (ix_D hu) (zA0 1) zA3) (zAc (ix_D hu) (zA0 0) zA3)) (zA0 3))) zA4))))))
abbrev zCy:Stmt:=top 18
theorem sc_inward:zAl n_0 ["corners"] (zA6 zCy):=⟨rfl,rfl,rfl,by decide +kernel,rfl,by decide +kernel,by decide +kernel⟩
theorem zNq {f:Addr}{fd:FuncData}(F:Fun K "inward" "inward" zCy f fd) (T:Txt K mg) (C_neighbours:zEl P w K mg base):FnOk P w K mg base CX0 2 f fd ["corners"] (spOf K XE0 DP.zDz):=by
 refine fn_d (k:=1) (b:=DP.zF0) F sc_inward rfl rfl fun cdv A outer s H E hr=>?_
 have hu:=zBq hr
 have hu64:=hr.units
 have hu1:=hr.units0
 have nd:=sc_inward.nd
 obtain⟨_,hc_ALL_WAYS,rc_ALL_WAYS⟩:=T.c_ALL_WAYS
 exact(zA5 (zBt (zBj zFa (zE1 zCa rfl T.b_len PySem.boot_len (zA2 (zA0 0) zA4)) zA3 (nomark _)) (zA8 (zAf (zEd (zZy zJs rfl T.b_list PyProof.Rows.boot_list (zA2 (de_k rfl hc_ALL_WAYS rc_ALL_WAYS) zA4))))) zBe)
   (zA5 (zHm (j:=1) nd rfl (by first|exact Or.inl rfl|exact Or.inr rfl) rfl (CompScope.mk' (sc:=zA6 zCy) (N:=n_0) (own:=["one","other"]) (fre:=[]) (ix:=[]) rfl rfl (by decide +kernel)) (zBu (zAa C_neighbours (hr.mono (by decide)) rfl (zA2 (zA0 0) zA4))) (fun cl C s0 H0 fp=>(zE0 rfl (zAp (zAk (j:=0) (show List.Nodup (["one","other"]:List Str) by decide +kernel) rfl (Or.inl rfl) (Or.inr rfl)) (zAp (zAk (j:=1) (show List.Nodup (["one","other"]:List Str) by decide +kernel) rfl (Or.inl rfl) (Or.inr rfl)) zCh)))) (fun cl C s0 H0 fp=>zCg) (fun cl C s0 H0 fp=>(zB1 (zA2 (zAb zB7 (zAc (ix_D hu) (zA0 1) zA3) (zAc (ix_D hu) (zA0 0) zA3)) (zA2 (zAb zB7 (zAc (ix_D hu) (zA0 1) zA3) (zAc (ix_D hu) (zA0 0) zA3)) zA4)))))
   (zA5 (zHm (j:=2) nd rfl (by first|exact Or.inl rfl|exact Or.inr rfl) rfl (CompScope.mk' (sc:=zA6 zCy) (N:=n_0) (own:=["way"]) (fre:=[]) (ix:=[]) rfl rfl (by decide +kernel)) (zBu (zA0 1)) (fun cl C s0 H0 fp=>(zAk (j:=0) (show List.Nodup (["way"]:List Str) by decide +kernel) rfl (Or.inl rfl) (Or.inr rfl))) (fun cl C s0 H0 fp=>zCg) (fun cl C s0 H0 fp=>(zB1 (zA2 (zJn zDd (zAc (ix_D hu) (zA0 0) zA3)) (zA2 (zAc (ix_D hu) (zA0 0) zA3) zA4)))))
   (zA8 (zAf (yA0 (zBj zFa (zE1 zCa rfl T.b_len PySem.boot_len (zA2 (zA0 0) zA4)) zA3 (nomark _)) (zAb zB8 (zA0 2) (zA0 1)) (zA0 2)))))))
abbrev zCc:Stmt:=top 24
theorem sc__law_some:zAl n_13 ["_law_deal_here"] (zA6 zCc):=⟨rfl,rfl,rfl,by decide +kernel,rfl,by decide +kernel,by decide +kernel⟩
theorem zI5 {f:Addr}{fd:FuncData}(F:Fun K "_law_some" "_law_some" zCc f fd) (T:Txt K mg) (C__law_draw:zG0 P w K mg base):FnOk P w K mg base CX0 2 f fd ["_law_deal_here"] (spOf K XE0 DP.zBa):=by
 refine fn_d (k:=1) (b:=DP.zBv) F sc__law_some rfl rfl fun cdv A outer s H E hr=>?_
 have hu:=zBq hr
 have hu64:=hr.units
 have hu1:=hr.units0
 have nd:=sc__law_some.nd
 exact(zA5 (zAj (j:=1) nd rfl (by first|exact Or.inl rfl|exact Or.inr rfl) (zAc (ix_D hu) (zEd (zL2 (zA2 zA3 (zA2 zA3 (zA2 (zAb zNk zA3 zA3) zA4))))) (zAa C__law_draw (hr.mono (by decide)) rfl (zA2 (zA0 0) (zA2 zA3 zA4)))))
   (zA5 (zAj (j:=2) nd rfl (by first|exact Or.inl rfl|exact Or.inr rfl) (zAa C__law_draw (hr.mono (by decide)) rfl (zA2 (zA0 0) (zA2 zA3 zA4))))
   (zA5 (zAj (j:=3) nd rfl (by first|exact Or.inl rfl|exact Or.inr rfl) (zOw (zL2 zA4)))
   (zA5 (zDg PassesOwn.never rfl (zOt rfl T.b_range (zA2 (zAb zB8 zA3 (zAa C__law_draw (hr.mono (by decide)) rfl (zA2 (zA0 0) (zA2 zA3 zA4)))) zA4)) (zAk (j:=4) nd rfl (by first|exact Or.inl rfl|exact Or.inr rfl)) (zA5 (zEy (i:=5) (j:=6) rfl nd rfl rfl (by decide) rfl rfl (zA2 (zAb zB7 (zAa C__law_draw (hr.mono (by decide)) rfl (zA2 (zA0 0) (zA2 (zAb zB8 (zAb zAi zA3 (zA0 1)) zA3) zA4))) (zA0 1)) (zA2 (zAb zB7 (zAa C__law_draw (hr.mono (by decide)) rfl (zA2 (zA0 0) (zA2 (zAb zB8 (zAb zAi zA3 (zA0 1)) zA3) zA4))) (zA0 1)) zA4)) rfl)
   (zA5 (zBt (zBj zFa (zA0 2) zA3 (nomark _)) (zA8 (zOs (zAc (ix_D hu) (zEd (zL2 (zA2 (zB1 (zA2 (zA0 5) (zA2 (zA0 1) zA4))) (zA2 (zB1 (zA2 (zA0 5) (zA2 (zAb zB7 zA3 (zA0 1)) zA4))) (zA2 (zB1 (zA2 (zA0 1) (zA2 (zA0 6) zA4))) (zA2 (zB1 (zA2 (zAb zB7 zA3 (zA0 1)) (zA2 (zA0 6) zA4))) zA4)))))) (zAa C__law_draw (hr.mono (by decide)) rfl (zA2 (zA0 0) (zA2 zA3 zA4)))) (zE0 rfl (zAp (zAk (j:=5) nd rfl (by first|exact Or.inl rfl|exact Or.inr rfl)) (zAp (zAk (j:=6) nd rfl (by first|exact Or.inl rfl|exact Or.inr rfl)) zCh))))) zBe)
   (zA5 (zBt (zBj zFa (zA0 2) zA3 (nomark _)) (zA8 (zEy (i:=5) (j:=6) rfl nd rfl rfl (by decide) rfl rfl (zA2 (zA0 5) (zA2 (zAb zEv (zAb zB8 (zA0 5) (zA0 1)) zA3) zA4)) rfl)) zBe)
   (zA5 (zBt (zBj zFa (zA0 2) zA3 (nomark _)) (zA8 (zEy (i:=5) (j:=6) rfl nd rfl rfl (by decide) rfl rfl (zA2 (zA0 5) (zA2 (zAb zB7 zA3 (zA0 5)) zA4)) rfl)) zBe)
   (zA8 (zHn (zZ2 PySem.F.plainAttrs_list PySem.F.slot_list_append PySem.F.type_list_append zGc (.inr (.inl rfl)) (zA0 3) (zA2 (zB1 (zA2 (zA0 5) (zA2 (zA0 6) zA4))) zA4)))))))))
   (zA8 (zAf (zW6 zCu rfl T.b_tuple PyProof.Rows.boot_tuple (zA2 (zA0 3) zA4))))))))
abbrev zH6:Stmt:=top 3
theorem sc_added:zAl ["one","other"] ["one","other"] (zA6 zH6):=⟨rfl,rfl,rfl,by decide +kernel,rfl,by decide +kernel,by decide +kernel⟩
theorem zQt {f:Addr}{fd:FuncData}(F:Fun K "added" "added" zH6 f fd) (T:Txt K mg) (C_fraction:zEh P w K mg base):FnOk P w K mg base CX0 3 f fd ["one","other"] (spOf K XE0 DP.zHh):=by
 refine fn_d (k:=2) (b:=DP.zJw) F sc_added rfl rfl fun cdv A outer s H E hr=>?_
 have hu:=zBq hr
 have hu64:=hr.units
 have hu1:=hr.units0
 have nd:=sc_added.nd
 exact(zA8 (zAf (zAa C_fraction (hr.mono (by decide)) rfl (zA2 (zAb zB8 (zAb zAi (zAc (ix_D hu) (zA0 0) zA3) (zAc (ix_D hu) (zA0 1) zA3)) (zAb zAi (zAc (ix_D hu) (zA0 1) zA3) (zAc (ix_D hu) (zA0 0) zA3))) (zA2 (zAb zAi (zAc (ix_D hu) (zA0 0) zA3) (zAc (ix_D hu) (zA0 1) zA3)) zA4)))))
abbrev zH4:Stmt:=top 4
theorem sc_times:zAl ["one","other"] ["one","other"] (zA6 zH4):=⟨rfl,rfl,rfl,by decide +kernel,rfl,by decide +kernel,by decide +kernel⟩
theorem zQs {f:Addr}{fd:FuncData}(F:Fun K "times" "times" zH4 f fd) (T:Txt K mg) (C_fraction:zEh P w K mg base):FnOk P w K mg base CX0 3 f fd ["one","other"] (spOf K XE0 DP.zFi):=by
 refine fn_d (k:=2) (b:=DP.zJv) F sc_times rfl rfl fun cdv A outer s H E hr=>?_
 have hu:=zBq hr
 have hu64:=hr.units
 have hu1:=hr.units0
 have nd:=sc_times.nd
 exact(zA8 (zAf (zAa C_fraction (hr.mono (by decide)) rfl (zA2 (zAb zAi (zAc (ix_D hu) (zA0 0) zA3) (zAc (ix_D hu) (zA0 1) zA3)) (zA2 (zAb zAi (zAc (ix_D hu) (zA0 0) zA3) (zAc (ix_D hu) (zA0 1) zA3)) zA4)))))
abbrev zDn:Stmt:=top 11
theorem sc_side_of:zAl n_8 n_8 (zA6 zDn):=⟨rfl,rfl,rfl,by decide +kernel,rfl,by decide +kernel,by decide +kernel⟩
theorem zLk {f:Addr}{fd:FuncData}(F:Fun K "side_of" "side_of" zDn f fd) (T:Txt K mg) (C_side_at:zIv P w K mg base) (C_point_of:zGr P w K mg base):FnOk P w K mg base CX0 3 f fd n_8 (spOf K XE0 DP.zC8):=by
 refine fn_d (k:=2) (b:=DP.zFr) F sc_side_of rfl rfl fun cdv A outer s H E hr=>?_
 have hu:=zBq hr
 have hu64:=hr.units
 have hu1:=hr.units0
 have nd:=sc_side_of.nd
 exact(zA8 (zAf (zAa C_side_at (hr.mono (by decide)) rfl (zA2 (zA0 0) (zA2 (zA0 1) (zA2 (zAa C_point_of (hr.mono (by decide)) rfl (zA2 (zA0 2) zA4)) zA4))))))
abbrev zCw:Stmt:=top 9
theorem sc_worth_at:zAl n_14 ["slope","point"] (zA6 zCw):=⟨rfl,rfl,rfl,by decide +kernel,rfl,by decide +kernel,by decide +kernel⟩
theorem zJ5 {f:Addr}{fd:FuncData}(F:Fun K "worth_at" "worth_at" zCw f fd) (T:Txt K mg) (C_times:zPj P w K mg base) (C_added:zPk P w K mg base):FnOk P w K mg base CX0 4 f fd ["slope","point"] (spOf K XE0 DP.zC7):=by
 refine fn_d (k:=3) (b:=DP.zD5) F sc_worth_at rfl rfl fun cdv A outer s H E hr=>?_
 have hu:=zBq hr
 have hu64:=hr.units
 have hu1:=hr.units0
 have nd:=sc_worth_at.nd
 exact(zA5 (zAj (j:=2) nd rfl (by first|exact Or.inl rfl|exact Or.inr rfl) (zAa C_times (hr.mono (by decide)) rfl (zA2 (zB1 (zA2 (zAc (ix_D hu) (zA0 0) zA3) (zA2 zA3 zA4))) (zA2 (zAc (ix_D hu) (zA0 1) zA3) zA4))))
   (zA5 (zAj (j:=3) nd rfl (by first|exact Or.inl rfl|exact Or.inr rfl) (zAa C_times (hr.mono (by decide)) rfl (zA2 (zB1 (zA2 (zAc (ix_D hu) (zA0 0) zA3) (zA2 zA3 zA4))) (zA2 (zAc (ix_D hu) (zA0 1) zA3) zA4))))
   (zA8 (zAf (zAa C_added (hr.mono (by decide)) rfl (zA2 (zA0 2) (zA2 (zA0 3) zA4)))))))
abbrev zBz:Stmt:=top 16
theorem sc_left_turns:zAl n_15 ["cells"] (zA6 zBz):=⟨rfl,rfl,rfl,by decide +kernel,rfl,by decide +kernel,by decide +kernel⟩
theorem zHa {f:Addr}{fd:FuncData}(F:Fun K "left_turns" "left_turns" zBz f fd) (T:Txt K mg) (C_side_of:zIu P w K mg base):FnOk P w K mg base CX0 4 f fd ["cells"] (spOf K XE0 DP.zBc):=by
 refine fn_d (k:=3) (b:=DP.zBh) F sc_left_turns rfl rfl fun cdv A outer s H E hr=>?_
 have hu:=zBq hr
 have hu64:=hr.units
 have hu1:=hr.units0
 have nd:=sc_left_turns.nd
 exact(zA5 (zAj (j:=1) nd rfl (by first|exact Or.inl rfl|exact Or.inr rfl) (zOw (zL2 zA4)))
   (zA5 (zDg PassesOwn.never rfl (zBu (zA0 0)) (zAk (j:=2) nd rfl (by first|exact Or.inl rfl|exact Or.inr rfl)) (zA5 (zFk PassesOwn.never (dt_w (zT7 (zBj zKd (zE1 zCa rfl T.b_len PySem.boot_len (zA2 (zA0 1) zA4)) zA3 (nomark _)) (zOq (zBj zY4 (zAa C_side_of (hr.mono (by decide)) rfl (zA2 (zAc (ix_D hu) (zA0 1) (zJn zDd zA3)) (zA2 (zAc (ix_D hu) (zA0 1) (zJn zDd zA3)) (zA2 (zA0 2) zA4)))) zA3 (nomark _))))) (zA8 (zHn (zT9 PySem.F.plainAttrs_list PySem.F.slot_list_pop PySem.F.type_list_pop zNw (.inr (.inl rfl)) (zA0 1)))))
   (zA8 (zHn (zZ2 PySem.F.plainAttrs_list PySem.F.slot_list_append PySem.F.type_list_append zGc (.inr (.inl rfl)) (zA0 1) (zA2 (zA0 2) zA4))))))
   (zA8 (zAf (zA0 1)))))
abbrev zDq:Stmt:=top 15
theorem sc_hull_of:zAl n_16 ["cells"] (zA6 zDq):=⟨rfl,rfl,rfl,by decide +kernel,rfl,by decide +kernel,by decide +kernel⟩
theorem zLo {f:Addr}{fd:FuncData}(F:Fun K "hull_of" "hull_of" zDq f fd) (T:Txt K mg) (C_left_turns:zEm P w K mg base):FnOk P w K mg base CX0 5 f fd ["cells"] (spOf K XE0 DP.zAr):=by
 refine fn_d (k:=4) (b:=DP.zE4) F sc_hull_of rfl rfl fun cdv A outer s H E hr=>?_
 have hu:=zBq hr
 have hu64:=hr.units
 have hu1:=hr.units0
 have nd:=sc_hull_of.nd
 exact(zA5 (zAj (j:=1) nd rfl (by first|exact Or.inl rfl|exact Or.inr rfl) (zEd (zZx rfl hu64 (zA0 0) rfl T.b_sorted rfl T.b_set)))
   (zA5 (zAj (j:=2) nd rfl (by first|exact Or.inl rfl|exact Or.inr rfl) (zAa C_left_turns (hr.mono (by decide)) rfl (zA2 (zA0 1) zA4)))
   (zA5 (zAj (j:=3) nd rfl (by first|exact Or.inl rfl|exact Or.inr rfl) (zAa C_left_turns (hr.mono (by decide)) rfl (zA2 (zEd (zGm rfl (zA0 1) rfl T.b_list rfl T.b_reversed)) zA4)))
   (zA8 (zAf (zW6 zCu rfl T.b_tuple PyProof.Rows.boot_tuple (zA2 (zYz (zAb zB8 (zJo sl_D (zA0 2) zJl (zFl (zJn zDd zA3))) (zJo sl_D (zA0 3) zJl (zFl (zJn zDd zA3)))) (zZ0 (zA0 1))) zA4)))))))
abbrev zBl:Stmt:=top 17
theorem sc_sides_of:zAl ["cells","corners"] ["cells"] (zA6 zBl):=⟨rfl,rfl,rfl,by decide +kernel,rfl,by decide +kernel,by decide +kernel⟩
theorem zJ6 {f:Addr}{fd:FuncData}(F:Fun K "sides_of" "sides_of" zBl f fd) (T:Txt K mg) (C_hull_of:zFx P w K mg base) (C_inward:zLc P w K mg base) (C_worth:zPi P w K mg base):FnOk P w K mg base CX0 6 f fd ["cells"] (spOf K XE0 DP.zBb):=by
 refine fn_d (k:=5) (b:=DP.zD6) F sc_sides_of rfl rfl fun cdv A outer s H E hr=>?_
 have hu:=zBq hr
 have hu64:=hr.units
 have hu1:=hr.units0
 have nd:=sc_sides_of.nd
 exact(zA5 (zAj (j:=1) nd rfl (by first|exact Or.inl rfl|exact Or.inr rfl) (zAa C_hull_of (hr.mono (by decide)) rfl (zA2 (zA0 0) zA4)))
   (zA8 (zAf (zW6 zCu rfl T.b_tuple PyProof.Rows.boot_tuple (zA2 (zEd (zDh rfl (CompScope.mk' (sc:=zA6 zBl) (N:=["cells","corners"]) (own:=["slope"]) (fre:=["corners"]) (ix:=[1]) rfl rfl (by decide +kernel)) (zBu (zAa C_inward (hr.mono (by decide)) rfl (zA2 (zA0 1) zA4))) (fun cl C s0 H0 fp=>(zAk (j:=0) (show List.Nodup (["slope","corners"]:List Str) by decide +kernel) rfl (Or.inr rfl) (Or.inl rfl))) (fun cl C s0 H0 fp=>zCg) (fun cl C s0 H0 fp=>(zB1 (zA2 (zA0 0) (zA2 (zE1 (zGp rfl hu64) rfl T.b_min PyProof.Rows.boot_min (zA2 (zEd (zDh rfl (CompScope.mk' (sc:=(zKc _ (zA6 zBl))) (N:=["slope","corners"]) (own:=["corner"]) (fre:=["slope"]) (ix:=[0]) rfl rfl (by decide +kernel)) (zBu (zA0 1)) (fun cl C s0 H0 fp=>(zAk (j:=0) (show List.Nodup (["corner","slope"]:List Str) by decide +kernel) rfl (Or.inl rfl) (Or.inr rfl))) (fun cl C s0 H0 fp=>zCg) (fun cl C s0 H0 fp=>(zAa C_worth (hr.mono (by decide)) rfl (zA2 (zA0 1) (zA2 (zA0 0) zA4)))))) zA4)) zA4)))))) zA4)))))
abbrev zCo:Stmt:=top 20
theorem sc_in_hull:zAl ["cells","point"] ["cells","point"] (zA6 zCo):=⟨rfl,rfl,rfl,by decide +kernel,rfl,by decide +kernel,by decide +kernel⟩
theorem zLn {f:Addr}{fd:FuncData}(F:Fun K "in_hull" "in_hull" zCo f fd) (T:Txt K mg) (C_is_less:zIw P w K mg base) (C_sides_of:zEg P w K mg base) (C_worth_at:zGq P w K mg base):FnOk P w K mg base CX0 7 f fd ["cells","point"] (spOf K XE0 DP.zAn):=by
 refine fn_d (k:=6) (b:=DP.zE3) F sc_in_hull rfl rfl fun cdv A outer s H E hr=>?_
 have hu:=zBq hr
 have hu64:=hr.units
 have hu1:=hr.units0
 have nd:=sc_in_hull.nd
 exact(zA8 (zAf (zE1 (zEe rfl) rfl T.b_all PyProof.Rows.boot_all (zA2 (zEd (zDh rfl (CompScope.mk' (sc:=zA6 zCo) (N:=["cells","point"]) (own:=["slope","number"]) (fre:=["point"]) (ix:=[1]) rfl rfl (by decide +kernel)) (zBu (zAa C_sides_of (hr.mono (by decide)) rfl (zA2 (zA0 0) zA4))) (fun cl C s0 H0 fp=>(zE0 rfl (zAp (zAk (j:=0) (show List.Nodup n_1 by decide +kernel) rfl (Or.inl rfl) (Or.inr rfl)) (zAp (zAk (j:=1) (show List.Nodup n_1 by decide +kernel) rfl (Or.inl rfl) (Or.inr rfl)) zCh)))) (fun cl C s0 H0 fp=>zCg) (fun cl C s0 H0 fp=>(zZ1 (zAa C_is_less (hr.mono (by decide)) rfl (zA2 (zAa C_worth_at (hr.mono (by decide)) rfl (zA2 (zA0 0) (zA2 (zA0 2) zA4))) (zA2 (zB1 (zA2 (zA0 1) (zA2 zA3 zA4))) zA4))))))) zA4))))
abbrev zH5:Stmt:=top 27
theorem sc_law:zAl n_5 ["_law_script"] (zA6 zH5):=⟨rfl,rfl,rfl,by decide +kernel,rfl,by decide +kernel,by decide +kernel⟩
theorem zY6 {f:Addr}{fd:FuncData}(F:Fun K "law" "law" zH5 f fd) (T:Txt K mg) (C__law_deal:zG1 P w K mg base) (C__law_some:zFy P w K mg base) (C_hull_of:zFx P w K mg base) (C_sides_of:zEg P w K mg base) (C__law_point:zEn P w K mg base) (C_in_hull:zIx P w K mg base) (C__law_held:zFz P w K mg base):FnOk P w K mg base CX0 8 f fd ["_law_script"] (spOf K XE0 DP.zLv):=by
 refine fn_d (k:=7) (b:=DP.zS6) F sc_law rfl rfl fun cdv A outer s H E hr=>?_
 have hu:=zBq hr
 have hu64:=hr.units
 have hu1:=hr.units0
 have nd:=sc_law.nd
 exact(zA5 (zAj (j:=1) nd rfl (by first|exact Or.inl rfl|exact Or.inr rfl) (zAa C__law_deal (hr.mono (by decide)) rfl (zA2 (zA0 0) zA4)))
   (zA5 (zDg PassesOwn.never rfl (zBu (zB1 (zA2 (zAa C__law_some (hr.mono (by decide)) rfl (zA2 (zA0 1) zA4)) zA4))) (zAk (j:=2) nd rfl (by first|exact Or.inl rfl|exact Or.inr rfl)) (zA5 (zEy (i:=3) (j:=4) rfl nd rfl rfl (by decide) rfl rfl (zA2 (zAa C_hull_of (hr.mono (by decide)) rfl (zA2 (zA0 2) zA4)) (zA2 (zAa C_sides_of (hr.mono (by decide)) rfl (zA2 (zA0 2) zA4)) zA4)) rfl)
   (zA5 (zBt (dt_w (zRr (zGk (zDa (zE1 zM5 rfl T.b_isinstance PyProof.Rows.boot_isinstance (zA2 (zA0 4) (zA2 (zZz rfl T.b_tuple PyProof.Rows.boot_tuple rfl) zA4))))) (zKy (zGk (zDa (zE1 (zEe rfl) rfl T.b_all PyProof.Rows.boot_all (zA2 (zEd (zDh rfl (CompScope.mk' (sc:=zA6 zH5) (N:=n_5) (own:=["_law_corner"]) (fre:=["_law_cells"]) (ix:=[2]) rfl rfl (by decide +kernel)) (zBu (zA0 3)) (fun cl C s0 H0 fp=>(zAk (j:=0) (show List.Nodup (["_law_corner","_law_cells"]:List Str) by decide +kernel) rfl (Or.inl rfl) (Or.inr rfl))) (fun cl C s0 H0 fp=>zCg) (fun cl C s0 H0 fp=>(zOx (zV0 hu64) (zA0 0) (zA0 1) (by with_unfolding_all rfl))))) zA4))))))) (zA8 (zAf zJp)) zBe)
   (zA5 (zDg PassesOwn.never rfl (zBu (zA0 4)) (zE0 rfl (zAp (zAk (j:=5) nd rfl (by first|exact Or.inl rfl|exact Or.inr rfl)) (zAp (zAk (j:=6) nd rfl (by first|exact Or.inl rfl|exact Or.inr rfl)) zCh))) (zA8 (zBt (zBj zY2 (zE1 (zGp rfl hu64) rfl T.b_min PyProof.Rows.boot_min (zA2 (zEd (zDh rfl (CompScope.mk' (sc:=zA6 zH5) (N:=n_5) (own:=["_law_x","_law_y"]) (fre:=["_law_slope"]) (ix:=[5]) rfl rfl (by decide +kernel)) (zBu (zA0 2)) (fun cl C s0 H0 fp=>(zE0 rfl (zAp (zAk (j:=0) (show List.Nodup n_6 by decide +kernel) rfl (Or.inl rfl) (Or.inr rfl)) (zAp (zAk (j:=1) (show List.Nodup n_6 by decide +kernel) rfl (Or.inl rfl) (Or.inr rfl)) zCh)))) (fun cl C s0 H0 fp=>zCg) (fun cl C s0 H0 fp=>(zAb zH8 (zAb zAi (zAc (ix_D hu) (zA0 2) zA3) (zA0 0)) (zAb zAi (zAc (ix_D hu) (zA0 2) zA3) (zA0 1)))))) zA4)) (zA0 6) (nomark _)) (zA8 (zAf zJp)) zBe)))
   (zA5 (zDg PassesOwn.never rfl (zW3 true rfl T.b_enumerate (zA0 3)) (zE0 rfl (zAp (zAk (j:=7) nd rfl (by first|exact Or.inl rfl|exact Or.inr rfl)) (zAp (zAk (j:=8) nd rfl (by first|exact Or.inl rfl|exact Or.inr rfl)) zCh))) (zA5 (zOs (zA0 8) (zE0 rfl (zAp (zAk (j:=9) nd rfl (by first|exact Or.inl rfl|exact Or.inr rfl)) (zAp (zAk (j:=10) nd rfl (by first|exact Or.inl rfl|exact Or.inr rfl)) zCh))))
   (zA5 (zBt (dt_w (zRr (zGk (zDa (zAa C_in_hull (hr.mono (by decide)) rfl (zA2 (zA0 2) (zA2 (zAa C__law_point (hr.mono (by decide)) rfl (zA2 (zA0 9) (zA2 (zA0 10) zA4))) zA4))))) (zKy (zGk (zDa (zAa C__law_held (hr.mono (by decide)) rfl (zA2 (zA0 4) (zA2 (zA0 9) (zA2 (zA0 10) zA4))))))))) (zA8 (zAf zJp)) zBe)
   (zA5 (zBt (zBj zFa (zE1 zCa rfl T.b_len PySem.boot_len (zA2 (zA0 3) zA4)) zA3 (nomark _)) (zA8 (zAj (j:=11) nd rfl (by first|exact Or.inl rfl|exact Or.inr rfl) (zB1 (zA2 (zAb zH8 (zA0 9) zA3) (zA2 (zA0 10) zA4))))) (zA5 (zAj (j:=12) nd rfl (by first|exact Or.inl rfl|exact Or.inr rfl) (zAb zH8 (zJo sl_D (zA0 3) zJl (zFl (zA0 7))) (zJo sl_D (zA0 3) (zFl (zAb zH8 (zA0 7) zA3)) zJl)))
   (zA5 (zAj (j:=11) nd rfl (by first|exact Or.inl rfl|exact Or.inr rfl) (zB1 (zA2 (zAb zB7 (zAb zAi zA3 (zA0 9)) (zAc (ix_D hu) (zAc (ix_D hu) (zA0 12) zA3) zA3)) (zA2 (zAb zB7 (zAb zAi zA3 (zA0 10)) (zAc (ix_D hu) (zAc (ix_D hu) (zA0 12) zA3) zA3)) zA4))))
   (zA5 (zAj (j:=13) nd rfl (by first|exact Or.inl rfl|exact Or.inr rfl) (zAa C__law_point (hr.mono (by decide)) rfl (zA2 (zAc (ix_D hu) (zAc (ix_D hu) (zA0 12) zA3) zA3) (zA2 (zAc (ix_D hu) (zAc (ix_D hu) (zA0 12) zA3) zA3) zA4))))
   (zA8 (zBt (dt_w (zRr (zDa (zAa C_in_hull (hr.mono (by decide)) rfl (zA2 (zA0 12) (zA2 (zAa C__law_point (hr.mono (by decide)) rfl (zA2 (zA0 9) (zA2 (zA0 10) zA4))) zA4)))) (zKy (zGk (zDa (zAa C_in_hull (hr.mono (by decide)) rfl (zA2 (zA0 12) (zA2 (zA0 13) zA4)))))))) (zA8 (zAf zJp)) zBe))))))
   (zA8 (zBt (dt_w (zRr (zDa (zAa C_in_hull (hr.mono (by decide)) rfl (zA2 (zA0 2) (zA2 (zAa C__law_point (hr.mono (by decide)) rfl (zA2 (zAc (ix_D hu) (zA0 11) zA3) (zA2 (zAc (ix_D hu) (zA0 11) zA3) zA4))) zA4)))) (zKy (zDa (zAa C__law_held (hr.mono (by decide)) rfl (zA2 (zA0 4) (zA2 (zAc (ix_D hu) (zA0 11) zA3) (zA2 (zAc (ix_D hu) (zA0 11) zA3) zA4)))))))) (zA8 (zAf zJp)) zBe))))))
   (zA8 (zDg PassesOwn.never rfl (zBu (zA0 2)) (zE0 rfl (zAp (zAk (j:=9) nd rfl (by first|exact Or.inl rfl|exact Or.inr rfl)) (zAp (zAk (j:=10) nd rfl (by first|exact Or.inl rfl|exact Or.inr rfl)) zCh))) (zA8 (zBt (zGk (zDa (zAa C_in_hull (hr.mono (by decide)) rfl (zA2 (zA0 3) (zA2 (zAa C__law_point (hr.mono (by decide)) rfl (zA2 (zA0 9) (zA2 (zA0 10) zA4))) zA4))))) (zA8 (zAf zJp)) zBe)))))))))
   (zA8 (zAf zJp))))
end
abbrev FO (x:Str) (st:Stmt) (oc:Value) (od:Option Addr) (kV dc pm:Value) (an:Option Addr) (cd ct:Value) (sl:Array (Option Value)):Option Obj:=some ⟨oc,od,.func (PySem.W.fnOf x x (zEb st) (zCi st) (zA6 st) .none kV dc pm an cd ct),sl⟩
theorem all_mk {l:PySem.W.OpenLaw}{w:World}{K:PySem.W.Frag}{h:Heap}{mg:Str->Option Value}{fa f0 f1 f2 f3 f4 f5 f6 f7 f8 f9 f10 f11 f12 f13 f14 f15 f16 f17 f18 f19 f20 f21 f22:Addr}(X:K.In h) (G:h.Ns mainGlobals mg) (hfa:mg "law"=some (.ref fa))
  {od0 an0 od1 an1 od2 an2 od3 an3 od4 an4 od5 an5 od6 an6 od7 an7 od8 an8 od9 an9 od10 an10 od11 an11 od12 an12 od13 an13 od14 an14 od15 an15 od16 an16 od17 an17 od18 an18 od19 an19 od20 an20 od21 an21 od22 an22:Option Addr}{sl0 sl1 sl2 sl3 sl4 sl5 sl6 sl7 sl8 sl9 sl10 sl11 sl12 sl13 sl14 sl15 sl16 sl17 sl18 sl19 sl20 sl21 sl22:Array (Option Value)}{oc0 kV0 dc0 pm0 cd0 ct0 oc1 kV1 dc1 pm1 cd1 ct1 oc2 kV2 dc2 pm2 cd2 ct2 oc3 kV3 dc3 pm3 cd3 ct3 oc4 kV4 dc4 pm4 cd4 ct4 oc5 kV5 dc5 pm5 cd5 ct5 oc6 kV6 dc6 pm6 cd6 ct6 oc7 kV7 dc7 pm7 cd7 ct7 oc8 kV8 dc8 pm8 cd8 ct8 oc9 kV9 dc9 pm9 cd9 ct9 oc10 kV10 dc10 pm10 cd10 ct10 oc11 kV11 dc11 pm11 cd11 ct11 oc12 kV12 dc12 pm12 cd12 ct12 oc13 kV13 dc13 pm13 cd13 ct13 oc14 kV14 dc14 pm14 cd14 ct14 oc15 kV15 dc15 pm15 cd15 ct15 oc16 kV16 dc16 pm16 cd16 ct16 oc17 kV17 dc17 pm17 cd17 ct17 oc18 kV18 dc18 pm18 cd18 ct18 oc19 kV19 dc19 pm19 cd19 ct19 oc20 kV20 dc20 pm20 cd20 ct20 oc21 kV21 dc21 pm21 cd21 ct21 oc22 kV22 dc22 pm22 cd22 ct22:Value}
  (a0:PySem.W.nsIn K mainGlobals "common_divisor"=some (some (.ref f0))) (l0:K.lookup f0=FO "common_divisor" zB4 oc0 od0 kV0 dc0 pm0 an0 cd0 ct0 sl0) (c0:PySem.W.codeIn K cd0 "common_divisor"=true) (k0:PySem.W.keepIn K (.ref f0)=true)
  (a1:PySem.W.nsIn K mainGlobals "is_less"=some (some (.ref f1))) (l1:K.lookup f1=FO "is_less" zDp oc1 od1 kV1 dc1 pm1 an1 cd1 ct1 sl1) (c1:PySem.W.codeIn K cd1 "is_less"=true) (k1:PySem.W.keepIn K (.ref f1)=true)
  (a2:PySem.W.nsIn K mainGlobals "point_of"=some (some (.ref f2))) (l2:K.lookup f2=FO "point_of" zCx oc2 od2 kV2 dc2 pm2 an2 cd2 ct2 sl2) (c2:PySem.W.codeIn K cd2 "point_of"=true) (k2:PySem.W.keepIn K (.ref f2)=true)
  (a3:PySem.W.nsIn K mainGlobals "worth"=some (some (.ref f3))) (l3:K.lookup f3=FO "worth" zH3 oc3 od3 kV3 dc3 pm3 an3 cd3 ct3 sl3) (c3:PySem.W.codeIn K cd3 "worth"=true) (k3:PySem.W.keepIn K (.ref f3)=true)
  (a4:PySem.W.nsIn K mainGlobals "sign_of"=some (some (.ref f4))) (l4:K.lookup f4=FO "sign_of" zDm oc4 od4 kV4 dc4 pm4 an4 cd4 ct4 sl4) (c4:PySem.W.codeIn K cd4 "sign_of"=true) (k4:PySem.W.keepIn K (.ref f4)=true)
  (a5:PySem.W.nsIn K mainGlobals "neighbours"=some (some (.ref f5))) (l5:K.lookup f5=FO "neighbours" zBy oc5 od5 kV5 dc5 pm5 an5 cd5 ct5 sl5) (c5:PySem.W.codeIn K cd5 "neighbours"=true) (k5:PySem.W.keepIn K (.ref f5)=true)
  (a6:PySem.W.nsIn K mainGlobals "_law_deal"=some (some (.ref f6))) (l6:K.lookup f6=FO "_law_deal" zBf oc6 od6 kV6 dc6 pm6 an6 cd6 ct6 sl6) (c6:PySem.W.codeIn K cd6 "_law_deal"=true) (k6:PySem.W.keepIn K (.ref f6)=true)
  (a7:PySem.W.nsIn K mainGlobals "_law_draw"=some (some (.ref f7))) (l7:K.lookup f7=FO "_law_draw" zCd oc7 od7 kV7 dc7 pm7 an7 cd7 ct7 sl7) (c7:PySem.W.codeIn K cd7 "_law_draw"=true) (k7:PySem.W.keepIn K (.ref f7)=true)
  (a8:PySem.W.nsIn K mainGlobals "_law_point"=some (some (.ref f8))) (l8:K.lookup f8=FO "_law_point" zC0 oc8 od8 kV8 dc8 pm8 an8 cd8 ct8 sl8) (c8:PySem.W.codeIn K cd8 "_law_point"=true) (k8:PySem.W.keepIn K (.ref f8)=true)
  (a9:PySem.W.nsIn K mainGlobals "_law_held"=some (some (.ref f9))) (l9:K.lookup f9=FO "_law_held" zBo oc9 od9 kV9 dc9 pm9 an9 cd9 ct9 sl9) (c9:PySem.W.codeIn K cd9 "_law_held"=true) (k9:PySem.W.keepIn K (.ref f9)=true)
  (a10:PySem.W.nsIn K mainGlobals "fraction"=some (some (.ref f10))) (l10:K.lookup f10=FO "fraction" zCz oc10 od10 kV10 dc10 pm10 an10 cd10 ct10 sl10) (c10:PySem.W.codeIn K cd10 "fraction"=true) (k10:PySem.W.keepIn K (.ref f10)=true)
  (a11:PySem.W.nsIn K mainGlobals "side_at"=some (some (.ref f11))) (l11:K.lookup f11=FO "side_at" zDo oc11 od11 kV11 dc11 pm11 an11 cd11 ct11 sl11) (c11:PySem.W.codeIn K cd11 "side_at"=true) (k11:PySem.W.keepIn K (.ref f11)=true)
  (a12:PySem.W.nsIn K mainGlobals "inward"=some (some (.ref f12))) (l12:K.lookup f12=FO "inward" zCy oc12 od12 kV12 dc12 pm12 an12 cd12 ct12 sl12) (c12:PySem.W.codeIn K cd12 "inward"=true) (k12:PySem.W.keepIn K (.ref f12)=true)
  (a13:PySem.W.nsIn K mainGlobals "_law_some"=some (some (.ref f13))) (l13:K.lookup f13=FO "_law_some" zCc oc13 od13 kV13 dc13 pm13 an13 cd13 ct13 sl13) (c13:PySem.W.codeIn K cd13 "_law_some"=true) (k13:PySem.W.keepIn K (.ref f13)=true)
  (a14:PySem.W.nsIn K mainGlobals "added"=some (some (.ref f14))) (l14:K.lookup f14=FO "added" zH6 oc14 od14 kV14 dc14 pm14 an14 cd14 ct14 sl14) (c14:PySem.W.codeIn K cd14 "added"=true) (k14:PySem.W.keepIn K (.ref f14)=true)
  (a15:PySem.W.nsIn K mainGlobals "times"=some (some (.ref f15))) (l15:K.lookup f15=FO "times" zH4 oc15 od15 kV15 dc15 pm15 an15 cd15 ct15 sl15) (c15:PySem.W.codeIn K cd15 "times"=true) (k15:PySem.W.keepIn K (.ref f15)=true)
  (a16:PySem.W.nsIn K mainGlobals "side_of"=some (some (.ref f16))) (l16:K.lookup f16=FO "side_of" zDn oc16 od16 kV16 dc16 pm16 an16 cd16 ct16 sl16) (c16:PySem.W.codeIn K cd16 "side_of"=true) (k16:PySem.W.keepIn K (.ref f16)=true)
  (a17:PySem.W.nsIn K mainGlobals "worth_at"=some (some (.ref f17))) (l17:K.lookup f17=FO "worth_at" zCw oc17 od17 kV17 dc17 pm17 an17 cd17 ct17 sl17) (c17:PySem.W.codeIn K cd17 "worth_at"=true) (k17:PySem.W.keepIn K (.ref f17)=true)
  (a18:PySem.W.nsIn K mainGlobals "left_turns"=some (some (.ref f18))) (l18:K.lookup f18=FO "left_turns" zBz oc18 od18 kV18 dc18 pm18 an18 cd18 ct18 sl18) (c18:PySem.W.codeIn K cd18 "left_turns"=true) (k18:PySem.W.keepIn K (.ref f18)=true)
  (a19:PySem.W.nsIn K mainGlobals "hull_of"=some (some (.ref f19))) (l19:K.lookup f19=FO "hull_of" zDq oc19 od19 kV19 dc19 pm19 an19 cd19 ct19 sl19) (c19:PySem.W.codeIn K cd19 "hull_of"=true) (k19:PySem.W.keepIn K (.ref f19)=true)
  (a20:PySem.W.nsIn K mainGlobals "sides_of"=some (some (.ref f20))) (l20:K.lookup f20=FO "sides_of" zBl oc20 od20 kV20 dc20 pm20 an20 cd20 ct20 sl20) (c20:PySem.W.codeIn K cd20 "sides_of"=true) (k20:PySem.W.keepIn K (.ref f20)=true)
  (a21:PySem.W.nsIn K mainGlobals "in_hull"=some (some (.ref f21))) (l21:K.lookup f21=FO "in_hull" zCo oc21 od21 kV21 dc21 pm21 an21 cd21 ct21 sl21) (c21:PySem.W.codeIn K cd21 "in_hull"=true) (k21:PySem.W.keepIn K (.ref f21)=true)
  (a22:PySem.W.nsIn K mainGlobals "law"=some (some (.ref f22))) (l22:K.lookup f22=FO "law" zH5 oc22 od22 kV22 dc22 pm22 an22 cd22 ct22 sl22) (c22:PySem.W.codeIn K cd22 "law"=true) (k22:PySem.W.keepIn K (.ref f22)=true)
  (z0:PySem.W.nsIn K mainGlobals "abs"=some none)
  (z1:PySem.W.nsIn K mainGlobals "all"=some none)
  (z2:PySem.W.nsIn K mainGlobals "enumerate"=some none)
  (z3:PySem.W.nsIn K mainGlobals "isinstance"=some none)
  (z4:PySem.W.nsIn K mainGlobals "len"=some none)
  (z5:PySem.W.nsIn K mainGlobals "list"=some none)
  (z6:PySem.W.nsIn K mainGlobals "max"=some none)
  (z7:PySem.W.nsIn K mainGlobals "min"=some none)
  (z8:PySem.W.nsIn K mainGlobals "range"=some none)
  (z9:PySem.W.nsIn K mainGlobals "reversed"=some none)
  (z10:PySem.W.nsIn K mainGlobals "set"=some none)
  (z11:PySem.W.nsIn K mainGlobals "sorted"=some none)
  (z12:PySem.W.nsIn K mainGlobals "tuple"=some none)
  (z13:PySem.W.nsIn K mainGlobals "zip"=some none)
  {ka0:Addr}{ko0:Option Addr}{kn0:Nat}{ks0:Array (Option Value)}{ka0_0:Addr}{ko0_0:Option Addr}{kn0_0:Nat}{ks0_0:Array (Option Value)}{kt0_0_0:Tok}{kt0_0_1:Tok}{ka0_1:Addr}{ko0_1:Option Addr}{kn0_1:Nat}{ks0_1:Array (Option Value)}{kt0_1_0:Tok}{kt0_1_1:Tok}{ka0_2:Addr}{ko0_2:Option Addr}{kn0_2:Nat}{ks0_2:Array (Option Value)}{kt0_2_0:Tok}{kt0_2_1:Tok}{ka0_3:Addr}{ko0_3:Option Addr}{kn0_3:Nat}{ks0_3:Array (Option Value)}{kt0_3_0:Tok}{kt0_3_1:Tok}(e0:PySem.W.nsIn K mainGlobals "ALL_WAYS"=some (some (.ref ka0))) (kh0:K.lookup ka0=some ⟨.type "tuple",ko0,.seq #[(.ref ka0_0),(.ref ka0_1),(.ref ka0_2),(.ref ka0_3)] kn0,ks0⟩) (kh0_0:K.lookup ka0_0=some ⟨.type "tuple",ko0_0,.seq #[(.int (1) kt0_0_0),(.int (0) kt0_0_1)] kn0_0,ks0_0⟩) (kh0_1:K.lookup ka0_1=some ⟨.type "tuple",ko0_1,.seq #[(.int (0) kt0_1_0),(.int (1) kt0_1_1)] kn0_1,ks0_1⟩) (kh0_2:K.lookup ka0_2=some ⟨.type "tuple",ko0_2,.seq #[(.int (-1) kt0_2_0),(.int (0) kt0_2_1)] kn0_2,ks0_2⟩) (kh0_3:K.lookup ka0_3=some ⟨.type "tuple",ko0_3,.seq #[(.int (0) kt0_3_0),(.int (-1) kt0_3_1)] kn0_3,ks0_3⟩)
  : ∃fd:FuncData,(∀(s:Shared) (v:Value),BindsTo s fd ⟨[v],[]⟩ [("_law_script",v)])/\∀base:Heap,K.In base->base.Ns mainGlobals mg->FnOk l.prog w K mg base CX0 8 fa fd ["_law_script"] (spOf K XE0 DP.zLv):=by
 have e:=hfa.symm.trans (PySem.W.mg_of X G a22)
 cases e
 have T:Txt K mg:=⟨PySem.W.mg_none_of X G z0,PySem.W.mg_none_of X G z1,PySem.W.mg_none_of X G z2,PySem.W.mg_none_of X G z3,PySem.W.mg_none_of X G z4,PySem.W.mg_none_of X G z5,PySem.W.mg_none_of X G z6,PySem.W.mg_none_of X G z7,PySem.W.mg_none_of X G z8,PySem.W.mg_none_of X G z9,PySem.W.mg_none_of X G z10,PySem.W.mg_none_of X G z11,PySem.W.mg_none_of X G z12,PySem.W.mg_none_of X G z13,⟨_,PySem.W.mg_of X G e0,(zDu kh0 (show 4<=sizeLine by decide) (.cons (zDu kh0_0 (show 2<=sizeLine by decide) (.cons zC1 (.cons zC1 .nil))) (.cons (zDu kh0_1 (show 2<=sizeLine by decide) (.cons zC1 (.cons zC1 .nil))) (.cons (zDu kh0_2 (show 2<=sizeLine by decide) (.cons zC1 (.cons zC1 .nil))) (.cons (zDu kh0_3 (show 2<=sizeLine by decide) (.cons zC1 (.cons zC1 .nil))) .nil)))))⟩⟩
 have F0:=zAv (st:=zB4) l0 c0 k0
 have F1:=zAv (st:=zDp) l1 c1 k1
 have F2:=zAv (st:=zCx) l2 c2 k2
 have F3:=zAv (st:=zH3) l3 c3 k3
 have F4:=zAv (st:=zDm) l4 c4 k4
 have F5:=zAv (st:=zBy) l5 c5 k5
 have F6:=zAv (st:=zBf) l6 c6 k6
 have F7:=zAv (st:=zCd) l7 c7 k7
 have F8:=zAv (st:=zC0) l8 c8 k8
 have F9:=zAv (st:=zBo) l9 c9 k9
 have F10:=zAv (st:=zCz) l10 c10 k10
 have F11:=zAv (st:=zDo) l11 c11 k11
 have F12:=zAv (st:=zCy) l12 c12 k12
 have F13:=zAv (st:=zCc) l13 c13 k13
 have F14:=zAv (st:=zH6) l14 c14 k14
 have F15:=zAv (st:=zH4) l15 c15 k15
 have F16:=zAv (st:=zDn) l16 c16 k16
 have F17:=zAv (st:=zCw) l17 c17 k17
 have F18:=zAv (st:=zBz) l18 c18 k18
 have F19:=zAv (st:=zDq) l19 c19 k19
 have F20:=zAv (st:=zBl) l20 c20 k20
 have F21:=zAv (st:=zCo) l21 c21 k21
 have F22:=zAv (st:=zH5) l22 c22 k22
 refine⟨PySem.W.fnOf "law" "law" (zEb zH5) (zCi zH5) (zA6 zH5) .none kV22 dc22 pm22 an22 cd22 ct22,fun s v=>.of_eq rfl,fun base _ _=>?_⟩
 have C_common_divisor:zCm l.prog w K mg base:=⟨_,_,zE8 F0 T,PySem.W.mg_of X G a0,F0.kp,F0.binds (ps:=["one","other"]) fun _ _ _ _ _ _ us hl=>match us,hl with | [_,_],_=>rfl⟩
 have C_is_less:zIw l.prog w K mg base:=⟨_,_,zLm F1 T,PySem.W.mg_of X G a1,F1.kp,F1.binds (ps:=["one","other"]) fun _ _ _ _ _ _ us hl=>match us,hl with | [_,_],_=>rfl⟩
 have C_point_of:zGr l.prog w K mg base:=⟨_,_,zJ7 F2 T,PySem.W.mg_of X G a2,F2.kp,F2.binds (ps:=["cell"]) fun _ _ _ _ _ _ us hl=>match us,hl with | [_],_=>rfl⟩
 have C_worth:zPi l.prog w K mg base:=⟨_,_,zQr F3 T,PySem.W.mg_of X G a3,F3.kp,F3.binds (ps:=["slope","cell"]) fun _ _ _ _ _ _ us hl=>match us,hl with | [_,_],_=>rfl⟩
 have C_sign_of:zIt l.prog w K mg base:=⟨_,_,zLj F4 T,PySem.W.mg_of X G a4,F4.kp,F4.binds (ps:=["number"]) fun _ _ _ _ _ _ us hl=>match us,hl with | [_],_=>rfl⟩
 have C_neighbours:zEl l.prog w K mg base:=⟨_,_,zH9 F5 T,PySem.W.mg_of X G a5,F5.kp,F5.binds (ps:=["ring"]) fun _ _ _ _ _ _ us hl=>match us,hl with | [_],_=>rfl⟩
 have C__law_deal:zG1 l.prog w K mg base:=⟨_,_,zI8 F6 T,PySem.W.mg_of X G a6,F6.kp,F6.binds (ps:=["_law_script"]) fun _ _ _ _ _ _ us hl=>match us,hl with | [_],_=>rfl⟩
 have C__law_draw:zG0 l.prog w K mg base:=⟨_,_,zI7 F7 T,PySem.W.mg_of X G a7,F7.kp,F7.binds (ps:=["_law_deal_here","_law_many"]) fun _ _ _ _ _ _ us hl=>match us,hl with | [_,_],_=>rfl⟩
 have C__law_point:zEn l.prog w K mg base:=⟨_,_,zHb F8 T,PySem.W.mg_of X G a8,F8.kp,F8.binds (ps:=["_law_x","_law_y"]) fun _ _ _ _ _ _ us hl=>match us,hl with | [_,_],_=>rfl⟩
 have C__law_held:zFz l.prog w K mg base:=⟨_,_,zI6 F9 T,PySem.W.mg_of X G a9,F9.kp,F9.binds (ps:=n_3) fun _ _ _ _ _ _ us hl=>match us,hl with | [_,_,_],_=>rfl⟩
 have C_fraction:zEh l.prog w K mg base:=⟨_,_,zJ8 F10 T C_common_divisor,PySem.W.mg_of X G a10,F10.kp,F10.binds (ps:=["upper","lower"]) fun _ _ _ _ _ _ us hl=>match us,hl with | [_,_],_=>rfl⟩
 have C_side_at:zIv l.prog w K mg base:=⟨_,_,zLl F11 T C_sign_of,PySem.W.mg_of X G a11,F11.kp,F11.binds (ps:=n_7) fun _ _ _ _ _ _ us hl=>match us,hl with | [_,_,_],_=>rfl⟩
 have C_inward:zLc l.prog w K mg base:=⟨_,_,zNq F12 T C_neighbours,PySem.W.mg_of X G a12,F12.kp,F12.binds (ps:=["corners"]) fun _ _ _ _ _ _ us hl=>match us,hl with | [_],_=>rfl⟩
 have C__law_some:zFy l.prog w K mg base:=⟨_,_,zI5 F13 T C__law_draw,PySem.W.mg_of X G a13,F13.kp,F13.binds (ps:=["_law_deal_here"]) fun _ _ _ _ _ _ us hl=>match us,hl with | [_],_=>rfl⟩
 have C_added:zPk l.prog w K mg base:=⟨_,_,zQt F14 T C_fraction,PySem.W.mg_of X G a14,F14.kp,F14.binds (ps:=["one","other"]) fun _ _ _ _ _ _ us hl=>match us,hl with | [_,_],_=>rfl⟩
 have C_times:zPj l.prog w K mg base:=⟨_,_,zQs F15 T C_fraction,PySem.W.mg_of X G a15,F15.kp,F15.binds (ps:=["one","other"]) fun _ _ _ _ _ _ us hl=>match us,hl with | [_,_],_=>rfl⟩
 have C_side_of:zIu l.prog w K mg base:=⟨_,_,zLk F16 T C_side_at C_point_of,PySem.W.mg_of X G a16,F16.kp,F16.binds (ps:=n_8) fun _ _ _ _ _ _ us hl=>match us,hl with | [_,_,_],_=>rfl⟩
 have C_worth_at:zGq l.prog w K mg base:=⟨_,_,zJ5 F17 T C_times C_added,PySem.W.mg_of X G a17,F17.kp,F17.binds (ps:=["slope","point"]) fun _ _ _ _ _ _ us hl=>match us,hl with | [_,_],_=>rfl⟩
 have C_left_turns:zEm l.prog w K mg base:=⟨_,_,zHa F18 T C_side_of,PySem.W.mg_of X G a18,F18.kp,F18.binds (ps:=["cells"]) fun _ _ _ _ _ _ us hl=>match us,hl with | [_],_=>rfl⟩
 have C_hull_of:zFx l.prog w K mg base:=⟨_,_,zLo F19 T C_left_turns,PySem.W.mg_of X G a19,F19.kp,F19.binds (ps:=["cells"]) fun _ _ _ _ _ _ us hl=>match us,hl with | [_],_=>rfl⟩
 have C_sides_of:zEg l.prog w K mg base:=⟨_,_,zJ6 F20 T C_hull_of C_inward C_worth,PySem.W.mg_of X G a20,F20.kp,F20.binds (ps:=["cells"]) fun _ _ _ _ _ _ us hl=>match us,hl with | [_],_=>rfl⟩
 have C_in_hull:zIx l.prog w K mg base:=⟨_,_,zLn F21 T C_is_less C_sides_of C_worth_at,PySem.W.mg_of X G a21,F21.kp,F21.binds (ps:=["cells","point"]) fun _ _ _ _ _ _ us hl=>match us,hl with | [_,_],_=>rfl⟩
 exact zY6 F22 T C__law_deal C__law_some C_hull_of C_sides_of C__law_point C_in_hull C__law_held
theorem walk {l:PySem.W.OpenLaw}{q:Program}{loose:List Str}{XP:(Str->Option Value)->Heap->Prop}{YP:World->Heap->Prop}{d:DefRec}{K:Params->PySem.W.Frag}(hn:l.most=some 63) (hdf:d.params.defaults=[])
  (hY:∀(w:World) (h:Heap),YP w h->(K w.params).In h)
  (F:∀(w:World) (mg:Str->Option Value) (fa:Addr) (h:Heap),(K w.params).In h->h.Ns mainGlobals mg->mg d.name=some (.ref fa)->
   ∃fd:FuncData,(∀(s:Shared) (u:Value),BindsTo s fd ⟨[u],[]⟩ [("_law_script",u)])/\∀base:Heap,(K w.params).In base->base.Ns mainGlobals mg->FnOk l.prog w (K w.params) mg base CX0 8 fa fd ["_law_script"] (spOf (K w.params) XE0 DP.zLv)):
  PySem.W.WalkO q loose XP YP l.row.toRowW d [] (fun f vs=>PySem.call f vs):=
 L2.walk_of (n:=63) (k:=8) (x:="_law_script") (CX:=fun _=>CX0) (sp:=fun w=>spOf (K w.params) XE0 DP.zLv) hn (by decide) hdf ⟨rfl,by decide,by decide⟩ hY F (fun _ _ a ns hl _ hS=>zMx (DP.law_ok ns hl) hS) fun _ _ _ _ _ z=>z
end Law
open PySem PySem.W PyProof.Rows
set_option maxRecDepth 100000 in
theorem PySem.Challenge.cw_healfloor_k73_sides_of_many_holds : PySem.Challenge.rw_healfloor_k73_sides_of_many.Holds := by
 w_on;o_law;k_head;(case hw=>w_witness2)
 k_fill
 refine Law.walk (l:=PySem.Challenge.rw_healfloor_k73_sides_of_many) rfl rfl (fun w h Y=>PySem.W.kIn_of Y) ?F
 case F=>
  intro w mg fa h KX G hmg
  refine' Law.all_mk KX G hmg ?_ ?_ ?_ ?_ ?_ ?_ ?_ ?_ ?_ ?_ ?_ ?_ ?_ ?_ ?_ ?_ ?_ ?_ ?_ ?_ ?_ ?_ ?_ ?_ ?_ ?_ ?_ ?_ ?_ ?_ ?_ ?_ ?_ ?_ ?_ ?_ ?_ ?_ ?_ ?_ ?_ ?_ ?_ ?_ ?_ ?_ ?_ ?_ ?_ ?_ ?_ ?_ ?_ ?_ ?_ ?_ ?_ ?_ ?_ ?_ ?_ ?_ ?_ ?_ ?_ ?_ ?_ ?_ ?_ ?_ ?_ ?_ ?_ ?_ ?_ ?_ ?_ ?_ ?_ ?_ ?_ ?_ ?_ ?_ ?_ ?_ ?_ ?_ ?_ ?_ ?_ ?_ ?_ ?_ ?_ ?_ ?_ ?_ ?_ ?_ ?_ ?_ ?_ ?_ ?_ ?_ ?_ ?_ ?_ ?_ ?_ ?_
  all_goals (try k_is)
#print axioms PySem.Challenge.cw_healfloor_k73_sides_of_many_holds
